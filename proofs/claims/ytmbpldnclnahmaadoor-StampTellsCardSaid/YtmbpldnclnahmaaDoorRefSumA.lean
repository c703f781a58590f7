/- The walks of the reference's tens: noughts appended; what append does with a make. -/
import Derived.Test.YtmbpldnclnahmaaDoorRefDecE2
import Derived.Test.YtmbpldnclnahmaaDoorSumPlain
import Derived.Laws.CopyRow
set_option maxRecDepth 100000
set_option linter.unusedVariables false
set_option linter.unusedSimpArgs false
namespace Go.Proofs.YtmbpldnclnahmaaDoor
open Go.RowKit Dc

theorem zeroCells_one (z : Value) (n : Nat) : (Builtin.zeroCells #[z] n).toList = List.replicate n z := by
  simp only [Builtin.zeroCells, List.size_toArray, List.length_singleton, Nat.mul_one, Array.toList_map, Array.toList_range]
  apply List.ext_getElem?
  intro i
  rw [List.getElem?_map, List.getElem?_replicate]
  by_cases h : i < n
  · rw [List.getElem?_range h, if_pos h]
    simp [Nat.mod_one]
  · rw [List.getElem?_eq_none (by simp; omega), if_neg h]; rfl
theorem u8_facts : ∃ i, Tryd.prog.info? 5 = some i ∧ i.zero = some (Value.int .u8 0) ∧ i.size = 1 ∧ i.bytes = 1 := info_parts (P := Tryd.prog) (t := 5) (z := .int .u8 0) (n := 1) (m := 1) (by kernel_rfl)
theorem run_append_make (w : World) (base ty : Nat) (g m cap n : Nat) (xs : List Value) (hown : w.ownsRow base 5 1 (.slice (some ⟨g, 0, none⟩) m cap) m xs) (hn : n ≤ 100) (hm : m ≤ 100) (hb : base ≤ w.heap.size) :
    ∃ v' w', (Builtin.append_ #[45, 3] ty #[.slice (some ⟨g, 0, none⟩) m cap, .int .i64 (n : Nat)]).run Tryd.prog w = .ok v' w' ∧ w'.ownsRow base 5 1 v' (m + n) (xs ++ List.replicate n (Value.int .u8 0)) ∧ w.grownBy w' (some g) := by
  obtain ⟨i, hi, hz, hs, hby⟩ := u8_facts
  have hlx := hown.1
  rcases hown.2 with ⟨h, _⟩ | ⟨g', cap', cur, h, hbg, hg, hnc, hcm, hcs, htake⟩
  · cases h
  cases h
  have hwr : IntKind.i64.wrap (n : Int) = (n : Int) := IntWalk.i64_in _ (by omega)
  have hneg : ¬ (n : Int) < 0 := by omega
  have h48 : ¬ ((281474976710656 : Int) < (n : Int) * (1 : Nat)) := by omega
  have h48n : ¬ ((281474976710656 : Int) < (n : Int)) := by omega
  have hwr0 : IntKind.i64.wrap 0 = 0 := by decide
  have hself : w.setRow g cur = w := setRow_self w g cur _ _ hg
  have hzl := zeroCells_one (Value.int .u8 0) n
  have hone : ∀ v ∈ List.replicate n (Value.int .u8 0), v.oneCell' = true := by
    intro v hv; obtain ⟨_, rfl⟩ := List.mem_replicate.1 hv; rfl
  have happ : ∀ W : World, (if n * 1 = 0 then (pure #[] : Sem (Array Value)) else do pure (Builtin.zeroCells (← zeroValue 5).cells n)).run Tryd.prog W = .ok (List.replicate n (Value.int .u8 0)).toArray W := by
    intro W
    by_cases h0 : n = 0
    · subst h0; simp
    · rw [if_neg (by omega)]
      simp [zeroValue, typeInfo, hi, hz, Value.cells]
      exact Array.ext' (by simpa using hzl)
  by_cases hroom : m + n ≤ cap
  · have hst := run_storeCells_at Tryd.prog g m 5 (List.replicate n (Value.int .u8 0)) 0 cur w hg (by simp; omega) hone
    simp only [Nat.add_zero] at hst
    refine ⟨.slice (some ⟨g, 0, none⟩) (m + n) cap, w.setRow g (cur.toList.take m ++ List.replicate n (Value.int .u8 0) ++ cur.toList.drop (m + n)).toArray, ?_, ⟨by simp; omega, .inr ⟨g, cap, _, rfl, hbg, setRow_heap w g cur _ _ _ hg, hroom, hcm, by simp; omega, ?_⟩⟩, ⟨rfl, rfl, rfl, by simp, fun k _ hk => setRow_other w g k _ (fun e => hk (by simp [e]))⟩⟩
    · by_cases h0 : n = 0
      · subst h0
        simp [Builtin.append_, run_underlying Tryd.underlying45, run_underlying Tryd.underlying3, sizeOf, typeInfo, hi, hs, hby, asInt, asIntOf, hroom, storeCells, hwr0]
        have hroom0 : m ≤ cap := by omega
        simp [hroom0, hself]
      · simp [Builtin.append_, run_underlying Tryd.underlying45, run_underlying Tryd.underlying3, sizeOf, typeInfo, hi, hs, hby, asInt, asIntOf, hwr, hneg, hroom, h0, zeroValue, hz, Value.cells, Addr.add_lit, hzl, hst, h48n]
    · rw [Nat.mul_one] at htake
      rw [htake]
      simp only [List.toList_toArray, Nat.mul_one]
      have hlm : xs.length = m := by omega
      rw [show m + n = (xs ++ List.replicate n (Value.int .u8 0)).length by simp; omega]
      exact List.take_left
  · have hn0 : n ≠ 0 := by omega
    have hng : ¬ (m + n ≤ cap) := hroom
    have h48' : ¬ (281474976710656 < Builtin.nextslicecap (m + n) cap) := by
      have := growslice_fits (need := m + n) (old := cap) (bytes := 1) (by omega) (by omega)
      omega
    have holds : ∀ j u, xs[j]? = some u → w.drew.cell? ((⟨g, 0, none⟩ : Addr).add j) = some u := by simpa using hown.cells (g := g) rfl
    have hfo := run_firstCells_some (P := Tryd.prog) w.drew 1 m ⟨g, 0, none⟩ m cap xs (by omega) holds
    have h63' : ¬ (9223372036854775807 < ((m : Int) + (n : Int))) := by omega
    refine ⟨.slice (some ⟨w.heap.size, 0, none⟩) (m + n) (grownCap w (m + n) cap 5), w.drew.alloc (.cells (xs.toArray ++ (List.replicate n (Value.int .u8 0)).toArray ++ Builtin.zeroCells #[Value.int .u8 0] (grownCap w (m + n) cap 5 - (m + n))) 5), ?_, ?_⟩
    · simp [Builtin.append_, run_underlying Tryd.underlying45, run_underlying Tryd.underlying3, sizeOf, typeInfo, hi, hs, hby, asInt, asIntOf, hwr, hneg, hng, hn0, zeroValue, hz, Value.cells, h63', h48', Question.forced, hfo, newRow, grownCap, h48n]
      congr 2
      apply Array.ext'
      simp [hzl, List.append_assoc]
    · refine ⟨⟨by simp; omega, .inr ⟨w.heap.size, _, _, rfl, hb, heap_alloc_new w.drew _, grownCap_ge w (m + n) cap 5, grownCap_le_maxLen w (m + n) cap 5 (by unfold maxLen; omega), ?_, ?_⟩⟩, ⟨rfl, rfl, rfl, by simp, fun k hk _ => heap_alloc_old w.drew _ hk⟩⟩
      · have := grownCap_ge w (m + n) cap 5
        simp [size_zeroCells]; omega
      · simp only [Array.toList_append, List.append_assoc, Nat.mul_one]
        rw [← List.append_assoc, show m + n = (xs ++ List.replicate n (Value.int .u8 0)).length by simp; omega]
        exact List.take_left

theorem wpList_append_make {w : World} {ops : Array Oper} {rest : List Oper} {o : Oper} {a : Act} {Q : Exit → Act → World → Prop} (hgd : o.guard = none) (s x : Operand)
    (ho : o.op = .call { callee := .builtin .append, args := #[s, x], argTypes := #[45, 3] }) (base g m cap n : Nat) (xs : List Value) (hs : a.eval s = .slice (some ⟨g, 0, none⟩) m cap) (hx : a.eval x = .int .i64 (n : Nat))
    (hown : w.ownsRow base 5 1 (.slice (some ⟨g, 0, none⟩) m cap) m xs) (hn : n ≤ 100) (hm : m ≤ 100) (hb : base ≤ w.heap.size)
    (h : ∀ v' w', w'.ownsRow base 5 1 v' (m + n) (xs ++ List.replicate n (Value.int .u8 0)) → w.grownBy w' (some g) → wpList Tryd.prog ops Q rest (a.put o.dst v') w') : wpList Tryd.prog ops Q (o :: rest) a w := by
  refine wpList_plain hgd fun K hK => ?_
  obtain ⟨v', w', hr, h2, h3⟩ := run_append_make w base o.type g m cap n xs hown hn hm hb
  unfold Oper.wp execOp
  simp only [ho, resolve, invoke, builtin, Sem.run_bind, Sem.run_pure, Result.andThen_ok, List.map_toArray, List.map_cons, List.map_nil, hs, hx, hr]
  exact hK _ _ (h v' w' h2 h3)

theorem digs_tens (x n : Nat) (hx : x ≠ 0) : digs (x * 10 ^ n) = digs x ++ List.replicate n 0 := by
  have h := digs_of_head (digs x ++ List.replicate n 0) (fun d hd => by
    rcases List.mem_append.1 hd with h | h
    · exact digs_le x d h
    · obtain ⟨_, rfl⟩ := List.mem_replicate.1 h; omega) (fun d r e => by
    cases hd : digs x with
    | nil => exact absurd hd (digs_ne hx)
    | cons a b =>
      rw [hd] at e
      simp at e
      rw [← e.1]
      exact digs_head x a b hd)
  rwa [valN_pad, digs_val] at h

set_option maxHeartbeats 2000000 in
theorem rtens_calls (x n : Nat) (v : Value) (w : World) (hv : DR w v (digs x)) (hx : x < 10 ^ 40) (hn : n ≤ 100) :
    Calls Tryd.prog 46 #[v, .int .i64 (n : Nat)] w fun e w' => ∃ v', e = .returned v' ∧ DR w' v' (digs (x * 10 ^ n)) ∧ Below w.heap.size w w' := by
  obtain ⟨i0, hi, hz0, hz1, hz2⟩ := info_parts (P := Tryd.prog) (t := 5) (z := .int .u8 0) (n := 1) (m := 1) (by kernel_rfl)
  have hl40 : (digs x).length ≤ 40 := digs_len_le hx
  obtain ⟨A, cap, rfl, h1, h2, h3⟩ := hv
  have hrow := Lib.hid h3
  unfold maxLen at h2
  have Hi := Lib.hid (⟨hi, hz0, hz1, hz2⟩ : _ ∧ _ ∧ _ ∧ _)
  by_cases h0 : x = 0
  · subst h0
    have Hd : Hid (digs (0 * 10 ^ n) = []) := by show _ = _; rw [Nat.zero_mul, digs_zero]
    have hl0 : (digs 0).length = 0 := by rw [digs_zero]; rfl
    rw [hl0]
    clear h3 hi hz0 hz1 hz2 hl0 hl40
    go_enter Tryd.func46, Tryd.ntmps46
    go_wp2_with fail
    go_ret
    exact ⟨_, rfl, by rw [Hd.out]; exact DR.nil _, Below.refl _ _⟩
  · have hpos : 0 < (digs x).length := by
      have := digs_ne h0
      cases h : digs x with
      | nil => exact absurd h this
      | cons a b => simp
    have hne : ((((digs x).length : Nat) : Int) == 0) = false := by simpa using (by omega : ¬ (((digs x).length : Nat) : Int) = 0)
    obtain ⟨b, off, rfl, hlt, hc⟩ := hrow.out hpos
    have hnews := Lib.hid (DR.news hc)
    have Hd := Lib.hid (digs_tens x n h0)
    clear h3 hi hz0 hz1 hz2 hc hrow h0
    generalize hD : digs x = l at *
    clear hD
    go_enter Tryd.func46, Tryd.ntmps46
    go_wp2_with (at_builtin; refine wpList_append_lies _ rfl _ _ _ (by rfl) w.heap.size 5 i0 _ 1 1 Tryd.underlying45 Hi.out.1 Hi.out.2.1 Hi.out.2.2.1 Hi.out.2.2.2 rfl (by omega) _ 0 [] (by rfl) (World.ownsRow_nil w w.heap.size 5 1) ⟨b, off, none⟩ l.length cap (ints l) (by rfl) (by rw [ints_len]; omega) hnews.out (ints_one l) hpos (by unfold maxLen; omega) (by omega) (Nat.le_refl _) _ rfl ?_)
    intro g2 cap2 w3 hown3 hgrow hat hlt3
    have hB3 : Below w.heap.size w w3 := (Below.refl _ w).grown hgrow (Nat.le_refl _) (fun k hk => by cases hk)
    have Hown3 := Lib.hid hown3
    have HB3 := Lib.hid hB3
    have hge := own_ge hown3 g2 rfl
    have hbs := hB3.size
    clear hown3 hgrow hat hlt3 hB3
    go_wp2_with (refine wpList_append_make rfl (.tmp 9) (.tmp 10) (by rfl) w.heap.size g2 l.length cap2 n (ints l) (by rfl) (by rfl) Hown3.out hn (by omega) hbs ?_)
    intro v' w4 hown4 hgrow4
    have hB4 := HB3.out.grown hgrow4 hbs (fun k hk => by cases hk; exact hge)
    have hd4 : DR w4 v' (l ++ List.replicate n 0) := by
      have h : ints (l ++ List.replicate n 0) = ints l ++ List.replicate n (Value.int .u8 0) := by rw [ints_app]; congr 1; unfold ints; rw [List.map_replicate]; rfl
      rw [← h] at hown4
      exact DR.own hown4
    have H4 := Lib.hid (⟨hB4, hd4⟩ : _ ∧ _)
    clear hown4 hgrow4 hB4 hd4
    go_wp2_with fail
    go_ret
    exact ⟨v', rfl, by rw [Hd.out]; exact H4.out.2, H4.out.1⟩

end Go.Proofs.YtmbpldnclnahmaaDoor
