/- The texts RefSumA, RefSumB, SumY, SumL, RefSumF, RefSumH, RefSumI, RefStampA, one behind the other. -/
import Derived.Test.YtgoibhbmndpgpaaGreatDoorRfA
import Derived.Test.YtgoibhbmndpgpaaGreatDoorPlA
import Derived.Laws.CopyRow
import Derived.Laws.OwnMore
import Derived.Lib.Builder
import Derived.Deep.DeepCutAuto
import Derived.Test.YtgoibhbmndpgpaaGreatDoorDssW
import Derived.Deep.RegionHeld3
import Derived.Deep.DrawnRows
import Derived.OwnWalk
import Derived.Laws.BytesArg
import Derived.Laws.Strings3
import Derived.Lib.Strings

/- The walks of the reference's tens: noughts appended; what append does with a make. -/
set_option maxRecDepth 100000
set_option linter.unusedVariables false
set_option linter.unusedSimpArgs false
namespace Go.Proofs.YtgoibhbmndpgpaaGreatDoor
open Go.RowKit Dc

theorem zeroCells_one (z : Value) (n : Nat) : (Builtin.zeroCells #[z] n).toList = List.replicate n z := by
  simp only [Builtin.zeroCells, List.size_toArray, List.length_singleton, Nat.mul_one, Array.toList_map, Array.toList_range]
  apply List.ext_getElem?
  intro i
  rw [List.getElem?_map, List.getElem?_replicate]
  by_cases h : i < n
  · rw [List.getElem?_range h, if_pos h]
    simp [Nat.mod_one]
  · rw [List.getElem?_eq_none (by simp; omega), if_neg h]; rfl
theorem u8_facts : ∃ i, Tryz.prog.info? 5 = some i ∧ i.zero = some (Value.int .u8 0) ∧ i.size = 1 ∧ i.bytes = 1 := info_parts (P := Tryz.prog) (t := 5) (z := .int .u8 0) (n := 1) (m := 1) (by kernel_rfl)
theorem run_append_make (w : World) (base ty : Nat) (g m cap n : Nat) (xs : List Value) (hown : w.ownsRow base 5 1 (.slice (some ⟨g, 0, none⟩) m cap) m xs) (hn : n ≤ 100) (hm : m ≤ 100) (hb : base ≤ w.heap.size) :
    ∃ v' w', (Builtin.append_ #[108, 3] ty #[.slice (some ⟨g, 0, none⟩) m cap, .int .i64 (n : Nat)]).run Tryz.prog w = .ok v' w' ∧ w'.ownsRow base 5 1 v' (m + n) (xs ++ List.replicate n (Value.int .u8 0)) ∧ w.grownBy w' (some g) := by
  obtain ⟨i, hi, hz, hs, hby⟩ := u8_facts
  have hlx := hown.1
  rcases hown.2 with ⟨h, _⟩ | ⟨g', cap', cur, h, hbg, hg, hnc, hcm, hcs, htake⟩
  · cases h
  cases h
  have hwr : IntKind.i64.wrap (n : Int) = (n : Int) := IntWalk.i64_in _ (by omega)
  have hneg : ¬ (n : Int) < 0 := by omega
  have h48 : ¬ ((281474976710656 : Int) < (n : Int) * (1 : Nat)) := by omega
  have h48n : ¬ ((281474976710656 : Int) < (n : Int)) := by omega
  have hwr0 : IntKind.i64.wrap 0 = 0 := by decide
  have hself : w.setRow g cur = w := setRow_self w g cur _ _ hg
  have hzl := zeroCells_one (Value.int .u8 0) n
  have hone : ∀ v ∈ List.replicate n (Value.int .u8 0), v.oneCell' = true := by
    intro v hv; obtain ⟨_, rfl⟩ := List.mem_replicate.1 hv; rfl
  have happ : ∀ W : World, (if n * 1 = 0 then (pure #[] : Sem (Array Value)) else do pure (Builtin.zeroCells (← zeroValue 5).cells n)).run Tryz.prog W = .ok (List.replicate n (Value.int .u8 0)).toArray W := by
    intro W
    by_cases h0 : n = 0
    · subst h0; simp
    · rw [if_neg (by omega)]
      simp [zeroValue, typeInfo, hi, hz, Value.cells]
      exact Array.ext' (by simpa using hzl)
  by_cases hroom : m + n ≤ cap
  · have hst := run_storeCells_at Tryz.prog g m 5 (List.replicate n (Value.int .u8 0)) 0 cur w hg (by simp; omega) hone
    simp only [Nat.add_zero] at hst
    refine ⟨.slice (some ⟨g, 0, none⟩) (m + n) cap, w.setRow g (cur.toList.take m ++ List.replicate n (Value.int .u8 0) ++ cur.toList.drop (m + n)).toArray, ?_, ⟨by simp; omega, .inr ⟨g, cap, _, rfl, hbg, setRow_heap w g cur _ _ _ hg, hroom, hcm, by simp; omega, ?_⟩⟩, ⟨rfl, rfl, rfl, by simp, fun k _ hk => setRow_other w g k _ (fun e => hk (by simp [e]))⟩⟩
    · by_cases h0 : n = 0
      · subst h0
        simp [Builtin.append_, run_underlying Tryz.underlying108, run_underlying Tryz.underlying3, sizeOf, typeInfo, hi, hs, hby, asInt, asIntOf, hroom, storeCells, hwr0]
        have hroom0 : m ≤ cap := by omega
        simp [hroom0, hself]
      · simp [Builtin.append_, run_underlying Tryz.underlying108, run_underlying Tryz.underlying3, sizeOf, typeInfo, hi, hs, hby, asInt, asIntOf, hwr, hneg, hroom, h0, zeroValue, hz, Value.cells, Addr.add_lit, hzl, hst, h48n]
    · rw [Nat.mul_one] at htake
      rw [htake]
      simp only [List.toList_toArray, Nat.mul_one]
      have hlm : xs.length = m := by omega
      rw [show m + n = (xs ++ List.replicate n (Value.int .u8 0)).length by simp; omega]
      exact List.take_left
  · have hn0 : n ≠ 0 := by omega
    have hng : ¬ (m + n ≤ cap) := hroom
    have h48' : ¬ (281474976710656 < Builtin.nextslicecap (m + n) cap) := by
      have := growslice_fits (need := m + n) (old := cap) (bytes := 1) (by omega) (by omega)
      omega
    have holds : ∀ j u, xs[j]? = some u → w.drew.cell? ((⟨g, 0, none⟩ : Addr).add j) = some u := by simpa using hown.cells (g := g) rfl
    have hfo := run_firstCells_some (P := Tryz.prog) w.drew 1 m ⟨g, 0, none⟩ m cap xs (by omega) holds
    have h63' : ¬ (9223372036854775807 < ((m : Int) + (n : Int))) := by omega
    refine ⟨.slice (some ⟨w.heap.size, 0, none⟩) (m + n) (grownCap w (m + n) cap 5), w.drew.alloc (.cells (xs.toArray ++ (List.replicate n (Value.int .u8 0)).toArray ++ Builtin.zeroCells #[Value.int .u8 0] (grownCap w (m + n) cap 5 - (m + n))) 5), ?_, ?_⟩
    · simp [Builtin.append_, run_underlying Tryz.underlying108, run_underlying Tryz.underlying3, sizeOf, typeInfo, hi, hs, hby, asInt, asIntOf, hwr, hneg, hng, hn0, zeroValue, hz, Value.cells, h63', h48', Question.forced, hfo, newRow, grownCap, h48n]
      congr 2
      apply Array.ext'
      simp [hzl, List.append_assoc]
    · refine ⟨⟨by simp; omega, .inr ⟨w.heap.size, _, _, rfl, hb, heap_alloc_new w.drew _, grownCap_ge w (m + n) cap 5, grownCap_le_maxLen w (m + n) cap 5 (by unfold maxLen; omega), ?_, ?_⟩⟩, ⟨rfl, rfl, rfl, by simp, fun k hk _ => heap_alloc_old w.drew _ hk⟩⟩
      · have := grownCap_ge w (m + n) cap 5
        simp [size_zeroCells]; omega
      · simp only [Array.toList_append, List.append_assoc, Nat.mul_one]
        rw [← List.append_assoc, show m + n = (xs ++ List.replicate n (Value.int .u8 0)).length by simp; omega]
        exact List.take_left

theorem wpList_append_make {w : World} {ops : Array Oper} {rest : List Oper} {o : Oper} {a : Act} {Q : Exit → Act → World → Prop} (hgd : o.guard = none) (s x : Operand)
    (ho : o.op = .call { callee := .builtin .append, args := #[s, x], argTypes := #[108, 3] }) (base g m cap n : Nat) (xs : List Value) (hs : a.eval s = .slice (some ⟨g, 0, none⟩) m cap) (hx : a.eval x = .int .i64 (n : Nat))
    (hown : w.ownsRow base 5 1 (.slice (some ⟨g, 0, none⟩) m cap) m xs) (hn : n ≤ 100) (hm : m ≤ 100) (hb : base ≤ w.heap.size)
    (h : ∀ v' w', w'.ownsRow base 5 1 v' (m + n) (xs ++ List.replicate n (Value.int .u8 0)) → w.grownBy w' (some g) → wpList Tryz.prog ops Q rest (a.put o.dst v') w') : wpList Tryz.prog ops Q (o :: rest) a w := by
  refine wpList_plain hgd fun K hK => ?_
  obtain ⟨v', w', hr, h2, h3⟩ := run_append_make w base o.type g m cap n xs hown hn hm hb
  unfold Oper.wp execOp
  simp only [ho, resolve, invoke, builtin, Sem.run_bind, Sem.run_pure, Result.andThen_ok, List.map_toArray, List.map_cons, List.map_nil, hs, hx, hr]
  exact hK _ _ (h v' w' h2 h3)

theorem digs_tens (x n : Nat) (hx : x ≠ 0) : digs (x * 10 ^ n) = digs x ++ List.replicate n 0 := by
  have h := digs_of_head (digs x ++ List.replicate n 0) (fun d hd => by
    rcases List.mem_append.1 hd with h | h
    · exact digs_le x d h
    · obtain ⟨_, rfl⟩ := List.mem_replicate.1 h; omega) (fun d r e => by
    cases hd : digs x with
    | nil => exact absurd hd (digs_ne hx)
    | cons a b =>
      rw [hd] at e
      simp at e
      rw [← e.1]
      exact digs_head x a b hd)
  rwa [valN_pad, digs_val] at h

set_option maxHeartbeats 2000000 in
theorem rtens_calls (x n : Nat) (v : Value) (w : World) (hv : DR w v (digs x)) (hx : x < 10 ^ 40) (hn : n ≤ 100) :
    Calls Tryz.prog 87 #[v, .int .i64 (n : Nat)] w fun e w' => ∃ v', e = .returned v' ∧ DR w' v' (digs (x * 10 ^ n)) ∧ Below w.heap.size w w' := by
  obtain ⟨i0, hi, hz0, hz1, hz2⟩ := info_parts (P := Tryz.prog) (t := 5) (z := .int .u8 0) (n := 1) (m := 1) (by kernel_rfl)
  have hl40 : (digs x).length ≤ 40 := digs_len_le hx
  obtain ⟨A, cap, rfl, h1, h2, h3⟩ := hv
  have hrow := Lib.hid h3
  unfold maxLen at h2
  have Hi := Lib.hid (⟨hi, hz0, hz1, hz2⟩ : _ ∧ _ ∧ _ ∧ _)
  by_cases h0 : x = 0
  · subst h0
    have Hd : Hid (digs (0 * 10 ^ n) = []) := by show _ = _; rw [Nat.zero_mul, digs_zero]
    have hl0 : (digs 0).length = 0 := by rw [digs_zero]; rfl
    rw [hl0]
    clear h3 hi hz0 hz1 hz2 hl0 hl40
    go_enter Tryz.func87, Tryz.ntmps87
    go_wp2_with fail
    go_ret
    exact ⟨_, rfl, by rw [Hd.out]; exact DR.nil _, Below.refl _ _⟩
  · have hpos : 0 < (digs x).length := by
      have := digs_ne h0
      cases h : digs x with
      | nil => exact absurd h this
      | cons a b => simp
    have hne : ((((digs x).length : Nat) : Int) == 0) = false := by simpa using (by omega : ¬ (((digs x).length : Nat) : Int) = 0)
    obtain ⟨b, off, rfl, hlt, hc⟩ := hrow.out hpos
    have hnews := Lib.hid (DR.news hc)
    have Hd := Lib.hid (digs_tens x n h0)
    clear h3 hi hz0 hz1 hz2 hc hrow h0
    generalize hD : digs x = l at *
    clear hD
    go_enter Tryz.func87, Tryz.ntmps87
    go_wp2_with (at_builtin; refine wpList_append_lies _ rfl _ _ _ (by rfl) w.heap.size 5 i0 _ 1 1 Tryz.underlying108 Hi.out.1 Hi.out.2.1 Hi.out.2.2.1 Hi.out.2.2.2 rfl (by omega) _ 0 [] (by rfl) (World.ownsRow_nil w w.heap.size 5 1) ⟨b, off, none⟩ l.length cap (ints l) (by rfl) (by rw [ints_len]; omega) hnews.out (ints_one l) hpos (by unfold maxLen; omega) (by omega) (Nat.le_refl _) _ rfl ?_)
    intro g2 cap2 w3 hown3 hgrow hat hlt3
    have hB3 : Below w.heap.size w w3 := (Below.refl _ w).grown hgrow (Nat.le_refl _) (fun k hk => by cases hk)
    have Hown3 := Lib.hid hown3
    have HB3 := Lib.hid hB3
    have hge := own_ge hown3 g2 rfl
    have hbs := hB3.size
    clear hown3 hgrow hat hlt3 hB3
    go_wp2_with (refine wpList_append_make rfl (.tmp 9) (.tmp 10) (by rfl) w.heap.size g2 l.length cap2 n (ints l) (by rfl) (by rfl) Hown3.out hn (by omega) hbs ?_)
    intro v' w4 hown4 hgrow4
    have hB4 := HB3.out.grown hgrow4 hbs (fun k hk => by cases hk; exact hge)
    have hd4 : DR w4 v' (l ++ List.replicate n 0) := by
      have h : ints (l ++ List.replicate n 0) = ints l ++ List.replicate n (Value.int .u8 0) := by rw [ints_app]; congr 1; unfold ints; rw [List.map_replicate]; rfl
      rw [← h] at hown4
      exact DR.own hown4
    have H4 := Lib.hid (⟨hB4, hd4⟩ : _ ∧ _)
    clear hown4 hgrow4 hB4 hd4
    go_wp2_with fail
    go_ret
    exact ⟨v', rfl, by rw [Hd.out]; exact H4.out.2, H4.out.1⟩

end Go.Proofs.YtgoibhbmndpgpaaGreatDoor

/- The walks of the reference's plus and minus of rows of digits. -/
set_option linter.unusedVariables false
set_option linter.unusedSimpArgs false
namespace Go.Proofs.YtgoibhbmndpgpaaGreatDoor
open Go.RowKit Dc

/-- a row of numbers -/
def rA (k : IntKind) (n : Nat) (z : Nat → Nat) : Array Value := Array.ofFn (n := n) fun i => .int k (z i.1 : Nat)
theorem rA_size (k : IntKind) (n : Nat) (z : Nat → Nat) : (rA k n z).size = n := by simp [rA]
theorem rA_at (k : IntKind) (n : Nat) (z : Nat → Nat) (i : Nat) (h : i < n) : (rA k n z)[i]? = some (.int k (z i : Nat)) := by
  unfold rA
  rw [Array.getElem?_ofFn, dif_pos h]
theorem rA_ext {k : IntKind} {n : Nat} {z z' : Nat → Nat} (h : ∀ i, i < n → z i = z' i) : rA k n z = rA k n z' := by
  apply Array.ext_getElem?
  intro i
  by_cases hi : i < n
  · rw [rA_at _ _ _ _ hi, rA_at _ _ _ _ hi, h i hi]
  · rw [Array.getElem?_eq_none (by rw [rA_size]; omega), Array.getElem?_eq_none (by rw [rA_size]; omega)]
theorem rA_set (k : IntKind) (n : Nat) (z : Nat → Nat) (m d : Nat) : (rA k n z).setIfInBounds m (.int k (d : Nat)) = rA k n (fun i => if i = m then d else z i) := by
  apply Array.ext_getElem?
  intro i
  rw [Array.getElem?_setIfInBounds]
  by_cases hi : i < n
  · rw [rA_at _ _ _ _ hi, rA_at _ _ _ _ hi, rA_size]
    by_cases h : m = i
    · subst h; simp [hi]
    · rw [if_neg h, if_neg (fun e => h e.symm)]
  · rw [Array.getElem?_eq_none (by rw [rA_size]; omega), Array.getElem?_eq_none (by rw [rA_size]; omega), rA_size]
    split
    · rename_i h; subst h; rw [if_neg hi]
    · rfl
structure RAt (w : World) (b : Nat) (t : TypeId) (k : IntKind) (n : Nat) (z : Nat → Nat) : Prop where
  heap : w.heap[b]? = some (.cells (rA k n z) t (0, 0))
section
variable {w : World} {b : Nat} {t : TypeId} {k : IntKind} {n : Nat} {z : Nat → Nat}
theorem RAt.lt (h : RAt w b t k n z) : b < w.heap.size := (Array.getElem?_eq_some_iff.1 h.heap).1
theorem RAt.cell (h : RAt w b t k n z) (i : Nat) (hi : i < n) : w.cell? ⟨b, i, none⟩ = some (.int k (z i : Nat)) := by
  rw [Lib.cell_of_heap h.heap, rA_at _ _ _ i hi]
theorem RAt.free (h : RAt w b t k n z) (i : Nat) : w.frozen? ⟨b, i, none⟩ = false := Lib.frozen_of_heap h.heap i
theorem RAt.set (h : RAt w b t k n z) (m d : Nat) : RAt (w.setCell ⟨b, m, none⟩ (.int k (d : Nat))) b t k n (fun i => if i = m then d else z i) := ⟨by rw [heap_setCell_same w b m _ _ _ h.heap, rA_set]⟩
theorem RAt.other (h : RAt w b t k n z) (a : Addr) (v : Value) (hne : b ≠ a.block) : RAt (w.setCell a v) b t k n z := ⟨by rw [Below.heap_setCell w a v b hne]; exact h.heap⟩
theorem RAt.keep {w' : World} (h : RAt w b t k n z) (hb : Below w.heap.size w w') : RAt w' b t k n z := ⟨by rw [hb.block b h.lt]; exact h.heap⟩
theorem RAt.ext {z' : Nat → Nat} (h : RAt w b t k n z) (e : ∀ i, i < n → z i = z' i) : RAt w b t k n z' := ⟨by rw [← rA_ext e]; exact h.heap⟩
theorem RAt.drew (h : RAt w b t k n z) (m : Nat) : RAt (w.drewN m) b t k n z := ⟨h.heap⟩
end
theorem RAt.new (w : World) (t : TypeId) (k : IntKind) (n : Nat) (z : Nat → Nat) : RAt (w.alloc (.cells (rA k n z) t)) w.heap.size t k n z := ⟨heap_alloc_new w _⟩
/-- so many digits of a number, the first one first -/
def drow (N n : Nat) : List Nat := (List.range n).map fun t => dgt N (n - 1 - t)
theorem drow_len (N n : Nat) : (drow N n).length = n := by simp [drow]
theorem RAt.row {w : World} {b n N : Nat} {z : Nat → Nat} (h : RAt w b 5 .u8 n z) (hz : ∀ t, t < n → z t = dgt N (n - 1 - t)) (hm : n ≤ maxLen) : DR w (.slice (some ⟨b, 0, none⟩) n n) (drow N n) := by
  refine ⟨_, n, by rw [drow_len], by rw [drow_len]; exact Nat.le_refl _, hm, fun _ => ⟨b, 0, rfl, h.lt, fun j d hj => ?_⟩⟩
  have hjn : j < n := by have := (List.getElem?_eq_some_iff.1 hj).1; rwa [drow_len] at this
  unfold drow at hj
  rw [List.getElem?_map, List.getElem?_range hjn] at hj
  simp at hj
  rw [Nat.zero_add, h.cell j hjn, hz j hjn, hj]
end Go.Proofs.YtgoibhbmndpgpaaGreatDoor

/- The walks of package sum's Add over a row of decimals; of the laws' dot. -/
set_option linter.unusedVariables false
set_option linter.unusedSimpArgs false
namespace Go.Proofs.YtgoibhbmndpgpaaGreatDoor
open Go.RowKit Dc

/-- a slice of decimals -/
def DcRow (w : World) (v : Value) (l : List (Int × Int)) : Prop :=
  ∃ A cap, v = .slice A l.length cap ∧ l.length ≤ cap ∧ cap ≤ maxLen ∧ (0 < l.length → ∃ b off, A = some ⟨b, off, none⟩ ∧ b < w.heap.size ∧ ∀ i p, l[i]? = some p → w.cell? ⟨b, off + i * 2, none⟩ = some (.int .i64 p.1) ∧ w.cell? ⟨b, off + i * 2 + 1, none⟩ = some (.int .i64 p.2))
theorem DcRow.below {w w' : World} {v : Value} {l : List (Int × Int)} (h : DcRow w v l) (hb : Below w.heap.size w w') : DcRow w' v l := by
  obtain ⟨A, cap, rfl, h1, h2, h3⟩ := h
  refine ⟨A, cap, rfl, h1, h2, fun h0 => ?_⟩
  obtain ⟨b, off, rfl, hlt, hc⟩ := h3 h0
  exact ⟨b, off, rfl, Nat.lt_of_lt_of_le hlt hb.size, fun i p hp => ⟨(hb.cell (p := ⟨b, off + i * 2, none⟩) hlt).trans (hc i p hp).1, (hb.cell (p := ⟨b, off + i * 2 + 1, none⟩) hlt).trans (hc i p hp).2⟩⟩
/-- the decimal of a number, its digits behind the point; 0 if there is none -/
def dotO (m s : Int) : Int × Int := match decOf (decide (m < 0)) m.natAbs s with | none => (0, 0) | some (a, k) => (a, k)
end Go.Proofs.YtgoibhbmndpgpaaGreatDoor

/- What the laws' walks of package sum have in common. -/
set_option linter.unusedVariables false
set_option linter.unusedSimpArgs false
namespace Go.Proofs.YtgoibhbmndpgpaaGreatDoor
open Go.RowKit Dc
attribute [local go_sem ↓] Go.wp_at_zero Go.wp_at_succ

theorem dotO_good (m s : Int) : goodD (dotO m s).1 (dotO m s).2 = true ∧ (dotO m s).1.natAbs ≤ big := by
  unfold dotO
  cases h : decOf (decide (m < 0)) m.natAbs s with
  | none => exact ⟨by decide, by decide⟩
  | some r =>
    obtain ⟨a, k⟩ := r
    obtain ⟨h1, h2, _⟩ := decOf_is h
    exact ⟨h1, h2⟩
/-- a decimal that is valid -/
structure Gd (p i : Int) : Prop where
  good : goodD p i = true
  small : p.natAbs ≤ big
theorem Gd.lo {p i : Int} (h : Gd p i) : -9223372036854775808 ≤ p := by have := h.small; unfold big at this; omega
theorem Gd.hi {p i : Int} (h : Gd p i) : p ≤ 9223372036854775807 := by have := h.small; unfold big at this; omega
theorem Gd.s0 {p i : Int} (h : Gd p i) : 0 ≤ i := ((goodD_iff p i).1 h.good).1
theorem Gd.s1 {p i : Int} (h : Gd p i) : i ≤ 18 := ((goodD_iff p i).1 h.good).2.1
theorem Gd.dot (m s : Int) : Gd (dotO m s).1 (dotO m s).2 := ⟨(dotO_good m s).1, (dotO_good m s).2⟩
theorem Gd.zero : Gd 0 0 := ⟨by decide, by decide⟩
theorem Gd.one : Gd 1 0 := ⟨by decide, by decide⟩
theorem Gd.neg {p i : Int} (h : Gd p i) : Gd (-p) i := by
  have hs := h.small
  obtain ⟨a, b, c, d⟩ := (goodD_iff p i).1 h.good
  refine ⟨(goodD_iff _ _).2 ⟨a, b, by unfold big at hs; omega, d.imp id (fun e e2 => e ?_)⟩, by omega⟩
  rw [tmod_abs] at e2 ⊢
  rwa [Int.natAbs_neg] at e2
theorem Gd.decI {p i : Int} (h : Gd p i) : decI (zv p i) = some (p, i.toNat) := decI_good h.small h.good
theorem Gd.inj {p i q j : Int} (h : Gd p i) (k : Gd q j) (e : zv p i = zv q j) : p = q ∧ i = j := good_inj h.good k.good h.small k.small e
theorem DcRow.alloc {w : World} {v : Value} {l : List (Int × Int)} (h : DcRow w v l) (o : Obj) : DcRow (w.alloc o) v l := h.below ((Below.refl _ _).alloc (Nat.le_refl _) o)
end Go.Proofs.YtgoibhbmndpgpaaGreatDoor

/- The reference's Add of two. -/
set_option linter.unusedVariables false
set_option linter.unusedSimpArgs false
namespace Go.Proofs.YtgoibhbmndpgpaaGreatDoor
open Go.RowKit Dc
attribute [local go_sem ↓] Go.wp_at_zero Go.wp_at_succ

theorem rtens_lev (m s : Int) (v : Value) (W : World) (hv : DR W v (digs m.natAbs)) (hm : m.natAbs ≤ big) (h0 : 0 ≤ s) (h1 : s ≤ 18) :
    Calls Tryz.prog 87 #[v, .int .i64 (18 - s)] W fun e w' => ∃ v', e = .returned v' ∧ DR w' v' (digs (lev m s)) ∧ Below W.heap.size W w' := by
  have h := rtens_calls m.natAbs (18 - s).toNat v W hv (by unfold big at hm; omega) (by omega)
  rw [show (((18 - s).toNat : Nat) : Int) = 18 - s by omega] at h
  exact h
theorem cmp_digs (x y : Nat) : cmpN (digs x) (digs y) = if x < y then -1 else if y < x then 1 else 0 := by
  rw [cmpN_val _ _ (digs_le x) (digs_le y) (fun d t h => digs_head x d t h) (fun d t h => digs_head y d t h), digs_val, digs_val]
end Go.Proofs.YtgoibhbmndpgpaaGreatDoor

/- The reference's Scaled, Compare. -/
set_option linter.unusedVariables false
set_option linter.unusedSimpArgs false
namespace Go.Proofs.YtgoibhbmndpgpaaGreatDoor
open Go.RowKit Dc
attribute [local go_sem ↓] Go.wp_at_zero Go.wp_at_succ

end Go.Proofs.YtgoibhbmndpgpaaGreatDoor

/- The reference's Compare. -/
set_option linter.unusedVariables false
set_option linter.unusedSimpArgs false
namespace Go.Proofs.YtgoibhbmndpgpaaGreatDoor
open Go.RowKit Dc
attribute [local go_sem ↓] Go.wp_at_zero Go.wp_at_succ

theorem ord_nn {m s n t : Int} (h : m < 0) (k : n < 0) : cmpN (digs (lev n t)) (digs (lev m s)) = ord3 (zv m s) (zv n t) := by
  rw [cmp_digs, zv_is, zv_is, if_pos h, if_pos k]; unfold ord3
  split <;> split <;> first | rfl | omega | (split <;> first | rfl | omega)
theorem ord_pp {m s n t : Int} (h : ¬ m < 0) (k : ¬ n < 0) : cmpN (digs (lev m s)) (digs (lev n t)) = ord3 (zv m s) (zv n t) := by
  rw [cmp_digs, zv_is, zv_is, if_neg h, if_neg k]; unfold ord3
  split <;> split <;> first | rfl | omega | (split <;> first | rfl | omega)
theorem ord_np {m s n t : Int} (h : m < 0) (k : ¬ n < 0) : ord3 (zv m s) (zv n t) = -1 := ord3_lt (by have h1 := (zv_neg m s).2 h; have h2 : ¬ zv n t < 0 := fun e => k ((zv_neg n t).1 e); omega)
theorem ord_pn {m s n t : Int} (h : ¬ m < 0) (k : n < 0) : ord3 (zv m s) (zv n t) = 1 := ord3_gt (by have h1 := (zv_neg n t).2 k; have h2 : ¬ zv m s < 0 := fun e => h ((zv_neg m s).1 e); omega)
set_option maxRecDepth 100000 in
set_option maxHeartbeats 16000000 in
theorem rcmp_walk (m s n t : Int) (w : World) (hm1 : -9223372036854775808 ≤ m) (hm2 : m ≤ 9223372036854775807) (hn1 : -9223372036854775808 ≤ n) (hn2 : n ≤ 9223372036854775807) :
    Calls Tryz.prog 64 #[dv2 m s, dv2 n t] w fun e w' => e = .returned (.int .i64 (cmpO m s n t)) ∧ Below w.heap.size w w' := by
  have kB := kb_alloc (kb_alloc (Below.refl w.heap.size w) (Nat.le_refl _) (.cells #[.int .i64 m, .int .i64 s] 44)) (Nat.le_refl _) (.cells #[.int .i64 n, .int .i64 t] 44)
  have kd2 := (DecAt.new w m s).alloc (.cells #[.int .i64 n, .int .i64 t] 44)
  have kd3 := DecAt.new (w.alloc (.cells #[.int .i64 m, .int .i64 s] 44)) n t
  rw [show (w.alloc (.cells #[.int .i64 m, .int .i64 s] 44)).heap.size = w.heap.size + 1 by simp] at kd3
  go_enter Tryz.func64, Tryz.ntmps64
  go_wp2_with fail
  refine (rgood_calls m s _).mono ?_; rintro e w1 ⟨rfl, b1⟩
  replace kB := kB.trans (b1.mono kB.size)
  replace kd2 := kd2.below b1
  replace kd3 := kd3.below b1
  clear b1
  cases hga : goodD m s with
  | false =>
    have Hga := Lib.hid hga
    clear hga
    have c0d2 := kd2.c0; have c1d2 := kd2.c1; have c0d3 := kd3.c0; have c1d3 := kd3.c1
    have f0d2 := kd2.f0; have f1d2 := kd2.f1; have f0d3 := kd3.f0; have f1d3 := kd3.f1
    have HH := Lib.hid (⟨below_put (g := w.heap.size) kB (by omega) 0 0, kd2.put 0 0, kd3.putOther (g := w.heap.size) (by omega) 0 0⟩ : _ ∧ _ ∧ _)
    clear kB kd2 kd3
    unfold putDec at HH
    go_wp2_with fail
    clear c0d2 c1d2 c0d3 c1d3
    clear f0d2 f1d2 f0d3 f1d3
    obtain ⟨kB, kd2, kd3⟩ := HH.out
    clear HH
    refine (rgood_calls n t _).mono ?_; rintro e w2 ⟨rfl, b2⟩
    replace kB := kB.trans (b2.mono kB.size)
    replace kd2 := kd2.below b2
    replace kd3 := kd3.below b2
    clear b2
    cases hgb : goodD n t with
    | false =>
      have Hgb := Lib.hid hgb
      clear hgb
      have c0d2 := kd2.c0; have c1d2 := kd2.c1; have c0d3 := kd3.c0; have c1d3 := kd3.c1
      have f0d2 := kd2.f0; have f1d2 := kd2.f1; have f0d3 := kd3.f0; have f1d3 := kd3.f1
      have HH := Lib.hid (⟨below_put (g := w.heap.size + 1) kB (by omega) 0 0, kd2.putOther (g := w.heap.size + 1) (by omega) 0 0, kd3.put 0 0⟩ : _ ∧ _ ∧ _)
      clear kB kd2 kd3
      unfold putDec at HH
      go_upto_region 5 with (fail)
      clear c0d2 c1d2 c0d3 c1d3
      clear f0d2 f1d2 f0d3 f1d3
      obtain ⟨W5, hW5⟩ : ∃ W5 : World, W5 = (w2.setCell ⟨w.heap.size + 1, 0, none⟩ (.int .i64 0)).setCell ⟨w.heap.size + 1, 1, none⟩ (.int .i64 0) := ⟨_, rfl⟩
      rw [← hW5] at HH ⊢
      obtain ⟨kB, kd2, kd3⟩ := HH.out
      clear HH hW5
      have ha1 := Lib.hid (fun W => ramount_calls 0 W (by decide) (by decide))
      have ha2 := Lib.hid (fun W => ramount_calls 0 W (by decide) (by decide))
      have ht1 := Lib.hid (fun W v hv => rtens_lev 0 0 v W hv (by decide) (by decide) (by decide))
      rw [show (18 - 0 : Int) = 18 from rfl] at ht1
      have ht2 := Lib.hid (fun W v hv => rtens_lev 0 0 v W hv (by decide) (by decide) (by decide))
      rw [show (18 - 0 : Int) = 18 from rfl] at ht2
      have hcmp : cmpO m s n t = ord3 (zv 0 0) (zv 0 0) := by unfold cmpO; rw [orZ_bad Hga.out, orZ_bad Hgb.out]
      have Hnn : Hid ((0 : Int) < 0 → (0 : Int) < 0 → cmpN (digs (lev 0 0)) (digs (lev 0 0)) = cmpO m s n t) := fun h k => by rw [hcmp]; exact ord_nn h k
      have Hpp : Hid (¬ (0 : Int) < 0 → ¬ (0 : Int) < 0 → cmpN (digs (lev 0 0)) (digs (lev 0 0)) = cmpO m s n t) := fun h k => by rw [hcmp]; exact ord_pp h k
      have Hnp : Hid ((0 : Int) < 0 → ¬ (0 : Int) < 0 → cmpO m s n t = -1) := fun h k => by rw [hcmp]; exact ord_np h k
      have Hpn : Hid (¬ (0 : Int) < 0 → (0 : Int) < 0 → cmpO m s n t = 1) := fun h k => by rw [hcmp]; exact ord_pn h k
      obtain ⟨x, hx⟩ : ∃ x, x = lev 0 0 := ⟨_, rfl⟩
      obtain ⟨y, hy⟩ : ∃ y, y = lev 0 0 := ⟨_, rfl⟩
      obtain rfl : y = x := hy.trans hx.symm
      rw [← hx] at ht1 ht2 Hnn Hpp
      clear hcmp hx Hga Hgb hm1 hm2 hn1 hn2
      refine wp_region_noPanic ?_
      refine wp_region_held_drew (S := fun X => Below w.heap.size w X ∧ DecAt X (w.heap.size) 0 0 ∧ DecAt X (w.heap.size + 1) 0 0) (by kernel_rfl) ?_ (fun hHeld => ?_)
      · exact ⟨Below.drew kB, DecAt.drew kd2, DecAt.drew kd3⟩
      replace kB := Below.drew kB
      replace kd2 := DecAt.drew kd2
      replace kd3 := DecAt.drew kd3
      obtain ⟨qw, hcur⟩ : ∃ uu, uu = W5.drew := ⟨_, rfl⟩
      rw [← hcur] at hHeld kB kd2 kd3 ⊢
      clear hcur
      refine tk9 0 hHeld ?_
      refine tk9 1 hHeld ?_ (hy := Or.inl ⟨by rfl, by intro x hSw; (try dsimp only at hSw); obtain ⟨_, hd2, hd3⟩ := hSw; have c0d2 := hd2.c0; have c1d2 := hd2.c1; have c0d3 := hd3.c0; have c1d3 := hd3.c1; first | (go_simp; done) | (go_simp; with_reducible rfl)⟩)
      refine tk9 3 hHeld ?_
      refine tk9 4 hHeld ?_ (hy := Or.inl ⟨by rfl, by intro x hSw; (try dsimp only at hSw); obtain ⟨_, hd2, hd3⟩ := hSw; have c0d2 := hd2.c0; have c1d2 := hd2.c1; have c0d3 := hd3.c0; have c1d3 := hd3.c1; first | (go_simp; done) | (go_simp; with_reducible rfl)⟩)
      refine tk9 5 hHeld ?_
      refine tk9 7 hHeld ?_
      refine tk9 8 hHeld ?_ (hy := Or.inl ⟨by rfl, by intro x hSw; (try dsimp only at hSw); obtain ⟨_, hd2, hd3⟩ := hSw; have c0d2 := hd2.c0; have c1d2 := hd2.c1; have c0d3 := hd3.c0; have c1d3 := hd3.c1; first | (go_simp; done) | (go_simp; with_reducible rfl)⟩)
      refine tk9 10 hHeld ?_
      refine tk9 11 hHeld ?_ (hy := Or.inl ⟨by rfl, by intro x hSw; (try dsimp only at hSw); obtain ⟨_, hd2, hd3⟩ := hSw; have c0d2 := hd2.c0; have c1d2 := hd2.c1; have c0d3 := hd3.c0; have c1d3 := hd3.c1; first | (go_simp; done) | (go_simp; with_reducible rfl)⟩)
      refine tk9 12 hHeld ?_
      refine wpAnyH_ready (rs := [2]) (by kernel_rfl) (by simp) ?_
      refine AllReadyH.cons (by simp only [List.getElem?_toArray, List.getElem?_cons_succ, List.getElem?_cons_zero]; rfl) (fun K hK => ?_) AllReadyH.nil
      try go_simp
      refine (ha1.out _).mono ?_; rintro e wq1 ⟨va1, rfl, kxa1, q1⟩
      replace kB := kB.trans (q1.mono kB.size)
      replace kd2 := kd2.below q1
      replace kd3 := kd3.below q1
      clear q1
      try go_wp2_with fail
      refine hK.out _ _ ?_ (fun hHeld => ?_)
      · exact ⟨kB, kd2, kd3⟩
      clear hK K
      try simp only [Act.put, List.setIfInBounds_toArray, List.set_cons_zero, List.set_cons_succ]
      refine wpAnyH_ready (rs := [6]) (by kernel_rfl) (by simp) ?_
      refine AllReadyH.cons (by simp only [List.getElem?_toArray, List.getElem?_cons_succ, List.getElem?_cons_zero]; rfl) (fun K hK => ?_) AllReadyH.nil
      try go_simp
      refine (ht1.out _ _ kxa1).mono ?_; rintro e wq2 ⟨vtx, rfl, kxtx, q2⟩
      replace kxa1 := kxa1.below q2
      replace kB := kB.trans (q2.mono kB.size)
      replace kd2 := kd2.below q2
      replace kd3 := kd3.below q2
      clear q2
      try go_wp2_with fail
      refine hK.out _ _ ?_ (fun hHeld => ?_)
      · exact ⟨kB, kd2, kd3⟩
      clear hK K
      try simp only [Act.put, List.setIfInBounds_toArray, List.set_cons_zero, List.set_cons_succ]
      refine wpAnyH_ready (rs := [9]) (by kernel_rfl) (by simp) ?_
      refine AllReadyH.cons (by simp only [List.getElem?_toArray, List.getElem?_cons_succ, List.getElem?_cons_zero]; rfl) (fun K hK => ?_) AllReadyH.nil
      try go_simp
      refine (ha2.out _).mono ?_; rintro e wq3 ⟨va2, rfl, kxa2, q3⟩
      replace kxa1 := kxa1.below q3
      replace kxtx := kxtx.below q3
      replace kB := kB.trans (q3.mono kB.size)
      replace kd2 := kd2.below q3
      replace kd3 := kd3.below q3
      clear q3
      try go_wp2_with fail
      refine hK.out _ _ ?_ (fun hHeld => ?_)
      · exact ⟨kB, kd2, kd3⟩
      clear hK K
      try simp only [Act.put, List.setIfInBounds_toArray, List.set_cons_zero, List.set_cons_succ]
      refine wpAnyH_ready (rs := [13]) (by kernel_rfl) (by simp) ?_
      refine AllReadyH.cons (by simp only [List.getElem?_toArray, List.getElem?_cons_succ, List.getElem?_cons_zero]; rfl) (fun K hK => ?_) AllReadyH.nil
      try go_simp
      refine (ht2.out _ _ kxa2).mono ?_; rintro e wq4 ⟨vty, rfl, kxty, q4⟩
      replace kxa1 := kxa1.below q4
      replace kxtx := kxtx.below q4
      replace kxa2 := kxa2.below q4
      replace kB := kB.trans (q4.mono kB.size)
      replace kd2 := kd2.below q4
      replace kd3 := kd3.below q4
      clear q4
      try go_wp2_with fail
      refine hK.out _ _ ?_ (fun hHeld => ?_)
      · exact ⟨kB, kd2, kd3⟩
      clear hK K
      try simp only [Act.put, List.setIfInBounds_toArray, List.set_cons_zero, List.set_cons_succ]
      refine tk9 14 hHeld ?_
      refine tk9 15 hHeld ?_
      refine wpAnyH_done (by kernel_rfl) ?_ _
      refine NoPanic.normal ?_
      clear kxa1 kxa2 ha1 ha2 ht1 ht2
      have c0d2 := kd2.c0; have c1d2 := kd2.c1; have c0d3 := kd3.c0; have c1d3 := kd3.c1
      have hr := Lib.hid (Hpp.out (by omega) (by omega))
      have hc := Lib.hid (fun W hv hu => rcompare_calls (digs y) (digs y) vtx vty W hv hu)
      clear Hnn Hnp Hpn Hpp
      rw [hr.out] at hc
      obtain ⟨oo, ho⟩ : ∃ oo, oo = cmpO m s n t := ⟨_, rfl⟩
      rw [← ho] at hc
      have hoo := Lib.hid ho
      clear hr ho
      go_wp2_with fail
      refine (hc.out _ kxtx kxty).mono ?_; rintro e w6 ⟨rfl, b6⟩
      replace kB := kB.trans (b6.mono kB.size)
      go_wp2_with fail
      go_ret
      exact ⟨by rw [← hoo.out]; rfl, kB⟩
    | true =>
      have Hgb := Lib.hid hgb
      clear hgb
      have ha1 := Lib.hid (fun W => ramount_calls 0 W (by decide) (by decide))
      have ha2 := Lib.hid (fun W => ramount_calls n W hn1 hn2)
      have ht1 := Lib.hid (fun W v hv => rtens_lev 0 0 v W hv (by decide) (by decide) (by decide))
      rw [show (18 - 0 : Int) = 18 from rfl] at ht1
      have hn := big_of Hgb.out hn1 hn2
      obtain ⟨gt0, gt1, _, _⟩ := (goodD_iff n t).1 Hgb.out
      have ht2 := Lib.hid (fun W v hv => rtens_lev n t v W hv hn gt0 gt1)
      have hw2 : IntKind.i64.wrap (18 - t) = 18 - t := IntWalk.i64_in _ (by omega)
      clear hn
      have hcmp : cmpO m s n t = ord3 (zv 0 0) (zv n t) := by unfold cmpO; rw [orZ_bad Hga.out, orZ_good Hgb.out]
      have Hnn : Hid ((0 : Int) < 0 → (n : Int) < 0 → cmpN (digs (lev n t)) (digs (lev 0 0)) = cmpO m s n t) := fun h k => by rw [hcmp]; exact ord_nn h k
      have Hpp : Hid (¬ (0 : Int) < 0 → ¬ (n : Int) < 0 → cmpN (digs (lev 0 0)) (digs (lev n t)) = cmpO m s n t) := fun h k => by rw [hcmp]; exact ord_pp h k
      have Hnp : Hid ((0 : Int) < 0 → ¬ (n : Int) < 0 → cmpO m s n t = -1) := fun h k => by rw [hcmp]; exact ord_np h k
      have Hpn : Hid (¬ (0 : Int) < 0 → (n : Int) < 0 → cmpO m s n t = 1) := fun h k => by rw [hcmp]; exact ord_pn h k
      obtain ⟨x, hx⟩ : ∃ x, x = lev 0 0 := ⟨_, rfl⟩
      obtain ⟨y, hy⟩ : ∃ y, y = lev n t := ⟨_, rfl⟩
      rw [← hx] at ht1 Hnn Hpp
      try rw [← hy] at ht2
      try rw [← hy] at Hnn Hpp
      clear hcmp hx hy Hga Hgb hm1 hm2 hn1 hn2
      have c0d2 := kd2.c0; have c1d2 := kd2.c1; have c0d3 := kd3.c0; have c1d3 := kd3.c1
      go_upto_region 5 with (fail)
      clear c0d2 c1d2 c0d3 c1d3
      refine wp_region_noPanic ?_
      refine wp_region_held_drew (S := fun X => Below w.heap.size w X ∧ DecAt X (w.heap.size) 0 0 ∧ DecAt X (w.heap.size + 1) n t) (by kernel_rfl) ?_ (fun hHeld => ?_)
      · exact ⟨Below.drew kB, DecAt.drew kd2, DecAt.drew kd3⟩
      replace kB := Below.drew kB
      replace kd2 := DecAt.drew kd2
      replace kd3 := DecAt.drew kd3
      obtain ⟨qw, hcur⟩ : ∃ uu, uu = w2.drew := ⟨_, rfl⟩
      rw [← hcur] at hHeld kB kd2 kd3 ⊢
      clear hcur
      refine tk9 0 hHeld ?_
      refine tk9 1 hHeld ?_ (hy := Or.inl ⟨by rfl, by intro x hSw; (try dsimp only at hSw); obtain ⟨_, hd2, hd3⟩ := hSw; have c0d2 := hd2.c0; have c1d2 := hd2.c1; have c0d3 := hd3.c0; have c1d3 := hd3.c1; first | (go_simp; done) | (go_simp; with_reducible rfl)⟩)
      refine tk9 3 hHeld ?_
      refine tk9 4 hHeld ?_ (hy := Or.inl ⟨by rfl, by intro x hSw; (try dsimp only at hSw); obtain ⟨_, hd2, hd3⟩ := hSw; have c0d2 := hd2.c0; have c1d2 := hd2.c1; have c0d3 := hd3.c0; have c1d3 := hd3.c1; first | (go_simp; done) | (go_simp; with_reducible rfl)⟩)
      refine tk9 5 hHeld ?_
      refine tk9 7 hHeld ?_
      refine tk9 8 hHeld ?_ (hy := Or.inl ⟨by rfl, by intro x hSw; (try dsimp only at hSw); obtain ⟨_, hd2, hd3⟩ := hSw; have c0d2 := hd2.c0; have c1d2 := hd2.c1; have c0d3 := hd3.c0; have c1d3 := hd3.c1; first | (go_simp; done) | (go_simp; with_reducible rfl)⟩)
      refine tk9 10 hHeld ?_
      refine tk9 11 hHeld ?_ (hy := Or.inl ⟨by rfl, by intro x hSw; (try dsimp only at hSw); obtain ⟨_, hd2, hd3⟩ := hSw; have c0d2 := hd2.c0; have c1d2 := hd2.c1; have c0d3 := hd3.c0; have c1d3 := hd3.c1; first | (go_simp; done) | (go_simp; with_reducible rfl)⟩)
      refine tk9 12 hHeld ?_
      refine wpAnyH_ready (rs := [2]) (by kernel_rfl) (by simp) ?_
      refine AllReadyH.cons (by simp only [List.getElem?_toArray, List.getElem?_cons_succ, List.getElem?_cons_zero]; rfl) (fun K hK => ?_) AllReadyH.nil
      try go_simp
      refine (ha1.out _).mono ?_; rintro e wq1 ⟨va1, rfl, kxa1, q1⟩
      replace kB := kB.trans (q1.mono kB.size)
      replace kd2 := kd2.below q1
      replace kd3 := kd3.below q1
      clear q1
      try go_wp2_with fail
      refine hK.out _ _ ?_ (fun hHeld => ?_)
      · exact ⟨kB, kd2, kd3⟩
      clear hK K
      try simp only [Act.put, List.setIfInBounds_toArray, List.set_cons_zero, List.set_cons_succ]
      refine wpAnyH_ready (rs := [6]) (by kernel_rfl) (by simp) ?_
      refine AllReadyH.cons (by simp only [List.getElem?_toArray, List.getElem?_cons_succ, List.getElem?_cons_zero]; rfl) (fun K hK => ?_) AllReadyH.nil
      try go_simp
      refine (ht1.out _ _ kxa1).mono ?_; rintro e wq2 ⟨vtx, rfl, kxtx, q2⟩
      replace kxa1 := kxa1.below q2
      replace kB := kB.trans (q2.mono kB.size)
      replace kd2 := kd2.below q2
      replace kd3 := kd3.below q2
      clear q2
      try go_wp2_with fail
      refine hK.out _ _ ?_ (fun hHeld => ?_)
      · exact ⟨kB, kd2, kd3⟩
      clear hK K
      try simp only [Act.put, List.setIfInBounds_toArray, List.set_cons_zero, List.set_cons_succ]
      refine wpAnyH_ready (rs := [9]) (by kernel_rfl) (by simp) ?_
      refine AllReadyH.cons (by simp only [List.getElem?_toArray, List.getElem?_cons_succ, List.getElem?_cons_zero]; rfl) (fun K hK => ?_) AllReadyH.nil
      try go_simp
      refine (ha2.out _).mono ?_; rintro e wq3 ⟨va2, rfl, kxa2, q3⟩
      replace kxa1 := kxa1.below q3
      replace kxtx := kxtx.below q3
      replace kB := kB.trans (q3.mono kB.size)
      replace kd2 := kd2.below q3
      replace kd3 := kd3.below q3
      clear q3
      try go_wp2_with fail
      refine hK.out _ _ ?_ (fun hHeld => ?_)
      · exact ⟨kB, kd2, kd3⟩
      clear hK K
      try simp only [Act.put, List.setIfInBounds_toArray, List.set_cons_zero, List.set_cons_succ]
      refine wpAnyH_ready (rs := [13]) (by kernel_rfl) (by simp) ?_
      refine AllReadyH.cons (by simp only [List.getElem?_toArray, List.getElem?_cons_succ, List.getElem?_cons_zero]; rfl) (fun K hK => ?_) AllReadyH.nil
      try go_simp
      refine (ht2.out _ _ kxa2).mono ?_; rintro e wq4 ⟨vty, rfl, kxty, q4⟩
      replace kxa1 := kxa1.below q4
      replace kxtx := kxtx.below q4
      replace kxa2 := kxa2.below q4
      replace kB := kB.trans (q4.mono kB.size)
      replace kd2 := kd2.below q4
      replace kd3 := kd3.below q4
      clear q4
      try go_wp2_with fail
      refine hK.out _ _ ?_ (fun hHeld => ?_)
      · exact ⟨kB, kd2, kd3⟩
      clear hK K
      try simp only [Act.put, List.setIfInBounds_toArray, List.set_cons_zero, List.set_cons_succ]
      refine tk9 14 hHeld ?_
      refine tk9 15 hHeld ?_
      refine wpAnyH_done (by kernel_rfl) ?_ _
      refine NoPanic.normal ?_
      clear kxa1 kxa2 ha1 ha2 ht1 ht2
      have c0d2 := kd2.c0; have c1d2 := kd2.c1; have c0d3 := kd3.c0; have c1d3 := kd3.c1
      by_cases hn0 : n < 0
      · have dn : decide (n < 0) = true := by simpa using hn0
        have hr := Lib.hid (Hpn.out (by omega) (by omega))
        clear Hnn Hnp Hpn Hpp
        go_wp2_with fail
        go_ret
        exact ⟨by rw [hr.out]; rfl, kB⟩
      · have dn : decide (n < 0) = false := by simpa using hn0
        have hr := Lib.hid (Hpp.out (by omega) (by omega))
        have hc := Lib.hid (fun W hv hu => rcompare_calls (digs x) (digs y) vtx vty W hv hu)
        clear Hnn Hnp Hpn Hpp
        rw [hr.out] at hc
        obtain ⟨oo, ho⟩ : ∃ oo, oo = cmpO m s n t := ⟨_, rfl⟩
        rw [← ho] at hc
        have hoo := Lib.hid ho
        clear hr ho
        go_wp2_with fail
        refine (hc.out _ kxtx kxty).mono ?_; rintro e w6 ⟨rfl, b6⟩
        replace kB := kB.trans (b6.mono kB.size)
        go_wp2_with fail
        go_ret
        exact ⟨by rw [← hoo.out]; rfl, kB⟩
  | true =>
    have Hga := Lib.hid hga
    clear hga
    have c0d2 := kd2.c0; have c1d2 := kd2.c1; have c0d3 := kd3.c0; have c1d3 := kd3.c1
    go_wp2_with fail
    clear c0d2 c1d2 c0d3 c1d3
    refine (rgood_calls n t _).mono ?_; rintro e w2 ⟨rfl, b2⟩
    replace kB := kB.trans (b2.mono kB.size)
    replace kd2 := kd2.below b2
    replace kd3 := kd3.below b2
    clear b2
    cases hgb : goodD n t with
    | false =>
      have Hgb := Lib.hid hgb
      clear hgb
      have c0d2 := kd2.c0; have c1d2 := kd2.c1; have c0d3 := kd3.c0; have c1d3 := kd3.c1
      have f0d2 := kd2.f0; have f1d2 := kd2.f1; have f0d3 := kd3.f0; have f1d3 := kd3.f1
      have HH := Lib.hid (⟨below_put (g := w.heap.size + 1) kB (by omega) 0 0, kd2.putOther (g := w.heap.size + 1) (by omega) 0 0, kd3.put 0 0⟩ : _ ∧ _ ∧ _)
      clear kB kd2 kd3
      unfold putDec at HH
      go_upto_region 5 with (fail)
      clear c0d2 c1d2 c0d3 c1d3
      clear f0d2 f1d2 f0d3 f1d3
      obtain ⟨W5, hW5⟩ : ∃ W5 : World, W5 = (w2.setCell ⟨w.heap.size + 1, 0, none⟩ (.int .i64 0)).setCell ⟨w.heap.size + 1, 1, none⟩ (.int .i64 0) := ⟨_, rfl⟩
      rw [← hW5] at HH ⊢
      obtain ⟨kB, kd2, kd3⟩ := HH.out
      clear HH hW5
      have ha1 := Lib.hid (fun W => ramount_calls m W hm1 hm2)
      have ha2 := Lib.hid (fun W => ramount_calls 0 W (by decide) (by decide))
      have hm := big_of Hga.out hm1 hm2
      obtain ⟨gs0, gs1, _, _⟩ := (goodD_iff m s).1 Hga.out
      have ht1 := Lib.hid (fun W v hv => rtens_lev m s v W hv hm gs0 gs1)
      have hw1 : IntKind.i64.wrap (18 - s) = 18 - s := IntWalk.i64_in _ (by omega)
      clear hm
      have ht2 := Lib.hid (fun W v hv => rtens_lev 0 0 v W hv (by decide) (by decide) (by decide))
      rw [show (18 - 0 : Int) = 18 from rfl] at ht2
      have hcmp : cmpO m s n t = ord3 (zv m s) (zv 0 0) := by unfold cmpO; rw [orZ_good Hga.out, orZ_bad Hgb.out]
      have Hnn : Hid ((m : Int) < 0 → (0 : Int) < 0 → cmpN (digs (lev 0 0)) (digs (lev m s)) = cmpO m s n t) := fun h k => by rw [hcmp]; exact ord_nn h k
      have Hpp : Hid (¬ (m : Int) < 0 → ¬ (0 : Int) < 0 → cmpN (digs (lev m s)) (digs (lev 0 0)) = cmpO m s n t) := fun h k => by rw [hcmp]; exact ord_pp h k
      have Hnp : Hid ((m : Int) < 0 → ¬ (0 : Int) < 0 → cmpO m s n t = -1) := fun h k => by rw [hcmp]; exact ord_np h k
      have Hpn : Hid (¬ (m : Int) < 0 → (0 : Int) < 0 → cmpO m s n t = 1) := fun h k => by rw [hcmp]; exact ord_pn h k
      obtain ⟨x, hx⟩ : ∃ x, x = lev m s := ⟨_, rfl⟩
      obtain ⟨y, hy⟩ : ∃ y, y = lev 0 0 := ⟨_, rfl⟩
      rw [← hx] at ht1 Hnn Hpp
      try rw [← hy] at ht2
      try rw [← hy] at Hnn Hpp
      clear hcmp hx hy Hga Hgb hm1 hm2 hn1 hn2
      refine wp_region_noPanic ?_
      refine wp_region_held_drew (S := fun X => Below w.heap.size w X ∧ DecAt X (w.heap.size) m s ∧ DecAt X (w.heap.size + 1) 0 0) (by kernel_rfl) ?_ (fun hHeld => ?_)
      · exact ⟨Below.drew kB, DecAt.drew kd2, DecAt.drew kd3⟩
      replace kB := Below.drew kB
      replace kd2 := DecAt.drew kd2
      replace kd3 := DecAt.drew kd3
      obtain ⟨qw, hcur⟩ : ∃ uu, uu = W5.drew := ⟨_, rfl⟩
      rw [← hcur] at hHeld kB kd2 kd3 ⊢
      clear hcur
      refine tk9 0 hHeld ?_
      refine tk9 1 hHeld ?_ (hy := Or.inl ⟨by rfl, by intro x hSw; (try dsimp only at hSw); obtain ⟨_, hd2, hd3⟩ := hSw; have c0d2 := hd2.c0; have c1d2 := hd2.c1; have c0d3 := hd3.c0; have c1d3 := hd3.c1; first | (go_simp; done) | (go_simp; with_reducible rfl)⟩)
      refine tk9 3 hHeld ?_
      refine tk9 4 hHeld ?_ (hy := Or.inl ⟨by rfl, by intro x hSw; (try dsimp only at hSw); obtain ⟨_, hd2, hd3⟩ := hSw; have c0d2 := hd2.c0; have c1d2 := hd2.c1; have c0d3 := hd3.c0; have c1d3 := hd3.c1; first | (go_simp; done) | (go_simp; with_reducible rfl)⟩)
      refine tk9 5 hHeld ?_
      refine tk9 7 hHeld ?_
      refine tk9 8 hHeld ?_ (hy := Or.inl ⟨by rfl, by intro x hSw; (try dsimp only at hSw); obtain ⟨_, hd2, hd3⟩ := hSw; have c0d2 := hd2.c0; have c1d2 := hd2.c1; have c0d3 := hd3.c0; have c1d3 := hd3.c1; first | (go_simp; done) | (go_simp; with_reducible rfl)⟩)
      refine tk9 10 hHeld ?_
      refine tk9 11 hHeld ?_ (hy := Or.inl ⟨by rfl, by intro x hSw; (try dsimp only at hSw); obtain ⟨_, hd2, hd3⟩ := hSw; have c0d2 := hd2.c0; have c1d2 := hd2.c1; have c0d3 := hd3.c0; have c1d3 := hd3.c1; first | (go_simp; done) | (go_simp; with_reducible rfl)⟩)
      refine tk9 12 hHeld ?_
      refine wpAnyH_ready (rs := [2]) (by kernel_rfl) (by simp) ?_
      refine AllReadyH.cons (by simp only [List.getElem?_toArray, List.getElem?_cons_succ, List.getElem?_cons_zero]; rfl) (fun K hK => ?_) AllReadyH.nil
      try go_simp
      refine (ha1.out _).mono ?_; rintro e wq1 ⟨va1, rfl, kxa1, q1⟩
      replace kB := kB.trans (q1.mono kB.size)
      replace kd2 := kd2.below q1
      replace kd3 := kd3.below q1
      clear q1
      try go_wp2_with fail
      refine hK.out _ _ ?_ (fun hHeld => ?_)
      · exact ⟨kB, kd2, kd3⟩
      clear hK K
      try simp only [Act.put, List.setIfInBounds_toArray, List.set_cons_zero, List.set_cons_succ]
      refine wpAnyH_ready (rs := [6]) (by kernel_rfl) (by simp) ?_
      refine AllReadyH.cons (by simp only [List.getElem?_toArray, List.getElem?_cons_succ, List.getElem?_cons_zero]; rfl) (fun K hK => ?_) AllReadyH.nil
      try go_simp
      refine (ht1.out _ _ kxa1).mono ?_; rintro e wq2 ⟨vtx, rfl, kxtx, q2⟩
      replace kxa1 := kxa1.below q2
      replace kB := kB.trans (q2.mono kB.size)
      replace kd2 := kd2.below q2
      replace kd3 := kd3.below q2
      clear q2
      try go_wp2_with fail
      refine hK.out _ _ ?_ (fun hHeld => ?_)
      · exact ⟨kB, kd2, kd3⟩
      clear hK K
      try simp only [Act.put, List.setIfInBounds_toArray, List.set_cons_zero, List.set_cons_succ]
      refine wpAnyH_ready (rs := [9]) (by kernel_rfl) (by simp) ?_
      refine AllReadyH.cons (by simp only [List.getElem?_toArray, List.getElem?_cons_succ, List.getElem?_cons_zero]; rfl) (fun K hK => ?_) AllReadyH.nil
      try go_simp
      refine (ha2.out _).mono ?_; rintro e wq3 ⟨va2, rfl, kxa2, q3⟩
      replace kxa1 := kxa1.below q3
      replace kxtx := kxtx.below q3
      replace kB := kB.trans (q3.mono kB.size)
      replace kd2 := kd2.below q3
      replace kd3 := kd3.below q3
      clear q3
      try go_wp2_with fail
      refine hK.out _ _ ?_ (fun hHeld => ?_)
      · exact ⟨kB, kd2, kd3⟩
      clear hK K
      try simp only [Act.put, List.setIfInBounds_toArray, List.set_cons_zero, List.set_cons_succ]
      refine wpAnyH_ready (rs := [13]) (by kernel_rfl) (by simp) ?_
      refine AllReadyH.cons (by simp only [List.getElem?_toArray, List.getElem?_cons_succ, List.getElem?_cons_zero]; rfl) (fun K hK => ?_) AllReadyH.nil
      try go_simp
      refine (ht2.out _ _ kxa2).mono ?_; rintro e wq4 ⟨vty, rfl, kxty, q4⟩
      replace kxa1 := kxa1.below q4
      replace kxtx := kxtx.below q4
      replace kxa2 := kxa2.below q4
      replace kB := kB.trans (q4.mono kB.size)
      replace kd2 := kd2.below q4
      replace kd3 := kd3.below q4
      clear q4
      try go_wp2_with fail
      refine hK.out _ _ ?_ (fun hHeld => ?_)
      · exact ⟨kB, kd2, kd3⟩
      clear hK K
      try simp only [Act.put, List.setIfInBounds_toArray, List.set_cons_zero, List.set_cons_succ]
      refine tk9 14 hHeld ?_
      refine tk9 15 hHeld ?_
      refine wpAnyH_done (by kernel_rfl) ?_ _
      refine NoPanic.normal ?_
      clear kxa1 kxa2 ha1 ha2 ht1 ht2
      have c0d2 := kd2.c0; have c1d2 := kd2.c1; have c0d3 := kd3.c0; have c1d3 := kd3.c1
      by_cases hm0 : m < 0
      · have dm : decide (m < 0) = true := by simpa using hm0
        have hr := Lib.hid (Hnp.out (by omega) (by omega))
        clear Hnn Hnp Hpn Hpp
        go_wp2_with fail
        go_ret
        exact ⟨by rw [hr.out]; rfl, kB⟩
      · have dm : decide (m < 0) = false := by simpa using hm0
        have hr := Lib.hid (Hpp.out (by omega) (by omega))
        have hc := Lib.hid (fun W hv hu => rcompare_calls (digs x) (digs y) vtx vty W hv hu)
        clear Hnn Hnp Hpn Hpp
        rw [hr.out] at hc
        obtain ⟨oo, ho⟩ : ∃ oo, oo = cmpO m s n t := ⟨_, rfl⟩
        rw [← ho] at hc
        have hoo := Lib.hid ho
        clear hr ho
        go_wp2_with fail
        refine (hc.out _ kxtx kxty).mono ?_; rintro e w6 ⟨rfl, b6⟩
        replace kB := kB.trans (b6.mono kB.size)
        go_wp2_with fail
        go_ret
        exact ⟨by rw [← hoo.out]; rfl, kB⟩
    | true =>
      have Hgb := Lib.hid hgb
      clear hgb
      have ha1 := Lib.hid (fun W => ramount_calls m W hm1 hm2)
      have ha2 := Lib.hid (fun W => ramount_calls n W hn1 hn2)
      have hm := big_of Hga.out hm1 hm2
      obtain ⟨gs0, gs1, _, _⟩ := (goodD_iff m s).1 Hga.out
      have ht1 := Lib.hid (fun W v hv => rtens_lev m s v W hv hm gs0 gs1)
      have hw1 : IntKind.i64.wrap (18 - s) = 18 - s := IntWalk.i64_in _ (by omega)
      clear hm
      have hn := big_of Hgb.out hn1 hn2
      obtain ⟨gt0, gt1, _, _⟩ := (goodD_iff n t).1 Hgb.out
      have ht2 := Lib.hid (fun W v hv => rtens_lev n t v W hv hn gt0 gt1)
      have hw2 : IntKind.i64.wrap (18 - t) = 18 - t := IntWalk.i64_in _ (by omega)
      clear hn
      have hcmp : cmpO m s n t = ord3 (zv m s) (zv n t) := by unfold cmpO; rw [orZ_good Hga.out, orZ_good Hgb.out]
      have Hnn : Hid ((m : Int) < 0 → (n : Int) < 0 → cmpN (digs (lev n t)) (digs (lev m s)) = cmpO m s n t) := fun h k => by rw [hcmp]; exact ord_nn h k
      have Hpp : Hid (¬ (m : Int) < 0 → ¬ (n : Int) < 0 → cmpN (digs (lev m s)) (digs (lev n t)) = cmpO m s n t) := fun h k => by rw [hcmp]; exact ord_pp h k
      have Hnp : Hid ((m : Int) < 0 → ¬ (n : Int) < 0 → cmpO m s n t = -1) := fun h k => by rw [hcmp]; exact ord_np h k
      have Hpn : Hid (¬ (m : Int) < 0 → (n : Int) < 0 → cmpO m s n t = 1) := fun h k => by rw [hcmp]; exact ord_pn h k
      obtain ⟨x, hx⟩ : ∃ x, x = lev m s := ⟨_, rfl⟩
      obtain ⟨y, hy⟩ : ∃ y, y = lev n t := ⟨_, rfl⟩
      rw [← hx] at ht1 Hnn Hpp
      try rw [← hy] at ht2
      try rw [← hy] at Hnn Hpp
      clear hcmp hx hy Hga Hgb hm1 hm2 hn1 hn2
      have c0d2 := kd2.c0; have c1d2 := kd2.c1; have c0d3 := kd3.c0; have c1d3 := kd3.c1
      go_upto_region 5 with (fail)
      clear c0d2 c1d2 c0d3 c1d3
      refine wp_region_noPanic ?_
      refine wp_region_held_drew (S := fun X => Below w.heap.size w X ∧ DecAt X (w.heap.size) m s ∧ DecAt X (w.heap.size + 1) n t) (by kernel_rfl) ?_ (fun hHeld => ?_)
      · exact ⟨Below.drew kB, DecAt.drew kd2, DecAt.drew kd3⟩
      replace kB := Below.drew kB
      replace kd2 := DecAt.drew kd2
      replace kd3 := DecAt.drew kd3
      obtain ⟨qw, hcur⟩ : ∃ uu, uu = w2.drew := ⟨_, rfl⟩
      rw [← hcur] at hHeld kB kd2 kd3 ⊢
      clear hcur
      refine tk9 0 hHeld ?_
      refine tk9 1 hHeld ?_ (hy := Or.inl ⟨by rfl, by intro x hSw; (try dsimp only at hSw); obtain ⟨_, hd2, hd3⟩ := hSw; have c0d2 := hd2.c0; have c1d2 := hd2.c1; have c0d3 := hd3.c0; have c1d3 := hd3.c1; first | (go_simp; done) | (go_simp; with_reducible rfl)⟩)
      refine tk9 3 hHeld ?_
      refine tk9 4 hHeld ?_ (hy := Or.inl ⟨by rfl, by intro x hSw; (try dsimp only at hSw); obtain ⟨_, hd2, hd3⟩ := hSw; have c0d2 := hd2.c0; have c1d2 := hd2.c1; have c0d3 := hd3.c0; have c1d3 := hd3.c1; first | (go_simp; done) | (go_simp; with_reducible rfl)⟩)
      refine tk9 5 hHeld ?_
      refine tk9 7 hHeld ?_
      refine tk9 8 hHeld ?_ (hy := Or.inl ⟨by rfl, by intro x hSw; (try dsimp only at hSw); obtain ⟨_, hd2, hd3⟩ := hSw; have c0d2 := hd2.c0; have c1d2 := hd2.c1; have c0d3 := hd3.c0; have c1d3 := hd3.c1; first | (go_simp; done) | (go_simp; with_reducible rfl)⟩)
      refine tk9 10 hHeld ?_
      refine tk9 11 hHeld ?_ (hy := Or.inl ⟨by rfl, by intro x hSw; (try dsimp only at hSw); obtain ⟨_, hd2, hd3⟩ := hSw; have c0d2 := hd2.c0; have c1d2 := hd2.c1; have c0d3 := hd3.c0; have c1d3 := hd3.c1; first | (go_simp; done) | (go_simp; with_reducible rfl)⟩)
      refine tk9 12 hHeld ?_
      refine wpAnyH_ready (rs := [2]) (by kernel_rfl) (by simp) ?_
      refine AllReadyH.cons (by simp only [List.getElem?_toArray, List.getElem?_cons_succ, List.getElem?_cons_zero]; rfl) (fun K hK => ?_) AllReadyH.nil
      try go_simp
      refine (ha1.out _).mono ?_; rintro e wq1 ⟨va1, rfl, kxa1, q1⟩
      replace kB := kB.trans (q1.mono kB.size)
      replace kd2 := kd2.below q1
      replace kd3 := kd3.below q1
      clear q1
      try go_wp2_with fail
      refine hK.out _ _ ?_ (fun hHeld => ?_)
      · exact ⟨kB, kd2, kd3⟩
      clear hK K
      try simp only [Act.put, List.setIfInBounds_toArray, List.set_cons_zero, List.set_cons_succ]
      refine wpAnyH_ready (rs := [6]) (by kernel_rfl) (by simp) ?_
      refine AllReadyH.cons (by simp only [List.getElem?_toArray, List.getElem?_cons_succ, List.getElem?_cons_zero]; rfl) (fun K hK => ?_) AllReadyH.nil
      try go_simp
      refine (ht1.out _ _ kxa1).mono ?_; rintro e wq2 ⟨vtx, rfl, kxtx, q2⟩
      replace kxa1 := kxa1.below q2
      replace kB := kB.trans (q2.mono kB.size)
      replace kd2 := kd2.below q2
      replace kd3 := kd3.below q2
      clear q2
      try go_wp2_with fail
      refine hK.out _ _ ?_ (fun hHeld => ?_)
      · exact ⟨kB, kd2, kd3⟩
      clear hK K
      try simp only [Act.put, List.setIfInBounds_toArray, List.set_cons_zero, List.set_cons_succ]
      refine wpAnyH_ready (rs := [9]) (by kernel_rfl) (by simp) ?_
      refine AllReadyH.cons (by simp only [List.getElem?_toArray, List.getElem?_cons_succ, List.getElem?_cons_zero]; rfl) (fun K hK => ?_) AllReadyH.nil
      try go_simp
      refine (ha2.out _).mono ?_; rintro e wq3 ⟨va2, rfl, kxa2, q3⟩
      replace kxa1 := kxa1.below q3
      replace kxtx := kxtx.below q3
      replace kB := kB.trans (q3.mono kB.size)
      replace kd2 := kd2.below q3
      replace kd3 := kd3.below q3
      clear q3
      try go_wp2_with fail
      refine hK.out _ _ ?_ (fun hHeld => ?_)
      · exact ⟨kB, kd2, kd3⟩
      clear hK K
      try simp only [Act.put, List.setIfInBounds_toArray, List.set_cons_zero, List.set_cons_succ]
      refine wpAnyH_ready (rs := [13]) (by kernel_rfl) (by simp) ?_
      refine AllReadyH.cons (by simp only [List.getElem?_toArray, List.getElem?_cons_succ, List.getElem?_cons_zero]; rfl) (fun K hK => ?_) AllReadyH.nil
      try go_simp
      refine (ht2.out _ _ kxa2).mono ?_; rintro e wq4 ⟨vty, rfl, kxty, q4⟩
      replace kxa1 := kxa1.below q4
      replace kxtx := kxtx.below q4
      replace kxa2 := kxa2.below q4
      replace kB := kB.trans (q4.mono kB.size)
      replace kd2 := kd2.below q4
      replace kd3 := kd3.below q4
      clear q4
      try go_wp2_with fail
      refine hK.out _ _ ?_ (fun hHeld => ?_)
      · exact ⟨kB, kd2, kd3⟩
      clear hK K
      try simp only [Act.put, List.setIfInBounds_toArray, List.set_cons_zero, List.set_cons_succ]
      refine tk9 14 hHeld ?_
      refine tk9 15 hHeld ?_
      refine wpAnyH_done (by kernel_rfl) ?_ _
      refine NoPanic.normal ?_
      clear kxa1 kxa2 ha1 ha2 ht1 ht2
      have c0d2 := kd2.c0; have c1d2 := kd2.c1; have c0d3 := kd3.c0; have c1d3 := kd3.c1
      by_cases hm0 : m < 0
      · have dm : decide (m < 0) = true := by simpa using hm0
        by_cases hn0 : n < 0
        · have dn : decide (n < 0) = true := by simpa using hn0
          have hr := Lib.hid (Hnn.out (by omega) (by omega))
          have hc := Lib.hid (fun W hv hu => rcompare_calls (digs y) (digs x) vty vtx W hv hu)
          clear Hnn Hnp Hpn Hpp
          rw [hr.out] at hc
          obtain ⟨oo, ho⟩ : ∃ oo, oo = cmpO m s n t := ⟨_, rfl⟩
          rw [← ho] at hc
          have hoo := Lib.hid ho
          clear hr ho
          go_wp2_with fail
          refine (hc.out _ kxty kxtx).mono ?_; rintro e w6 ⟨rfl, b6⟩
          replace kB := kB.trans (b6.mono kB.size)
          go_wp2_with fail
          go_ret
          exact ⟨by rw [← hoo.out]; rfl, kB⟩
        · have dn : decide (n < 0) = false := by simpa using hn0
          have hr := Lib.hid (Hnp.out (by omega) (by omega))
          clear Hnn Hnp Hpn Hpp
          go_wp2_with fail
          go_ret
          exact ⟨by rw [hr.out]; rfl, kB⟩
      · have dm : decide (m < 0) = false := by simpa using hm0
        by_cases hn0 : n < 0
        · have dn : decide (n < 0) = true := by simpa using hn0
          have hr := Lib.hid (Hpn.out (by omega) (by omega))
          clear Hnn Hnp Hpn Hpp
          go_wp2_with fail
          go_ret
          exact ⟨by rw [hr.out]; rfl, kB⟩
        · have dn : decide (n < 0) = false := by simpa using hn0
          have hr := Lib.hid (Hpp.out (by omega) (by omega))
          have hc := Lib.hid (fun W hv hu => rcompare_calls (digs x) (digs y) vtx vty W hv hu)
          clear Hnn Hnp Hpn Hpp
          rw [hr.out] at hc
          obtain ⟨oo, ho⟩ : ∃ oo, oo = cmpO m s n t := ⟨_, rfl⟩
          rw [← ho] at hc
          have hoo := Lib.hid ho
          clear hr ho
          go_wp2_with fail
          refine (hc.out _ kxtx kxty).mono ?_; rintro e w6 ⟨rfl, b6⟩
          replace kB := kB.trans (b6.mono kB.size)
          go_wp2_with fail
          go_ret
          exact ⟨by rw [← hoo.out]; rfl, kB⟩

end Go.Proofs.YtgoibhbmndpgpaaGreatDoor

/- The reference's times: IsTime, Seconds, Time, Ms, Of. -/
set_option maxRecDepth 100000
set_option linter.unusedVariables false
set_option linter.unusedSimpArgs false
namespace Go.Proofs.YtgoibhbmndpgpaaGreatDoor
open Go.RowKit Dc

set_option maxHeartbeats 2000000 in
theorem risTime_calls (x : Int) (w : World) :
    Calls Tryz.prog 65 #[.int .i64 x] w fun e w' => e = .returned (.bool (isT x)) ∧ w = w' := by
  by_cases h1 : -1125899906842624 ≤ x
  · by_cases h2 : x ≤ 1125899906842624
    · have e : isT x = true := (isT_iff x).2 ⟨h1, h2⟩
      rw [e]; clear e
      go_enter Tryz.func65, Tryz.ntmps65
      go_wp2
      go_ret
      exact ⟨rfl, rfl⟩
    · have e : isT x = false := by unfold isT; simp; omega
      rw [e]; clear e
      go_enter Tryz.func65, Tryz.ntmps65
      go_wp2
      go_ret
      exact ⟨rfl, rfl⟩
  · have e : isT x = false := by unfold isT; simp; omega
    rw [e]; clear e
    go_enter Tryz.func65, Tryz.ntmps65
    go_wp2
    go_ret
    exact ⟨rfl, rfl⟩

end Go.Proofs.YtgoibhbmndpgpaaGreatDoor
