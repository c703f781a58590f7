/- The walks of the reference's plus and minus of rows of digits. -/
import Derived.Test.YtpciohnnnpgpiaaRefSumA
import Derived.Laws.OwnMore
import Derived.Lib.Builder
import Derived.Deep.DeepCutAuto
set_option linter.unusedVariables false
set_option linter.unusedSimpArgs false
namespace Go.Proofs.Ytpciohnnnpgpiaa
open Go.RowKit Dc

/-- a row of numbers -/
def rA (k : IntKind) (n : Nat) (z : Nat → Nat) : Array Value := Array.ofFn (n := n) fun i => .int k (z i.1 : Nat)
theorem rA_size (k : IntKind) (n : Nat) (z : Nat → Nat) : (rA k n z).size = n := by simp [rA]
theorem rA_at (k : IntKind) (n : Nat) (z : Nat → Nat) (i : Nat) (h : i < n) : (rA k n z)[i]? = some (.int k (z i : Nat)) := by
  unfold rA
  rw [Array.getElem?_ofFn, dif_pos h]
theorem rA_ext {k : IntKind} {n : Nat} {z z' : Nat → Nat} (h : ∀ i, i < n → z i = z' i) : rA k n z = rA k n z' := by
  apply Array.ext_getElem?
  intro i
  by_cases hi : i < n
  · rw [rA_at _ _ _ _ hi, rA_at _ _ _ _ hi, h i hi]
  · rw [Array.getElem?_eq_none (by rw [rA_size]; omega), Array.getElem?_eq_none (by rw [rA_size]; omega)]
theorem rA_set (k : IntKind) (n : Nat) (z : Nat → Nat) (m d : Nat) : (rA k n z).setIfInBounds m (.int k (d : Nat)) = rA k n (fun i => if i = m then d else z i) := by
  apply Array.ext_getElem?
  intro i
  rw [Array.getElem?_setIfInBounds]
  by_cases hi : i < n
  · rw [rA_at _ _ _ _ hi, rA_at _ _ _ _ hi, rA_size]
    by_cases h : m = i
    · subst h; simp [hi]
    · rw [if_neg h, if_neg (fun e => h e.symm)]
  · rw [Array.getElem?_eq_none (by rw [rA_size]; omega), Array.getElem?_eq_none (by rw [rA_size]; omega), rA_size]
    split
    · rename_i h; subst h; rw [if_neg hi]
    · rfl
theorem rA_zero (k : IntKind) (n : Nat) : madeCells #[Value.int k 0] n = rA k n (fun _ => 0) := by
  apply Array.ext_getElem?
  intro i
  rw [← Array.getElem?_toList, toList_madeCells_one, List.getElem?_replicate]
  by_cases hi : i < n
  · rw [if_pos hi, rA_at _ _ _ _ hi]; rfl
  · rw [if_neg hi, Array.getElem?_eq_none (by rw [rA_size]; omega)]
structure RAt (w : World) (b : Nat) (t : TypeId) (k : IntKind) (n : Nat) (z : Nat → Nat) : Prop where
  heap : w.heap[b]? = some (.cells (rA k n z) t (0, 0))
section
variable {w : World} {b : Nat} {t : TypeId} {k : IntKind} {n : Nat} {z : Nat → Nat}
theorem RAt.lt (h : RAt w b t k n z) : b < w.heap.size := (Array.getElem?_eq_some_iff.1 h.heap).1
theorem RAt.cell (h : RAt w b t k n z) (i : Nat) (hi : i < n) : w.cell? ⟨b, i, none⟩ = some (.int k (z i : Nat)) := by
  rw [Lib.cell_of_heap h.heap, rA_at _ _ _ i hi]
theorem RAt.free (h : RAt w b t k n z) (i : Nat) : w.frozen? ⟨b, i, none⟩ = false := Lib.frozen_of_heap h.heap i
theorem RAt.set (h : RAt w b t k n z) (m d : Nat) : RAt (w.setCell ⟨b, m, none⟩ (.int k (d : Nat))) b t k n (fun i => if i = m then d else z i) := ⟨by rw [heap_setCell_same w b m _ _ _ h.heap, rA_set]⟩
theorem RAt.other (h : RAt w b t k n z) (a : Addr) (v : Value) (hne : b ≠ a.block) : RAt (w.setCell a v) b t k n z := ⟨by rw [Below.heap_setCell w a v b hne]; exact h.heap⟩
theorem RAt.keep {w' : World} (h : RAt w b t k n z) (hb : Below w.heap.size w w') : RAt w' b t k n z := ⟨by rw [hb.block b h.lt]; exact h.heap⟩
theorem RAt.ext {z' : Nat → Nat} (h : RAt w b t k n z) (e : ∀ i, i < n → z i = z' i) : RAt w b t k n z' := ⟨by rw [← rA_ext e]; exact h.heap⟩
theorem RAt.drew (h : RAt w b t k n z) (m : Nat) : RAt (w.drewN m) b t k n z := ⟨h.heap⟩
end
theorem RAt.new (w : World) (t : TypeId) (k : IntKind) (n : Nat) (z : Nat → Nat) : RAt (w.alloc (.cells (rA k n z) t)) w.heap.size t k n z := ⟨heap_alloc_new w _⟩
theorem make_bytes (n : Nat) (hn : n ≤ 20000) (w : World) : (Instr.makeSlice 49 (.int .i64 (n : Int)) (.int .i64 (n : Int))).run Try.prog w = .ok (.slice (some ⟨w.heap.size, 0, none⟩) n n) (w.alloc (.cells (rA .u8 n (fun _ => 0)) 5)) := by
  obtain ⟨i, hi, hz, h1, h2⟩ := info_parts (P := Try.prog) (t := 5) (z := .int .u8 0) (n := 1) (m := 1) (by kernel_rfl)
  have h := run_make (P := Try.prog) w 49 5 i (.int .u8 0) Try.underlying49 hi hz .i64 .i64 n n (by omega) (by omega) (by rw [h2]; omega) (by omega)
  rw [h, h1, ← rA_zero]
  simp [Value.cells]
/-- so many digits of a number, the first one first -/
def drow (N n : Nat) : List Nat := (List.range n).map fun t => dgt N (n - 1 - t)
theorem drow_len (N n : Nat) : (drow N n).length = n := by simp [drow]
theorem drow_succ (N n : Nat) : drow N (n + 1) = dgt N n :: drow N n := by
  unfold drow
  rw [List.range_succ_eq_map, List.map_cons, List.map_map]
  congr 1
  apply List.map_congr_left
  intro t _
  show dgt N (n + 1 - 1 - (t + 1)) = _
  congr 1; omega
theorem drow_val (N n : Nat) : valN (drow N n) = N % 10 ^ n := by
  induction n with
  | zero => simp [drow, valN, Nat.mod_one]
  | succ n ih => rw [drow_succ, valN_cons, drow_len, ih, mod_step]; omega
theorem drow_le (N n : Nat) : ∀ d ∈ drow N n, d ≤ 9 := by
  intro d hd
  unfold drow at hd
  obtain ⟨t, _, rfl⟩ := List.mem_map.1 hd
  exact dgt_le _ _
theorem drow_trim (N n : Nat) (h : N < 10 ^ n) : trimN (drow N n) = digs N := by
  rw [trimN_digs _ (drow_le N n), drow_val, Nat.mod_eq_of_lt h]
theorem RAt.row {w : World} {b n N : Nat} {z : Nat → Nat} (h : RAt w b 5 .u8 n z) (hz : ∀ t, t < n → z t = dgt N (n - 1 - t)) (hm : n ≤ maxLen) : DR w (.slice (some ⟨b, 0, none⟩) n n) (drow N n) := by
  refine ⟨_, n, by rw [drow_len], by rw [drow_len]; exact Nat.le_refl _, hm, fun _ => ⟨b, 0, rfl, h.lt, fun j d hj => ?_⟩⟩
  have hjn : j < n := by have := (List.getElem?_eq_some_iff.1 hj).1; rwa [drow_len] at this
  unfold drow at hj
  rw [List.getElem?_map, List.getElem?_range hjn] at hj
  simp at hj
  rw [Nat.zero_add, h.cell j hjn, hz j hjn, hj]
theorem digs_at (x i : Nat) (h1 : 1 ≤ i) (h2 : i ≤ (digs x).length) : (digs x)[(digs x).length - i]? = some (dgt x (i - 1)) := by
  have hlt : (digs x).length - i < (digs x).length := by omega
  have h := val_at (digs x) (digs_le x) _ _ (List.getElem?_eq_getElem hlt)
  rw [List.getElem?_eq_getElem hlt, h, digs_val]
  congr 2; omega
theorem digs_above (x i : Nat) (h : (digs x).length < i) : dgt x (i - 1) = 0 := dgt_of_le (digs_lt x) (by omega)

set_option maxRecDepth 100000 in
set_option maxHeartbeats 4000000 in
theorem rplus_calls (x y : Nat) (v u : Value) (w : World) (hv : DR w v (digs x)) (hu : DR w u (digs y)) (hx : x < 10 ^ 80) (hy : y < 10 ^ 80) :
    Calls Try.prog 47 #[v, u] w fun e w' => ∃ v', e = .returned v' ∧ DR w' v' (digs (x + y)) ∧ Below w.heap.size w w' := by
  obtain ⟨A, capa, rfl, h1, h2, h3⟩ := hv
  obtain ⟨B, capb, rfl, k1, k2, k3⟩ := hu
  have hla : (digs x).length ≤ 80 := digs_len_le hx
  have hlb : (digs y).length ≤ 80 := digs_len_le hy
  have Ha : Hid (∀ i, 1 ≤ i → i ≤ (digs x).length → ∃ b off, A = some ⟨b, off, none⟩ ∧ b < w.heap.size ∧ w.cell? ⟨b, off + ((digs x).length - i), none⟩ = some (.int .u8 (dgt x (i - 1) : Nat))) := fun i a b => by
    obtain ⟨g, off, e, hl, hc⟩ := h3 (by omega)
    exact ⟨g, off, e, hl, hc _ _ (digs_at x i a b)⟩
  have Hb : Hid (∀ i, 1 ≤ i → i ≤ (digs y).length → ∃ b off, B = some ⟨b, off, none⟩ ∧ b < w.heap.size ∧ w.cell? ⟨b, off + ((digs y).length - i), none⟩ = some (.int .u8 (dgt y (i - 1) : Nat))) := fun i a b => by
    obtain ⟨g, off, e, hl, hc⟩ := k3 (by omega)
    exact ⟨g, off, e, hl, hc _ _ (digs_at y i a b)⟩
  have hza : Hid (∀ i, (digs x).length < i → dgt x (i - 1) = 0) := fun i h => digs_above x i h
  have hzb : Hid (∀ i, (digs y).length < i → dgt y (i - 1) = 0) := fun i h => digs_above y i h
  have hsum : x + y < 10 ^ (max (digs x).length (digs y).length + 1) := by
    have a := digs_lt x
    have b := digs_lt y
    have a2 : 10 ^ (digs x).length ≤ 10 ^ max (digs x).length (digs y).length := Nat.pow_le_pow_right (by omega) (by omega)
    have b2 : 10 ^ (digs y).length ≤ 10 ^ max (digs x).length (digs y).length := Nat.pow_le_pow_right (by omega) (by omega)
    rw [Nat.pow_succ]; omega
  obtain ⟨la, hlae⟩ : ∃ la, la = (digs x).length := ⟨_, rfl⟩
  obtain ⟨lb, hlbe⟩ : ∃ lb, lb = (digs y).length := ⟨_, rfl⟩
  rw [← hlae] at h1 hla Ha hza hsum ⊢
  rw [← hlbe] at k1 hlb Hb hzb hsum ⊢
  obtain ⟨n, hn⟩ : ∃ n, n = max la lb + 1 := ⟨_, rfl⟩
  rw [← hn] at hsum
  have hnb : n ≤ 81 := by omega
  have hmk := fun W => make_bytes n (by omega) W
  have hni : max (la : Int) (lb : Int) + 1 = ((n : Nat) : Int) := by omega
  have htr := Lib.hid (fun W V (hV : DR W V (drow (x + y) n)) => rtrim_calls (drow (x + y) n) V W hV (fun d hd => Nat.le_trans (drow_le _ _ d hd) (by omega)))
  rw [drow_trim _ _ hsum] at htr
  unfold maxLen at h2 k2
  have Hn := Lib.hid hn
  clear h3 k3 hlae hlbe hsum hx hy hn
  go_enter Try.func47, Try.ntmps47
  go_upto_region 1 with (fail)
  go_cut [5] (fun s5 wx => s5 = .int .i64 (n : Nat) ∧ wx = w)
  case first =>
    clear hmk hni htr Ha Hb hza hzb
    go_wp2_with fail
    all_goals (go_meet; exact ⟨congrArg (Value.int .i64) (by have := Hn.out; omega), rfl⟩)
  obtain ⟨rfl, hw⟩ := hcut
  rw [hw]
  clear hw hni
  go_wp2_with fail
  have kB := (Below.refl w.heap.size w).alloc (Nat.le_refl _) (.cells (rA .u8 n (fun _ => 0)) 5)
  have kr := RAt.new w 5 .u8 n (fun _ => 0)
  have H0 := Lib.hid (⟨kB, kr⟩ : _ ∧ _)
  generalize w.alloc (.cells (rA .u8 n (fun _ => 0)) 5) = W at *
  clear kB kr hmk
  go_loopw [7, 8] (fun s7 s8 wr => ∃ i c : Nat, 1 ≤ i ∧ i ≤ n + 1 ∧ c ≤ 1 ∧ s7 = .int .i64 (c : Nat) ∧ s8 = .int .i64 (i : Nat) ∧ Hid (Below w.heap.size w wr ∧ c = cy x y (i - 1) ∧ RAt wr w.heap.size 5 .u8 n (fun t => if n - t < i then dgt (x + y) (n - 1 - t) else 0))) (fun _ s8 _ => n + 2 - (intOf s8).toNat)
  case atStart => exact ⟨1, 0, by omega, by omega, by omega, rfl, rfl, H0.out.1, (cy_zero x y).symm, H0.out.2.ext fun t ht => by rw [if_neg (by omega)]⟩
  case round =>
    clear H0
    obtain ⟨i, c, hi1, hin, hc1, rfl, rfl, HH⟩ := hrel
    by_cases hi : i ≤ n
    · have c0 := HH.out.2.2.cell (n - i) (by omega)
      have f0 := HH.out.2.2.free (n - i)
      have hda9 := dgt_le x (i - 1)
      have hdb9 := dgt_le y (i - 1)
      have hD : Hid (dgt (x + y) (i - 1) = (dgt x (i - 1) + dgt y (i - 1) + c) % 10 ∧ cy x y i = (dgt x (i - 1) + dgt y (i - 1) + c) / 10) := by
        have h1 := plus_dgt x y (i - 1)
        have h2 := cy_step x y (i - 1)
        rw [← HH.out.2.1] at h1 h2
        rw [show i - 1 + 1 = i by omega] at h2
        exact ⟨h1, h2⟩
      have hix : ((n : Nat) : Int) - (i : Int) = ((n - i : Nat) : Int) := by omega
      have hxa : i ≤ la → ((la : Nat) : Int) - (i : Int) = ((la - i : Nat) : Int) := fun h => by omega
      have hxb : i ≤ lb → ((lb : Nat) : Int) - (i : Int) = ((lb - i : Nat) : Int) := fun h => by omega
      have hfin : Hid (∀ (wq : World) (a b : Nat), dgt x (i - 1) = a → dgt y (i - 1) = b → wq = wr.setCell ⟨w.heap.size, n - i, none⟩ (.int .u8 (((a + b + c) % 10 : Nat) : Int)) → Below w.heap.size w wq ∧ (a + b + c) / 10 = cy x y (i + 1 - 1) ∧ RAt wq w.heap.size 5 .u8 n (fun t => if n - t < i + 1 then dgt (x + y) (n - 1 - t) else 0)) := fun wq a b ea eb e => by
        subst e
        rw [← ea, ← eb]
        refine ⟨Below.setCell (p := ⟨w.heap.size, n - i, none⟩) HH.out.1 (by simp) _, by rw [Nat.add_sub_cancel, hD.out.2], (HH.out.2.2.set (n - i) ((dgt x (i - 1) + dgt y (i - 1) + c) % 10)).ext fun t ht => ?_⟩
        by_cases h : t = n - i
        · subst h
          rw [if_pos rfl, if_pos (by omega), ← hD.out.1]; congr 1; omega
        · rw [if_neg h]
          by_cases h3 : n - t < i
          · rw [if_pos h3, if_pos (by omega)]
          · rw [if_neg h3, if_neg (by omega)]
      by_cases hia : i ≤ la
      · by_cases hib : i ≤ lb
        · obtain ⟨ba, offa, hAa, hlta, eca⟩ := Ha.out i hi1 hia
          subst hAa
          have ea := (HH.out.1.cell (p := ⟨ba, offa + (la - i), none⟩) hlta).trans eca
          obtain ⟨bb, offb, hBb, hltb, ecb⟩ := Hb.out i hi1 hib
          subst hBb
          have eb := (HH.out.1.cell (p := ⟨bb, offb + (lb - i), none⟩) hltb).trans ecb
          have hxa2 := hxa hia
          have hxb2 := hxb hib
          clear hxa hxb hD
          generalize hda : dgt x (i - 1) = da at *
          generalize hdb : dgt y (i - 1) = db at *
          have Hd := Lib.hid (⟨hda, hdb⟩ : _ ∧ _)
          clear hda hdb
          go_wp2_with fail
          go_roundw
          case rel =>
            have e1 : ((c : Int) + (da : Int) + (db : Int)) % 10 = (((da + db + c) % 10 : Nat) : Int) := by omega
            have e2 : ((c : Int) + (da : Int) + (db : Int)) / 10 = (((da + db + c) / 10 : Nat) : Int) := by omega
            rw [e1, e2]
            exact ⟨i + 1, (da + db + c) / 10, by omega, by omega, by omega, rfl, by go_num, hfin.out _ da db rfl rfl rfl⟩
          case measure => simp [intOf]; omega
        · obtain ⟨ba, offa, hAa, hlta, eca⟩ := Ha.out i hi1 hia
          subst hAa
          have ea := (HH.out.1.cell (p := ⟨ba, offa + (la - i), none⟩) hlta).trans eca
          have db0 : dgt y (i - 1) = 0 := hzb.out i (by omega)
          have hxa2 := hxa hia
          clear hxa hxb hD
          generalize hda : dgt x (i - 1) = da at *
          generalize hdb : dgt y (i - 1) = db at *
          subst db0
          have Hd := Lib.hid (⟨hda, hdb⟩ : _ ∧ _)
          clear hda hdb
          go_wp2_with fail
          go_roundw
          case rel =>
            have e1 : ((c : Int) + (da : Int)) % 10 = (((da + 0 + c) % 10 : Nat) : Int) := by omega
            have e2 : ((c : Int) + (da : Int)) / 10 = (((da + 0 + c) / 10 : Nat) : Int) := by omega
            rw [e1, e2]
            exact ⟨i + 1, (da + 0 + c) / 10, by omega, by omega, by omega, rfl, by go_num, hfin.out _ da 0 rfl rfl rfl⟩
          case measure => simp [intOf]; omega
      · by_cases hib : i ≤ lb
        · have da0 : dgt x (i - 1) = 0 := hza.out i (by omega)
          obtain ⟨bb, offb, hBb, hltb, ecb⟩ := Hb.out i hi1 hib
          subst hBb
          have eb := (HH.out.1.cell (p := ⟨bb, offb + (lb - i), none⟩) hltb).trans ecb
          have hxb2 := hxb hib
          clear hxa hxb hD
          generalize hda : dgt x (i - 1) = da at *
          generalize hdb : dgt y (i - 1) = db at *
          subst da0
          have Hd := Lib.hid (⟨hda, hdb⟩ : _ ∧ _)
          clear hda hdb
          go_wp2_with fail
          go_roundw
          case rel =>
            have e1 : ((c : Int) + (db : Int)) % 10 = (((0 + db + c) % 10 : Nat) : Int) := by omega
            have e2 : ((c : Int) + (db : Int)) / 10 = (((0 + db + c) / 10 : Nat) : Int) := by omega
            rw [e1, e2]
            exact ⟨i + 1, (0 + db + c) / 10, by omega, by omega, by omega, rfl, by go_num, hfin.out _ 0 db rfl rfl rfl⟩
          case measure => simp [intOf]; omega
        · have da0 : dgt x (i - 1) = 0 := hza.out i (by omega)
          have db0 : dgt y (i - 1) = 0 := hzb.out i (by omega)
          clear hxa hxb hD
          generalize hda : dgt x (i - 1) = da at *
          generalize hdb : dgt y (i - 1) = db at *
          subst da0
          subst db0
          have Hd := Lib.hid (⟨hda, hdb⟩ : _ ∧ _)
          clear hda hdb
          go_wp2_with fail
          go_roundw
          case rel =>
            have e1 : ((c : Int)) % 10 = (((0 + 0 + c) % 10 : Nat) : Int) := by omega
            have e2 : ((c : Int)) / 10 = (((0 + 0 + c) / 10 : Nat) : Int) := by omega
            rw [e1, e2]
            exact ⟨i + 1, (0 + 0 + c) / 10, by omega, by omega, by omega, rfl, by go_num, hfin.out _ 0 0 rfl rfl rfl⟩
          case measure => simp [intOf]; omega
    · obtain rfl : i = n + 1 := by omega
      have hd := HH.out.2.2.row (N := x + y) (fun t ht => if_pos (by omega)) (by unfold maxLen; omega)
      have hB := HH.out.1
      have htd := Lib.hid (htr.out wr _ hd)
      clear htr hd HH
      go_wp2_with fail
      refine htd.out.mono ?_; rintro e w2 ⟨v', rfl, d2, rfl⟩
      go_wp2_with fail
      go_ret
      exact ⟨v', rfl, d2, hB⟩

end Go.Proofs.Ytpciohnnnpgpiaa
