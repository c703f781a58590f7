/- The walks of package dec's digits: spread, join, gather. -/
import Derived.Test.YtmbpldnclnahmaaDoorDecB
import Derived.Test.YtmbpldnclnahmaaDoorDecN
import Derived.Deep.WholeRow
import Derived.Lib.Builder
import Derived.Lib.SmallJoins
set_option linter.unusedVariables false
set_option linter.unusedSimpArgs false
namespace Go.Proofs.YtmbpldnclnahmaaDoor
open Go.RowKit Dc

/-- the nineteen digits of a number, the last one first -/
def dA (z : Nat → Nat) : Array Value := Array.ofFn (n := 19) fun i => .int .u8 (z i.1 : Nat)
theorem dA_size (z : Nat → Nat) : (dA z).size = 19 := by simp [dA]
theorem dA_at (z : Nat → Nat) (i : Nat) (h : i < 19) : (dA z)[i]? = some (.int .u8 (z i : Nat)) := by
  unfold dA
  rw [Array.getElem?_ofFn, dif_pos h]
theorem dA_one (z : Nat → Nat) : (dA z).all (·.oneCell') = true := by
  rw [Array.all_eq_true]
  intro i hi
  have h := dA_at z i (by rw [dA_size] at hi; exact hi)
  rw [Array.getElem?_eq_getElem hi] at h
  rw [Option.some.inj h]; rfl
theorem dA_set (z : Nat → Nat) (n d : Nat) : (dA z).setIfInBounds n (.int .u8 (d : Nat)) = dA (fun i => if i = n then d else z i) := by
  apply Array.ext_getElem?
  intro i
  rw [Array.getElem?_setIfInBounds]
  by_cases hi : i < 19
  · rw [dA_at _ _ hi, dA_at _ _ hi, dA_size]
    by_cases h : n = i
    · subst h; simp [hi]
    · rw [if_neg h, if_neg (fun e => h e.symm)]
  · rw [Array.getElem?_eq_none (by rw [dA_size]; omega), Array.getElem?_eq_none (by rw [dA_size]; omega), dA_size]
    split
    · rename_i h; subst h; rw [if_neg hi]
    · rfl
theorem dA_ext {z z' : Nat → Nat} (h : ∀ i, i < 19 → z i = z' i) : dA z = dA z' := by
  apply Array.ext_getElem?
  intro i
  by_cases hi : i < 19
  · rw [dA_at _ _ hi, dA_at _ _ hi, h i hi]
  · rw [Array.getElem?_eq_none (by rw [dA_size]; omega), Array.getElem?_eq_none (by rw [dA_size]; omega)]

/-- nineteen digits lie in block b -/
structure DigAt (w : World) (b : Nat) (z : Nat → Nat) : Prop where
  heap : w.heap[b]? = some (.cells (dA z) 75 (0, 0))
theorem DigAt.lt {w : World} {b : Nat} {z : Nat → Nat} (h : DigAt w b z) : b < w.heap.size := (Array.getElem?_eq_some_iff.1 h.heap).1
theorem DigAt.cell {w : World} {b : Nat} {z : Nat → Nat} (h : DigAt w b z) (i : Nat) (hi : i < 19) : w.cell? ⟨b, i, none⟩ = some (.int .u8 (z i : Nat)) := by
  rw [Lib.cell_of_heap h.heap, dA_at z i hi]
theorem DigAt.free {w : World} {b : Nat} {z : Nat → Nat} (h : DigAt w b z) (i : Nat) : w.frozen? ⟨b, i, none⟩ = false := Lib.frozen_of_heap h.heap i
theorem DigAt.set {w : World} {b : Nat} {z : Nat → Nat} (h : DigAt w b z) (n d : Nat) : DigAt (w.setCell ⟨b, n, none⟩ (.int .u8 (d : Nat))) b (fun i => if i = n then d else z i) :=
  ⟨by rw [heap_setCell_same w b n _ _ _ h.heap, dA_set]⟩
theorem DigAt.other {w : World} {b : Nat} {z : Nat → Nat} (h : DigAt w b z) (a : Addr) (v : Value) (hne : b ≠ a.block) : DigAt (w.setCell a v) b z :=
  ⟨by rw [Below.heap_setCell w a v b hne]; exact h.heap⟩
theorem DigAt.below {w w' : World} {b B : Nat} {z : Nat → Nat} (h : DigAt w b z) (hb : Below B w w') (hB : b < B) : DigAt w' b z :=
  ⟨by rw [hb.block b hB]; exact h.heap⟩
theorem DigAt.new (w : World) (z : Nat → Nat) : DigAt (w.alloc (.cells (dA z) 75)) w.heap.size z := ⟨heap_alloc_new w _⟩
theorem DigAt.ext {w : World} {b : Nat} {z z' : Nat → Nat} (h : DigAt w b z) (e : ∀ i, i < 19 → z i = z' i) : DigAt w b z' := ⟨by rw [← dA_ext e]; exact h.heap⟩
theorem zeros_dA : (Obj.cells #[.int .u8 0, .int .u8 0, .int .u8 0, .int .u8 0, .int .u8 0, .int .u8 0, .int .u8 0, .int .u8 0, .int .u8 0, .int .u8 0, .int .u8 0, .int .u8 0, .int .u8 0, .int .u8 0, .int .u8 0, .int .u8 0, .int .u8 0, .int .u8 0, .int .u8 0] 75 (0, 0)) = .cells (dA (fun _ => 0)) 75 (0, 0) := by
  congr 1
theorem dig_info : (Tryd.prog.info? 75).map (·.size) = some 19 := by kernel_rfl
theorem DigAt.row {w : World} {b : Nat} {z : Nat → Nat} (h : DigAt w b z) (z' : Nat → Nat) : DigAt (w.setRow b (dA z')) b z' := ⟨setRow_heap w b _ _ _ _ h.heap⟩
theorem DigAt.value {w : World} {b : Nat} {z : Nat → Nat} (h : DigAt w b z) : (loadVar 75 ⟨b, 0, none⟩).run Tryd.prog w = .ok (.agg (dA z)) w :=
  run_loadVar_row w b _ _ _ _ _ h.heap Tryd.underlying75 rfl (by rw [dA_size]; exact dig_info)

set_option maxRecDepth 100000 in
set_option maxHeartbeats 2000000 in
theorem spread_calls (m : Nat) (w : World) (hm : m ≤ big) :
    Calls Tryd.prog 48 #[.int .i64 (m : Nat)] w fun e w' => e = .returned (.tuple #[.agg (dA (dgt m)), .int .i64 ((digs m).length : Nat)]) ∧ Below w.heap.size w w' := by
  have hl := digs_small hm
  unfold big at hm
  go_enter Tryd.func48, Tryd.ntmps48
  go_wp2
  rw [zeros_dA]
  have b1 := (Below.refl w.heap.size w).alloc (Nat.le_refl _) (.cells (dA (fun _ => 0)) 75)
  have b2 := kb_alloc b1 (Nat.le_refl _) (.cells (dA (fun _ => 0)) 75)
  have d1 := DigAt.new w (fun _ => 0)
  have d2 := DigAt.new (w.alloc (.cells (dA (fun _ => 0)) 75)) (fun _ => 0)
  have d1' : DigAt ((w.alloc (.cells (dA (fun _ => 0)) 75)).alloc (.cells (dA (fun _ => 0)) 75)) w.heap.size (fun _ => 0) := ⟨(Lib.alloc_old _ _ _ (by simp)).trans d1.heap⟩
  rw [show (w.alloc (.cells (dA (fun _ => 0)) 75)).heap.size = w.heap.size + 1 by simp] at d2
  generalize (w.alloc (.cells (dA (fun _ => 0)) 75)).alloc (.cells (dA (fun _ => 0)) 75) = W at *
  clear d1 b1
  go_loopw [0, 5] (fun s0 s5 wr => ∃ n q : Nat, n ≤ 19 ∧ q ≤ m ∧ s5 = .int .i64 (n : Nat) ∧ s0 = .int .i64 (q : Nat) ∧ Hid (q = m / 10 ^ n ∧ (digs q).length + n = (digs m).length ∧ Below w.heap.size w wr ∧ DigAt wr w.heap.size (fun _ => 0) ∧ DigAt wr (w.heap.size + 1) (fun i => if i < n then dgt m i else 0))) (fun s0 _ _ => (intOf s0).toNat)
  case atStart => exact ⟨0, m, by omega, Nat.le_refl _, rfl, rfl, by simp, by simp, b2, d1', d2.ext (fun i _ => by simp)⟩
  case round =>
    obtain ⟨n, q, hn, hq, rfl, rfl, H⟩ := hrel
    obtain ⟨hq2, hql, hB, hd1, hd2⟩ := H.out
    by_cases h0 : q = 0
    · subst h0
      have Hq := Lib.hid hql
      clear hq2 hql d1' d2 b2 H
      go_wp2_with (first
        | (refine wpList_load_row rfl 75 _ rfl (w.heap.size + 1) rfl 75 _ (0, 0) _ hd2.heap Tryd.underlying75 rfl (by rw [dA_size]; exact dig_info) ?_)
        | (refine wpList_store_row rfl 75 _ _ rfl w.heap.size _ rfl rfl 75 _ hd1.heap (by rw [dA_size]; exact dig_info) (by rw [dA_size, dA_size]) (dA_one _) ?_))
      have hd3 := hd1.row (fun i => if i < n then dgt m i else 0)
      have hlen : n = (digs m).length := by have := Hq.out; rw [digs_zero] at this; simpa using this
      have hv := hd3.value
      have hex : dA (fun i => if i < n then dgt m i else 0) = dA (dgt m) := dA_ext fun i _ => by
        by_cases h : i < n
        · rw [if_pos h]
        · rw [if_neg h]
          have h1 := digs_lt m
          have h2 : 10 ^ (digs m).length ≤ 10 ^ i := Nat.pow_le_pow_right (by omega) (by omega)
          unfold dgt
          rw [Nat.div_eq_of_lt (by omega)]
      rw [hex] at hv ⊢
      refine bodyPost_ret (v := .tuple #[.agg (dA (dgt m)), .int .i64 (n : Nat)]) (by simp [results, Tryd.results48, asAddr, hv, Result.andThen]) rfl ⟨by rw [hlen], below_setRow hB (Nat.le_refl _) _⟩
    · have hn19 : n < 19 := by
        rw [digs_pos h0, List.length_append, List.length_singleton] at hql
        omega
      have hc := hd2.cell n hn19
      have hf := hd2.free n
      have Hq := Lib.hid hq2
      have Hl := Lib.hid hql
      have HB := Lib.hid hB
      have H1 := Lib.hid hd1
      have H2 := Lib.hid hd2
      clear hq2 hql hB hd1 hd2 H d1' d2 b2
      go_wp2
      go_roundw
      case rel =>
        have e1 : ((q : Int) % 10) = ((q % 10 : Nat) : Int) := by omega
        have e2 : ((q : Int) / 10) = ((q / 10 : Nat) : Int) := by omega
        have hq2 := Hq.out
        have hql := Hl.out
        rw [digs_pos h0, List.length_append, List.length_singleton] at hql
        rw [e1, e2]
        refine ⟨n + 1, q / 10, hn19, by omega, by go_num, rfl, by rw [hq2, Nat.div_div_eq_div_mul, Nat.pow_succ], by omega, HB.out.setCell (p := ⟨w.heap.size + 1, n, none⟩) (by simp) _, H1.out.other _ _ (by simp), (H2.out.set n (q % 10)).ext fun i _ => ?_⟩
        by_cases h : i = n
        · subst h; rw [if_pos rfl, if_pos (by omega), hq2]; rfl
        · rw [if_neg h]
          by_cases h3 : i < n
          · rw [if_pos h3, if_pos (by omega)]
          · rw [if_neg h3, if_neg (by omega)]
      case measure => simp [intOf]; omega

/-- the number of the first k digits, the highest one first -/
def topN (z : Nat → Nat) : Nat → Nat
  | 0 => 0
  | k + 1 => 10 * topN z k + z (18 - k)
theorem topN_lt (z : Nat → Nat) (hz : ∀ i, i < 19 → z i ≤ 9) (k : Nat) : topN z k < 10 ^ k := by
  induction k with
  | zero => exact Nat.one_pos
  | succ k ih =>
    have := hz (18 - k) (by omega)
    rw [topN, Nat.pow_succ]; omega

set_option maxRecDepth 100000 in
set_option maxHeartbeats 2000000 in
theorem join_calls (z : Nat → Nat) (hz : ∀ i, i < 19 → z i ≤ 9) (w : World) :
    Calls Tryd.prog 59 #[.agg (dA z)] w fun e w' => e = .returned (joinV (topN z 19)) ∧ Below w.heap.size w w' := by
  have b1 := (Below.refl w.heap.size w).alloc (Nat.le_refl _) (.cells (dA z) 75)
  have d1 := DigAt.new w z
  have hs := dA_size z
  have hone := dA_one z
  have B1 := Lib.hid b1
  have D1 := Lib.hid d1
  have Hz := Lib.hid hz
  clear b1 d1 hz
  go_enter Tryd.func59, Tryd.ntmps59
  go_wp2
  generalize w.alloc (.cells (dA z) 75) = W at *
  clear hs hone
  go_loop [4, 5] (fun s4 s5 => ∃ j t : Nat, j ≤ 19 ∧ s5 = .int .i64 ((j : Int) - 1) ∧ s4 = .int .u64 (t : Nat) ∧ Hid (t = topN z (19 - j))) (fun _ s5 => (intOf s5 + 1).toNat)
  case atStart => exact ⟨19, 0, Nat.le_refl _, rfl, rfl, rfl⟩
  case round =>
    obtain ⟨j, t, hj, rfl, rfl, H⟩ := hrel
    rcases j with _ | j
    · have hb := topN_lt z Hz.out 19
      have ht : t = topN z 19 := H.out
      rw [← ht] at hb
      have Ht := Lib.hid ht
      clear ht
      by_cases h : t ≤ 9223372036854775807
      · go_wp2
        go_ret2
        refine ⟨?_, B1.out⟩
        rw [← Ht.out, joinV, if_pos (show t ≤ big from h)]; rfl
      · go_wp2
        go_ret2
        refine ⟨?_, B1.out⟩
        rw [← Ht.out, joinV, if_neg (show ¬ t ≤ big from h)]; rfl
    · have e : ((j + 1 : Nat) : Int) - 1 = (j : Int) := by omega
      rw [e]
      have hc := D1.out.cell j (by omega)
      have hstep : topN z (19 - j) = 10 * t + z j := by
        have ht : t = topN z (19 - (j + 1)) := H.out
        rw [show 19 - j = (19 - (j + 1)) + 1 by omega, topN, ← ht]
        congr 2; omega
      have hlt := topN_lt z Hz.out (19 - j)
      have hp : 10 ^ (19 - j) ≤ 10 ^ 19 := Nat.pow_le_pow_right (by omega) (by omega)
      have hb : 10 * t + z j < 10000000000000000000 := by omega
      have Hs := Lib.hid hstep
      clear hstep hlt hp e
      generalize z j = d at *
      go_wp2
      go_round
      case rel => exact ⟨j, 10 * t + d, by omega, rfl, by go_num, Hs.out.symm⟩
      case measure => simp [intOf]

/-- the digits of a text, the last one first -/
def zOf (l : List UInt8) (i : Nat) : Nat := if i < l.length then dv (l.getD (l.length - 1 - i) 0) else 0
theorem zOf_le (l : List UInt8) (h : allDg l) (i : Nat) : zOf l i ≤ 9 := by
  unfold zOf
  split
  · rename_i hi
    have : l.length - 1 - i < l.length := by omega
    rw [List.getD_eq_getElem?_getD, List.getElem?_eq_getElem this]
    have := (dg_iff _).1 (h _ (List.getElem_mem this))
    show dv _ ≤ 9
    unfold dv
    simp only [Option.getD_some]
    omega
  · omega
theorem zOf_top (l : List UInt8) (h : l.length ≤ 19) : topN (zOf l) 19 = valN (vals l) := by
  have h0 : ∀ k, k ≤ 19 - l.length → topN (zOf l) k = 0 := by
    intro k
    induction k with
    | zero => intro _; rfl
    | succ k ih =>
      intro hk
      rw [topN, ih (by omega)]
      unfold zOf
      rw [if_neg (by omega)]
  have h1 : ∀ j, j ≤ l.length → topN (zOf l) (19 - l.length + j) = valN (vals (l.take j)) := by
    intro j
    induction j with
    | zero => intro _; rw [Nat.add_zero, h0 _ (Nat.le_refl _)]; rfl
    | succ j ih =>
      intro hj
      rw [← Nat.add_assoc, topN, ih (by omega), List.take_succ_eq_append_getElem (by omega : j < l.length), vals_app]
      have e : vals [l[j]] = [dv l[j]] := rfl
      rw [e, valN_snoc]
      unfold zOf
      rw [if_pos (by omega), show l.length - 1 - (18 - (19 - l.length + j)) = j by omega, List.getD_eq_getElem?_getD, List.getElem?_eq_getElem (by omega : j < l.length)]
      rfl
  have := h1 l.length (Nat.le_refl _)
  rw [show 19 - l.length + l.length = 19 by omega, List.take_of_length_le (Nat.le_refl _)] at this
  exact this

set_option maxRecDepth 100000 in
set_option maxHeartbeats 2000000 in
theorem gather_calls (l : List UInt8) (hl : l.length ≤ 19) (hd : allDg l) (w : World) :
    Calls Tryd.prog 58 #[.string (str l)] w fun e w' => e = .returned (.agg (dA (zOf l))) ∧ Below w.heap.size w w' := by
  have Hd := Lib.hid hd
  clear hd
  go_enter Tryd.func58, Tryd.ntmps58
  go_wp2
  rw [zeros_dA]
  have b1 := (Below.refl w.heap.size w).alloc (Nat.le_refl _) (.cells (dA (fun _ => 0)) 75)
  have b2 := kb_alloc b1 (Nat.le_refl _) (.cells (dA (fun _ => 0)) 75)
  have d1 := DigAt.new w (fun _ => 0)
  have d2 := DigAt.new (w.alloc (.cells (dA (fun _ => 0)) 75)) (fun _ => 0)
  have d1' : DigAt ((w.alloc (.cells (dA (fun _ => 0)) 75)).alloc (.cells (dA (fun _ => 0)) 75)) w.heap.size (fun _ => 0) := ⟨(Lib.alloc_old _ _ _ (by simp)).trans d1.heap⟩
  rw [show (w.alloc (.cells (dA (fun _ => 0)) 75)).heap.size = w.heap.size + 1 by simp] at d2
  generalize (w.alloc (.cells (dA (fun _ => 0)) 75)).alloc (.cells (dA (fun _ => 0)) 75) = W at *
  clear d1 b1
  go_loopw [7] (fun s7 wr => ∃ n : Nat, n ≤ l.length ∧ s7 = .int .i64 (n : Nat) ∧ Hid (Below w.heap.size w wr ∧ DigAt wr w.heap.size (fun _ => 0) ∧ DigAt wr (w.heap.size + 1) (fun i => if l.length - n ≤ i then zOf l i else 0))) (fun s7 _ => l.length - (intOf s7).toNat)
  case atStart => exact ⟨0, by omega, rfl, b2, d1', d2.ext (fun i _ => by
    by_cases h : l.length - 0 ≤ i
    · rw [if_pos h]; unfold zOf; rw [if_neg (by omega)]
    · rw [if_neg h])⟩
  case round =>
    obtain ⟨n, hn, rfl, H⟩ := hrel
    obtain ⟨hB, hd1, hd2⟩ := H.out
    by_cases h0 : n < l.length
    · have hc := hd2.cell (l.length - 1 - n) (by omega)
      have hf := hd2.free (l.length - 1 - n)
      have hat : l[n] ∈ l := List.getElem_mem h0
      have hdg := (dg_iff _).1 (Hd.out _ hat)
      have hb := UInt8.toNat_lt l[n]
      have hz : zOf l (l.length - 1 - n) = dv l[n] := by
        unfold zOf
        rw [if_pos (by omega), show l.length - 1 - (l.length - 1 - n) = n by omega, List.getD_eq_getElem?_getD, List.getElem?_eq_getElem h0]; rfl
      have hsz := str_size l
      have hix := str_at l n (by omega)
      have HB := Lib.hid hB
      have H1 := Lib.hid hd1
      have H2 := Lib.hid hd2
      have Hz := Lib.hid hz
      have hidx : ((l.length : Nat) : Int) - 1 - (n : Int) = ((l.length - 1 - n : Nat) : Int) := by omega
      clear hB hd1 hd2 H d1' d2 b2 hz hat
      go_wp2
      go_roundw
      case rel =>
        have e1 : ((l[n].toNat : Int) - 48) = ((dv l[n] : Nat) : Int) := by unfold dv; omega
        rw [e1]
        refine ⟨n + 1, h0, by go_num, HB.out.setCell (p := ⟨w.heap.size + 1, l.length - 1 - n, none⟩) (by simp) _, H1.out.other _ _ (by simp), (H2.out.set (l.length - 1 - n) (dv l[n])).ext fun i _ => ?_⟩
        by_cases h : i = l.length - 1 - n
        · rw [if_pos h, if_pos (by omega), h, Hz.out]
        · rw [if_neg h]
          by_cases h3 : l.length - n ≤ i
          · rw [if_pos h3, if_pos (by omega)]
          · rw [if_neg h3, if_neg (by omega)]
      case measure => simp [intOf]; omega
    · obtain rfl : n = l.length := by omega
      clear d1' d2 b2 H
      go_wp2_with (first
        | (refine wpList_load_row rfl 75 _ rfl (w.heap.size + 1) rfl 75 _ (0, 0) _ hd2.heap Tryd.underlying75 rfl (by rw [dA_size]; exact dig_info) ?_)
        | (refine wpList_store_row rfl 75 _ _ rfl w.heap.size _ rfl rfl 75 _ hd1.heap (by rw [dA_size]; exact dig_info) (by rw [dA_size, dA_size]) (dA_one _) ?_))
      have hd3 := hd1.row (fun i => if l.length - l.length ≤ i then zOf l i else 0)
      have hv := hd3.value
      have hex : dA (fun i => if l.length - l.length ≤ i then zOf l i else 0) = dA (zOf l) := dA_ext fun i _ => by rw [if_pos (by omega)]
      rw [hex] at hv ⊢
      refine bodyPost_ret (v := .agg (dA (zOf l))) (by simp [results, Tryd.results58, Act.put, asAddr, hv, Result.andThen]) rfl ⟨rfl, below_setRow hB (Nat.le_refl _) _⟩

end Go.Proofs.YtmbpldnclnahmaaDoor
