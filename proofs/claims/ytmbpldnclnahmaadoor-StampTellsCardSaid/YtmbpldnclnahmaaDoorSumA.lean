/- The walks of package sum's digits: magnitude, signed, spread, join; what an array of fifty-five digits is. -/
import Derived.Test.YtmbpldnclnahmaaDoorSumPlain
import Derived.Test.YtmbpldnclnahmaaDoorDecN
import Derived.Deep.WholeRow
import Derived.Lib.SmallJoins
import Derived.Lib.Builder
set_option linter.unusedVariables false
set_option linter.unusedSimpArgs false
namespace Go.Proofs.YtmbpldnclnahmaaDoor
open Go.RowKit Dc

/-- fifty-five digits, the last one first -/
def sA (z : Nat → Nat) : Array Value := Array.ofFn (n := 55) fun i => .int .u8 (z i.1 : Nat)
theorem sA_size (z : Nat → Nat) : (sA z).size = 55 := by simp [sA]
theorem sA_at (z : Nat → Nat) (i : Nat) (h : i < 55) : (sA z)[i]? = some (.int .u8 (z i : Nat)) := by
  unfold sA
  rw [Array.getElem?_ofFn, dif_pos h]
theorem sA_one (z : Nat → Nat) : (sA z).all (·.oneCell') = true := by
  rw [Array.all_eq_true]
  intro i hi
  have h := sA_at z i (by rw [sA_size] at hi; exact hi)
  rw [Array.getElem?_eq_getElem hi] at h
  rw [Option.some.inj h]; rfl
theorem sA_set (z : Nat → Nat) (n d : Nat) : (sA z).setIfInBounds n (.int .u8 (d : Nat)) = sA (fun i => if i = n then d else z i) := by
  apply Array.ext_getElem?
  intro i
  rw [Array.getElem?_setIfInBounds]
  by_cases hi : i < 55
  · rw [sA_at _ _ hi, sA_at _ _ hi, sA_size]
    by_cases h : n = i
    · subst h; simp [hi]
    · rw [if_neg h, if_neg (fun e => h e.symm)]
  · rw [Array.getElem?_eq_none (by rw [sA_size]; omega), Array.getElem?_eq_none (by rw [sA_size]; omega), sA_size]
    split
    · rename_i h; subst h; rw [if_neg hi]
    · rfl
theorem sA_ext {z z' : Nat → Nat} (h : ∀ i, i < 55 → z i = z' i) : sA z = sA z' := by
  apply Array.ext_getElem?
  intro i
  by_cases hi : i < 55
  · rw [sA_at _ _ hi, sA_at _ _ hi, h i hi]
  · rw [Array.getElem?_eq_none (by rw [sA_size]; omega), Array.getElem?_eq_none (by rw [sA_size]; omega)]

/-- fifty-five digits lie in block b -/
structure SAt (w : World) (b : Nat) (z : Nat → Nat) : Prop where
  heap : w.heap[b]? = some (.cells (sA z) 63 (0, 0))
theorem SAt.lt {w : World} {b : Nat} {z : Nat → Nat} (h : SAt w b z) : b < w.heap.size := (Array.getElem?_eq_some_iff.1 h.heap).1
theorem SAt.cell {w : World} {b : Nat} {z : Nat → Nat} (h : SAt w b z) (i : Nat) (hi : i < 55) : w.cell? ⟨b, i, none⟩ = some (.int .u8 (z i : Nat)) := by
  rw [Lib.cell_of_heap h.heap, sA_at z i hi]
theorem SAt.free {w : World} {b : Nat} {z : Nat → Nat} (h : SAt w b z) (i : Nat) : w.frozen? ⟨b, i, none⟩ = false := Lib.frozen_of_heap h.heap i
theorem SAt.set {w : World} {b : Nat} {z : Nat → Nat} (h : SAt w b z) (n d : Nat) : SAt (w.setCell ⟨b, n, none⟩ (.int .u8 (d : Nat))) b (fun i => if i = n then d else z i) :=
  ⟨by rw [heap_setCell_same w b n _ _ _ h.heap, sA_set]⟩
theorem SAt.other {w : World} {b : Nat} {z : Nat → Nat} (h : SAt w b z) (a : Addr) (v : Value) (hne : b ≠ a.block) : SAt (w.setCell a v) b z :=
  ⟨by rw [Below.heap_setCell w a v b hne]; exact h.heap⟩
theorem SAt.below {w w' : World} {b B : Nat} {z : Nat → Nat} (h : SAt w b z) (hb : Below B w w') (hB : b < B) : SAt w' b z :=
  ⟨by rw [hb.block b hB]; exact h.heap⟩
theorem SAt.keep {w w' : World} {b : Nat} {z : Nat → Nat} (h : SAt w b z) (hb : Below w.heap.size w w') : SAt w' b z := h.below hb h.lt
theorem SAt.alloc {w : World} {b : Nat} {z : Nat → Nat} (h : SAt w b z) (o : Obj) : SAt (w.alloc o) b z := h.keep ((Below.refl _ _).alloc (Nat.le_refl _) o)
theorem SAt.new (w : World) (z : Nat → Nat) : SAt (w.alloc (.cells (sA z) 63)) w.heap.size z := ⟨heap_alloc_new w _⟩
theorem SAt.ext {w : World} {b : Nat} {z z' : Nat → Nat} (h : SAt w b z) (e : ∀ i, i < 55 → z i = z' i) : SAt w b z' := ⟨by rw [← sA_ext e]; exact h.heap⟩
theorem SAt.drew1 {w : World} {b : Nat} {z : Nat → Nat} (h : SAt w b z) : SAt w.drew b z := ⟨h.heap⟩
theorem SAt.drew {w : World} {b n : Nat} {z : Nat → Nat} (h : SAt w b z) : SAt (w.drewN n) b z := ⟨h.heap⟩
set_option maxRecDepth 100000 in
theorem zeros_sA : (Obj.cells #[.int .u8 0, .int .u8 0, .int .u8 0, .int .u8 0, .int .u8 0, .int .u8 0, .int .u8 0, .int .u8 0, .int .u8 0, .int .u8 0, .int .u8 0, .int .u8 0, .int .u8 0, .int .u8 0, .int .u8 0, .int .u8 0, .int .u8 0, .int .u8 0, .int .u8 0, .int .u8 0, .int .u8 0, .int .u8 0, .int .u8 0, .int .u8 0, .int .u8 0, .int .u8 0, .int .u8 0, .int .u8 0, .int .u8 0, .int .u8 0, .int .u8 0, .int .u8 0, .int .u8 0, .int .u8 0, .int .u8 0, .int .u8 0, .int .u8 0, .int .u8 0, .int .u8 0, .int .u8 0, .int .u8 0, .int .u8 0, .int .u8 0, .int .u8 0, .int .u8 0, .int .u8 0, .int .u8 0, .int .u8 0, .int .u8 0, .int .u8 0, .int .u8 0, .int .u8 0, .int .u8 0, .int .u8 0, .int .u8 0] 63 (0, 0)) = .cells (sA (fun _ => 0)) 63 (0, 0) := by
  congr 1
theorem sum_info : (Tryd.prog.info? 63).map (·.size) = some 55 := by kernel_rfl
theorem SAt.row {w : World} {b : Nat} {z : Nat → Nat} (h : SAt w b z) (z' : Nat → Nat) : SAt (w.setRow b (sA z')) b z' := ⟨setRow_heap w b _ _ _ _ h.heap⟩
theorem SAt.otherRow {w : World} {b g : Nat} {z : Nat → Nat} (h : SAt w b z) (c : Array Value) (hne : b ≠ g) : SAt (w.setRow g c) b z := ⟨by rw [setRow_other w g b c (by omega)]; exact h.heap⟩
theorem SAt.value {w : World} {b : Nat} {z : Nat → Nat} (h : SAt w b z) : (loadVar 63 ⟨b, 0, none⟩).run Tryd.prog w = .ok (.agg (sA z)) w :=
  run_loadVar_row w b _ _ _ _ _ h.heap Tryd.underlying63 rfl (by rw [sA_size]; exact sum_info)

theorem magnitude_calls (m : Int) (w : World) (h1 : m.natAbs ≤ big) :
    Calls Tryd.prog 52 #[.int .i64 m] w fun e w' => e = .returned (.int .u64 (m.natAbs : Nat)) ∧ w = w' := by
  unfold big at h1
  by_cases h0 : m < 0
  · have e : ((m.natAbs : Nat) : Int) = -m := by omega
    rw [e]
    clear e
    go_enter Tryd.func52, Tryd.ntmps52
    go_wp2
    go_ret
    exact ⟨rfl, rfl⟩
  · have e : ((m.natAbs : Nat) : Int) = m := by omega
    rw [e]
    clear e
    go_enter Tryd.func52, Tryd.ntmps52
    go_wp2
    go_ret
    exact ⟨rfl, rfl⟩
def sgnV (neg : Bool) (n : Nat) : Int := if neg then -(n : Int) else (n : Int)
theorem signed_calls (neg : Bool) (n : Nat) (w : World) (h1 : n ≤ big) :
    Calls Tryd.prog 45 #[.bool neg, .int .i64 (n : Nat)] w fun e w' => e = .returned (.int .i64 (sgnV neg n)) ∧ w = w' := by
  unfold big at h1
  cases neg with
  | true =>
    go_enter Tryd.func45, Tryd.ntmps45
    go_wp2
    go_ret
    exact ⟨rfl, rfl⟩
  | false =>
    go_enter Tryd.func45, Tryd.ntmps45
    go_wp2
    go_ret
    exact ⟨rfl, rfl⟩

set_option maxRecDepth 100000 in
set_option maxHeartbeats 4000000 in
theorem sspread_calls (m : Int) (u : Nat) (w : World) (hm : m.natAbs ≤ big) (hu : u ≤ 36) :
    Calls Tryd.prog 43 #[.int .i64 m, .int .i64 (u : Nat)] w fun e w' => e = .returned (.agg (sA (dgt (m.natAbs * 10 ^ u)))) ∧ Below w.heap.size w w' := by
  have hl := Lib.hid (digs_small hm)
  have hmag := Lib.hid (fun W => magnitude_calls m W hm)
  generalize hM : m.natAbs = M at *
  unfold big at hm
  clear hM
  go_enter Tryd.func43, Tryd.ntmps43
  go_wp2_with fail
  rw [zeros_sA]
  have b1 := (Below.refl w.heap.size w).alloc (Nat.le_refl _) (.cells (sA (fun _ => 0)) 63)
  have b2 := kb_alloc b1 (Nat.le_refl _) (.cells (sA (fun _ => 0)) 63)
  have d1 := (SAt.new w (fun _ => 0)).alloc (.cells (sA (fun _ => 0)) 63)
  have d2 := SAt.new (w.alloc (.cells (sA (fun _ => 0)) 63)) (fun _ => 0)
  rw [show (w.alloc (.cells (sA (fun _ => 0)) 63)).heap.size = w.heap.size + 1 by simp] at d2
  generalize (w.alloc (.cells (sA (fun _ => 0)) 63)).alloc (.cells (sA (fun _ => 0)) 63) = W at *
  clear b1
  refine (hmag.out _).mono ?_; rintro e w1 ⟨rfl, rfl⟩
  clear hmag
  go_wp2_with fail
  go_loopw [1, 6] (fun s1 s6 wr => ∃ n q : Nat, n ≤ 19 ∧ q ≤ M ∧ s1 = .int .i64 ((u + n : Nat) : Int) ∧ s6 = .int .u64 (q : Nat) ∧ Hid (q = M / 10 ^ n ∧ (digs q).length + n = (digs M).length ∧ Below w.heap.size w wr ∧ SAt wr w.heap.size (fun _ => 0) ∧ SAt wr (w.heap.size + 1) (fun i => if u ≤ i ∧ i < u + n then dgt M (i - u) else 0))) (fun _ s6 _ => (intOf s6).toNat)
  case atStart => exact ⟨0, M, by omega, Nat.le_refl _, rfl, rfl, by simp, by simp, b2, d1, d2.ext (fun i _ => by rw [if_neg (by omega)])⟩
  case round =>
    obtain ⟨n, q, hn, hq, rfl, rfl, H⟩ := hrel
    obtain ⟨hq2, hql, hB, hd1, hd2⟩ := H.out
    by_cases h0 : q = 0
    · subst h0
      have Hq := Lib.hid hql
      clear hq2 hql d1 d2 b2 H
      go_wp2_with (first
        | (refine wpList_load_row rfl 63 _ rfl (w.heap.size + 1) rfl 63 _ (0, 0) _ hd2.heap Tryd.underlying63 rfl (by rw [sA_size]; exact sum_info) ?_)
        | (refine wpList_store_row rfl 63 _ _ rfl w.heap.size _ rfl rfl 63 _ hd1.heap (by rw [sA_size]; exact sum_info) (by rw [sA_size, sA_size]) (sA_one _) ?_))
      have hlen : n = (digs M).length := by have := Hq.out; rw [digs_zero] at this; simpa using this
      have hex : ∀ i, i < 55 → (fun i => if u ≤ i ∧ i < u + n then dgt M (i - u) else 0) i = dgt (M * 10 ^ u) i := fun i _ => by
        show (if u ≤ i ∧ i < u + n then dgt M (i - u) else 0) = _
        rw [dgt_up]
        by_cases h : u ≤ i
        · rw [if_pos h]
          by_cases h2 : i < u + n
          · rw [if_pos ⟨h, h2⟩]
          · rw [if_neg (fun e => h2 e.2)]
            have h1 := digs_lt M
            exact (dgt_of_le h1 (by omega)).symm
        · rw [if_neg h, if_neg (fun e => h e.1)]
      have hv := (hd1.row (fun i => if u ≤ i ∧ i < u + n then dgt M (i - u) else 0)).value
      rw [sA_ext hex] at hv ⊢
      refine bodyPost_ret (v := .agg (sA (dgt (M * 10 ^ u)))) (by simp [results, Tryd.results43, Act.put, asAddr, hv, Result.andThen]) rfl ⟨rfl, below_setRow hB (Nat.le_refl _) _⟩
    · have hn19 : n < 19 := by
        have := hl.out
        rw [digs_pos h0, List.length_append, List.length_singleton] at hql
        omega
      have hc := hd2.cell (u + n) (by omega)
      have hf := hd2.free (u + n)
      have Hq := Lib.hid hq2
      have Hl := Lib.hid hql
      have HB := Lib.hid hB
      have H1 := Lib.hid hd1
      have H2 := Lib.hid hd2
      clear hq2 hql hB hd1 hd2 H d1 d2 b2
      go_wp2_with fail
      go_roundw
      case rel =>
        have e1 : ((q : Int) % 10) = ((q % 10 : Nat) : Int) := by omega
        have e2 : ((q : Int) / 10) = ((q / 10 : Nat) : Int) := by omega
        have hq2 := Hq.out
        have hql := Hl.out
        rw [digs_pos h0, List.length_append, List.length_singleton] at hql
        rw [e1, e2]
        refine ⟨n + 1, q / 10, hn19, by omega, by go_num, rfl, by rw [hq2, Nat.div_div_eq_div_mul, Nat.pow_succ], by omega, HB.out.setCell (p := ⟨w.heap.size + 1, u + n, none⟩) (by simp) _, H1.out.other _ _ (by simp), (H2.out.set (u + n) (q % 10)).ext fun i _ => ?_⟩
        by_cases h : i = u + n
        · subst h; rw [if_pos rfl, if_pos (by omega), hq2, Nat.add_sub_cancel_left]; rfl
        · rw [if_neg h]
          by_cases h3 : u ≤ i ∧ i < u + n
          · rw [if_pos h3, if_pos (by omega)]
          · rw [if_neg h3, if_neg (by omega)]
      case measure => simp [intOf]; omega

end Go.Proofs.YtmbpldnclnahmaaDoor
