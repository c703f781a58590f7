/- The walk of the laws' own 'known'. -/
import Derived.Test.YtjkaggkamcfahaaDoorFamTabs
import Derived.Test.YtjkaggkamcfahaaDoorFamA
import Derived.Test.YtjkaggkamcfahaaDoorFamD
import Derived.Test.YtjkaggkamcfahaaDoorFamE
import Derived.Test.YtjkaggkamcfahaaDoorFamG
set_option maxRecDepth 100000
set_option linter.unusedVariables false
set_option linter.unusedSimpArgs false
namespace Go.Proofs.YtjkaggkamcfahaaDoor
open Go.RowKit Dc
attribute [local go_sem ↓] Go.wp_at_zero Go.wp_at_succ

def fkh : Hd := ⟨[97], 2, [], []⟩
def fkA : Pt := ⟨[([120], [])], 0, false, 0, 0, 0, 0, false, 0⟩
def fkB : Pt := ⟨[], 0, false, 0, 0, 1, 0, false, 0⟩
theorem fkh_in : HdIn fkh := ⟨by decide, by decide, by decide, by decide, by decide⟩
theorem fkA_in : PtIn fkA := ⟨by decide, by decide, by decide, by decide, by decide, by decide, fun x hx => by
  obtain rfl : x = ([120], []) := by simpa [fkA] using hx
  exact ⟨by decide, by decide⟩⟩
theorem fkB_in : PtIn fkB := ⟨by decide, by decide, by decide, by decide, by decide, by decide, fun x hx => by cases hx⟩
theorem fk_srt : psrt [fkA, fkB] = some [fkB, fkA] := psrt_is (List.Perm.swap _ _ _) (by decide)
theorem fk_good1 : famOk fkh [fkA, fkB] = false := by decide
theorem fk_good2 : famOk fkh [fkB, fkA] = true := by decide
theorem fk_same1 : sameF fkh fkh [fkA, fkB] [fkB, fkA] = false := by decide
theorem fk_same2 : sameF fkh fkh [fkB, fkA] [fkB, fkA] = true := by decide
theorem fk_len {M : List Ps} (h : pts M = [fkB, fkA]) : M.length = 2 := by
  have := congrArg List.length h
  simpa [pts] using this
theorem kn_sort (w : World) (v : Value) (L : List Ps) (hL : pts L = [fkA, fkB]) (hv : PtRow w v L) :
    Calls Tryd.prog 9 #[.agg #[.string ⟨#[97]⟩, .int .i64 2, .string ⟨#[]⟩, .string ⟨#[]⟩, v]] w fun e w' => (∃ A n cap M, e = .returned (.tuple #[.agg #[.string ⟨#[97]⟩, .int .i64 2, .string ⟨#[]⟩, .string ⟨#[]⟩, .slice A n cap], .bool true]) ∧ PtRow w' (.slice A n cap) M ∧ pts M = [fkB, fkA]) ∧ Below w.heap.size w w' := by
  have hl : L.length = 2 := by have := congrArg List.length hL; simpa [pts] using this
  refine (fsort_calls fkh L v w hv (by omega) (fun x hx => ?_)).mono ?_
  · have : x.2 ∈ pts L := List.mem_map_of_mem hx
    rw [hL] at this
    simp only [List.mem_cons, List.not_mem_nil, or_false] at this
    rcases this with h | h <;> (rw [h]; decide)
  · rintro e w' ⟨hs, hb⟩
    refine ⟨?_, hb⟩
    rcases hs with ⟨D, v', M, h1, h2, rfl, h3⟩ | ⟨h1, _⟩
    · rw [hL, fk_srt] at h1
      obtain rfl := Option.some.inj h1
      obtain ⟨A, cap, rfl, _⟩ := h3.row.1
      exact ⟨A, _, cap, M, rfl, h3.row, h2⟩
    · rw [hL, fk_srt] at h1; cases h1
theorem kn_ser1 (w : World) : Calls Tryd.prog 12 #[.agg #[.string ⟨#[97]⟩, .int .i64 2, .string ⟨#[]⟩, .string ⟨#[]⟩], .int .i64 0] w fun e w' => e = .returned (.tuple #[.string ⟨#[97, 95, 116, 111, 116, 97, 108]⟩, .bool true]) ∧ Below w.heap.size w w' :=
  (series_calls fkh 0 w (by decide)).mono fun _ _ ⟨h, hb⟩ => ⟨by rw [h]; rfl, hb⟩
theorem kn_ser2 (w : World) : Calls Tryd.prog 12 #[.agg #[.string ⟨#[97]⟩, .int .i64 2, .string ⟨#[]⟩, .string ⟨#[]⟩], .int .i64 4] w fun e w' => e = .returned (.tuple #[.string ⟨#[]⟩, .bool false]) ∧ Below w.heap.size w w' :=
  (series_calls fkh 4 w (by decide)).mono fun _ _ ⟨h, hb⟩ => ⟨by rw [h]; rfl, hb⟩
theorem kn_kind (w : World) (hT : FamT w) : Calls Tryd.prog 15 #[.string ⟨#[104, 105, 115, 116, 111, 103, 114, 97, 109]⟩] w fun e w' => e = .returned (.tuple #[.int .i64 3, .bool true]) ∧ w = w' :=
  (kind_calls [104, 105, 115, 116, 111, 103, 114, 97, 109] w hT.wd).mono fun _ _ ⟨h, hb⟩ => ⟨by rw [h]; rfl, hb⟩
theorem kn_typ0 (w : World) (hT : FamT w) : Calls Tryd.prog 16 #[.int .i64 0] w fun e w' => e = .returned (.string ⟨#[117, 110, 107, 110, 111, 119, 110]⟩) ∧ w = w' :=
  (typed_calls 0 w hT.wd).mono fun _ _ ⟨h, hb⟩ => ⟨by rw [h]; rfl, hb⟩
theorem kn_typ7 (w : World) (hT : FamT w) : Calls Tryd.prog 16 #[.int .i64 7] w fun e w' => e = .returned (.string ⟨#[]⟩) ∧ w = w' :=
  (typed_calls 7 w hT.wd).mono fun _ _ ⟨h, hb⟩ => ⟨by rw [h]; rfl, hb⟩
theorem kn_good1 (w : World) (v : Value) (L : List Ps) (hL : pts L = [fkA, fkB]) (hv : PtRow w v L) (hT : FamT w) : Calls Tryd.prog 17 #[.agg #[.string ⟨#[97]⟩, .int .i64 2, .string ⟨#[]⟩, .string ⟨#[]⟩, v]] w fun e w' => e = .returned (.bool false) ∧ Below w.heap.size w w' :=
  (fgood_calls fkh L v w hv (by have := congrArg List.length hL; simp [pts] at this; omega) fkh_in hT.sp).mono fun _ _ ⟨h, hb⟩ => ⟨by rw [h, hL, fk_good1], hb⟩
theorem kn_good2 (w : World) (v : Value) (L : List Ps) (hL : pts L = [fkB, fkA]) (hv : PtRow w v L) (hT : FamT w) : Calls Tryd.prog 17 #[.agg #[.string ⟨#[97]⟩, .int .i64 2, .string ⟨#[]⟩, .string ⟨#[]⟩, v]] w fun e w' => e = .returned (.bool true) ∧ Below w.heap.size w w' :=
  (fgood_calls fkh L v w hv (by have := congrArg List.length hL; simp [pts] at this; omega) fkh_in hT.sp).mono fun _ _ ⟨h, hb⟩ => ⟨by rw [h, hL, fk_good2], hb⟩
theorem kn_same2 (w : World) (v : Value) (L : List Ps) (hL : pts L = [fkB, fkA]) (hv : PtRow w v L) : Calls Tryd.prog 10 #[.agg #[.string ⟨#[97]⟩, .int .i64 2, .string ⟨#[]⟩, .string ⟨#[]⟩, v], .agg #[.string ⟨#[97]⟩, .int .i64 2, .string ⟨#[]⟩, .string ⟨#[]⟩, v]] w fun e w' => e = .returned (.bool true) ∧ Below w.heap.size w w' :=
  (fsame_calls fkh fkh L L v v w hv hv (by have := congrArg List.length hL; simp [pts] at this; omega)).mono fun _ _ ⟨h, hb⟩ => ⟨by rw [h, hL, fk_same2], hb⟩
theorem kn_same1 (w : World) (v u : Value) (L M : List Ps) (hL : pts L = [fkA, fkB]) (hM : pts M = [fkB, fkA]) (hv : PtRow w v L) (hu : PtRow w u M) : Calls Tryd.prog 10 #[.agg #[.string ⟨#[97]⟩, .int .i64 2, .string ⟨#[]⟩, .string ⟨#[]⟩, v], .agg #[.string ⟨#[97]⟩, .int .i64 2, .string ⟨#[]⟩, .string ⟨#[]⟩, u]] w fun e w' => e = .returned (.bool false) ∧ Below w.heap.size w w' :=
  (fsame_calls fkh fkh L M v u w hv hu (by have := congrArg List.length hL; simp [pts] at this; omega)).mono fun _ _ ⟨h, hb⟩ => ⟨by rw [h, hL, hM, fk_same1], hb⟩
/-- the row that known lays -/
def fkL (z : Nat) : List Ps := [(.slice (some ⟨z, 0, none⟩) 1 1, fkA), (.slice none 0 0, fkB)]
theorem fkL_pts (z : Nat) : pts (fkL z) = [fkA, fkB] := rfl
theorem fkL_row (w : World) (t u : TypeId) : PtRow ((w.alloc (.cells #[.string ⟨#[120]⟩, .string ⟨#[]⟩] t)).alloc (.cells #[.slice (some ⟨w.heap.size, 0, none⟩) 1 1, .int .i64 0, .bool false, .int .i64 0, .int .i64 0, .int .i64 0, .int .i64 0, .bool false, .int .i64 0, .slice none 0 0, .int .i64 0, .bool false, .int .i64 0, .int .i64 0, .int .i64 1, .int .i64 0, .bool false, .int .i64 0] u)) (.slice (some ⟨w.heap.size + 1, 0, none⟩) 2 2) (fkL w.heap.size) := by
  refine ⟨⟨_, 2, rfl, Nat.le_refl _, by unfold maxLen; omega, (by rintro ⟨⟩), fun _ => ⟨w.heap.size + 1, 0, rfl, by simp, fun i x hx j uu hu => ?_⟩⟩, fun x hx => ?_⟩
  · have hg : ((w.alloc (.cells #[.string ⟨#[120]⟩, .string ⟨#[]⟩] t)).alloc (.cells #[.slice (some ⟨w.heap.size, 0, none⟩) 1 1, .int .i64 0, .bool false, .int .i64 0, .int .i64 0, .int .i64 0, .int .i64 0, .bool false, .int .i64 0, .slice none 0 0, .int .i64 0, .bool false, .int .i64 0, .int .i64 0, .int .i64 1, .int .i64 0, .bool false, .int .i64 0] u)).heap[w.heap.size + 1]? = some (.cells #[.slice (some ⟨w.heap.size, 0, none⟩) 1 1, .int .i64 0, .bool false, .int .i64 0, .int .i64 0, .int .i64 0, .int .i64 0, .bool false, .int .i64 0, .slice none 0 0, .int .i64 0, .bool false, .int .i64 0, .int .i64 0, .int .i64 1, .int .i64 0, .bool false, .int .i64 0] u) := by
      have := heap_new (w.alloc (.cells #[.string ⟨#[120]⟩, .string ⟨#[]⟩] t)) (.cells #[.slice (some ⟨w.heap.size, 0, none⟩) 1 1, .int .i64 0, .bool false, .int .i64 0, .int .i64 0, .int .i64 0, .int .i64 0, .bool false, .int .i64 0, .slice none 0 0, .int .i64 0, .bool false, .int .i64 0, .int .i64 0, .int .i64 1, .int .i64 0, .bool false, .int .i64 0] u)
      simpa using this
    rw [Lib.cell_of_heap hg]
    have hc := kc_get encP_len (fkL w.heap.size) i j x hx (by rw [← encP_len x]; exact (List.getElem?_eq_some_iff.1 hu).1)
    rw [hu] at hc
    rw [Nat.zero_add, ← hc]
    show ((fkL w.heap.size).flatMap encP).toArray[i * 9 + j]? = _
    simp
  · unfold fkL at hx
    simp only [List.mem_cons, List.not_mem_nil, or_false] at hx
    rcases hx with rfl | rfl
    · refine ⟨⟨_, 1, rfl, Nat.le_refl _, by unfold maxLen; omega, (by rintro ⟨⟩), fun _ => ⟨w.heap.size, 0, rfl, by simp; omega, fun i p hp => ?_⟩⟩, fkA_in⟩
      match i, hp with
      | 0, hp =>
        obtain rfl : ([120], []) = p := by simpa [fkA] using hp
        exact ⟨by simp, by simp⟩
      | i + 1, hp => simp [fkA] at hp
    · exact ⟨LbRow.nil _, fkB_in⟩

set_option maxHeartbeats 8000000 in
theorem fknown_calls (w : World) (hT : FamT w) : Calls Tryd.prog 7 #[] w fun e w' => e = .returned (.bool true) ∧ Below w.heap.size w w' := by
  have kA := kp_alloc (kp_alloc (Below.refl w.heap.size w) (.cells #[.string ⟨#[120]⟩, .string ⟨#[]⟩] 53)) (.cells #[.slice (some ⟨w.heap.size, 0, none⟩) 1 1, .int .i64 0, .bool false, .int .i64 0, .int .i64 0, .int .i64 0, .int .i64 0, .bool false, .int .i64 0, .slice none 0 0, .int .i64 0, .bool false, .int .i64 0, .int .i64 0, .int .i64 1, .int .i64 0, .bool false, .int .i64 0] 35)
  have kC := kp_alloc (Below.refl ((w.alloc (.cells #[.string ⟨#[120]⟩, .string ⟨#[]⟩] 53)).alloc (.cells #[.slice (some ⟨w.heap.size, 0, none⟩) 1 1, .int .i64 0, .bool false, .int .i64 0, .int .i64 0, .int .i64 0, .int .i64 0, .bool false, .int .i64 0, .slice none 0 0, .int .i64 0, .bool false, .int .i64 0, .int .i64 0, .int .i64 1, .int .i64 0, .bool false, .int .i64 0] 35)).heap.size ((w.alloc (.cells #[.string ⟨#[120]⟩, .string ⟨#[]⟩] 53)).alloc (.cells #[.slice (some ⟨w.heap.size, 0, none⟩) 1 1, .int .i64 0, .bool false, .int .i64 0, .int .i64 0, .int .i64 0, .int .i64 0, .bool false, .int .i64 0, .slice none 0 0, .int .i64 0, .bool false, .int .i64 0, .int .i64 0, .int .i64 1, .int .i64 0, .bool false, .int .i64 0] 35))) (.cells #[.string ⟨#[97]⟩, .int .i64 2, .string ⟨#[]⟩, .string ⟨#[]⟩, .slice (some ⟨w.heap.size + 1, 0, none⟩) 2 2] 26)
  have K0 := Lib.hid (trans9 kA kC)
  have T0 := Lib.hid (hT.below K0.out)
  have L0 := Lib.hid ((fkL_row w 53 35).below kC)
  have f0 := FamAt.new ((w.alloc (.cells #[.string ⟨#[120]⟩, .string ⟨#[]⟩] 53)).alloc (.cells #[.slice (some ⟨w.heap.size, 0, none⟩) 1 1, .int .i64 0, .bool false, .int .i64 0, .int .i64 0, .int .i64 0, .int .i64 0, .bool false, .int .i64 0, .slice none 0 0, .int .i64 0, .bool false, .int .i64 0, .int .i64 0, .int .i64 1, .int .i64 0, .bool false, .int .i64 0] 35)) fkh (.slice (some ⟨w.heap.size + 1, 0, none⟩) 2 2) 26
  rw [show ((w.alloc (.cells #[.string ⟨#[120]⟩, .string ⟨#[]⟩] 53)).alloc (.cells #[.slice (some ⟨w.heap.size, 0, none⟩) 1 1, .int .i64 0, .bool false, .int .i64 0, .int .i64 0, .int .i64 0, .int .i64 0, .bool false, .int .i64 0, .slice none 0 0, .int .i64 0, .bool false, .int .i64 0, .int .i64 0, .int .i64 1, .int .i64 0, .bool false, .int .i64 0] 35)).heap.size = w.heap.size + 1 + 1 by simp] at f0
  have F0 := Lib.hid f0
  clear kA kC hT f0
  go_enter Tryd.func7, Tryd.ntmps7
  go_wp2_with fail
  refine (kn_sort _ _ _ (fkL_pts _) L0.out).mono ?_; rintro e w1 ⟨⟨A, n, cap, M, rfl, row, hM⟩, b1⟩
  have kD := kp_alloc (Below.refl w1.heap.size w1) (.cells #[.string ⟨#[97]⟩, .int .i64 2, .string ⟨#[]⟩, .string ⟨#[]⟩, .slice A n cap] 26)
  have b1D := b1.trans (kD.mono b1.size)
  have K1 := Lib.hid (trans9 K0.out b1D)
  have T1 := Lib.hid (T0.out.below b1D)
  have L1 := Lib.hid (L0.out.below b1D)
  have F1 := Lib.hid (F0.out.below b1D)
  have R1 := Lib.hid (row.below kD)
  have G1 := Lib.hid (FamAt.new w1 fkh (.slice A n cap) 26)
  have HM := Lib.hid hM
  clear b1 kD b1D row hM
  obtain ⟨x0, x1, x2, x3, x4, xf, xl⟩ := F1.out
  obtain ⟨y0, y1, y2, y3, y4, yf, yl⟩ := G1.out
  simp only [fkh] at x0 x1 x2 x3 y0 y1 y2 y3
  go_wp2_with fail
  refine (kn_ser1 _).mono ?_; rintro e w2 ⟨rfl, b2⟩
  have T2 := Lib.hid (T1.out.below b2)
  have L2 := Lib.hid (L1.out.below b2)
  have F2 := Lib.hid (F1.out.below b2)
  have R2 := Lib.hid (R1.out.below b2)
  have G2 := Lib.hid (G1.out.below b2)
  have K2 := Lib.hid (trans9 K1.out b2)
  clear x0 x1 x2 x3 x4 xf xl y0 y1 y2 y3 y4 yf yl b2
  obtain ⟨x0, x1, x2, x3, x4, xf, xl⟩ := F2.out
  obtain ⟨y0, y1, y2, y3, y4, yf, yl⟩ := G2.out
  simp only [fkh] at x0 x1 x2 x3 y0 y1 y2 y3
  go_wp2_with fail
  refine (kn_ser2 _).mono ?_; rintro e w3 ⟨rfl, b3⟩
  have T3 := Lib.hid (T2.out.below b3)
  have L3 := Lib.hid (L2.out.below b3)
  have F3 := Lib.hid (F2.out.below b3)
  have R3 := Lib.hid (R2.out.below b3)
  have G3 := Lib.hid (G2.out.below b3)
  have K3 := Lib.hid (trans9 K2.out b3)
  clear x0 x1 x2 x3 x4 xf xl y0 y1 y2 y3 y4 yf yl b3
  obtain ⟨x0, x1, x2, x3, x4, xf, xl⟩ := F3.out
  obtain ⟨y0, y1, y2, y3, y4, yf, yl⟩ := G3.out
  simp only [fkh] at x0 x1 x2 x3 y0 y1 y2 y3
  go_wp2_with fail
  refine (kn_kind _ T3.out).mono ?_; rintro e w9 ⟨rfl, rfl⟩
  go_wp2_with fail
  refine (kn_good1 _ _ _ (fkL_pts _) L3.out T3.out).mono ?_; rintro e w4 ⟨rfl, b4⟩
  have T4 := Lib.hid (T3.out.below b4)
  have L4 := Lib.hid (L3.out.below b4)
  have F4 := Lib.hid (F3.out.below b4)
  have R4 := Lib.hid (R3.out.below b4)
  have G4 := Lib.hid (G3.out.below b4)
  have K4 := Lib.hid (trans9 K3.out b4)
  clear x0 x1 x2 x3 x4 xf xl y0 y1 y2 y3 y4 yf yl b4
  obtain ⟨x0, x1, x2, x3, x4, xf, xl⟩ := F4.out
  obtain ⟨y0, y1, y2, y3, y4, yf, yl⟩ := G4.out
  simp only [fkh] at x0 x1 x2 x3 y0 y1 y2 y3
  go_wp2_with fail
  refine (kn_good2 _ _ _ HM.out R4.out T4.out).mono ?_; rintro e w5 ⟨rfl, b5⟩
  have T5 := Lib.hid (T4.out.below b5)
  have L5 := Lib.hid (L4.out.below b5)
  have F5 := Lib.hid (F4.out.below b5)
  have R5 := Lib.hid (R4.out.below b5)
  have G5 := Lib.hid (G4.out.below b5)
  have K5 := Lib.hid (trans9 K4.out b5)
  clear x0 x1 x2 x3 x4 xf xl y0 y1 y2 y3 y4 yf yl b5
  obtain ⟨x0, x1, x2, x3, x4, xf, xl⟩ := F5.out
  obtain ⟨y0, y1, y2, y3, y4, yf, yl⟩ := G5.out
  simp only [fkh] at x0 x1 x2 x3 y0 y1 y2 y3
  go_wp2_with fail
  refine (kn_typ0 _ T5.out).mono ?_; rintro e w9 ⟨rfl, rfl⟩
  go_wp2_with fail
  refine (kn_typ7 _ T5.out).mono ?_; rintro e w9 ⟨rfl, rfl⟩
  go_wp2_with fail
  refine (kn_same2 _ _ _ HM.out R5.out).mono ?_; rintro e w6 ⟨rfl, b6⟩
  have T6 := Lib.hid (T5.out.below b6)
  have L6 := Lib.hid (L5.out.below b6)
  have F6 := Lib.hid (F5.out.below b6)
  have R6 := Lib.hid (R5.out.below b6)
  have G6 := Lib.hid (G5.out.below b6)
  have K6 := Lib.hid (trans9 K5.out b6)
  clear x0 x1 x2 x3 x4 xf xl y0 y1 y2 y3 y4 yf yl b6
  obtain ⟨x0, x1, x2, x3, x4, xf, xl⟩ := F6.out
  obtain ⟨y0, y1, y2, y3, y4, yf, yl⟩ := G6.out
  simp only [fkh] at x0 x1 x2 x3 y0 y1 y2 y3
  go_wp2_with fail
  refine (kn_same1 _ _ _ _ _ (fkL_pts _) HM.out L6.out R6.out).mono ?_; rintro e w7 ⟨rfl, b7⟩
  have T7 := Lib.hid (T6.out.below b7)
  have L7 := Lib.hid (L6.out.below b7)
  have F7 := Lib.hid (F6.out.below b7)
  have R7 := Lib.hid (R6.out.below b7)
  have G7 := Lib.hid (G6.out.below b7)
  have K7 := Lib.hid (trans9 K6.out b7)
  clear x0 x1 x2 x3 x4 xf xl y0 y1 y2 y3 y4 yf yl b7
  obtain ⟨x0, x1, x2, x3, x4, xf, xl⟩ := F7.out
  obtain ⟨y0, y1, y2, y3, y4, yf, yl⟩ := G7.out
  simp only [fkh] at x0 x1 x2 x3 y0 y1 y2 y3
  go_wp2_with fail
  go_ret
  exact ⟨rfl, K7.out⟩

end Go.Proofs.YtjkaggkamcfahaaDoor
