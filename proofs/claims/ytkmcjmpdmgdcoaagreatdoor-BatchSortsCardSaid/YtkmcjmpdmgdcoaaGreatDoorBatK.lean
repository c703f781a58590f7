/- The walks of the laws' own 'fam', 'known'. -/
import Derived.Test.YtkmcjmpdmgdcoaaGreatDoorBatP
import Derived.Test.YtkmcjmpdmgdcoaaGreatDoorBatQ
set_option maxRecDepth 100000
set_option linter.unusedVariables false
set_option linter.unusedSimpArgs false
namespace Go.Proofs.YtkmcjmpdmgdcoaaGreatDoor
open Go.RowKit Dc
attribute [local go_sem ↓] Go.wp_at_zero Go.wp_at_succ

/-- the point, the head that fam lays -/
def kpt (m : Int) : Pt := ⟨[], 0, false, 0, 0, m, 0, false, 0⟩
def khd (c : UInt8) : Hd := ⟨[c], 1, [], []⟩
theorem kpt_in (m : Int) (h1 : -9223372036854775808 ≤ m) (h2 : m ≤ 9223372036854775807) : PtIn (kpt m) := ⟨by show (-9223372036854775808 : Int) ≤ 0; decide, by show (0 : Int) ≤ 9223372036854775807; decide, h1, h2, by show (-9223372036854775808 : Int) ≤ 0; decide, by show (0 : Int) ≤ 9223372036854775807; decide, fun x hx => by cases hx⟩
theorem khd_in (c : UInt8) : HdIn (khd c) := ⟨by show [c].length ≤ maxLen; unfold maxLen; simp, by show [].length ≤ maxLen; unfold maxLen; simp, by show [].length ≤ maxLen; unfold maxLen; simp, by show (-9223372036854775808 : Int) ≤ 1; decide, by show (1 : Int) ≤ 9223372036854775807; decide⟩
/-- a row of one such point in a block of its own -/
theorem kpt_row {X : World} {g : Nat} {t : TypeId} {m : Int} (hg : X.heap[g]? = some (.cells #[.slice none 0 0, .int .i64 0, .bool false, .int .i64 0, .int .i64 0, .int .i64 m, .int .i64 0, .bool false, .int .i64 0] t)) (hi : PtIn (kpt m)) :
    PtRow X (.slice (some ⟨g, 0, none⟩) 1 1) [(.slice none 0 0, kpt m)] := by
  refine ⟨⟨_, 1, rfl, Nat.le_refl _, by unfold maxLen; omega, (by rintro ⟨⟩), fun _ => ⟨g, 0, rfl, (Array.getElem?_eq_some_iff.1 hg).1, fun i x hx j u hu => ?_⟩⟩, fun x hx => ?_⟩
  · match i, hx with
    | 0, hx =>
      obtain rfl : (.slice none 0 0, kpt m) = x := by simpa using hx
      rw [Lib.cell_of_heap hg, Nat.zero_mul, Nat.zero_add, ← hu]
      try rw [Nat.zero_add]
      show (encP (.slice none 0 0, kpt m)).toArray[j]? = _
      simp
    | i + 1, hx => simp at hx
  · obtain rfl : x = (.slice none 0 0, kpt m) := by simpa using hx
    exact ⟨LbRow.nil _, hi⟩
set_option maxHeartbeats 2000000 in
theorem fam_calls (c : UInt8) (m : Int) (w : World) (h1 : -9223372036854775808 ≤ m) (h2 : m ≤ 9223372036854775807) :
    Calls Tryz.prog 16 #[.string ⟨#[c]⟩, .int .i64 m] w fun e w' => (∃ g L, e = .returned (.agg #[.string ⟨#[c]⟩, .int .i64 1, .string ⟨#[]⟩, .string ⟨#[]⟩, .slice (some ⟨g, 0, none⟩) 1 1]) ∧ PtRow w' (.slice (some ⟨g, 0, none⟩) 1 1) L ∧ pts L = [kpt m]) ∧ Below w.heap.size w w' := by
  have hP := Lib.hid (kpt_in m h1 h2)
  clear h1 h2
  go_enter Tryz.func16, Tryz.ntmps16
  go_wp2
  refine bodyPost_ret (v := .agg #[.string ⟨#[c]⟩, .int .i64 1, .string ⟨#[]⟩, .string ⟨#[]⟩, .slice (some ⟨w.heap.size + 1, 0, none⟩) 1 1]) (by simp [results, Tryz.results16, go_sem]) rfl ⟨⟨_, [(.slice none 0 0, kpt m)], rfl, ?_, rfl⟩, ?_⟩
  · refine kpt_row (t := 46) ?_ hP.out
    have := heap_new (w.alloc (.cells #[.string ⟨#[c]⟩, .int .i64 1, .string ⟨#[]⟩, .string ⟨#[]⟩, .slice (some ⟨w.heap.size + 1, 0, none⟩) 1 1] 35)) (.cells #[.slice none 0 0, .int .i64 0, .bool false, .int .i64 0, .int .i64 0, .int .i64 m, .int .i64 0, .bool false, .int .i64 0] 46)
    rw [show (w.alloc (.cells #[.string ⟨#[c]⟩, .int .i64 1, .string ⟨#[]⟩, .string ⟨#[]⟩, .slice (some ⟨w.heap.size + 1, 0, none⟩) 1 1] 35)).heap.size = w.heap.size + 1 from by simp] at this
    exact this
  · exact kp_alloc (kp_alloc (Below.refl w.heap.size w) _) _

/-- a row of two families in a block of its own -/
theorem fm_two (w : World) (x y : Fs) (t : TypeId) (hx : FsIn w x) (hy : FsIn w y) :
    FmRow (w.alloc (.cells #[.string (str x.hd.n), .int .i64 x.hd.k, .string (str x.hd.u), .string (str x.hd.h), x.v, .string (str y.hd.n), .int .i64 y.hd.k, .string (str y.hd.u), .string (str y.hd.h), y.v] t)) (.slice (some ⟨w.heap.size, 0, none⟩) 2 2) [x, y] := by
  have hb := kp_alloc (Below.refl w.heap.size w) (.cells #[.string (str x.hd.n), .int .i64 x.hd.k, .string (str x.hd.u), .string (str x.hd.h), x.v, .string (str y.hd.n), .int .i64 y.hd.k, .string (str y.hd.u), .string (str y.hd.h), y.v] t)
  refine ⟨⟨_, 2, rfl, Nat.le_refl _, by unfold maxLen; omega, (by rintro ⟨⟩), fun _ => ⟨w.heap.size, 0, rfl, by simp, fun i z hz j u hu => ?_⟩⟩, fun z hz => ?_⟩
  · have hg := heap_new w (.cells #[.string (str x.hd.n), .int .i64 x.hd.k, .string (str x.hd.u), .string (str x.hd.h), x.v, .string (str y.hd.n), .int .i64 y.hd.k, .string (str y.hd.u), .string (str y.hd.h), y.v] t)
    rw [Lib.cell_of_heap hg]
    have hc := kc_get encF_len [x, y] i j z hz (by rw [← encF_len z]; exact (List.getElem?_eq_some_iff.1 hu).1)
    rw [hu] at hc
    rw [Nat.zero_add, ← hc]
    show ([x, y].flatMap encF).toArray[i * 5 + j]? = _
    simp
  · simp only [List.mem_cons, List.not_mem_nil, or_false] at hz
    rcases hz with rfl | rfl
    · exact hx.below hb
    · exact hy.below hb


def kA (m : Int) : Fp := (khd 97, [kpt m])
def kB (m : Int) : Fp := (khd 98, [kpt m])
theorem kn_srt : gsrt cmpF [kB 1, kA 2] = some [kA 2, kB 1] := gsrt_is tp_cmpF (List.Perm.swap _ _ _) (by decide)
theorem kn_dup : gsrt cmpF [kA 1, kA 2] = none := gsrt_no tp_cmpF (by decide)
theorem kn_nil : gsrt cmpF [] = some [] := gsrt_is tp_cmpF (List.Perm.refl _) List.Pairwise.nil
theorem kn_chk0 : chk [116] [kA 2, kB 1] = 0 := by decide
theorem kn_chk1 : chk [116] [kB 1, kA 2] = 19 := by decide
theorem kn_chk2 : chk [116] [] = 0 := by decide
theorem kn_chk3 : chk [84] [] = 19 := by decide
theorem kn_of_1 : ofO [116] [kB 1, kA 2] = some [kA 2, kB 1] := ofO_yes kn_srt kn_chk0
theorem kn_of_2 : ofO [116] [kA 1, kA 2] = none := ofO_no kn_dup
theorem kn_of_3 : ofO [84] [] = none := ofO_bad kn_nil (by rw [kn_chk3]; decide)
theorem kn_of_4 : ofO [116] [] = some [] := ofO_yes kn_nil kn_chk2
theorem kn_few {F : List Fs} {a b : UInt8} {m n : Int} (h : fms F = [(khd a, [kpt m]), (khd b, [kpt n])]) : FmFew F := by
  refine FpFew.rows ?_
  rw [h]
  exact ⟨by simp, fun x hx => by
    simp only [List.mem_cons, List.not_mem_nil, or_false] at hx
    rcases hx with rfl | rfl <;> simp, fun x hx y hy => by
    simp only [List.mem_cons, List.not_mem_nil, or_false] at hx
    rcases hx with rfl | rfl <;> (obtain rfl := List.mem_singleton.1 hy; simp [kpt])⟩
theorem nil_few : FmFew [] := ⟨by simp, fun x hx => (by cases hx), fun x hx => (by cases hx)⟩
theorem kn_str {F : List Fs} {a b : UInt8} {m n : Int} (h : fms F = [(khd a, [kpt m]), (khd b, [kpt n])]) : ∀ x ∈ F, StrictP (pts x.L) := fun x hx => by
  have hm : fm x ∈ fms F := List.mem_map_of_mem hx
  rw [h] at hm
  simp only [List.mem_cons, List.not_mem_nil, or_false] at hm
  rcases hm with e | e <;> (rw [show pts x.L = (fm x).2 from rfl, e]; exact List.pairwise_singleton _ _)
theorem fms_len {F : List Fs} {l : List Fp} (h : fms F = l) : F.length = l.length := by rw [← h]; simp [fms]
/-- the two families of the row that known lays -/
def kx (c : UInt8) (g : Nat) (L : List Ps) : Fs := ⟨khd c, .slice (some ⟨g, 0, none⟩) 1 1, L⟩
theorem kx_in {w : World} {c : UInt8} {g : Nat} {L : List Ps} (h : PtRow w (.slice (some ⟨g, 0, none⟩) 1 1) L) : FsIn w (kx c g L) := ⟨h, khd_in c⟩
theorem kx_fms {a b : UInt8} {g g' : Nat} {L L' : List Ps} {m n : Int} (h : pts L = [kpt m]) (h' : pts L' = [kpt n]) : fms [kx a g L, kx b g' L'] = [(khd a, [kpt m]), (khd b, [kpt n])] := by
  simp [fms, fm, kx, h, h']
theorem kn_of1 (F : List Fs) (v : Value) (w : World) (h : fms F = [kB 1, kA 2]) (hv : FmRow w v F) (hT : ShPl w) :
    Calls Tryz.prog 9 #[.string ⟨#[116]⟩, v] w fun e w' => (∃ b off cap M, e = .returned (.tuple #[.agg #[.string ⟨#[116]⟩, .slice (some ⟨b, off, none⟩) 2 cap], .bool true]) ∧ FmRow w' (.slice (some ⟨b, off, none⟩) 2 cap) M ∧ fms M = [kA 2, kB 1] ∧ w'.cell? ⟨b, off, none⟩ = some (.string ⟨#[97]⟩) ∧ b < w'.heap.size) ∧ Below w.heap.size w w' := by
  refine (of_calls [116] F v w hv (kn_few h) (kn_str h) (by unfold maxLen; simp) hT).mono ?_
  rintro e w' ⟨⟨A, n, cap, M, rfl, hk, hM⟩, hb⟩
  rw [h, kn_of_1] at hM ⊢
  have hM : fms M = [kA 2, kB 1] := hM
  have hr := hk.row
  have hl := fms_len hM
  obtain ⟨A', cap', he, _, _, _, hrow⟩ := hr.1
  simp only [Value.slice.injEq] at he
  obtain ⟨hA, hn, hc⟩ := he
  subst hA hc
  obtain rfl : n = 2 := by rw [hn]; exact hl
  obtain ⟨b, off, rfl, hlt, hcc⟩ := hrow (by rw [hl]; decide)
  refine ⟨⟨b, off, cap, M, rfl, hr, hM, ?_, hlt⟩, hb⟩
  obtain ⟨x, hx, hxp⟩ := fs_get (F := M) (i := 0) (by rw [hl]; decide)
  have c0 := (fr_cells hcc hx).1
  rw [hM] at hxp
  have e0 : kA 2 = fm x := by simpa using hxp
  rw [show x.hd = (fm x).1 from rfl, ← e0] at c0
  simpa [kA, khd] using c0
theorem kn_of2 (F : List Fs) (v : Value) (w : World) (h : fms F = [kA 1, kA 2]) (hv : FmRow w v F) (hT : ShPl w) :
    Calls Tryz.prog 9 #[.string ⟨#[116]⟩, v] w fun e w' => (∃ A n cap, e = .returned (.tuple #[.agg #[.string ⟨#[]⟩, .slice A n cap], .bool false])) ∧ Below w.heap.size w w' := by
  refine (of_calls [116] F v w hv (kn_few h) (kn_str h) (by unfold maxLen; simp) hT).mono ?_
  rintro e w' ⟨⟨A, n, cap, M, rfl, hk, hM⟩, hb⟩
  rw [h, kn_of_2]
  exact ⟨⟨A, n, cap, rfl⟩, hb⟩
theorem kn_of3 (w : World) (hT : ShPl w) :
    Calls Tryz.prog 9 #[.string ⟨#[84]⟩, .slice none 0 0] w fun e w' => (∃ A n cap, e = .returned (.tuple #[.agg #[.string ⟨#[]⟩, .slice A n cap], .bool false])) ∧ Below w.heap.size w w' := by
  refine (of_calls [84] [] _ w (FmRow.nil w) nil_few (fun x hx => by cases hx) (by unfold maxLen; simp) hT).mono ?_
  rintro e w' ⟨⟨A, n, cap, M, rfl, hk, hM⟩, hb⟩
  rw [show fms [] = [] from rfl, kn_of_3]
  exact ⟨⟨A, n, cap, rfl⟩, hb⟩
theorem kn_of4 (w : World) (hT : ShPl w) :
    Calls Tryz.prog 9 #[.string ⟨#[116]⟩, .slice none 0 0] w fun e w' => (∃ A n cap, e = .returned (.tuple #[.agg #[.string ⟨#[116]⟩, .slice A n cap], .bool true])) ∧ Below w.heap.size w w' := by
  refine (of_calls [116] [] _ w (FmRow.nil w) nil_few (fun x hx => by cases hx) (by unfold maxLen; simp) hT).mono ?_
  rintro e w' ⟨⟨A, n, cap, M, rfl, hk, hM⟩, hb⟩
  rw [show fms [] = [] from rfl, kn_of_4]
  exact ⟨⟨A, n, cap, rfl⟩, hb⟩
theorem kn_chkA (F : List Fs) (v : Value) (w : World) (h : fms F = [kA 2, kB 1]) (hv : FmRow w v F) (hT : ShPl w) :
    Calls Tryz.prog 12 #[.agg #[.string ⟨#[116]⟩, v]] w fun e w' => e = .returned (.int .i64 0) ∧ Below w.heap.size w w' :=
  (bcheck_calls [116] F v w hv (kn_few h) (by unfold maxLen; simp) hT).mono fun _ _ ⟨h1, hb⟩ => ⟨by rw [h1, h, kn_chk0], hb⟩
theorem kn_chkB (F : List Fs) (v : Value) (w : World) (h : fms F = [kB 1, kA 2]) (hv : FmRow w v F) (hT : ShPl w) :
    Calls Tryz.prog 12 #[.agg #[.string ⟨#[116]⟩, v]] w fun e w' => e = .returned (.int .i64 19) ∧ Below w.heap.size w w' :=
  (bcheck_calls [116] F v w hv (kn_few h) (by unfold maxLen; simp) hT).mono fun _ _ ⟨h1, hb⟩ => ⟨by rw [h1, h, kn_chk1], hb⟩
theorem kn_pts (F : List Fs) (v : Value) (w : World) (h : fms F = [kA 2, kB 1]) (hv : FmRow w v F) :
    Calls Tryz.prog 13 #[.agg #[.string ⟨#[116]⟩, v]] w fun e w' => e = .returned (.int .i64 2) ∧ Below w.heap.size w w' :=
  (bpoints_calls [116] F v w hv (kn_few h)).mono fun _ _ ⟨h1, hb⟩ => ⟨by rw [h1, h]; rfl, hb⟩
theorem kn_same (F : List Fs) (v : Value) (w : World) (h : fms F = [kA 2, kB 1]) (hv : FmRow w v F) :
    Calls Tryz.prog 11 #[.agg #[.string ⟨#[116]⟩, v], .agg #[.string ⟨#[116]⟩, v]] w fun e w' => e = .returned (.bool true) ∧ Below w.heap.size w w' :=
  (bsame_calls [116] [116] F F v v w hv hv (kn_few h)).mono fun _ _ ⟨h1, hb⟩ => ⟨by rw [h1, sameB_refl], hb⟩
theorem kn_stamp (F : List Fs) (v : Value) (w : World) (h : fms F = [kA 2, kB 1]) (hv : FmRow w v F) :
    Calls Tryz.prog 14 #[.agg #[.string ⟨#[116]⟩, v], .string ⟨#[117]⟩] w fun e w' => (∃ A n cap, e = .returned (.agg #[.string ⟨#[117]⟩, .slice A n cap])) ∧ Below w.heap.size w w' :=
  (stamp_calls [116] [117] F v w hv (kn_few h)).mono fun _ _ ⟨⟨A, n, cap, M, h1, _, _⟩, hb⟩ => ⟨⟨A, n, cap, h1⟩, hb⟩
theorem kn_ten1 (w : World) : Calls Tryz.prog 15 #[.string ⟨#[97, 45, 57]⟩] w fun e w' => e = .returned (.bool true) ∧ w = w' :=
  (ten_calls [97, 45, 57] w (by unfold maxLen; simp)).mono fun _ _ ⟨h, hb⟩ => ⟨by rw [h]; rfl, hb⟩
theorem kn_ten2 (w : World) : Calls Tryz.prog 15 #[.string ⟨#[]⟩] w fun e w' => e = .returned (.bool false) ∧ w = w' :=
  (ten_calls [] w (by unfold maxLen; simp)).mono fun _ _ ⟨h, hb⟩ => ⟨by rw [h]; rfl, hb⟩
theorem kn_ten3 (w : World) : Calls Tryz.prog 15 #[.string ⟨#[65]⟩] w fun e w' => e = .returned (.bool false) ∧ w = w' :=
  (ten_calls [65] w (by unfold maxLen; simp)).mono fun _ _ ⟨h, hb⟩ => ⟨by rw [h]; rfl, hb⟩

set_option maxHeartbeats 16000000 in
theorem bknown_calls (w : World) (hT : ShPl w) : Calls Tryz.prog 6 #[] w fun e w' => e = .returned (.bool true) ∧ Below w.heap.size w w' := by
  have K0 := Lib.hid (Below.refl w.heap.size w)
  have T0 := Lib.hid hT
  clear hT
  have hfd : ∀ (w : World) (s : ByteArray) (A : Option Addr) (n cap : Nat), (Instr.field 24 (.agg #[.string s, .slice A n cap]) 0).run Tryz.prog w = .ok (.string s) w := fun _ _ _ _ _ => by kernel_rfl
  go_enter Tryz.func6, Tryz.ntmps6
  go_wp2_with fail
  refine (fam_calls 98 1 _ (by decide) (by decide)).mono ?_; rintro e w1 ⟨⟨ga1, La1, rfl, row, hpa1⟩, b1⟩
  have T1 := Lib.hid (shpl_below T0.out b1)
  have K1 := Lib.hid (trans9 K0.out b1)
  have Ra11 := Lib.hid row
  have HPa1 := Lib.hid hpa1
  clear row hpa1
  clear b1
  go_wp2_with fail
  refine (fam_calls 97 2 _ (by decide) (by decide)).mono ?_; rintro e w2 ⟨⟨ga2, La2, rfl, row, hpa2⟩, b2⟩
  have kD := kp_alloc (Below.refl w2.heap.size w2) (.cells #[.string ⟨#[98]⟩, .int .i64 1, .string ⟨#[]⟩, .string ⟨#[]⟩, .slice (some ⟨ga1, 0, none⟩) 1 1, .string ⟨#[97]⟩, .int .i64 1, .string ⟨#[]⟩, .string ⟨#[]⟩, .slice (some ⟨ga2, 0, none⟩) 1 1] 35)
  have bD := b2.trans (kD.mono b2.size)
  have T2 := Lib.hid (shpl_below T1.out bD)
  have K2 := Lib.hid (trans9 K1.out bD)
  have RRa2 := Lib.hid (fm_two _ (kx 98 ga1 La1) (kx 97 ga2 La2) 35 (kx_in (Ra11.out.below b2)) (kx_in row))
  have HPa := Lib.hid (kx_fms (a := 98) (b := 97) (g := ga1) (g' := ga2) HPa1.out hpa2)
  clear row hpa2
  clear b2 kD bD
  go_wp2_with fail
  refine (kn_of1 _ _ _ HPa.out RRa2.out T2.out).mono ?_; rintro e w3 ⟨⟨gb, ob, capb, M, rfl, row, hM, hcb, hlb⟩, b3⟩
  have kD := kp_alloc (Below.refl w3.heap.size w3) (.cells #[.string ⟨#[116]⟩, .slice (some ⟨gb, ob, none⟩) 2 capb] 24)
  have bD := b3.trans (kD.mono b3.size)
  have T3 := Lib.hid (shpl_below T2.out bD)
  have K3 := Lib.hid (trans9 K2.out bD)
  have RB3 := Lib.hid (row.below kD)
  have HM := Lib.hid hM
  have CB3 := Lib.hid ((kD.cell (p := ⟨gb, ob, none⟩) hlb).trans hcb)
  have LB3 := Lib.hid (Nat.lt_of_lt_of_le hlb kD.size)
  have FB3 := Lib.hid (BatAt.new w3 [116] (.slice (some ⟨gb, ob, none⟩) 2 capb) 24)
  clear row hM hcb hlb
  clear b3 kD bD
  obtain ⟨fb0, fb1, fbf, fbl⟩ := FB3.out
  have cb := CB3.out
  go_wp2_with fail
  refine (fam_calls 97 1 _ (by decide) (by decide)).mono ?_; rintro e w4 ⟨⟨gc1, Lc1, rfl, row, hpc1⟩, b4⟩
  have T4 := Lib.hid (shpl_below T3.out b4)
  have K4 := Lib.hid (trans9 K3.out b4)
  have RB4 := Lib.hid (RB3.out.below b4)
  have FB4 := Lib.hid (FB3.out.below b4)
  have CB4 := Lib.hid ((b4.cell (p := ⟨gb, ob, none⟩) LB3.out).trans CB3.out)
  have LB4 := Lib.hid (Nat.lt_of_lt_of_le LB3.out b4.size)
  have Rc14 := Lib.hid row
  have HPc1 := Lib.hid hpc1
  clear row hpc1
  clear fb0 fb1 fbf fbl cb
  clear b4
  obtain ⟨fb0, fb1, fbf, fbl⟩ := FB4.out
  have cb := CB4.out
  go_wp2_with fail
  refine (fam_calls 97 2 _ (by decide) (by decide)).mono ?_; rintro e w5 ⟨⟨gc2, Lc2, rfl, row, hpc2⟩, b5⟩
  have kD := kp_alloc (Below.refl w5.heap.size w5) (.cells #[.string ⟨#[97]⟩, .int .i64 1, .string ⟨#[]⟩, .string ⟨#[]⟩, .slice (some ⟨gc1, 0, none⟩) 1 1, .string ⟨#[97]⟩, .int .i64 1, .string ⟨#[]⟩, .string ⟨#[]⟩, .slice (some ⟨gc2, 0, none⟩) 1 1] 35)
  have bD := b5.trans (kD.mono b5.size)
  have T5 := Lib.hid (shpl_below T4.out bD)
  have K5 := Lib.hid (trans9 K4.out bD)
  have RB5 := Lib.hid (RB4.out.below bD)
  have FB5 := Lib.hid (FB4.out.below bD)
  have CB5 := Lib.hid ((bD.cell (p := ⟨gb, ob, none⟩) LB4.out).trans CB4.out)
  have LB5 := Lib.hid (Nat.lt_of_lt_of_le LB4.out bD.size)
  have RRc5 := Lib.hid (fm_two _ (kx 97 gc1 Lc1) (kx 97 gc2 Lc2) 35 (kx_in (Rc14.out.below b5)) (kx_in row))
  have HPc := Lib.hid (kx_fms (a := 97) (b := 97) (g := gc1) (g' := gc2) HPc1.out hpc2)
  clear row hpc2
  clear fb0 fb1 fbf fbl cb
  clear b5 kD bD
  obtain ⟨fb0, fb1, fbf, fbl⟩ := FB5.out
  have cb := CB5.out
  go_wp2_with fail
  refine (kn_of2 _ _ _ HPc.out RRc5.out T5.out).mono ?_; rintro e w6 ⟨⟨A2, n2, cap2, rfl⟩, b6⟩
  have kD := kp_alloc (Below.refl w6.heap.size w6) (.cells #[.string ⟨#[]⟩, .slice A2 n2 cap2] 24)
  have bD := b6.trans (kD.mono b6.size)
  have T6 := Lib.hid (shpl_below T5.out bD)
  have K6 := Lib.hid (trans9 K5.out bD)
  have RB6 := Lib.hid (RB5.out.below bD)
  have FB6 := Lib.hid (FB5.out.below bD)
  have CB6 := Lib.hid ((bD.cell (p := ⟨gb, ob, none⟩) LB5.out).trans CB5.out)
  have LB6 := Lib.hid (Nat.lt_of_lt_of_le LB5.out bD.size)
  clear fb0 fb1 fbf fbl cb
  clear b6 kD bD
  obtain ⟨fb0, fb1, fbf, fbl⟩ := FB6.out
  have cb := CB6.out
  go_wp2_with fail
  refine (kn_of3 _ T6.out).mono ?_; rintro e w7 ⟨⟨A3, n3, cap3, rfl⟩, b7⟩
  have kD := kp_alloc (Below.refl w7.heap.size w7) (.cells #[.string ⟨#[]⟩, .slice A3 n3 cap3] 24)
  have bD := b7.trans (kD.mono b7.size)
  have T7 := Lib.hid (shpl_below T6.out bD)
  have K7 := Lib.hid (trans9 K6.out bD)
  have RB7 := Lib.hid (RB6.out.below bD)
  have FB7 := Lib.hid (FB6.out.below bD)
  have CB7 := Lib.hid ((bD.cell (p := ⟨gb, ob, none⟩) LB6.out).trans CB6.out)
  have LB7 := Lib.hid (Nat.lt_of_lt_of_le LB6.out bD.size)
  clear fb0 fb1 fbf fbl cb
  clear b7 kD bD
  obtain ⟨fb0, fb1, fbf, fbl⟩ := FB7.out
  have cb := CB7.out
  go_wp2_with fail
  refine (kn_of4 _ T7.out).mono ?_; rintro e w8 ⟨⟨A4, n4, cap4, rfl⟩, b8⟩
  have kD := kp_alloc (Below.refl w8.heap.size w8) (.cells #[.string ⟨#[116]⟩, .slice A4 n4 cap4] 24)
  have bD := b8.trans (kD.mono b8.size)
  have T8 := Lib.hid (shpl_below T7.out bD)
  have K8 := Lib.hid (trans9 K7.out bD)
  have RB8 := Lib.hid (RB7.out.below bD)
  have FB8 := Lib.hid (FB7.out.below bD)
  have CB8 := Lib.hid ((bD.cell (p := ⟨gb, ob, none⟩) LB7.out).trans CB7.out)
  have LB8 := Lib.hid (Nat.lt_of_lt_of_le LB7.out bD.size)
  have FE8 := Lib.hid (BatAt.new w8 [116] (.slice A4 n4 cap4) 24)
  clear fb0 fb1 fbf fbl cb
  clear b8 kD bD
  obtain ⟨fb0, fb1, fbf, fbl⟩ := FB8.out
  have cb := CB8.out
  obtain ⟨fe0, fe1, fef, fel⟩ := FE8.out
  go_wp2_with fail
  refine (kn_chkA _ _ _ HM.out RB8.out T8.out).mono ?_; rintro e w9 ⟨rfl, b9⟩
  have T9 := Lib.hid (shpl_below T8.out b9)
  have K9 := Lib.hid (trans9 K8.out b9)
  have RB9 := Lib.hid (RB8.out.below b9)
  have FB9 := Lib.hid (FB8.out.below b9)
  have CB9 := Lib.hid ((b9.cell (p := ⟨gb, ob, none⟩) LB8.out).trans CB8.out)
  have LB9 := Lib.hid (Nat.lt_of_lt_of_le LB8.out b9.size)
  have FE9 := Lib.hid (FE8.out.below b9)
  clear fb0 fb1 fbf fbl cb fe0 fe1 fef fel
  clear b9
  obtain ⟨fb0, fb1, fbf, fbl⟩ := FB9.out
  obtain ⟨fe0, fe1, fef, fel⟩ := FE9.out
  have cb := CB9.out
  go_wp2_with fail
  refine (fam_calls 98 1 _ (by decide) (by decide)).mono ?_; rintro e w10 ⟨⟨gd1, Ld1, rfl, row, hpd1⟩, b10⟩
  have T10 := Lib.hid (shpl_below T9.out b10)
  have K10 := Lib.hid (trans9 K9.out b10)
  have RB10 := Lib.hid (RB9.out.below b10)
  have FB10 := Lib.hid (FB9.out.below b10)
  have CB10 := Lib.hid ((b10.cell (p := ⟨gb, ob, none⟩) LB9.out).trans CB9.out)
  have LB10 := Lib.hid (Nat.lt_of_lt_of_le LB9.out b10.size)
  have FE10 := Lib.hid (FE9.out.below b10)
  have Rd110 := Lib.hid row
  have HPd1 := Lib.hid hpd1
  clear row hpd1
  clear fb0 fb1 fbf fbl fe0 fe1 fef fel cb
  clear b10
  obtain ⟨fb0, fb1, fbf, fbl⟩ := FB10.out
  obtain ⟨fe0, fe1, fef, fel⟩ := FE10.out
  have cb := CB10.out
  go_wp2_with fail
  refine (fam_calls 97 2 _ (by decide) (by decide)).mono ?_; rintro e w11 ⟨⟨gd2, Ld2, rfl, row, hpd2⟩, b11⟩
  have kD := kp_alloc (Below.refl w11.heap.size w11) (.cells #[.string ⟨#[98]⟩, .int .i64 1, .string ⟨#[]⟩, .string ⟨#[]⟩, .slice (some ⟨gd1, 0, none⟩) 1 1, .string ⟨#[97]⟩, .int .i64 1, .string ⟨#[]⟩, .string ⟨#[]⟩, .slice (some ⟨gd2, 0, none⟩) 1 1] 35)
  have bD := b11.trans (kD.mono b11.size)
  have T11 := Lib.hid (shpl_below T10.out bD)
  have K11 := Lib.hid (trans9 K10.out bD)
  have RB11 := Lib.hid (RB10.out.below bD)
  have FB11 := Lib.hid (FB10.out.below bD)
  have CB11 := Lib.hid ((bD.cell (p := ⟨gb, ob, none⟩) LB10.out).trans CB10.out)
  have LB11 := Lib.hid (Nat.lt_of_lt_of_le LB10.out bD.size)
  have FE11 := Lib.hid (FE10.out.below bD)
  have RRd11 := Lib.hid (fm_two _ (kx 98 gd1 Ld1) (kx 97 gd2 Ld2) 35 (kx_in (Rd110.out.below b11)) (kx_in row))
  have HPd := Lib.hid (kx_fms (a := 98) (b := 97) (g := gd1) (g' := gd2) HPd1.out hpd2)
  clear row hpd2
  clear fb0 fb1 fbf fbl fe0 fe1 fef fel cb
  clear b11 kD bD
  obtain ⟨fb0, fb1, fbf, fbl⟩ := FB11.out
  obtain ⟨fe0, fe1, fef, fel⟩ := FE11.out
  have cb := CB11.out
  go_wp2_with fail
  refine (kn_chkB _ _ _ HPd.out RRd11.out T11.out).mono ?_; rintro e w12 ⟨rfl, b12⟩
  have T12 := Lib.hid (shpl_below T11.out b12)
  have K12 := Lib.hid (trans9 K11.out b12)
  have RB12 := Lib.hid (RB11.out.below b12)
  have FB12 := Lib.hid (FB11.out.below b12)
  have CB12 := Lib.hid ((b12.cell (p := ⟨gb, ob, none⟩) LB11.out).trans CB11.out)
  have LB12 := Lib.hid (Nat.lt_of_lt_of_le LB11.out b12.size)
  have FE12 := Lib.hid (FE11.out.below b12)
  clear fb0 fb1 fbf fbl fe0 fe1 fef fel cb
  clear b12
  obtain ⟨fb0, fb1, fbf, fbl⟩ := FB12.out
  obtain ⟨fe0, fe1, fef, fel⟩ := FE12.out
  have cb := CB12.out
  go_wp2_with fail
  refine (kn_pts _ _ _ HM.out RB12.out).mono ?_; rintro e w13 ⟨rfl, b13⟩
  have T13 := Lib.hid (shpl_below T12.out b13)
  have K13 := Lib.hid (trans9 K12.out b13)
  have RB13 := Lib.hid (RB12.out.below b13)
  have FB13 := Lib.hid (FB12.out.below b13)
  have CB13 := Lib.hid ((b13.cell (p := ⟨gb, ob, none⟩) LB12.out).trans CB12.out)
  have LB13 := Lib.hid (Nat.lt_of_lt_of_le LB12.out b13.size)
  have FE13 := Lib.hid (FE12.out.below b13)
  clear fb0 fb1 fbf fbl fe0 fe1 fef fel cb
  clear b13
  obtain ⟨fb0, fb1, fbf, fbl⟩ := FB13.out
  obtain ⟨fe0, fe1, fef, fel⟩ := FE13.out
  have cb := CB13.out
  go_wp2_with fail
  refine (kn_same _ _ _ HM.out RB13.out).mono ?_; rintro e w14 ⟨rfl, b14⟩
  have T14 := Lib.hid (shpl_below T13.out b14)
  have K14 := Lib.hid (trans9 K13.out b14)
  have RB14 := Lib.hid (RB13.out.below b14)
  have FB14 := Lib.hid (FB13.out.below b14)
  have CB14 := Lib.hid ((b14.cell (p := ⟨gb, ob, none⟩) LB13.out).trans CB13.out)
  have LB14 := Lib.hid (Nat.lt_of_lt_of_le LB13.out b14.size)
  have FE14 := Lib.hid (FE13.out.below b14)
  clear fb0 fb1 fbf fbl fe0 fe1 fef fel cb
  clear b14
  obtain ⟨fb0, fb1, fbf, fbl⟩ := FB14.out
  obtain ⟨fe0, fe1, fef, fel⟩ := FE14.out
  have cb := CB14.out
  go_wp2_with fail
  refine (kn_stamp _ _ _ HM.out RB14.out).mono ?_; rintro e w15 ⟨⟨A5, n5, cap5, rfl⟩, b15⟩
  have T15 := Lib.hid (shpl_below T14.out b15)
  have K15 := Lib.hid (trans9 K14.out b15)
  have RB15 := Lib.hid (RB14.out.below b15)
  have FB15 := Lib.hid (FB14.out.below b15)
  have CB15 := Lib.hid ((b15.cell (p := ⟨gb, ob, none⟩) LB14.out).trans CB14.out)
  have LB15 := Lib.hid (Nat.lt_of_lt_of_le LB14.out b15.size)
  have FE15 := Lib.hid (FE14.out.below b15)
  clear fb0 fb1 fbf fbl fe0 fe1 fef fel cb
  clear b15
  obtain ⟨fb0, fb1, fbf, fbl⟩ := FB15.out
  obtain ⟨fe0, fe1, fef, fel⟩ := FE15.out
  have cb := CB15.out
  go_wp2_with fail
  refine (kn_ten1 _).mono ?_; rintro e w99 ⟨rfl, rfl⟩
  go_wp2_with fail
  refine (kn_ten2 _).mono ?_; rintro e w99 ⟨rfl, rfl⟩
  go_wp2_with fail
  refine (kn_ten3 _).mono ?_; rintro e w99 ⟨rfl, rfl⟩
  go_wp2_with fail
  go_ret
  exact ⟨rfl, K15.out⟩

end Go.Proofs.YtkmcjmpdmgdcoaaGreatDoor
