/- The walks of the laws' one, known. -/
import Derived.Test.YtjeefgamkoeiaaaGreatDoorMrgY
set_option maxRecDepth 100000
set_option linter.unusedVariables false
set_option linter.unusedSimpArgs false
namespace Go.Proofs.YtjeefgamkoeiaaaGreatDoor
open Go.RowKit Go.Sort Dc
attribute [local go_sem ↓] Go.wp_at_zero Go.wp_at_succ

/-- batches in a block of their own -/
theorem new_bt (w : World) (l : List Bs) (h0 : 0 < l.length) (hn : l.length ≤ 1000) (h : ∀ x ∈ l, FmRow w x.v x.F ∧ x.t.length ≤ maxLen) : BtRow (w.alloc (.cells (l.flatMap encB).toArray 28)) (.slice (some ⟨w.heap.size, 0, none⟩) l.length l.length) l := by
  have hk := (Below.refl w.heap.size w).alloc (Nat.le_refl _) (.cells (l.flatMap encB).toArray 28)
  refine ⟨⟨_, l.length, rfl, Nat.le_refl _, by unfold maxLen; omega, (by rintro ⟨⟩), fun _ => ⟨w.heap.size, 0, rfl, by simp, fun i x hx j u hu => ?_⟩⟩, fun x hx => ⟨(h x hx).1.below hk, (h x hx).2⟩⟩
  have hj : j < 2 := by rw [← encB_len x]; exact (List.getElem?_eq_some_iff.1 hu).1
  have h1 := kc_get encB_len l i j x hx hj
  rw [Nat.zero_add, cell_of_row (w.alloc (.cells (l.flatMap encB).toArray 28)) w.heap.size _ (l.flatMap encB).toArray _ (0, 0) (heap_new w _), ← hu, ← h1]
  simp
theorem bt_few {l : List Bs} (hn : l.length ≤ 1000) (h : ∀ x ∈ l, FpFew (fms x.F)) : BtFew l := ⟨hn, fun x hx => (h x hx).rows⟩

def opt (v at_ : Int) : Pt := ⟨[], 0, false, 0, 0, v, 0, true, at_⟩
def ohd (c : UInt8) (k : Int) : Hd := ⟨[c], k, [], []⟩
abbrev oF (c : UInt8) (k v at_ : Int) : Fp := (ohd c k, [opt v at_])
theorem opt_in {v a : Int} (h1 : -100 ≤ v ∧ v ≤ 100) (h2 : -100 ≤ a ∧ a ≤ 100) : PtIn (opt v a) :=
  ⟨by show (-9223372036854775808 : Int) ≤ 0; decide, by show (0 : Int) ≤ 9223372036854775807; decide, by show (-9223372036854775808 : Int) ≤ v; omega, by show v ≤ (9223372036854775807 : Int); omega, by show (-9223372036854775808 : Int) ≤ a; omega, by show a ≤ (9223372036854775807 : Int); omega, fun x hx => by cases hx⟩
theorem ohd_in (c : UInt8) {k : Int} (h : 0 ≤ k ∧ k ≤ 100) : HdIn (ohd c k) :=
  ⟨by show [c].length ≤ maxLen; unfold maxLen; simp, by show [].length ≤ maxLen; unfold maxLen; simp, by show [].length ≤ maxLen; unfold maxLen; simp, by show (-9223372036854775808 : Int) ≤ k; omega, by show k ≤ (9223372036854775807 : Int); omega⟩
theorem one_row (c : UInt8) (k v at_ : Int) (w : World) (o : Obj) (hk : 0 ≤ k ∧ k ≤ 100) (hv : -100 ≤ v ∧ v ≤ 100) (ha : -100 ≤ at_ ∧ at_ ≤ 100) :
    FmRow (((w.alloc o).alloc (.cells (ptc (.slice none 0 0) (opt v at_)) 53)).alloc (.cells (famc (ohd c k) (.slice (some ⟨w.heap.size + 1, 0, none⟩) 1 1)) 41)) (.slice (some ⟨w.heap.size + 2, 0, none⟩) 1 1) [⟨ohd c k, .slice (some ⟨w.heap.size + 1, 0, none⟩) 1 1, [(.slice none 0 0, opt v at_)]⟩] := by
  have hz1 : (w.alloc o).heap.size = w.heap.size + 1 := by simp
  have hp : PtRow ((w.alloc o).alloc (.cells (ptc (.slice none 0 0) (opt v at_)) 53)) (.slice (some ⟨w.heap.size + 1, 0, none⟩) 1 1) [(.slice none 0 0, opt v at_)] := by
    have h := new_pt (w.alloc o) (.slice none 0 0) (opt v at_)
    rw [hz1] at h
    exact ⟨h, fun x hx => by rw [List.mem_singleton.1 hx]; exact ⟨⟨none, 0, rfl, Nat.le_refl _, by unfold maxLen; omega, fun _ => rfl, fun h => absurd h (by simp [opt])⟩, opt_in hv ha⟩⟩
  have h := (new_fs ((w.alloc o).alloc (.cells (ptc (.slice none 0 0) (opt v at_)) 53)) ⟨ohd c k, .slice (some ⟨w.heap.size + 1, 0, none⟩) 1 1, [(.slice none 0 0, opt v at_)]⟩).row
  rw [show ((w.alloc o).alloc (.cells (ptc (.slice none 0 0) (opt v at_)) 53)).heap.size = w.heap.size + 2 by simp] at h
  exact ⟨h, fun x hx => by rw [List.mem_singleton.1 hx]; exact ⟨hp.below ((Below.refl _ _).alloc (Nat.le_refl _) _), ohd_in c hk⟩⟩
theorem one_calls (c : UInt8) (k v at_ : Int) (w : World) (hk : 0 ≤ k ∧ k ≤ 100) (hv : -100 ≤ v ∧ v ≤ 100) (ha : -100 ≤ at_ ∧ at_ ≤ 100) :
    Calls Tryz.prog 22 #[.string ⟨#[c]⟩, .int .i64 k, .int .i64 v, .int .i64 at_] w fun e w' => (∃ A n cap F, e = .returned (batv [116] (.slice A n cap)) ∧ FmRow w' (.slice A n cap) F ∧ fms F = [oF c k v at_]) ∧ Below w.heap.size w w' := by
  have HR := Lib.hid (fun o => one_row c k v at_ w o hk hv ha)
  clear hk hv ha
  go_enter Tryz.func22, Tryz.ntmps22
  go_wp2
  refine bodyPost_ret (v := .agg #[.string ⟨#[116]⟩, .slice (some ⟨w.heap.size + 2, 0, none⟩) 1 1]) (by simp [results, Tryz.results22, go_sem]) rfl ⟨⟨_, _, _, [⟨ohd c k, .slice (some ⟨w.heap.size + 1, 0, none⟩) 1 1, [(.slice none 0 0, opt v at_)]⟩], rfl, HR.out _, rfl⟩, ?_⟩
  exact kp_alloc (kp_alloc (kp_alloc (Below.refl _ _) _) _) _

/-- what the laws' known puts together -/
abbrev kL1 : List Bp := [([116], [oF 97 1 1 5]), ([116], [oF 98 1 2 5]), ([116], [oF 97 1 3 5])]
abbrev kL2 : List Bp := [([116], [oF 97 1 1 5]), ([116], [oF 97 2 1 6])]
abbrev kL3 : List Bp := [([116], [oF 97 1 1 5]), ([117], [])]
theorem k1_ref : mRef kL1 = 0 := mRef_zero.2 ⟨by decide, by decide, by unfold agreeF; decide⟩
theorem k1_all : allF (flat kL1) = [oF 97 1 3 5, oF 98 1 2 5] := by kernel_rfl
theorem k1_err : mErr kL1 = 0 := (mErr_zero (by simp)).2 ⟨k1_ref, by rw [k1_all]; decide⟩
theorem k2_err : mErr kL2 = 13 := by
  rw [mErr_ref (by rw [mRef_13 (by decide) (by decide) (by unfold agreeF; decide)]; decide) (by simp)]
  exact mRef_13 (by decide) (by decide) (by unfold agreeF; decide)
theorem k3_err : mErr kL3 = 18 := by
  rw [mErr_ref (by rw [mRef_18 (by decide) (by decide)]; decide) (by simp)]
  exact mRef_18 (by decide) (by decide)
theorem k_min : minF (fun _ => ⟨#[97]⟩) 1 [oF 97 1 3 5, oF 98 1 2 5] = [oF 98 1 2 5] := by kernel_rfl
theorem k_few {F : List Fs} {l : List Fp} (h : fms F = l) (hl : FpFew l) : FmFew F := FpFew.rows (by rw [h]; exact hl)
theorem k_fewL {c : UInt8} {k v a : Int} : FpFew [oF c k v a] := ⟨by simp, fun x hx => by rw [List.mem_singleton.1 hx]; simp, fun x hx y hy => by rw [List.mem_singleton.1 hx] at hy; rw [List.mem_singleton.1 hy]; simp [opt]⟩
theorem k_few2 : FpFew [oF 97 1 3 5, oF 98 1 2 5] := by
  refine ⟨by simp, fun x hx => ?_, fun x hx y hy => ?_⟩
  · rcases List.mem_cons.1 hx with rfl | hx
    · simp
    · rw [List.mem_singleton.1 hx]; simp
  · rcases List.mem_cons.1 hx with rfl | hx
    · rw [List.mem_singleton.1 hy]; simp [opt]
    · rw [List.mem_singleton.1 hx] at hy; rw [List.mem_singleton.1 hy]; simp [opt]
/-- the first family, its first point; the second family's name: where they lie -/
theorem k_read {w : World} {v : Value} {M : List Fs} {h : Hd} {p : Pt} {z : Fp} (hv : FmRow w v M) (hM : fms M = [(h, [p]), z]) :
    ∃ b off cap b1 o1 c1, v = .slice (some ⟨b, off, none⟩) 2 cap ∧ b < w.heap.size ∧ w.cell? ⟨b, off + 4, none⟩ = some (.slice (some ⟨b1, o1, none⟩) 1 c1) ∧ b1 < w.heap.size ∧ w.cell? ⟨b1, o1 + 5, none⟩ = some (.int .i64 p.m) := by
  obtain ⟨A, cap, rfl, _, _, _, hr⟩ := hv.1
  have hl : M.length = 2 := by have := congrArg List.length hM; simpa using this
  obtain ⟨b, off, rfl, hlt, hc⟩ := hr (by omega)
  obtain ⟨x, hx, hxp⟩ := fs_get (F := M) (i := 0) (by omega)
  rw [hM] at hxp
  have hfx : (h, [p]) = fm x := Option.some.inj hxp
  obtain ⟨_, _, _, _, c4⟩ := fr_cells hc hx
  have hix := hv.2 x (List.mem_of_getElem? hx)
  obtain ⟨A1, cap1, h1, _, _, _, hr1⟩ := hix.1.1
  have hxl : x.L.length = 1 := by have := congrArg (fun q : Fp => q.2.length) hfx; simpa [pts] using this.symm
  obtain ⟨b1, o1, rfl, hlt1, hc1⟩ := hr1 (by omega)
  obtain ⟨y, hy, hyp⟩ := ps_get (L := x.L) (i := 0) (by omega)
  obtain ⟨_, _, _, _, _, d5, _⟩ := pr_cells hc1 hy
  have hyy : p = y.2 := by
    have h2 : pts x.L = [p] := (congrArg Prod.snd hfx).symm
    rw [h2] at hyp
    exact Option.some.inj hyp
  refine ⟨b, off, cap, b1, o1, cap1, by rw [hl], hlt, ?_, hlt1, ?_⟩
  · rw [h1, hxl] at c4
    simpa using c4
  · rw [hyy]
    simpa using d5
theorem k_name {w : World} {v : Value} {M : List Fs} {h : Hd} {l : List Pt} (hv : FmRow w v M) (hM : fms M = [(h, l)]) :
    ∃ b off cap, v = .slice (some ⟨b, off, none⟩) 1 cap ∧ b < w.heap.size ∧ w.cell? ⟨b, off, none⟩ = some (.string (str h.n)) := by
  obtain ⟨A, cap, rfl, _, _, _, hr⟩ := hv.1
  have hl : M.length = 1 := by have := congrArg List.length hM; simpa using this
  obtain ⟨b, off, rfl, hlt, hc⟩ := hr (by omega)
  obtain ⟨x, hx, hxp⟩ := fs_get (F := M) (i := 0) (by omega)
  rw [hM] at hxp
  have hfx : (h, l) = fm x := Option.some.inj hxp
  obtain ⟨c0, _⟩ := fr_cells hc hx
  refine ⟨b, off, cap, by rw [hl], hlt, ?_⟩
  have e : h = x.hd := congrArg Prod.fst hfx
  rw [e]
  simpa using c0


theorem k_merge (L : List Bp) (l : List Bs) (v : Value) (w : World) (hv : BtRow w v l) (hf : BtFew l) (hl : bps l = L) (hT : ShPl w) :
    Calls Tryz.prog 10 #[v] w fun e w' => MrgRes L e w' ∧ Below w.heap.size w w' := by
  subst hl
  exact merge_calls l v w hv hf hT
theorem MrgRes.good {L : List Bp} {e : Ending} {w' : World} (h : MrgRes L e w') (h0 : mErr L = 0) : ∃ A n cap M, e = .returned (.tuple #[batv (ten L) (.slice A n cap), .int .i64 0]) ∧ FmRow w' (.slice A n cap) M ∧ fms M = allF (flat L) := by
  obtain ⟨A, n, cap, M, rfl, hr, hm⟩ := h
  exact ⟨A, n, cap, M, by rw [h0, mT_good h0], hr, by rw [hm, mF_good h0]⟩
theorem MrgRes.bad {L : List Bp} {e : Ending} {w' : World} {c : Int} (h : MrgRes L e w') (h0 : mErr L = c) (hc : c ≠ 0) : ∃ A cap, e = .returned (.tuple #[batv [] (.slice A 0 cap), .int .i64 c]) := by
  obtain ⟨A, n, cap, M, rfl, hr, hm⟩ := h
  obtain ⟨A1, cap1, he, _⟩ := hr.1
  have hM : M.length = 0 := by
    have := congrArg List.length hm
    rw [mF_bad (by rw [h0]; exact hc)] at this
    simpa using this
  cases he
  exact ⟨A, cap, by rw [h0, mT_bad (by rw [h0]; exact hc), hM]⟩
theorem k_str (w : World) : StrRow (w.alloc (.cells #[.string ⟨#[97]⟩] 9)) (.slice (some ⟨w.heap.size, 0, none⟩) 1 1) 1 (fun _ => ⟨#[97]⟩) :=
  ⟨_, 1, rfl, Nat.le_refl _, by unfold maxLen; omega, fun _ => ⟨w.heap.size, 0, rfl, by simp, fun i hi => by
    obtain rfl : i = 0 := by omega
    exact ⟨by simp, by unfold maxLen; decide⟩⟩⟩
theorem k_bt {x : List UInt8} {v : Value} {F : List Fs} {w : World} (h : FmRow w v F) (hx : x.length ≤ 16) : FmRow w v F ∧ x.length ≤ maxLen := ⟨h, by unfold maxLen; omega⟩

set_option maxHeartbeats 16000000 in
theorem mknown_calls (w : World) (hT : ShPl w) : Calls Tryz.prog 8 #[] w fun e w' => e = .returned (.bool true) ∧ Below w.heap.size w w' := by
  have HT := Lib.hid (fun W (hW : Below w.heap.size w W) => shpl_below hT hW)
  clear hT
  go_enter Tryz.func8, Tryz.ntmps8
  go_wp2_with fail
  refine (one_calls 97 1 1 5 _ (by decide) (by decide) (by decide)).mono ?_; rintro e w1 ⟨⟨A1, n1, c1, F1, rfl, row1, hf1⟩, b1⟩
  have K1 := Lib.hid (trans9 (Below.refl w.heap.size w) b1)
  have R1 := Lib.hid row1
  have M1 := Lib.hid hf1
  clear row1 hf1 b1
  go_wp2_with fail
  refine (one_calls 98 1 2 5 _ (by decide) (by decide) (by decide)).mono ?_; rintro e w2 ⟨⟨A2, n2, c2, F2, rfl, row2, hf2⟩, b2⟩
  have K2 := Lib.hid (trans9 K1.out b2)
  have R2 := Lib.hid row2
  have M2 := Lib.hid hf2
  have R1b := Lib.hid (R1.out.below b2)
  clear row2 hf2 b2
  go_wp2_with fail
  refine (one_calls 97 1 3 5 _ (by decide) (by decide) (by decide)).mono ?_; rintro e w3 ⟨⟨A3, n3, c3, F3, rfl, row3, hf3⟩, b3⟩
  have K3 := Lib.hid (trans9 K2.out b3)
  have R3 := Lib.hid row3
  have M3 := Lib.hid hf3
  have R1c := Lib.hid (R1b.out.below b3)
  have R2c := Lib.hid (R2.out.below b3)
  clear row3 hf3 b3
  obtain ⟨W4, hW4⟩ : ∃ W, W = w3.alloc (.cells #[.string (str [116]), .slice A1 n1 c1, .string (str [116]), .slice A2 n2 c2, .string (str [116]), .slice A3 n3 c3] 28) := ⟨_, rfl⟩
  have BT : Hid (BtRow W4 (.slice (some ⟨w3.heap.size, 0, none⟩) 3 3) [⟨[116], .slice A1 n1 c1, F1⟩, ⟨[116], .slice A2 n2 c2, F2⟩, ⟨[116], .slice A3 n3 c3, F3⟩]) := Lib.hid (by
    rw [hW4]
    refine new_bt w3 [⟨[116], .slice A1 n1 c1, F1⟩, ⟨[116], .slice A2 n2 c2, F2⟩, ⟨[116], .slice A3 n3 c3, F3⟩] (by simp) (by simp) fun x hx => ?_
    simp only [List.mem_cons, List.not_mem_nil, or_false] at hx
    rcases hx with rfl | rfl | rfl
    · exact k_bt R1c.out (by simp)
    · exact k_bt R2c.out (by simp)
    · exact k_bt R3.out (by simp))
  have BF : Hid (BtFew [⟨[116], .slice A1 n1 c1, F1⟩, ⟨[116], .slice A2 n2 c2, F2⟩, ⟨[116], .slice A3 n3 c3, F3⟩]) := Lib.hid (bt_few (by simp) fun x hx => by
    simp only [List.mem_cons, List.not_mem_nil, or_false] at hx
    rcases hx with rfl | rfl | rfl
    · rw [M1.out]; exact k_fewL
    · rw [M2.out]; exact k_fewL
    · rw [M3.out]; exact k_fewL)
  have BL : Hid (bps [⟨[116], .slice A1 n1 c1, F1⟩, ⟨[116], .slice A2 n2 c2, F2⟩, ⟨[116], .slice A3 n3 c3, F3⟩] = kL1) := Lib.hid (by simp only [bps, bp, List.map_cons, List.map_nil, M1.out, M2.out, M3.out])
  have K4 : Hid (Below w.heap.size w W4) := Lib.hid (by rw [hW4]; exact kp_alloc K3.out _)
  have HM := Lib.hid (k_merge kL1 _ _ W4 BT.out BF.out BL.out (HT.out W4 K4.out))
  go_wp2_with fail
  rw [← hW4]
  clear hW4 R1 R1b R1c R2 R2c R3 M1 M2 M3 BT BF BL K1 K2 K3
  refine HM.out.mono ?_; rintro e w5 ⟨hres, b5⟩
  obtain ⟨A, n, cap, M, rfl, hr, hm⟩ := hres.good k1_err
  have RM := Lib.hid hr
  have MM : Hid (fms M = [oF 97 1 3 5, oF 98 1 2 5]) := Lib.hid (by rw [hm, k1_all])
  have K5 := Lib.hid (trans9 K4.out b5)
  clear hres b5 hr hm HM K4
  go_upto_region 2 with fail
  obtain ⟨W6, hW6⟩ : ∃ W, W = w5.alloc (.cells #[.string (str [116]), .slice A n cap] 28) := ⟨_, rfl⟩
  have K6 : Hid (Below w.heap.size w W6) := Lib.hid (by rw [hW6]; exact kp_alloc K5.out _)
  have BA6 : Hid (BatAt W6 w5.heap.size [116] (.slice A n cap)) := Lib.hid (by rw [hW6]; exact BatAt.new w5 [116] _ _)
  have RM6 : Hid (FmRow W6 (.slice A n cap) M) := Lib.hid (by rw [hW6]; exact RM.out.below ((Below.refl _ _).alloc (Nat.le_refl _) _))
  first | rw [← hW6] | (simp only [ten, kL1]; rw [← hW6])
  clear hW6 RM K5
  generalize w5.heap.size = qa at *
  go_wp2_with fail
  refine (one_calls 97 1 1 5 _ (by decide) (by decide) (by decide)).mono ?_; rintro e w7 ⟨⟨A7, n7, c7, F7, rfl, row7, hf7⟩, b7⟩
  have K7 := Lib.hid (trans9 K6.out b7)
  have R7 := Lib.hid row7
  have M7 := Lib.hid hf7
  have BA7 := Lib.hid (BA6.out.below b7)
  have RM7 := Lib.hid (RM6.out.below b7)
  clear row7 hf7 b7
  go_wp2_with fail
  refine (one_calls 97 2 1 6 _ (by decide) (by decide) (by decide)).mono ?_; rintro e w8 ⟨⟨A8, n8, c8, F8, rfl, row8, hf8⟩, b8⟩
  have K8 := Lib.hid (trans9 K7.out b8)
  have R8 := Lib.hid row8
  have M8 := Lib.hid hf8
  have BA8 := Lib.hid (BA7.out.below b8)
  have RM8 := Lib.hid (RM7.out.below b8)
  have R7b := Lib.hid (R7.out.below b8)
  clear row8 hf8 b8
  obtain ⟨W9, hW9⟩ : ∃ W, W = w8.alloc (.cells #[.string (str [116]), .slice A7 n7 c7, .string (str [116]), .slice A8 n8 c8] 28) := ⟨_, rfl⟩
  have BT9 : Hid (BtRow W9 (.slice (some ⟨w8.heap.size, 0, none⟩) 2 2) [⟨[116], .slice A7 n7 c7, F7⟩, ⟨[116], .slice A8 n8 c8, F8⟩]) := Lib.hid (by
    rw [hW9]
    refine new_bt w8 [⟨[116], .slice A7 n7 c7, F7⟩, ⟨[116], .slice A8 n8 c8, F8⟩] (by simp) (by simp) fun x hx => ?_
    simp only [List.mem_cons, List.not_mem_nil, or_false] at hx
    rcases hx with rfl | rfl
    · exact k_bt R7b.out (by simp)
    · exact k_bt R8.out (by simp))
  have BF9 : Hid (BtFew [⟨[116], .slice A7 n7 c7, F7⟩, ⟨[116], .slice A8 n8 c8, F8⟩]) := Lib.hid (bt_few (by simp) fun x hx => by
    simp only [List.mem_cons, List.not_mem_nil, or_false] at hx
    rcases hx with rfl | rfl
    · rw [M7.out]; exact k_fewL
    · rw [M8.out]; exact k_fewL)
  have BL9 : Hid (bps [⟨[116], .slice A7 n7 c7, F7⟩, ⟨[116], .slice A8 n8 c8, F8⟩] = kL2) := Lib.hid (by simp only [bps, bp, List.map_cons, List.map_nil, M7.out, M8.out])
  have K9 : Hid (Below w.heap.size w W9) := Lib.hid (by rw [hW9]; exact kp_alloc K8.out _)
  have BA9 : Hid (BatAt W9 qa [116] (.slice A n cap)) := Lib.hid (by rw [hW9]; exact BA8.out.alloc' _)
  have RM9 : Hid (FmRow W9 (.slice A n cap) M) := Lib.hid (by rw [hW9]; exact RM8.out.below ((Below.refl _ _).alloc (Nat.le_refl _) _))
  have HM9 := Lib.hid (k_merge kL2 _ _ W9 BT9.out BF9.out BL9.out (HT.out W9 K9.out))
  go_wp2_with fail
  rw [← hW9]
  clear hW9
  refine HM9.out.mono ?_; rintro e w10 ⟨hres, b10⟩
  obtain ⟨A10, c10, rfl⟩ := hres.bad k2_err (by decide)
  have K10 := Lib.hid (trans9 K9.out b10)
  have BA10 := Lib.hid (BA9.out.below b10)
  have RM10 := Lib.hid (RM9.out.below b10)
  clear hres b10 HM9 BT9 BF9 BL9 BA9 RM9
  go_upto_region 3 with fail
  obtain ⟨W11, hW11⟩ : ∃ W, W = w10.alloc (.cells #[.string (str []), .slice A10 0 c10] 28) := ⟨_, rfl⟩
  have K11 : Hid (Below w.heap.size w W11) := Lib.hid (by rw [hW11]; exact kp_alloc K10.out _)
  have BA11 : Hid (BatAt W11 qa [116] (.slice A n cap)) := Lib.hid (by rw [hW11]; exact BA10.out.alloc' _)
  have RM11 : Hid (FmRow W11 (.slice A n cap) M) := Lib.hid (by rw [hW11]; exact RM10.out.below ((Below.refl _ _).alloc (Nat.le_refl _) _))
  rw [← hW11]
  clear hW11 BA10 RM10 K10 K9
  clear R7 R7b R8 M7 M8 BA7 BA8 RM7 RM8 BA6 RM6 K6 K7 K8
  go_wp2_with fail
  refine (one_calls 97 1 1 5 _ (by decide) (by decide) (by decide)).mono ?_; rintro e w12 ⟨⟨A12, n12, c12, F12, rfl, row12, hf12⟩, b12⟩
  have K12 := Lib.hid (trans9 K11.out b12)
  have R12 := Lib.hid row12
  have M12 := Lib.hid hf12
  have BA12 := Lib.hid (BA11.out.below b12)
  have RM12 := Lib.hid (RM11.out.below b12)
  clear row12 hf12 b12
  obtain ⟨W13, hW13⟩ : ∃ W, W = w12.alloc (.cells #[.string (str [116]), .slice A12 n12 c12, .string (str [117]), .slice none 0 0] 28) := ⟨_, rfl⟩
  have BT13 : Hid (BtRow W13 (.slice (some ⟨w12.heap.size, 0, none⟩) 2 2) [⟨[116], .slice A12 n12 c12, F12⟩, ⟨[117], .slice none 0 0, []⟩]) := Lib.hid (by
    rw [hW13]
    refine new_bt w12 [⟨[116], .slice A12 n12 c12, F12⟩, ⟨[117], .slice none 0 0, []⟩] (by simp) (by simp) fun x hx => ?_
    simp only [List.mem_cons, List.not_mem_nil, or_false] at hx
    rcases hx with rfl | rfl
    · exact k_bt R12.out (by simp)
    · exact k_bt (FmRow.nil w12) (by simp))
  have BF13 : Hid (BtFew [⟨[116], .slice A12 n12 c12, F12⟩, ⟨[117], .slice none 0 0, []⟩]) := Lib.hid (bt_few (by simp) fun x hx => by
    simp only [List.mem_cons, List.not_mem_nil, or_false] at hx
    rcases hx with rfl | rfl
    · rw [M12.out]; exact k_fewL
    · exact ⟨by simp, fun x hx => (by cases hx), fun x hx => (by cases hx)⟩)
  have BL13 : Hid (bps [⟨[116], .slice A12 n12 c12, F12⟩, ⟨[117], .slice none 0 0, []⟩] = kL3) := Lib.hid (by simp only [bps, bp, List.map_cons, List.map_nil, M12.out])
  have K13 : Hid (Below w.heap.size w W13) := Lib.hid (by rw [hW13]; exact kp_alloc K12.out _)
  have BA13 : Hid (BatAt W13 qa [116] (.slice A n cap)) := Lib.hid (by rw [hW13]; exact BA12.out.alloc' _)
  have RM13 : Hid (FmRow W13 (.slice A n cap) M) := Lib.hid (by rw [hW13]; exact RM12.out.below ((Below.refl _ _).alloc (Nat.le_refl _) _))
  have HM13 := Lib.hid (k_merge kL3 _ _ W13 BT13.out BF13.out BL13.out (HT.out W13 K13.out))
  go_wp2_with fail
  rw [← hW13]
  clear hW13
  refine HM13.out.mono ?_; rintro e w14 ⟨hres, b14⟩
  obtain ⟨A14, c14, rfl⟩ := hres.bad k3_err (by decide)
  have K14 := Lib.hid (trans9 K13.out b14)
  have BA14 := Lib.hid (BA13.out.below b14)
  have RM14 := Lib.hid (RM13.out.below b14)
  clear hres b14 HM13 BT13 BF13 BL13 BA13 RM13
  go_upto_region 4 with fail
  obtain ⟨W15, hW15⟩ : ∃ W, W = w14.alloc (.cells #[.string (str []), .slice A14 0 c14] 28) := ⟨_, rfl⟩
  have K15 : Hid (Below w.heap.size w W15) := Lib.hid (by rw [hW15]; exact kp_alloc K14.out _)
  have BA15 : Hid (BatAt W15 qa [116] (.slice A n cap)) := Lib.hid (by rw [hW15]; exact BA14.out.alloc' _)
  have RM15 : Hid (FmRow W15 (.slice A n cap) M) := Lib.hid (by rw [hW15]; exact RM14.out.below ((Below.refl _ _).alloc (Nat.le_refl _) _))
  rw [← hW15]
  clear hW15 BA14 RM14 K14 K13
  clear R12 M12 BA11 BA12 RM11 RM12 K11 K12
  have HM16 := Lib.hid (k_merge [] [] (.slice none 0 0) W15 ⟨KRow.nil _ _ _, fun x hx => (by cases hx)⟩ ⟨by simp, fun x hx => (by cases hx)⟩ rfl (HT.out W15 K15.out))
  go_wp2_with fail
  refine HM16.out.mono ?_; rintro e w16 ⟨hres, b16⟩
  obtain ⟨A16, n16, c16, M16, rfl, hr16, _⟩ := hres.good mErr_nil
  have K16 := Lib.hid (trans9 K15.out b16)
  have BA16 := Lib.hid (BA15.out.below b16)
  have RM16 := Lib.hid (RM15.out.below b16)
  clear hres b16 HM16 BA15 RM15 K15 hr16
  simp only [ten]
  go_upto_region 5 with fail
  obtain ⟨W17, hW17⟩ : ∃ W, W = w16.alloc (.cells #[.string (str []), .slice A16 n16 c16] 28) := ⟨_, rfl⟩
  have K17 : Hid (Below w.heap.size w W17) := Lib.hid (by rw [hW17]; exact kp_alloc K16.out _)
  have BA17 : Hid (BatAt W17 qa [116] (.slice A n cap)) := Lib.hid (by rw [hW17]; exact BA16.out.alloc' _)
  have BN17 : Hid (BatAt W17 w16.heap.size [] (.slice A16 n16 c16)) := Lib.hid (by rw [hW17]; exact BatAt.new w16 [] _ _)
  have RM17 : Hid (FmRow W17 (.slice A n cap) M) := Lib.hid (by rw [hW17]; exact RM16.out.below ((Below.refl _ _).alloc (Nat.le_refl _) _))
  rw [← hW17]
  clear hW17 BA16 RM16 K16
  generalize w16.heap.size = qn at *
  obtain ⟨q0, q1, _, ql⟩ := BA17.out
  have hkk := Lib.hid ((Below.refl W17.heap.size W17).alloc (Nat.le_refl _) (.cells #[.string ⟨#[97]⟩] 9))
  have HMI := Lib.hid (bminus_calls [116] M (.slice A n cap) (.slice (some ⟨W17.heap.size, 0, none⟩) 1 1) 1 (fun _ => ⟨#[97]⟩) (W17.alloc (.cells #[.string ⟨#[97]⟩] 9)) (RM17.out.below hkk.out) (k_few MM.out k_few2) (k_str W17))
  go_wp2_with fail
  refine HMI.out.mono ?_; rintro e w18 ⟨⟨A18, n18, c18, M18, rfl, hk18, hm18⟩, b18⟩
  have hall := hkk.out.trans (b18.mono hkk.out.size)
  have K18 := Lib.hid (trans9 K17.out hall)
  have BA18 := Lib.hid (BA17.out.below hall)
  have BN18 := Lib.hid (BN17.out.below hall)
  have RM18 := Lib.hid (RM17.out.below hall)
  have RN18 := Lib.hid hk18.row
  have MN : Hid (fms M18 = [oF 98 1 2 5]) := Lib.hid (by rw [hm18, MM.out, k_min])
  clear b18 hall hk18 hm18 HMI hkk q0 q1 ql BA17 BN17 RM17 K17
  go_upto_region 6 with fail
  obtain ⟨W19, hW19⟩ : ∃ W, W = w18.alloc (.cells #[.string (str [116]), .slice A18 n18 c18] 28) := ⟨_, rfl⟩
  have K19 : Hid (Below w.heap.size w W19) := Lib.hid (by rw [hW19]; exact kp_alloc K18.out _)
  have hks : Below w18.heap.size w18 W19 := by rw [hW19]; exact (Below.refl _ _).alloc (Nat.le_refl _) _
  have BA19 := BA18.out.below hks
  have BN19 := BN18.out.below hks
  have BM19 : BatAt W19 w18.heap.size [116] (.slice A18 n18 c18) := by rw [hW19]; exact BatAt.new w18 [116] _ _
  have RM19 := RM18.out.below hks
  have RN19 := RN18.out.below hks
  rw [← hW19]
  clear hW19 hks BA18 BN18 RM18 RN18 K18
  generalize w18.heap.size = qm at *
  obtain ⟨b, off, cp, b1, o1, c1', hv, hb, e4, hb1, e5⟩ := k_read RM19 MM.out
  obtain ⟨b2, o2, cp2, hv2, hb2, e0⟩ := k_name RN19 MN.out
  cases hv
  cases hv2
  obtain ⟨p0, p1, _, _⟩ := BA19
  obtain ⟨m0, m1, _, _⟩ := BN19
  obtain ⟨s0, s1, _, _⟩ := BM19
  have e5' : W19.cell? ⟨b1, o1 + 5, none⟩ = some (.int .i64 3) := e5
  have e0' : W19.cell? ⟨b2, o2, none⟩ = some (.string ⟨#[98]⟩) := e0
  have m0' : W19.cell? ⟨qn, 0, none⟩ = some (.string ⟨#[]⟩) := m0
  clear RM19 RN19 MM MN e5 e0 m0 hb hb1 hb2 HT
  go_wp2
  go_ret
  exact ⟨rfl, K19.out⟩

end Go.Proofs.YtjeefgamkoeiaaaGreatDoor
