/- The walk of the law MergeKinds. -/
import Derived.Test.YtjeefgamkoeiaaaGreatDoorMrgK
import Derived.Test.YtjeefgamkoeiaaaGreatDoorMrgP
import Derived.Test.YtjeefgamkoeiaaaGreatDoorBatW
import Derived.Test.YtjeefgamkoeiaaaGreatDoorRefBatW
set_option maxRecDepth 100000
set_option linter.unusedVariables false
set_option linter.unusedSimpArgs false
namespace Go.Proofs.YtjeefgamkoeiaaaGreatDoor
open Go.RowKit Go.Sort Dc
attribute [local go_sem ↓] Go.wp_at_zero Go.wp_at_succ

/-- the first family's head -/
theorem first_head {w : World} {v : Value} {F : List Fs} (hv : FmRow w v F) (h0 : 0 < F.length) :
    ∃ b off cap x, v = .slice (some ⟨b, off, none⟩) F.length cap ∧ b < w.heap.size ∧ x ∈ F ∧ HdIn x.hd ∧ w.cell? ⟨b, off, none⟩ = some (.string (str x.hd.n)) ∧ w.cell? ⟨b, off + 1, none⟩ = some (.int .i64 x.hd.k) ∧ w.cell? ⟨b, off + 2, none⟩ = some (.string (str x.hd.u)) ∧ w.cell? ⟨b, off + 3, none⟩ = some (.string (str x.hd.h)) := by
  obtain ⟨A, cap, rfl, _, _, _, hr⟩ := hv.1
  obtain ⟨b, off, rfl, hlt, hc⟩ := hr h0
  obtain ⟨x, hx, _⟩ := fs_get h0
  obtain ⟨c0, c1, c2, c3, _⟩ := fr_cells hc hx
  simp only [Nat.zero_mul, Nat.add_zero] at c0 c1 c2 c3
  have hm := List.mem_of_getElem? hx
  exact ⟨b, off, cap, x, rfl, hlt, hm, (hv.2 x hm).2, c0, c1, c2, c3⟩
/-- the next kind -/
theorem next_kind {k : Int} (h : kindOk k = true) : ∃ j : Int, IntKind.i64.wrap (k + 1) = k + 1 ∧ (k + 1).tmod 5 = j ∧ (k + 1) % 5 = j ∧ IntKind.i64.wrap j = j ∧ kindOk j = true ∧ k ≠ j ∧ -9223372036854775808 ≤ j ∧ j ≤ 9223372036854775807 := by
  have h1 := of_decide_eq_true h
  refine ⟨(k + 1) % 5, IntWalk.i64_in _ (by omega), Int.tmod_eq_emod_of_nonneg (by omega), rfl, IntWalk.i64_in _ (by omega), decide_eq_true (by omega), by omega, by omega, by omega⟩
theorem how_three {h : Int} (h0 : 0 ≤ h) : h.tmod 3 = 0 ∧ h % 3 = 0 ∨ h.tmod 3 = 1 ∧ h % 3 = 1 ∨ h.tmod 3 = 2 ∧ h % 3 = 2 := by
  have h1 : h.tmod 3 = h % 3 := Int.tmod_eq_emod_of_nonneg h0
  omega
theorem hd_row (w : World) (h : Hd) (hin : HdIn h) : FmRow (w.alloc (.cells (famc h (.slice none 0 0)) 41)) (.slice (some ⟨w.heap.size, 0, none⟩) 1 1) [⟨h, .slice none 0 0, []⟩] :=
  ⟨(new_fs w ⟨h, .slice none 0 0, []⟩).row, fun x hx => by rw [List.mem_singleton.1 hx]; exact ⟨PtRow.nil _, hin⟩⟩
theorem few_none {l : List Fp} (hn : l.length ≤ 1000) (h : ∀ x ∈ l, x.2 = []) : FpFew l := ⟨hn, fun x hx => by rw [h x hx]; exact Nat.zero_le _, fun x hx y hy => by rw [h x hx] at hy; cases hy⟩
theorem k_bad (L : List Bp) (l : List Bs) (v : Value) (w : World) (c : Int) (hv : BtRow w v l) (hf : BtFew l) (hl : bps l = L) (he : mErr L = c) (hc : c ≠ 0) (hT : ShPl w) :
    Calls Tryz.prog 10 #[v] w fun e w' => (∃ A cap, e = .returned (.tuple #[batv [] (.slice A 0 cap), .int .i64 c])) ∧ Below w.heap.size w w' := by
  refine (k_merge L l v w hv hf hl hT).mono ?_
  rintro e w' ⟨h, hb⟩
  exact ⟨h.bad he hc, hb⟩
theorem bt_two (w : World) (x y : Bs) (h1 : FmRow w x.v x.F ∧ x.t.length ≤ maxLen) (h2 : FmRow w y.v y.F ∧ y.t.length ≤ maxLen) : BtRow (w.alloc (.cells #[.string (str x.t), x.v, .string (str y.t), y.v] 28)) (.slice (some ⟨w.heap.size, 0, none⟩) 2 2) [x, y] :=
  new_bt w [x, y] (by simp) (by simp) fun z hz => by
    simp only [List.mem_cons, List.not_mem_nil, or_false] at hz
    rcases hz with rfl | rfl
    · exact h1
    · exact h2
theorem few_two {x y : Bs} (h1 : FpFew (fms x.F)) (h2 : FpFew (fms y.F)) : BtFew [x, y] := bt_few (by simp) fun z hz => by
  simp only [List.mem_cons, List.not_mem_nil, or_false] at hz
  rcases hz with rfl | rfl
  · exact h1
  · exact h2

theorem BatAt.set0 {w : World} {b : Nat} {t : List UInt8} {v : Value} (k : BatAt w b t v) (s : List UInt8) : BatAt (w.setCell ⟨b, 0, none⟩ (.string (str s))) b s v := by
  have h0 := k.c0
  have h1 := k.c1
  exact ⟨by simp [go_sem, h0], by simp [go_sem, h1], fun o => by simpa using k.fr o, by simpa [World.setCell] using k.lt⟩
theorem BatAt.ofBlk {w X : World} {b : Nat} {t : List UInt8} {v : Value} (k : BatAt w b t v) (e : X.heap[b]? = w.heap[b]?) (hz : w.heap.size ≤ X.heap.size) : BatAt X b t v :=
  ⟨(World.cell?_of_block (a := ⟨b, 0, none⟩) e).trans k.c0, (World.cell?_of_block (a := ⟨b, 1, none⟩) e).trans k.c1, fun o => (World.frozen?_of_block (a := ⟨b, o, none⟩) e).trans (k.fr o), Nat.lt_of_lt_of_le k.lt hz⟩
theorem hd0_in : HdIn hd0 := ⟨Nat.zero_le _, Nat.zero_le _, Nat.zero_le _, by show (-9223372036854775808 : Int) ≤ 0; decide, by show (0 : Int) ≤ 9223372036854775807; decide⟩

set_option maxHeartbeats 16000000 in
theorem kinds_walk (t : List UInt8) (F : List Fs) (v : Value) (how : Int) (w : World) (hv : FmRow w v F) (ht : t.length ≤ maxLen) (hh0 : 0 ≤ how) (hh1 : how ≤ 255) (hT : ShPl w) :
    Calls Tryz.prog 7 #[batv t v, .int .u8 how] w fun e w' => e = .returned (.bool true) ∧ Below w.heap.size w w' := by
  have k0 := kp_alloc (Below.refl w.heap.size w) (.cells #[.string (str t), v] 28)
  have K0 := Lib.hid k0
  have B0 := Lib.hid (BatAt.new w t v 28)
  have R0 := Lib.hid (hv.below k0)
  have HT := Lib.hid (fun W (hW : Below w.heap.size w W) => shpl_below hT hW)
  have hT0 := Lib.hid (mknown_calls _ (shpl_below hT k0))
  have HTL := Lib.hid ht
  obtain ⟨A, n, cap, hv1⟩ : ∃ A n cap, v = .slice A n cap := by obtain ⟨A, cap, he, _⟩ := hv.1; exact ⟨A, _, cap, he⟩
  have hnl : n = F.length := by obtain ⟨A1, cap1, he, _⟩ := hv.1; rw [hv1] at he; exact (Value.slice.inj he).2.1
  subst hv1
  subst hnl
  unfold maxLen at ht
  have HV := Lib.hid hv
  clear k0 hv hT
  go_enter Tryz.func7, Tryz.ntmps7
  go_wp2_with fail
  refine hT0.out.mono ?_; rintro e w1 ⟨rfl, b1⟩
  have K1 := Lib.hid (trans9 K0.out b1)
  have B1 := Lib.hid (B0.out.below b1)
  have R1 := Lib.hid (R0.out.below b1)
  clear b1 hT0 K0 B0 R0
  obtain ⟨x0, x1, xf, xl⟩ := B1.out
  go_wp2_with fail
  refine (wide_calls t F _ _ R1.out).mono ?_; rintro e w2 ⟨hW, b2⟩
  have K2 := Lib.hid (trans9 K1.out b2)
  have B2 := Lib.hid (B1.out.below b2)
  have R2 := Lib.hid (R1.out.below b2)
  clear b2 K1 B1 R1 x0 x1 xf xl
  obtain ⟨x0, x1, xf, xl⟩ := B2.out
  rcases hW.ways with rfl | ⟨rfl, hfew⟩
  · go_wp2
    go_ret
    exact ⟨rfl, K2.out⟩
  have HF := Lib.hid hfew
  clear hfew
  go_wp2_with fail
  refine (rcheck_calls t F _ _ R2.out HF.out HTL.out).mono ?_; rintro e w3 ⟨rfl, b3⟩
  have K3 := Lib.hid (trans9 K2.out b3)
  have B3 := Lib.hid (B2.out.below b3)
  have R3 := Lib.hid (R2.out.below b3)
  clear b3 K2 B2 R2 x0 x1 xf xl
  obtain ⟨x0, x1, xf, xl⟩ := B3.out
  obtain ⟨C, hC⟩ : ∃ C, C = chk t (fms F) := ⟨_, rfl⟩
  rw [← hC]
  have HC := Lib.hid hC
  clear hC
  by_cases hC0 : ¬ C = 0
  · have d0 : (C == 0) = false := by simpa using hC0
    have d1 : (C != 0) = true := by simpa using hC0
    clear hC0
    go_wp2
    go_ret
    exact ⟨rfl, K3.out⟩
  have hC0' : C = 0 := Classical.not_not.1 hC0
  clear hC0
  subst hC0'
  have hCz : chk t (fms F) = 0 := HC.out.symm
  by_cases hF0 : F.length = 0
  · have d0 : ((F.length : Int) == 0) = true := by simp [hF0]
    go_wp2
    go_ret
    exact ⟨rfl, K3.out⟩
  have d0 : ((F.length : Int) == 0) = false := by simpa using hF0
  obtain ⟨b, off, cp, x, hvx, hb, hxF, hxi, c0, c1, c2, c3⟩ := first_head R3.out (by omega)
  obtain ⟨rfl, _, rfl⟩ := Value.slice.inj hvx
  have hxm : fm x ∈ fms F := List.mem_map_of_mem hxF
  have hxk : kindOk x.hd.k = true := (famOk_iff.1 ((chk_parts (b := (t, fms F)) hCz).2.1 _ hxm)).2.1
  obtain ⟨j, hw1, hm1, hm2, hw2, hjk, hne, hj1, hj2⟩ := next_kind hxk
  have hTen : Hid (tenOk t = true) := Lib.hid (chk_parts (b := (t, fms F)) hCz).2.2.1
  have HJ : Hid (HdIn ⟨x.hd.n, j, x.hd.u, x.hd.h⟩) := Lib.hid ⟨hxi.ln, hxi.lu, hxi.lh, hj1, hj2⟩
  have E13 := Lib.hid (kind_13 hCz hxm hjk hne)
  have E18 := Lib.hid (fun hl => ten_18 (k := j) hCz hxm hjk hl)
  have E19 := Lib.hid (fun hl => ten_19 (t := t) (F := fms F) (G := [(⟨x.hd.n, j, x.hd.u, x.hd.h⟩, [])]) hl)
  have F19 := Lib.hid (fam_19 (t := t) (F := fms F) (x := (⟨x.hd.n, j, x.hd.u, x.hd.h⟩, [])))
  simp only [fm] at E13 E18
  have hl0 : (0 : Int) < (F.length : Int) := by omega
  have h16 := ten_len16 hTen.out
  have hadd : ∀ W, (Op.stringOp .add (str t) ⟨#[45]⟩).run Tryz.prog W = .ok (.string (str (t ++ [45]))) W := fun W => add_str t [45] (by simp; omega) W
  obtain ⟨⟨hn, hk, hu, hhl⟩, xv, xL⟩ := x
  simp only at c0 c1 c2 c3 hw1 hm1 hm2 E13 E18 E19 F19 HJ
  have HFP := Lib.hid HF.out.plain
  clear hCz hxF hxi hxm hxk hjk hne hj1 hj2 hvx HF
  have hz := K3.out.size
  go_upto_region 8 with fail
  obtain ⟨W4, hW4⟩ : ∃ W, W = ((w3.alloc (.cells #[.string (str hn), .int .i64 j, .string (str hu), .string (str hhl)] 38)).alloc (.cells #[.string (str hn), .int .i64 j, .string (str hu), .string (str hhl), .slice none 0 0] 41)).alloc (.cells #[.string (str t), .slice (some ⟨w3.heap.size + 1, 0, none⟩) 1 1] 28) := ⟨_, rfl⟩
  have hbf : w3.heap.size + 1 < w3.heap.size + 1 + 1 := by omega
  obtain ⟨Wh, hWh⟩ : ∃ W, W = w3.alloc (.cells #[.string (str hn), .int .i64 j, .string (str hu), .string (str hhl)] 38) := ⟨_, rfl⟩
  have hWhz : Wh.heap.size = w3.heap.size + 1 := by rw [hWh]; simp
  have hKh : Hid (Below w.heap.size w Wh) := Lib.hid (by rw [hWh]; exact kp_alloc K3.out _)
  obtain ⟨Wf, hWf⟩ : ∃ W, W = Wh.alloc (.cells #[.string (str hn), .int .i64 j, .string (str hu), .string (str hhl), .slice none 0 0] 41) := ⟨_, rfl⟩
  have hWfz : Wf.heap.size = w3.heap.size + 1 + 1 := by rw [hWf]; simp [hWhz]
  have hKf : Hid (Below w.heap.size w Wf) := Lib.hid (by rw [hWf]; exact kp_alloc hKh.out _)
  have hGf : FmRow Wf (.slice (some ⟨w3.heap.size + 1, 0, none⟩) 1 1) [⟨⟨hn, j, hu, hhl⟩, .slice none 0 0, []⟩] := by
    have h := hd_row Wh ⟨hn, j, hu, hhl⟩ HJ.out
    rw [hWhz] at h
    rw [hWf]
    exact h
  have hFC : FsCell Wf (w3.heap.size + 1) ⟨⟨hn, j, hu, hhl⟩, .slice none 0 0, []⟩ := by
    have h := new_fs Wh ⟨⟨hn, j, hu, hhl⟩, .slice none 0 0, []⟩
    rw [hWhz] at h
    rw [hWf]
    exact h
  rw [← hWh, ← hWf] at hW4
  have K4 : Hid (Below w.heap.size w W4) := Lib.hid (by rw [hW4]; exact kp_alloc hKf.out _)
  have Kf4 : Below Wf.heap.size Wf W4 := by rw [hW4]; exact (Below.refl _ _).alloc (Nat.le_refl _) _
  have hq4 : W4.heap.size = w3.heap.size + 1 + 1 + 1 := by rw [hW4]; simp [hWfz]
  have G4 : Hid (FmOff W4 (w3.heap.size + 1 + 1) (.slice (some ⟨w3.heap.size + 1, 0, none⟩) 1 1) [⟨⟨hn, j, hu, hhl⟩, .slice none 0 0, []⟩]) := Lib.hid (hGf.off Kf4 (by omega))
  have C4 : Hid (FsCell W4 (w3.heap.size + 1) ⟨⟨hn, j, hu, hhl⟩, .slice none 0 0, []⟩) := Lib.hid ((Kf4.block _ (by omega)).trans hFC)
  have Q4 : Hid (BatAt W4 (w3.heap.size + 1 + 1) t (.slice (some ⟨w3.heap.size + 1, 0, none⟩) 1 1)) := Lib.hid (by
    have h := BatAt.new Wf t (.slice (some ⟨w3.heap.size + 1, 0, none⟩) 1 1) 28
    rw [hWfz] at h
    rw [hW4]
    exact h)
  have hb34 : Below w3.heap.size w3 W4 := by rw [hW4, hWf, hWh]; exact (((Below.refl w3.heap.size w3).alloc (Nat.le_refl _) _).alloc (by simp) _).alloc (by simp; omega) _
  have B4 := Lib.hid (B3.out.below hb34)
  have hwq : w.heap.size < w3.heap.size + 1 := by omega
  first | rw [← hWh, ← hWf, ← hW4] | (rw [← hWh]; rw [← hWf]; rw [← hW4])
  clear hWh hWf hW4 hWhz hWfz hKh hKf hGf hFC Kf4 hb34 R3 B3 K3 x0 x1 xf xl c0 c1 c2 c3 hw1 hm1 hm2 hw2 hb hl0 hF0 d0
  generalize w3.heap.size + 1 = bf at *
  have hqb : bf + 1 < W4.heap.size := by omega
  clear hz hq4
  have HG1 : Hid (FpFew (fms [(⟨⟨hn, j, hu, hhl⟩, .slice none 0 0, []⟩ : Fs)])) := Lib.hid (few_none (by simp) fun x hx => by rw [List.mem_singleton.1 hx]; rfl)
  rcases how_three hh0 with ⟨t1, t2⟩ | ⟨t1, t2⟩ | ⟨t1, t2⟩
  · by_cases h16e : t.length = 16
    · have d16 : ((t.length : Int) == 16) = true := by simp [h16e]
      have d16' : (t.length : Int) = 16 := by omega
      obtain ⟨y0, y1, _, _⟩ := B4.out
      obtain ⟨u0, u1, uf, _⟩ := Q4.out
      have uf0 := uf 0
      clear uf
      go_upto_region 18 with fail
      have K4b : Hid (Below w.heap.size w (W4.setCell ⟨bf + 1, 0, none⟩ (.string (str (t ++ [45]))))) := Lib.hid (kp_set K4.out (by omega))
      have B4b : Hid (BatAt (W4.setCell ⟨bf + 1, 0, none⟩ (.string (str (t ++ [45])))) w.heap.size t (.slice (some ⟨b, off, none⟩) F.length cap)) := Lib.hid (B4.out.setOther (by omega))
      have Q4b : Hid (BatAt (W4.setCell ⟨bf + 1, 0, none⟩ (.string (str (t ++ [45])))) (bf + 1) (t ++ [45]) (.slice (some ⟨bf, 0, none⟩) 1 1)) := Lib.hid (Q4.out.set0 _)
      have G4b : Hid (FmOff (W4.setCell ⟨bf + 1, 0, none⟩ (.string (str (t ++ [45])))) (bf + 1) (.slice (some ⟨bf, 0, none⟩) 1 1) [⟨⟨hn, j, hu, hhl⟩, .slice none 0 0, []⟩]) := Lib.hid G4.out.set
      obtain ⟨W4b, hW4b⟩ : ∃ X, X = W4.setCell ⟨bf + 1, 0, none⟩ (.string (str (t ++ [45]))) := ⟨_, rfl⟩
      rw [← hW4b] at K4b B4b Q4b G4b ⊢
      clear hW4b y0 y1 u0 u1 uf0 K4 B4 Q4 G4 C4
      have HG := HG1
      have HTM : Hid ((t ++ [45]).length ≤ maxLen) := Lib.hid (by simp; unfold maxLen; omega)
      have EE := Lib.hid (E19.out h16e)
      clear E13 E18 E19 F19
      obtain ⟨p0, p1, _, pl⟩ := B4b.out
      obtain ⟨q0, q1, _, ql⟩ := Q4b.out
      obtain ⟨W5, hW5⟩ : ∃ W, W = (W4b).alloc (.cells #[.string (str t), .slice (some ⟨b, off, none⟩) F.length cap, .string (str (t ++ [45])), .slice (some ⟨bf, 0, none⟩) 1 1] 28) := ⟨_, rfl⟩
      have hb5 : Below (W4b).heap.size (W4b) W5 := by rw [hW5]; exact (Below.refl _ _).alloc (Nat.le_refl _) _
      have K5 := Lib.hid (trans9 K4b.out hb5)
      have B5 := Lib.hid (B4b.out.below hb5)
      have Q5 := Lib.hid (Q4b.out.below hb5)
      have G5 := Lib.hid (G4b.out.row.below hb5)
      have HM1 := Lib.hid (k_bad [(t, fms F), (t ++ [45], [(⟨hn, j, hu, hhl⟩, [])])] [⟨t, .slice (some ⟨b, off, none⟩) F.length cap, F⟩, ⟨t ++ [45], .slice (some ⟨bf, 0, none⟩) 1 1, [⟨⟨hn, j, hu, hhl⟩, .slice none 0 0, []⟩]⟩] _ W5 19 (by rw [hW5]; exact bt_two _ ⟨t, .slice (some ⟨b, off, none⟩) F.length cap, F⟩ ⟨t ++ [45], .slice (some ⟨bf, 0, none⟩) 1 1, [⟨⟨hn, j, hu, hhl⟩, .slice none 0 0, []⟩]⟩ ⟨HV.out.below K4b.out, HTL.out⟩ ⟨G4b.out.row, HTM.out⟩) (few_two HFP.out HG.out) rfl EE.out.1 (by decide) (HT.out W5 K5.out))
      go_wp2_with fail
      rw [← hW5]
      clear hW5 hb5
      refine HM1.out.mono ?_; rintro e w6 ⟨⟨A6, c6, rfl⟩, b6⟩
      have K6 := Lib.hid (trans9 K5.out b6)
      have B6 := B5.out.below b6
      have Q6 := Q5.out.below b6
      have G6 := G5.out.below b6
      clear b6 HM1 p0 p1 pl q0 q1 ql B5 Q5 G5 K5
      go_upto_region 19 with fail
      obtain ⟨W7, hW7⟩ : ∃ W, W = w6.alloc (.cells #[.string (str []), .slice A6 0 c6] 28) := ⟨_, rfl⟩
      have hb7 : Below w6.heap.size w6 W7 := by rw [hW7]; exact (Below.refl _ _).alloc (Nat.le_refl _) _
      have K7 := Lib.hid (trans9 K6.out hb7)
      have B7 := Lib.hid (B6.below hb7)
      have Q7 := Lib.hid (Q6.below hb7)
      have G7 := Lib.hid (G6.below hb7)
      have X7 : Hid (BatAt W7 w6.heap.size [] (.slice A6 0 c6)) := Lib.hid (by rw [hW7]; exact BatAt.new w6 [] _ _)
      rw [← hW7]
      clear hW7 hb7 B6 Q6 G6 K6
      generalize w6.heap.size = qx at *
      obtain ⟨p0, p1, _, pl⟩ := B7.out
      obtain ⟨q0, q1, _, ql⟩ := Q7.out
      obtain ⟨W8, hW8⟩ : ∃ W, W = W7.alloc (.cells #[.string (str (t ++ [45])), .slice (some ⟨bf, 0, none⟩) 1 1, .string (str t), .slice (some ⟨b, off, none⟩) F.length cap] 28) := ⟨_, rfl⟩
      have hb8 : Below W7.heap.size W7 W8 := by rw [hW8]; exact (Below.refl _ _).alloc (Nat.le_refl _) _
      have K8 := Lib.hid (trans9 K7.out hb8)
      have X8 := Lib.hid (X7.out.below hb8)
      have HM2 := Lib.hid (k_bad [(t ++ [45], [(⟨hn, j, hu, hhl⟩, [])]), (t, fms F)] [⟨t ++ [45], .slice (some ⟨bf, 0, none⟩) 1 1, [⟨⟨hn, j, hu, hhl⟩, .slice none 0 0, []⟩]⟩, ⟨t, .slice (some ⟨b, off, none⟩) F.length cap, F⟩] _ W8 19 (by rw [hW8]; exact bt_two _ ⟨t ++ [45], .slice (some ⟨bf, 0, none⟩) 1 1, [⟨⟨hn, j, hu, hhl⟩, .slice none 0 0, []⟩]⟩ ⟨t, .slice (some ⟨b, off, none⟩) F.length cap, F⟩ ⟨G7.out, HTM.out⟩ ⟨HV.out.below K7.out, HTL.out⟩) (few_two HG.out HFP.out) rfl EE.out.2 (by decide) (HT.out W8 K8.out))
      go_wp2_with fail
      rw [← hW8]
      clear hW8 hb8
      refine HM2.out.mono ?_; rintro e w9 ⟨⟨A9, c9, rfl⟩, b9⟩
      have K9 := Lib.hid (trans9 K8.out b9)
      have X9 := X8.out.below b9
      clear b9 HM2 p0 p1 pl q0 q1 ql B7 Q7 G7 K7 K8 X7 X8
      go_upto_region 20 with fail
      obtain ⟨W10, hW10⟩ : ∃ W, W = w9.alloc (.cells #[.string (str []), .slice A9 0 c9] 28) := ⟨_, rfl⟩
      have hb10 : Below w9.heap.size w9 W10 := by rw [hW10]; exact (Below.refl _ _).alloc (Nat.le_refl _) _
      have K10 := Lib.hid (trans9 K9.out hb10)
      obtain ⟨p0, p1, _, _⟩ := X9.below hb10
      have Y10 : BatAt W10 w9.heap.size [] (.slice A9 0 c9) := by rw [hW10]; exact BatAt.new w9 [] _ _
      obtain ⟨q0, q1, _, _⟩ := Y10
      rw [← hW10]
      clear hW10 hb10 X9 K9
      go_wp2
      go_ret
      exact ⟨rfl, K10.out⟩
    · have d16 : ((t.length : Int) == 16) = false := by simp; omega
      have d16' : ¬ (t.length : Int) = 16 := by omega
      obtain ⟨y0, y1, _, _⟩ := B4.out
      obtain ⟨u0, u1, uf, _⟩ := Q4.out
      have uf0 := uf 0
      clear uf
      go_upto_region 18 with fail
      have K4b : Hid (Below w.heap.size w (W4.setCell ⟨bf + 1, 0, none⟩ (.string (str (t ++ [45]))))) := Lib.hid (kp_set K4.out (by omega))
      have B4b : Hid (BatAt (W4.setCell ⟨bf + 1, 0, none⟩ (.string (str (t ++ [45])))) w.heap.size t (.slice (some ⟨b, off, none⟩) F.length cap)) := Lib.hid (B4.out.setOther (by omega))
      have Q4b : Hid (BatAt (W4.setCell ⟨bf + 1, 0, none⟩ (.string (str (t ++ [45])))) (bf + 1) (t ++ [45]) (.slice (some ⟨bf, 0, none⟩) 1 1)) := Lib.hid (Q4.out.set0 _)
      have G4b : Hid (FmOff (W4.setCell ⟨bf + 1, 0, none⟩ (.string (str (t ++ [45])))) (bf + 1) (.slice (some ⟨bf, 0, none⟩) 1 1) [⟨⟨hn, j, hu, hhl⟩, .slice none 0 0, []⟩]) := Lib.hid G4.out.set
      obtain ⟨W4b, hW4b⟩ : ∃ X, X = W4.setCell ⟨bf + 1, 0, none⟩ (.string (str (t ++ [45]))) := ⟨_, rfl⟩
      rw [← hW4b] at K4b B4b Q4b G4b ⊢
      clear hW4b y0 y1 u0 u1 uf0 K4 B4 Q4 G4 C4
      have HG := HG1
      have HTM : Hid ((t ++ [45]).length ≤ maxLen) := Lib.hid (by simp; unfold maxLen; omega)
      have EE := Lib.hid (E18.out h16e)
      clear E13 E18 E19 F19
      obtain ⟨p0, p1, _, pl⟩ := B4b.out
      obtain ⟨q0, q1, _, ql⟩ := Q4b.out
      obtain ⟨W5, hW5⟩ : ∃ W, W = (W4b).alloc (.cells #[.string (str t), .slice (some ⟨b, off, none⟩) F.length cap, .string (str (t ++ [45])), .slice (some ⟨bf, 0, none⟩) 1 1] 28) := ⟨_, rfl⟩
      have hb5 : Below (W4b).heap.size (W4b) W5 := by rw [hW5]; exact (Below.refl _ _).alloc (Nat.le_refl _) _
      have K5 := Lib.hid (trans9 K4b.out hb5)
      have B5 := Lib.hid (B4b.out.below hb5)
      have Q5 := Lib.hid (Q4b.out.below hb5)
      have G5 := Lib.hid (G4b.out.row.below hb5)
      have HM1 := Lib.hid (k_bad [(t, fms F), (t ++ [45], [(⟨hn, j, hu, hhl⟩, [])])] [⟨t, .slice (some ⟨b, off, none⟩) F.length cap, F⟩, ⟨t ++ [45], .slice (some ⟨bf, 0, none⟩) 1 1, [⟨⟨hn, j, hu, hhl⟩, .slice none 0 0, []⟩]⟩] _ W5 18 (by rw [hW5]; exact bt_two _ ⟨t, .slice (some ⟨b, off, none⟩) F.length cap, F⟩ ⟨t ++ [45], .slice (some ⟨bf, 0, none⟩) 1 1, [⟨⟨hn, j, hu, hhl⟩, .slice none 0 0, []⟩]⟩ ⟨HV.out.below K4b.out, HTL.out⟩ ⟨G4b.out.row, HTM.out⟩) (few_two HFP.out HG.out) rfl EE.out.1 (by decide) (HT.out W5 K5.out))
      go_wp2_with fail
      rw [← hW5]
      clear hW5 hb5
      refine HM1.out.mono ?_; rintro e w6 ⟨⟨A6, c6, rfl⟩, b6⟩
      have K6 := Lib.hid (trans9 K5.out b6)
      have B6 := B5.out.below b6
      have Q6 := Q5.out.below b6
      have G6 := G5.out.below b6
      clear b6 HM1 p0 p1 pl q0 q1 ql B5 Q5 G5 K5
      go_upto_region 19 with fail
      obtain ⟨W7, hW7⟩ : ∃ W, W = w6.alloc (.cells #[.string (str []), .slice A6 0 c6] 28) := ⟨_, rfl⟩
      have hb7 : Below w6.heap.size w6 W7 := by rw [hW7]; exact (Below.refl _ _).alloc (Nat.le_refl _) _
      have K7 := Lib.hid (trans9 K6.out hb7)
      have B7 := Lib.hid (B6.below hb7)
      have Q7 := Lib.hid (Q6.below hb7)
      have G7 := Lib.hid (G6.below hb7)
      have X7 : Hid (BatAt W7 w6.heap.size [] (.slice A6 0 c6)) := Lib.hid (by rw [hW7]; exact BatAt.new w6 [] _ _)
      rw [← hW7]
      clear hW7 hb7 B6 Q6 G6 K6
      generalize w6.heap.size = qx at *
      obtain ⟨p0, p1, _, pl⟩ := B7.out
      obtain ⟨q0, q1, _, ql⟩ := Q7.out
      obtain ⟨W8, hW8⟩ : ∃ W, W = W7.alloc (.cells #[.string (str (t ++ [45])), .slice (some ⟨bf, 0, none⟩) 1 1, .string (str t), .slice (some ⟨b, off, none⟩) F.length cap] 28) := ⟨_, rfl⟩
      have hb8 : Below W7.heap.size W7 W8 := by rw [hW8]; exact (Below.refl _ _).alloc (Nat.le_refl _) _
      have K8 := Lib.hid (trans9 K7.out hb8)
      have X8 := Lib.hid (X7.out.below hb8)
      have HM2 := Lib.hid (k_bad [(t ++ [45], [(⟨hn, j, hu, hhl⟩, [])]), (t, fms F)] [⟨t ++ [45], .slice (some ⟨bf, 0, none⟩) 1 1, [⟨⟨hn, j, hu, hhl⟩, .slice none 0 0, []⟩]⟩, ⟨t, .slice (some ⟨b, off, none⟩) F.length cap, F⟩] _ W8 18 (by rw [hW8]; exact bt_two _ ⟨t ++ [45], .slice (some ⟨bf, 0, none⟩) 1 1, [⟨⟨hn, j, hu, hhl⟩, .slice none 0 0, []⟩]⟩ ⟨t, .slice (some ⟨b, off, none⟩) F.length cap, F⟩ ⟨G7.out, HTM.out⟩ ⟨HV.out.below K7.out, HTL.out⟩) (few_two HG.out HFP.out) rfl EE.out.2 (by decide) (HT.out W8 K8.out))
      go_wp2_with fail
      rw [← hW8]
      clear hW8 hb8
      refine HM2.out.mono ?_; rintro e w9 ⟨⟨A9, c9, rfl⟩, b9⟩
      have K9 := Lib.hid (trans9 K8.out b9)
      have X9 := X8.out.below b9
      clear b9 HM2 p0 p1 pl q0 q1 ql B7 Q7 G7 K7 K8 X7 X8
      go_upto_region 20 with fail
      obtain ⟨W10, hW10⟩ : ∃ W, W = w9.alloc (.cells #[.string (str []), .slice A9 0 c9] 28) := ⟨_, rfl⟩
      have hb10 : Below w9.heap.size w9 W10 := by rw [hW10]; exact (Below.refl _ _).alloc (Nat.le_refl _) _
      have K10 := Lib.hid (trans9 K9.out hb10)
      obtain ⟨p0, p1, _, _⟩ := X9.below hb10
      have Y10 : BatAt W10 w9.heap.size [] (.slice A9 0 c9) := by rw [hW10]; exact BatAt.new w9 [] _ _
      obtain ⟨q0, q1, _, _⟩ := Y10
      rw [← hW10]
      clear hW10 hb10 X9 K9
      go_wp2
      go_ret
      exact ⟨rfl, K10.out⟩
  · obtain ⟨y0, y1, _, _⟩ := B4.out
    obtain ⟨u0, u1, uf, ul⟩ := Q4.out
    have uf1 := uf 1
    clear uf
    have HOW : Hid (FmOwn W4 bf (.slice (some ⟨bf, 0, none⟩) 1 1) [(⟨⟨hn, j, hu, hhl⟩, .slice none 0 0, []⟩ : Fs)]) := Lib.hid ⟨rfl, Or.inr ⟨bf, 1, _, rfl, Nat.le_refl _, C4.out, Nat.le_refl _, by unfold maxLen; omega, rfl, rfl⟩⟩
    have HZ := Lib.hid (new_fs W4 ⟨hd0, .slice none 0 0, []⟩).row
    have hone : ∀ z ∈ [(⟨hd0, .slice none 0 0, []⟩ : Fs)], ∀ u ∈ encF z, u.oneCell' = true := fun z hz => by rw [List.mem_singleton.1 hz]; exact encF_one (w := W4) ⟨PtRow.nil _, hd0_in⟩
    have HON := Lib.hid hone
    clear hone
    go_upto_region 18 with (at_builtin; refine wpList_append_knw fmTy encF_len (by rfl) _ _ (by rfl) bf _ [(⟨⟨hn, j, hu, hhl⟩, .slice none 0 0, []⟩ : Fs)] (by rfl) (own_alloc HOW.out _) _ [(⟨hd0, .slice none 0 0, []⟩ : Fs)] (by rfl) HZ.out (by simp) HON.out (by simp) (by simp; omega) ?_; intro v5 w5 o5 g5 hv5; obtain ⟨A5, n5, cap5, hv5e⟩ : ∃ A n cap, v5 = .slice A n cap := (by obtain ⟨A, cap, he, _⟩ := KOwn.row encF_len o5; exact ⟨A, _, cap, he⟩); subst hv5e; have hcq := (g5.block (bf + 1) (by simp; omega) (by simp [Value.ownBlock])); have hq5 : BatAt w5 (bf + 1) t (.slice (some ⟨bf, 0, none⟩) 1 1) := BatAt.ofBlk (Q4.out.alloc' _) hcq g5.size; obtain ⟨z0, z1, zf, zl⟩ := hq5; have zf1 := zf 1; have hzf := Lib.hid zf; clear zf)
    have K4a : Below w.heap.size w (W4.alloc (.cells (famc hd0 (.slice none 0 0)) 41)) := kp_alloc K4.out _
    have hb5 : Below w.heap.size w w5 := Below.grown K4a g5 (by simp; omega) (fun z hz => by simp [Value.ownBlock] at hz; omega)
    have K5s : Hid (Below w.heap.size w (w5.setCell ⟨bf + 1, 1, none⟩ (.slice A5 n5 cap5))) := Lib.hid (kp_set hb5 (by omega))
    have hy5 : BatAt w5 w.heap.size t (.slice (some ⟨b, off, none⟩) F.length cap) := BatAt.ofBlk (B4.out.alloc' _) (g5.block w.heap.size (by have := B4.out.lt; simp; omega) (by simp [Value.ownBlock]; omega)) g5.size
    have B5s : Hid (BatAt (w5.setCell ⟨bf + 1, 1, none⟩ (.slice A5 n5 cap5)) w.heap.size t (.slice (some ⟨b, off, none⟩) F.length cap)) := Lib.hid (hy5.setOther (by omega))
    have Q5s : Hid (BatAt (w5.setCell ⟨bf + 1, 1, none⟩ (.slice A5 n5 cap5)) (bf + 1) t (.slice A5 n5 cap5)) := Lib.hid (BatAt.set1 ⟨z0, z1, fun o => hzf.out o, zl⟩)
    have o5s : FmOwn (w5.setCell ⟨bf + 1, 1, none⟩ (.slice A5 n5 cap5)) bf (.slice A5 n5 cap5) [(⟨⟨hn, j, hu, hhl⟩, .slice none 0 0, []⟩ : Fs), (⟨hd0, .slice none 0 0, []⟩ : Fs)] := KOwn.ofBlock o5 fun q hq => Below.heap_setCell _ _ _ _ (by
      show q ≠ bf + 1
      rcases hv5 with e | e
      · rw [hq] at e; simp [Value.ownBlock] at e; omega
      · rw [hq] at e; simp at e; omega)
    have G5s : Hid (FmRow (w5.setCell ⟨bf + 1, 1, none⟩ (.slice A5 n5 cap5)) (.slice A5 n5 cap5) [(⟨⟨hn, j, hu, hhl⟩, .slice none 0 0, []⟩ : Fs), (⟨hd0, .slice none 0 0, []⟩ : Fs)]) := Lib.hid ⟨KOwn.row encF_len o5s, fun x hx => by
      simp only [List.mem_cons, List.not_mem_nil, or_false] at hx
      rcases hx with rfl | rfl
      · exact ⟨PtRow.nil _, HJ.out⟩
      · exact ⟨PtRow.nil _, hd0_in⟩⟩
    have HG2 : Hid (FpFew (fms [(⟨⟨hn, j, hu, hhl⟩, .slice none 0 0, []⟩ : Fs), (⟨hd0, .slice none 0 0, []⟩ : Fs)])) := Lib.hid (few_none (by simp) fun x hx => by
      simp only [List.map_cons, List.map_nil, List.mem_cons, List.not_mem_nil, or_false] at hx
      rcases hx with rfl | rfl <;> rfl)
    obtain ⟨W5s, hW5s⟩ : ∃ X, X = w5.setCell ⟨bf + 1, 1, none⟩ (.slice A5 n5 cap5) := ⟨_, rfl⟩
    rw [← hW5s] at K5s B5s Q5s G5s ⊢
    clear hW5s y0 y1 u0 u1 ul uf1 K4 B4 Q4 G4 C4 HOW HZ HON o5 o5s g5 hv5 hcq hb5 hy5 z0 z1 zl zf1 hzf K4a
    have HG := HG2
    have HTM := HTL
    have EE := F19
    clear E13 E18 E19 F19
    obtain ⟨p0, p1, _, pl⟩ := B5s.out
    obtain ⟨q0, q1, _, ql⟩ := Q5s.out
    obtain ⟨W5, hW5⟩ : ∃ W, W = (W5s).alloc (.cells #[.string (str t), .slice (some ⟨b, off, none⟩) F.length cap, .string (str (t)), .slice A5 n5 cap5] 28) := ⟨_, rfl⟩
    have hb5 : Below (W5s).heap.size (W5s) W5 := by rw [hW5]; exact (Below.refl _ _).alloc (Nat.le_refl _) _
    have K5 := Lib.hid (trans9 K5s.out hb5)
    have B5 := Lib.hid (B5s.out.below hb5)
    have Q5 := Lib.hid (Q5s.out.below hb5)
    have G5 := Lib.hid (G5s.out.below hb5)
    have HM1 := Lib.hid (k_bad [(t, fms F), (t, [(⟨hn, j, hu, hhl⟩, []), (⟨[], 0, [], []⟩, [])])] [⟨t, .slice (some ⟨b, off, none⟩) F.length cap, F⟩, ⟨t, .slice A5 n5 cap5, [⟨⟨hn, j, hu, hhl⟩, .slice none 0 0, []⟩, ⟨hd0, .slice none 0 0, []⟩]⟩] _ W5 19 (by rw [hW5]; exact bt_two _ ⟨t, .slice (some ⟨b, off, none⟩) F.length cap, F⟩ ⟨t, .slice A5 n5 cap5, [⟨⟨hn, j, hu, hhl⟩, .slice none 0 0, []⟩, ⟨hd0, .slice none 0 0, []⟩]⟩ ⟨HV.out.below K5s.out, HTL.out⟩ ⟨G5s.out, HTM.out⟩) (few_two HFP.out HG.out) rfl EE.out.1 (by decide) (HT.out W5 K5.out))
    go_wp2_with fail
    rw [← hW5]
    clear hW5 hb5
    refine HM1.out.mono ?_; rintro e w6 ⟨⟨A6, c6, rfl⟩, b6⟩
    have K6 := Lib.hid (trans9 K5.out b6)
    have B6 := B5.out.below b6
    have Q6 := Q5.out.below b6
    have G6 := G5.out.below b6
    clear b6 HM1 p0 p1 pl q0 q1 ql B5 Q5 G5 K5
    go_upto_region 19 with fail
    obtain ⟨W7, hW7⟩ : ∃ W, W = w6.alloc (.cells #[.string (str []), .slice A6 0 c6] 28) := ⟨_, rfl⟩
    have hb7 : Below w6.heap.size w6 W7 := by rw [hW7]; exact (Below.refl _ _).alloc (Nat.le_refl _) _
    have K7 := Lib.hid (trans9 K6.out hb7)
    have B7 := Lib.hid (B6.below hb7)
    have Q7 := Lib.hid (Q6.below hb7)
    have G7 := Lib.hid (G6.below hb7)
    have X7 : Hid (BatAt W7 w6.heap.size [] (.slice A6 0 c6)) := Lib.hid (by rw [hW7]; exact BatAt.new w6 [] _ _)
    rw [← hW7]
    clear hW7 hb7 B6 Q6 G6 K6
    generalize w6.heap.size = qx at *
    obtain ⟨p0, p1, _, pl⟩ := B7.out
    obtain ⟨q0, q1, _, ql⟩ := Q7.out
    obtain ⟨W8, hW8⟩ : ∃ W, W = W7.alloc (.cells #[.string (str (t)), .slice A5 n5 cap5, .string (str t), .slice (some ⟨b, off, none⟩) F.length cap] 28) := ⟨_, rfl⟩
    have hb8 : Below W7.heap.size W7 W8 := by rw [hW8]; exact (Below.refl _ _).alloc (Nat.le_refl _) _
    have K8 := Lib.hid (trans9 K7.out hb8)
    have X8 := Lib.hid (X7.out.below hb8)
    have HM2 := Lib.hid (k_bad [(t, [(⟨hn, j, hu, hhl⟩, []), (⟨[], 0, [], []⟩, [])]), (t, fms F)] [⟨t, .slice A5 n5 cap5, [⟨⟨hn, j, hu, hhl⟩, .slice none 0 0, []⟩, ⟨hd0, .slice none 0 0, []⟩]⟩, ⟨t, .slice (some ⟨b, off, none⟩) F.length cap, F⟩] _ W8 19 (by rw [hW8]; exact bt_two _ ⟨t, .slice A5 n5 cap5, [⟨⟨hn, j, hu, hhl⟩, .slice none 0 0, []⟩, ⟨hd0, .slice none 0 0, []⟩]⟩ ⟨t, .slice (some ⟨b, off, none⟩) F.length cap, F⟩ ⟨G7.out, HTM.out⟩ ⟨HV.out.below K7.out, HTL.out⟩) (few_two HG.out HFP.out) rfl EE.out.2 (by decide) (HT.out W8 K8.out))
    go_wp2_with fail
    rw [← hW8]
    clear hW8 hb8
    refine HM2.out.mono ?_; rintro e w9 ⟨⟨A9, c9, rfl⟩, b9⟩
    have K9 := Lib.hid (trans9 K8.out b9)
    have X9 := X8.out.below b9
    clear b9 HM2 p0 p1 pl q0 q1 ql B7 Q7 G7 K7 K8 X7 X8
    go_upto_region 20 with fail
    obtain ⟨W10, hW10⟩ : ∃ W, W = w9.alloc (.cells #[.string (str []), .slice A9 0 c9] 28) := ⟨_, rfl⟩
    have hb10 : Below w9.heap.size w9 W10 := by rw [hW10]; exact (Below.refl _ _).alloc (Nat.le_refl _) _
    have K10 := Lib.hid (trans9 K9.out hb10)
    obtain ⟨p0, p1, _, _⟩ := X9.below hb10
    have Y10 : BatAt W10 w9.heap.size [] (.slice A9 0 c9) := by rw [hW10]; exact BatAt.new w9 [] _ _
    obtain ⟨q0, q1, _, _⟩ := Y10
    rw [← hW10]
    clear hW10 hb10 X9 K9
    go_wp2
    go_ret
    exact ⟨rfl, K10.out⟩
  · obtain ⟨y0, y1, _, _⟩ := B4.out
    go_upto_region 18 with fail
    have HG := HG1
    have HTM := HTL
    have EE := E13
    clear E13 E18 E19 F19
    obtain ⟨p0, p1, _, pl⟩ := B4.out
    obtain ⟨q0, q1, _, ql⟩ := Q4.out
    obtain ⟨W5, hW5⟩ : ∃ W, W = (W4).alloc (.cells #[.string (str t), .slice (some ⟨b, off, none⟩) F.length cap, .string (str (t)), .slice (some ⟨bf, 0, none⟩) 1 1] 28) := ⟨_, rfl⟩
    have hb5 : Below (W4).heap.size (W4) W5 := by rw [hW5]; exact (Below.refl _ _).alloc (Nat.le_refl _) _
    have K5 := Lib.hid (trans9 K4.out hb5)
    have B5 := Lib.hid (B4.out.below hb5)
    have Q5 := Lib.hid (Q4.out.below hb5)
    have G5 := Lib.hid (G4.out.row.below hb5)
    have HM1 := Lib.hid (k_bad [(t, fms F), (t, [(⟨hn, j, hu, hhl⟩, [])])] [⟨t, .slice (some ⟨b, off, none⟩) F.length cap, F⟩, ⟨t, .slice (some ⟨bf, 0, none⟩) 1 1, [⟨⟨hn, j, hu, hhl⟩, .slice none 0 0, []⟩]⟩] _ W5 13 (by rw [hW5]; exact bt_two _ ⟨t, .slice (some ⟨b, off, none⟩) F.length cap, F⟩ ⟨t, .slice (some ⟨bf, 0, none⟩) 1 1, [⟨⟨hn, j, hu, hhl⟩, .slice none 0 0, []⟩]⟩ ⟨HV.out.below K4.out, HTL.out⟩ ⟨G4.out.row, HTM.out⟩) (few_two HFP.out HG.out) rfl EE.out.1 (by decide) (HT.out W5 K5.out))
    go_wp2_with fail
    rw [← hW5]
    clear hW5 hb5
    refine HM1.out.mono ?_; rintro e w6 ⟨⟨A6, c6, rfl⟩, b6⟩
    have K6 := Lib.hid (trans9 K5.out b6)
    have B6 := B5.out.below b6
    have Q6 := Q5.out.below b6
    have G6 := G5.out.below b6
    clear b6 HM1 p0 p1 pl q0 q1 ql B5 Q5 G5 K5
    go_upto_region 19 with fail
    obtain ⟨W7, hW7⟩ : ∃ W, W = w6.alloc (.cells #[.string (str []), .slice A6 0 c6] 28) := ⟨_, rfl⟩
    have hb7 : Below w6.heap.size w6 W7 := by rw [hW7]; exact (Below.refl _ _).alloc (Nat.le_refl _) _
    have K7 := Lib.hid (trans9 K6.out hb7)
    have B7 := Lib.hid (B6.below hb7)
    have Q7 := Lib.hid (Q6.below hb7)
    have G7 := Lib.hid (G6.below hb7)
    have X7 : Hid (BatAt W7 w6.heap.size [] (.slice A6 0 c6)) := Lib.hid (by rw [hW7]; exact BatAt.new w6 [] _ _)
    rw [← hW7]
    clear hW7 hb7 B6 Q6 G6 K6
    generalize w6.heap.size = qx at *
    obtain ⟨p0, p1, _, pl⟩ := B7.out
    obtain ⟨q0, q1, _, ql⟩ := Q7.out
    obtain ⟨W8, hW8⟩ : ∃ W, W = W7.alloc (.cells #[.string (str (t)), .slice (some ⟨bf, 0, none⟩) 1 1, .string (str t), .slice (some ⟨b, off, none⟩) F.length cap] 28) := ⟨_, rfl⟩
    have hb8 : Below W7.heap.size W7 W8 := by rw [hW8]; exact (Below.refl _ _).alloc (Nat.le_refl _) _
    have K8 := Lib.hid (trans9 K7.out hb8)
    have X8 := Lib.hid (X7.out.below hb8)
    have HM2 := Lib.hid (k_bad [(t, [(⟨hn, j, hu, hhl⟩, [])]), (t, fms F)] [⟨t, .slice (some ⟨bf, 0, none⟩) 1 1, [⟨⟨hn, j, hu, hhl⟩, .slice none 0 0, []⟩]⟩, ⟨t, .slice (some ⟨b, off, none⟩) F.length cap, F⟩] _ W8 13 (by rw [hW8]; exact bt_two _ ⟨t, .slice (some ⟨bf, 0, none⟩) 1 1, [⟨⟨hn, j, hu, hhl⟩, .slice none 0 0, []⟩]⟩ ⟨t, .slice (some ⟨b, off, none⟩) F.length cap, F⟩ ⟨G7.out, HTM.out⟩ ⟨HV.out.below K7.out, HTL.out⟩) (few_two HG.out HFP.out) rfl EE.out.2 (by decide) (HT.out W8 K8.out))
    go_wp2_with fail
    rw [← hW8]
    clear hW8 hb8
    refine HM2.out.mono ?_; rintro e w9 ⟨⟨A9, c9, rfl⟩, b9⟩
    have K9 := Lib.hid (trans9 K8.out b9)
    have X9 := X8.out.below b9
    clear b9 HM2 p0 p1 pl q0 q1 ql B7 Q7 G7 K7 K8 X7 X8
    go_upto_region 20 with fail
    obtain ⟨W10, hW10⟩ : ∃ W, W = w9.alloc (.cells #[.string (str []), .slice A9 0 c9] 28) := ⟨_, rfl⟩
    have hb10 : Below w9.heap.size w9 W10 := by rw [hW10]; exact (Below.refl _ _).alloc (Nat.le_refl _) _
    have K10 := Lib.hid (trans9 K9.out hb10)
    obtain ⟨p0, p1, _, _⟩ := X9.below hb10
    have Y10 : BatAt W10 w9.heap.size [] (.slice A9 0 c9) := by rw [hW10]; exact BatAt.new w9 [] _ _
    obtain ⟨q0, q1, _, _⟩ := Y10
    rw [← hW10]
    clear hW10 hb10 X9 K9
    go_wp2
    go_ret
    exact ⟨rfl, K10.out⟩

end Go.Proofs.YtjeefgamkoeiaaaGreatDoor
