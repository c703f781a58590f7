/- The walk of Scan's told (layer 17, the reference). -/
import Derived.Test.YthniemoganoapaaDoorRefOwK
set_option maxRecDepth 100000
set_option linter.unusedVariables false
set_option linter.unusedSimpArgs false
namespace Go.Proofs.YthniemoganoapaaDoor
open Go.RowKit
attribute [local go_sem ↓] Go.wp_at_zero Go.wp_at_succ

theorem ScO.stay9 {α β : Type} {w : World} {b : Nat} {s : List UInt8} {u : α} {r : List UInt8} (h : ScO w b s (Ow.Out.ok u r)) (o' : Ow.Out β) (e1 : o'.rest = r) (e2 : Ow.fellB o' = false) : ScO (w.setCell ⟨b, 2, none⟩ (.bool false)) b s o' := by
  refine ⟨by rw [e1]; exact h.suf, ?_⟩
  rw [e1, e2]
  have g : ScA w b s (s.length - r.length) false := h.num
  obtain ⟨h0, h1, h2, h5, h4⟩ := g
  exact ⟨by go_simp, by go_simp, by go_simp, fun o => by go_simp, by simpa [World.setCell] using h4⟩

set_option maxHeartbeats 64000000 in
theorem told4_calls (b : Nat) (s : List UInt8) (w : World) (r00 : List UInt8) (h : ScO w b s (Ow.Out.ok () r00)) (hs : s.length ≤ 1900) (hne : r00.head? = some 69) :
    Calls Tryd.prog 23 #[.pointer (some ⟨b, 0, none⟩)] w fun e w' => ToldP w b s (Ow.told s.length r00) e w' := by
  have hblt := h.num.lt
  obtain ⟨Q, hQ⟩ : ∃ Q, Q = Ow.told s.length r00 := ⟨_, rfl⟩
  rw [← hQ]
  have HQ0 := Lib.hid (show Q = (Ow.lit [69, 79, 70] r00).bind fun _ r => if r = [] ∨ r = [10] then .ok none [] else .fell (if r.head? = some 10 then r.tail else r) by
    rw [hQ]
    cases r00 with
    | nil => cases hne
    | cons c l =>
      have : c = 69 := by simpa using hne
      subst this
      unfold Ow.told; simp)
  have hh : Ow.hd r00 = 69 := by
    cases r00 with
    | nil => cases hne
    | cons c l =>
      have : c = 69 := by simpa using hne
      subst this; rfl
  have m0 : (Ow.hd r00 == (69 : Int)) = true := by rw [hh]; rfl
  clear hh
  obtain ⟨W1, hW1⟩ : ∃ X, X = (w.alloc (.cells #[.int .i64 0, .string ⟨#[]⟩, .int .i64 0, .slice none 0 0, .slice none 0 0, .string ⟨#[]⟩, .int .i64 0, .bool false, .string ⟨#[]⟩, .int .i64 0] 42)).alloc (.cells #[.int .i64 0, .string ⟨#[]⟩, .int .i64 0, .slice none 0 0, .slice none 0 0, .string ⟨#[]⟩, .int .i64 0, .bool false, .string ⟨#[]⟩, .int .i64 0] 42) := ⟨_, rfl⟩
  have B1 : Below w.heap.size w W1 := by rw [hW1]; exact ((Below.refl _ _).alloc (Nat.le_refl _) _).alloc (by simp) _
  have R1 := (show RwAt W1 w.heap.size (⟨0, [], 0, [], [], 0, false, [], 0⟩, .slice none 0 0) by rw [hW1]; exact (RwAt.new w 0 0 _).belowB (B := w.heap.size + 1) ((Below.refl _ _).alloc (Nat.le_of_eq (al_size _ _).symm) _) (Nat.lt_succ_self _))
  have Q1 := (show RwAt W1 (w.heap.size + 1) (⟨0, [], 0, [], [], 0, false, [], 0⟩, .slice none 0 0) by rw [hW1]; have := RwAt.new (w.alloc (.cells #[.int .i64 0, .string ⟨#[]⟩, .int .i64 0, .slice none 0 0, .slice none 0 0, .string ⟨#[]⟩, .int .i64 0, .bool false, .string ⟨#[]⟩, .int .i64 0] 42)) 0 0 42; rw [al_size] at this; exact this)
  have SI := Lib.hid (show RmAt w W1 b s (Ow.Out.ok () r00) ⟨0, [], 0, [], [], 0, false, [], 0⟩ (.slice none 0 0) [] from ⟨h.below B1, Q1, R1, sc_below B1 (some b), KOwn.nil _ _ _ _ _, hblt⟩)
  have HW1 := Lib.hid hW1
  clear hQ hW1 B1 R1 Q1 h
  go_enter Tryd.func23, Tryd.ntmps23
  go_wp2_with fail
  rw [← HW1.out]
  clear HW1
  refine (scnext_calls (Ow.Out.ok () r00) b s W1 SI.out.C (by unfold maxLen; omega)).mono ?_; rintro e w0 ⟨rfl, b0⟩
  have S0 := Lib.hid (SI.out.call (sc_below b0 _) (SI.out.C.below b0))
  rw [show (Ow.Out.ok () r00).rest = r00 from rfl]
  generalize Ow.hd r00 = HD at *
  clear b0 SI
  go_wp2_with fail
  refine (scl_calls _ [69, 79, 70] b s _ S0.out.C (by unfold maxLen; simp) (by unfold maxLen; omega)).mono ?_; rintro e w2 ⟨rfl, g2, C2⟩
  obtain ⟨oz, hoz⟩ : ∃ o, o = Ow.lit [69, 79, 70] r00 := ⟨_, rfl⟩
  rw [show ((Ow.Out.ok () r00).bind fun _ r => Ow.lit [69, 79, 70] r) = oz from hoz.symm] at C2
  have S1 := Lib.hid (S0.out.call g2 C2)
  have HQ := Lib.hid (show Q = oz.bind fun _ r => if r = [] ∨ r = [10] then .ok none [] else .fell (if r.head? = some 10 then r.tail else r) by rw [hoz]; exact HQ0.out)
  clear g2 C2 HQ0 S0 hoz
  cases oz with
  | fell r =>
    have hQ := Lib.hid (show Q = .fell r from HQ.out)
    have hon := Lib.hid (show Ow.onB Q = false by rw [hQ.out]; rfl)
    have hFin := Lib.hid (fun W (h : ScO W b s (Ow.Out.fell r : Ow.Out Unit)) => h.fall9 Q (by rw [hQ.out]; rfl) (by rw [hQ.out]; rfl))
    have SX := S1
    obtain ⟨c0, c1, c2, cf, cl⟩ := S1.out.C.num
    have c2 : w2.cell? ⟨b, 2, none⟩ = some (.bool true) := c2
    clear S1 HQ
    go_upto_region 8 with fail
    obtain ⟨WB, hWB⟩ : ∃ X, X = w2 := ⟨_, rfl⟩
    rw [← hWB] at SX ⊢
    clear hWB
    refine wp_region_noPanic ?_
    refine wp_region_held_drew (S := fun X => Below 0 WB X) (by kernel_rfl) ?_ (fun hHeld => ?_)
    · exact Below.drew (Below.refl _ _)
    have kB : Below 0 WB WB.drew := Below.drew (Below.refl _ _)
    clear hHeld
    have kM := SX.out.call (sc_below (below_drewN (Below.refl _ _) 1) _) (SX.out.C.below (below_drewN (Below.refl _ _) 1))
    change RmAt w WB.drew _ _ _ _ _ _ at kM
    obtain ⟨WD, hWD⟩ : ∃ X, X = WB.drew := ⟨_, rfl⟩
    rw [← hWD] at kB kM ⊢
    clear hWD
    refine tk9 0 kB ?_
    refine tk9 1 kB ?_
    refine tk9 2 kB ?_
    refine tk9 3 kB ?_
    refine wpAnyH_ready (rs := [4]) (by kernel_rfl) (by simp) ?_
    refine AllReadyH.cons (by simp only [List.getElem?_toArray, List.getElem?_cons_succ, List.getElem?_cons_zero]; rfl) (fun K hK => ?_) AllReadyH.nil
    obtain ⟨c0, c1, c2, cf, cl⟩ := kM.C.num
    change _ = some (Value.bool true) at c2
    go_simp
    clear c0 c1 c2 cf cl
    refine hK.out _ _ kB (fun hHeld => ?_)
    clear hK K hHeld
    (try simp only [Act.put, List.setIfInBounds_toArray, List.set_cons_zero, List.set_cons_succ])
    refine tk9 5 kB ?_
    refine tk9 6 kB ?_ (v := undef) (hy := Or.inr ⟨by rfl, rfl⟩)
    refine tk9 7 kB ?_ (v := undef) (hy := Or.inr ⟨by rfl, rfl⟩)
    refine tk9 8 kB ?_ (v := undef) (hy := Or.inr ⟨by rfl, rfl⟩)
    refine tk9 9 kB ?_ (v := undef) (hy := Or.inr ⟨by rfl, rfl⟩)
    refine tk9 10 kB ?_ (v := undef) (hy := Or.inr ⟨by rfl, rfl⟩)
    refine tk9 11 kB ?_ (v := undef) (hy := Or.inr ⟨by rfl, rfl⟩)
    refine tk9 12 kB ?_ (v := undef) (hy := Or.inr ⟨by rfl, rfl⟩)
    refine tk9 13 kB ?_ (v := undef) (hy := Or.inr ⟨by rfl, rfl⟩)
    refine tk9 14 kB ?_ (v := undef) (hy := Or.inr ⟨by rfl, rfl⟩)
    refine tk9 15 kB ?_ (v := undef) (hy := Or.inr ⟨by rfl, rfl⟩)
    refine tk9 16 kB ?_
    refine tk9 17 kB ?_
    refine tk9 18 kB ?_
    refine wpAnyH_ready (rs := [19]) (by kernel_rfl) (by simp) ?_
    refine AllReadyH.cons (by simp only [List.getElem?_toArray, List.getElem?_cons_succ, List.getElem?_cons_zero]; rfl) (fun K hK => ?_) AllReadyH.nil
    obtain ⟨c0, c1, c2, cf, cl⟩ := kM.C.num
    go_simp
    clear c0 c1 c2 cf cl
    have gs : WD.grownBy (WD.setCell ⟨b, 2, none⟩ (.bool true)) (some b) := sc_set (sc_below (Below.refl _ _) _)
    have kN := kM.call gs (show ScO (WD.setCell ⟨b, 2, none⟩ (.bool true)) b s Q from hFin.out _ kM.C)
    replace kB := b0_grown kB gs
    clear kM
    have kM := kN
    obtain ⟨WZ, hWZ⟩ : ∃ X, X = WD.setCell ⟨b, 2, none⟩ (.bool true) := ⟨_, rfl⟩
    rw [← hWZ] at kM kB ⊢
    clear hWZ gs kN
    refine hK.out _ _ kB (fun hHeld => ?_)
    clear hK K hHeld
    (try simp only [Act.put, List.setIfInBounds_toArray, List.set_cons_zero, List.set_cons_succ])
    refine wpAnyH_done (by kernel_rfl) ?_ _
    refine NoPanic.normal ?_
    have SM := Lib.hid kM
    clear kM kB
    obtain ⟨xr, hxr⟩ : ∃ xr : Ow.Rw, xr = ⟨0, [], 0, [], [], 0, false, [], 0⟩ := ⟨_, rfl⟩
    have SM2 := Lib.hid (show RmAt w WZ b s Q xr (.slice none 0 0) [] by rw [hxr]; exact SM.out)
    clear SM hxr
    have FZ := Lib.hid SM2.out.fin
    obtain ⟨z0, z1, z2, z3, z4, z5, z6, z7, z8, z9, zf, zl⟩ := SM2.out.R
    obtain ⟨y0, y1, y2, y3, y4, y5, y6, y7, y8, y9, yf, yl⟩ := SM2.out.Z
    dsimp only at z0 z1 z2 z3 z4 z5 z6 z7 z8 z9 y0 y1 y2 y3 y4 y5 y6 y7 y8 y9
    clear SM2
    go_wp2
    clear z0 z1 z2 z3 z4 z5 z6 z7 z8 z9 zf zl y0 y1 y2 y3 y4 y5 y6 y7 y8 y9 yf yl
    generalize hWY : ((((((((((WZ.setCell ⟨w.heap.size, 0, none⟩ (.int .i64 xr.k)).setCell ⟨w.heap.size, 1, none⟩ (.string (str xr.n))).setCell ⟨w.heap.size, 2, none⟩ (.int .i64 (xr.off : Nat))).setCell ⟨w.heap.size, 3, none⟩ (.slice none 0 0)).setCell ⟨w.heap.size, 4, none⟩ (.slice none 0 0)).setCell ⟨w.heap.size, 5, none⟩ (.string (str xr.text))).setCell ⟨w.heap.size, 6, none⟩ (.int .i64 (xr.at_ : Nat))).setCell ⟨w.heap.size, 7, none⟩ (.bool xr.td)).setCell ⟨w.heap.size, 8, none⟩ (.string (str xr.tm))).setCell ⟨w.heap.size, 9, none⟩ (.int .i64 (xr.wh : Nat))) = WY at *
    clear hWY
    obtain ⟨FC, FR, FG, FT⟩ := FZ.out
    obtain ⟨y0, y1, y2, y3, y4, y5, y6, y7, y8, y9, yf, yl⟩ := FR
    dsimp only at y0 y1 y2 y3 y4 y5 y6 y7 y8 y9
    refine bodyPost_ret (v := .tuple #[rwv (xr, .slice none 0 0), .bool false]) (by simp [results, Tryd.results23, go_sem, y0, y1, y2, y3, y4, y5, y6, y7, y8, y9, rwv]) rfl ?_
    exact ⟨xr, false, rfl, hon.out.symm, FC, FG, fun R r e => (by have := hon.out; rw [e] at this; cases this)⟩
  | ok u r =>
    obtain ⟨c0, c1, c2, cf, cl⟩ := S1.out.C.num
    have c2 : w2.cell? ⟨b, 2, none⟩ = some (.bool false) := c2
    have hdm : (Ow.hd r == (10 : Int)) = decide (r.head? = some 10) := Ow.hd_is (l := r) (c := 10) (by decide)
    have HQ2 := Lib.hid (show Q = if r = [] ∨ r = [10] then .ok none [] else .fell (if r.head? = some 10 then r.tail else r) from HQ.out)
    clear HQ
    go_wp2_with fail
    clear c0 c1 c2 cf cl
    refine (scnext_calls _ b s _ S1.out.C (by unfold maxLen; omega)).mono ?_; rintro e w3 ⟨rfl, b3⟩
    have S3 := Lib.hid (S1.out.call (sc_below b3 _) (S1.out.C.below b3))
    rw [show (Ow.Out.ok u r).rest = r from rfl]
    clear b3 S1
    by_cases q : r.head? = some 10
    · rw [decide_eq_true q] at hdm
      have hr10 := Ow.head_some q
      have HQ3 := Lib.hid (show Q = if r.tail = [] then .ok none [] else .fell r.tail by
        rw [HQ2.out, if_pos q]
        by_cases ht : r.tail = []
        · rw [if_pos ht, if_pos]; rw [hr10, ht]; exact Or.inr rfl
        · rw [if_neg ht, if_neg]; rintro (h | h) <;> (rw [h] at hr10 q; first | (cases q; done) | (apply ht; rw [h]; rfl)))
      generalize Ow.hd r = HD at *
      clear HQ2 hr10
      have hrt := Ow.head_some q
      have hrs : r <:+ s := S3.out.C.suf
      have hkl : s.length - r.length + 1 = s.length - r.tail.length := by
        have h1 := hrs.length_le
        have h2 := congrArg List.length hrt
        simp only [List.length_cons] at h2
        omega
      obtain ⟨c0, c1, c2, cf, cl⟩ := S3.out.C.num
      rw [show s.length - (Ow.Out.ok u r).rest.length = s.length - r.length from rfl] at c1
      obtain ⟨K1, hK1⟩ : ∃ k, k = s.length - r.length := ⟨_, rfl⟩
      obtain ⟨K2, hK2⟩ : ∃ k, k = s.length - r.tail.length := ⟨_, rfl⟩
      rw [← hK1] at c1 hkl
      rw [← hK2] at hkl
      have hw : IntKind.i64.wrap ((K1 : Int) + 1) = (K2 : Int) := by
        rw [show (K1 : Int) + 1 = (K2 : Int) by omega]; exact IntWalk.i64_in _ (by omega)
      have CM : ScO (w3.setCell ⟨b, 1, none⟩ (.int .i64 (K2 : Nat))) b s (Ow.Out.ok () r.tail) := ⟨(List.tail_suffix r).trans hrs, by show ScA _ b s (s.length - r.tail.length) false; rw [← hK2]; exact S3.out.C.num.move K2⟩
      have S5 := Lib.hid (S3.out.call (sc_set (sc_below (Below.refl _ _) _)) CM)
      clear hK1 hK2 hkl CM S3 hrt hrs
      clear q
      have SX := S5
      clear S5
      generalize r.tail = rt at *
      go_upto_region 8 with fail
      clear c0 c1 c2 cf cl hw
      obtain ⟨K, hK⟩ : ∃ k, k = s.length - (Ow.Out.ok () rt : Ow.Out Unit).rest.length := ⟨_, rfl⟩
      have HKE := Lib.hid hK.symm
      have hKr : K = s.length - rt.length := hK
      have hrl : rt.length ≤ s.length := SX.out.C.suf.length_le
      clear hK
      by_cases ht : rt = []
      · have hk1 : decide ((K : Int) < (s.length : Int)) = false := decide_eq_false (by rw [ht] at hKr; simp at hKr; omega)
        have hk2 : decide (K < s.length) = false := decide_eq_false (by rw [ht] at hKr; simp at hKr; omega)
        have hQ := Lib.hid (show Q = .ok none [] by rw [HQ3.out, if_pos ht])
        have hon := Lib.hid (show Ow.onB Q = false by rw [hQ.out]; rfl)
        have hFin := Lib.hid (fun W (h : ScO W b s (Ow.Out.ok () rt : Ow.Out Unit)) => h.stay9 Q (by rw [hQ.out, ht]; rfl) (by rw [hQ.out]; rfl))
        clear HQ3 ht hKr hrl
        obtain ⟨WB, hWB⟩ : ∃ X, X = (w3.setCell ⟨b, 1, none⟩ (.int .i64 (K2 : Nat))) := ⟨_, rfl⟩
        rw [← hWB] at SX ⊢
        clear hWB
        refine wp_region_noPanic ?_
        refine wp_region_held_drew (S := fun X => Below 0 WB X) (by kernel_rfl) ?_ (fun hHeld => ?_)
        · exact Below.drew (Below.refl _ _)
        have kB : Below 0 WB WB.drew := Below.drew (Below.refl _ _)
        clear hHeld
        have kM := SX.out.call (sc_below (below_drewN (Below.refl _ _) 1) _) (SX.out.C.below (below_drewN (Below.refl _ _) 1))
        change RmAt w WB.drew _ _ _ _ _ _ at kM
        obtain ⟨WD, hWD⟩ : ∃ X, X = WB.drew := ⟨_, rfl⟩
        rw [← hWD] at kB kM ⊢
        clear hWD
        refine tk9 0 kB ?_
        refine tk9 1 kB ?_
        refine tk9 2 kB ?_
        refine tk9 3 kB ?_
        refine wpAnyH_ready (rs := [4]) (by kernel_rfl) (by simp) ?_
        refine AllReadyH.cons (by simp only [List.getElem?_toArray, List.getElem?_cons_succ, List.getElem?_cons_zero]; rfl) (fun K hK => ?_) AllReadyH.nil
        obtain ⟨c0, c1, c2, cf, cl⟩ := kM.C.num
        change _ = some (Value.bool false) at c2
        go_simp
        clear c0 c1 c2 cf cl
        refine hK.out _ _ kB (fun hHeld => ?_)
        clear hK K hHeld
        (try simp only [Act.put, List.setIfInBounds_toArray, List.set_cons_zero, List.set_cons_succ])
        refine tk9 5 kB ?_
        refine tk9 6 kB ?_
        refine tk9 7 kB ?_
        refine tk9 8 kB ?_
        refine tk9 10 kB ?_
        refine tk9 11 kB ?_
        refine tk9 12 kB ?_
        refine wpAnyH_ready (rs := [9, 13]) (by kernel_rfl) (by simp) ?_
        refine AllReadyH.cons (by simp only [List.getElem?_toArray, List.getElem?_cons_succ, List.getElem?_cons_zero]; rfl) (fun K hK => ?_) ?_
        · obtain ⟨c0, c1, c2, cf, cl⟩ := kM.C.num
          rw [HKE.out] at c1
          go_simp
          clear c0 c1 c2 cf cl
          refine hK.out _ _ kB (fun hHeld => ?_)
          clear hK K hHeld
          (try simp only [Act.put, List.setIfInBounds_toArray, List.set_cons_zero, List.set_cons_succ])
          refine wpAnyH_ready (rs := [13]) (by kernel_rfl) (by simp) ?_
          refine AllReadyH.cons (by simp only [List.getElem?_toArray, List.getElem?_cons_succ, List.getElem?_cons_zero]; rfl) (fun K hK => ?_) AllReadyH.nil
          obtain ⟨c0, c1, c2, cf, cl⟩ := kM.C.num
          rw [HKE.out] at c1
          go_simp
          clear c0 c1 c2 cf cl
          refine hK.out _ _ kB (fun hHeld => ?_)
          clear hK K hHeld
          (try simp only [Act.put, List.setIfInBounds_toArray, List.set_cons_zero, List.set_cons_succ])
          refine tk9 14 kB ?_
          refine tk9 15 kB ?_
          refine tk9 16 kB ?_
          refine tk9 17 kB ?_
          refine tk9 18 kB ?_
          refine wpAnyH_ready (rs := [19]) (by kernel_rfl) (by simp) ?_
          refine AllReadyH.cons (by simp only [List.getElem?_toArray, List.getElem?_cons_succ, List.getElem?_cons_zero]; rfl) (fun K hK => ?_) AllReadyH.nil
          obtain ⟨c0, c1, c2, cf, cl⟩ := kM.C.num
          go_simp
          clear c0 c1 c2 cf cl
          have gs : WD.grownBy (WD.setCell ⟨b, 2, none⟩ (.bool false)) (some b) := sc_set (sc_below (Below.refl _ _) _)
          have kN := kM.call gs (show ScO (WD.setCell ⟨b, 2, none⟩ (.bool false)) b s Q from hFin.out _ kM.C)
          replace kB := b0_grown kB gs
          clear kM
          have kM := kN
          obtain ⟨WZ, hWZ⟩ : ∃ X, X = WD.setCell ⟨b, 2, none⟩ (.bool false) := ⟨_, rfl⟩
          rw [← hWZ] at kM kB ⊢
          clear hWZ gs kN
          refine hK.out _ _ kB (fun hHeld => ?_)
          clear hK K hHeld
          (try simp only [Act.put, List.setIfInBounds_toArray, List.set_cons_zero, List.set_cons_succ])
          refine wpAnyH_done (by kernel_rfl) ?_ _
          refine NoPanic.normal ?_
          have SM := Lib.hid kM
          clear kM kB
          obtain ⟨xr, hxr⟩ : ∃ xr : Ow.Rw, xr = ⟨0, [], 0, [], [], 0, false, [], 0⟩ := ⟨_, rfl⟩
          have SM2 := Lib.hid (show RmAt w WZ b s Q xr (.slice none 0 0) [] by rw [hxr]; exact SM.out)
          clear SM hxr
          have FZ := Lib.hid SM2.out.fin
          obtain ⟨z0, z1, z2, z3, z4, z5, z6, z7, z8, z9, zf, zl⟩ := SM2.out.R
          obtain ⟨y0, y1, y2, y3, y4, y5, y6, y7, y8, y9, yf, yl⟩ := SM2.out.Z
          dsimp only at z0 z1 z2 z3 z4 z5 z6 z7 z8 z9 y0 y1 y2 y3 y4 y5 y6 y7 y8 y9
          clear SM2
          go_wp2
          clear z0 z1 z2 z3 z4 z5 z6 z7 z8 z9 zf zl y0 y1 y2 y3 y4 y5 y6 y7 y8 y9 yf yl
          generalize hWY : ((((((((((WZ.setCell ⟨w.heap.size, 0, none⟩ (.int .i64 xr.k)).setCell ⟨w.heap.size, 1, none⟩ (.string (str xr.n))).setCell ⟨w.heap.size, 2, none⟩ (.int .i64 (xr.off : Nat))).setCell ⟨w.heap.size, 3, none⟩ (.slice none 0 0)).setCell ⟨w.heap.size, 4, none⟩ (.slice none 0 0)).setCell ⟨w.heap.size, 5, none⟩ (.string (str xr.text))).setCell ⟨w.heap.size, 6, none⟩ (.int .i64 (xr.at_ : Nat))).setCell ⟨w.heap.size, 7, none⟩ (.bool xr.td)).setCell ⟨w.heap.size, 8, none⟩ (.string (str xr.tm))).setCell ⟨w.heap.size, 9, none⟩ (.int .i64 (xr.wh : Nat))) = WY at *
          clear hWY
          obtain ⟨FC, FR, FG, FT⟩ := FZ.out
          obtain ⟨y0, y1, y2, y3, y4, y5, y6, y7, y8, y9, yf, yl⟩ := FR
          dsimp only at y0 y1 y2 y3 y4 y5 y6 y7 y8 y9
          refine bodyPost_ret (v := .tuple #[rwv (xr, .slice none 0 0), .bool false]) (by simp [results, Tryd.results23, go_sem, y0, y1, y2, y3, y4, y5, y6, y7, y8, y9, rwv]) rfl ?_
          exact ⟨xr, false, rfl, hon.out.symm, FC, FG, fun R r e => (by have := hon.out; rw [e] at this; cases this)⟩
        refine AllReadyH.cons (by simp only [List.getElem?_toArray, List.getElem?_cons_succ, List.getElem?_cons_zero]; rfl) (fun K hK => ?_) AllReadyH.nil
        obtain ⟨c0, c1, c2, cf, cl⟩ := kM.C.num
        rw [HKE.out] at c1
        go_simp
        clear c0 c1 c2 cf cl
        refine hK.out _ _ kB (fun hHeld => ?_)
        clear hK K hHeld
        (try simp only [Act.put, List.setIfInBounds_toArray, List.set_cons_zero, List.set_cons_succ])
        refine tk9 14 kB ?_
        refine wpAnyH_ready (rs := [9]) (by kernel_rfl) (by simp) ?_
        refine AllReadyH.cons (by simp only [List.getElem?_toArray, List.getElem?_cons_succ, List.getElem?_cons_zero]; rfl) (fun K hK => ?_) AllReadyH.nil
        obtain ⟨c0, c1, c2, cf, cl⟩ := kM.C.num
        rw [HKE.out] at c1
        go_simp
        clear c0 c1 c2 cf cl
        refine hK.out _ _ kB (fun hHeld => ?_)
        clear hK K hHeld
        (try simp only [Act.put, List.setIfInBounds_toArray, List.set_cons_zero, List.set_cons_succ])
        refine tk9 15 kB ?_
        refine tk9 16 kB ?_
        refine tk9 17 kB ?_
        refine tk9 18 kB ?_
        refine wpAnyH_ready (rs := [19]) (by kernel_rfl) (by simp) ?_
        refine AllReadyH.cons (by simp only [List.getElem?_toArray, List.getElem?_cons_succ, List.getElem?_cons_zero]; rfl) (fun K hK => ?_) AllReadyH.nil
        obtain ⟨c0, c1, c2, cf, cl⟩ := kM.C.num
        go_simp
        clear c0 c1 c2 cf cl
        have gs : WD.grownBy (WD.setCell ⟨b, 2, none⟩ (.bool false)) (some b) := sc_set (sc_below (Below.refl _ _) _)
        have kN := kM.call gs (show ScO (WD.setCell ⟨b, 2, none⟩ (.bool false)) b s Q from hFin.out _ kM.C)
        replace kB := b0_grown kB gs
        clear kM
        have kM := kN
        obtain ⟨WZ, hWZ⟩ : ∃ X, X = WD.setCell ⟨b, 2, none⟩ (.bool false) := ⟨_, rfl⟩
        rw [← hWZ] at kM kB ⊢
        clear hWZ gs kN
        refine hK.out _ _ kB (fun hHeld => ?_)
        clear hK K hHeld
        (try simp only [Act.put, List.setIfInBounds_toArray, List.set_cons_zero, List.set_cons_succ])
        refine wpAnyH_done (by kernel_rfl) ?_ _
        refine NoPanic.normal ?_
        have SM := Lib.hid kM
        clear kM kB
        obtain ⟨xr, hxr⟩ : ∃ xr : Ow.Rw, xr = ⟨0, [], 0, [], [], 0, false, [], 0⟩ := ⟨_, rfl⟩
        have SM2 := Lib.hid (show RmAt w WZ b s Q xr (.slice none 0 0) [] by rw [hxr]; exact SM.out)
        clear SM hxr
        have FZ := Lib.hid SM2.out.fin
        obtain ⟨z0, z1, z2, z3, z4, z5, z6, z7, z8, z9, zf, zl⟩ := SM2.out.R
        obtain ⟨y0, y1, y2, y3, y4, y5, y6, y7, y8, y9, yf, yl⟩ := SM2.out.Z
        dsimp only at z0 z1 z2 z3 z4 z5 z6 z7 z8 z9 y0 y1 y2 y3 y4 y5 y6 y7 y8 y9
        clear SM2
        go_wp2
        clear z0 z1 z2 z3 z4 z5 z6 z7 z8 z9 zf zl y0 y1 y2 y3 y4 y5 y6 y7 y8 y9 yf yl
        generalize hWY : ((((((((((WZ.setCell ⟨w.heap.size, 0, none⟩ (.int .i64 xr.k)).setCell ⟨w.heap.size, 1, none⟩ (.string (str xr.n))).setCell ⟨w.heap.size, 2, none⟩ (.int .i64 (xr.off : Nat))).setCell ⟨w.heap.size, 3, none⟩ (.slice none 0 0)).setCell ⟨w.heap.size, 4, none⟩ (.slice none 0 0)).setCell ⟨w.heap.size, 5, none⟩ (.string (str xr.text))).setCell ⟨w.heap.size, 6, none⟩ (.int .i64 (xr.at_ : Nat))).setCell ⟨w.heap.size, 7, none⟩ (.bool xr.td)).setCell ⟨w.heap.size, 8, none⟩ (.string (str xr.tm))).setCell ⟨w.heap.size, 9, none⟩ (.int .i64 (xr.wh : Nat))) = WY at *
        clear hWY
        obtain ⟨FC, FR, FG, FT⟩ := FZ.out
        obtain ⟨y0, y1, y2, y3, y4, y5, y6, y7, y8, y9, yf, yl⟩ := FR
        dsimp only at y0 y1 y2 y3 y4 y5 y6 y7 y8 y9
        refine bodyPost_ret (v := .tuple #[rwv (xr, .slice none 0 0), .bool false]) (by simp [results, Tryd.results23, go_sem, y0, y1, y2, y3, y4, y5, y6, y7, y8, y9, rwv]) rfl ?_
        exact ⟨xr, false, rfl, hon.out.symm, FC, FG, fun R r e => (by have := hon.out; rw [e] at this; cases this)⟩
      · have hpos : 0 < rt.length := List.length_pos_iff.2 ht
        have hk1 : decide ((K : Int) < (s.length : Int)) = true := decide_eq_true (by omega)
        have hk2 : decide (K < s.length) = true := decide_eq_true (by omega)
        have hQ := Lib.hid (show Q = .fell rt by rw [HQ3.out, if_neg ht])
        have hon := Lib.hid (show Ow.onB Q = false by rw [hQ.out]; rfl)
        have hFin := Lib.hid (fun W (h : ScO W b s (Ow.Out.ok () rt : Ow.Out Unit)) => h.fall9 Q (by rw [hQ.out]; rfl) (by rw [hQ.out]; rfl))
        clear HQ3 ht hKr hrl hpos
        obtain ⟨WB, hWB⟩ : ∃ X, X = (w3.setCell ⟨b, 1, none⟩ (.int .i64 (K2 : Nat))) := ⟨_, rfl⟩
        rw [← hWB] at SX ⊢
        clear hWB
        refine wp_region_noPanic ?_
        refine wp_region_held_drew (S := fun X => Below 0 WB X) (by kernel_rfl) ?_ (fun hHeld => ?_)
        · exact Below.drew (Below.refl _ _)
        have kB : Below 0 WB WB.drew := Below.drew (Below.refl _ _)
        clear hHeld
        have kM := SX.out.call (sc_below (below_drewN (Below.refl _ _) 1) _) (SX.out.C.below (below_drewN (Below.refl _ _) 1))
        change RmAt w WB.drew _ _ _ _ _ _ at kM
        obtain ⟨WD, hWD⟩ : ∃ X, X = WB.drew := ⟨_, rfl⟩
        rw [← hWD] at kB kM ⊢
        clear hWD
        refine tk9 0 kB ?_
        refine tk9 1 kB ?_
        refine tk9 2 kB ?_
        refine tk9 3 kB ?_
        refine wpAnyH_ready (rs := [4]) (by kernel_rfl) (by simp) ?_
        refine AllReadyH.cons (by simp only [List.getElem?_toArray, List.getElem?_cons_succ, List.getElem?_cons_zero]; rfl) (fun K hK => ?_) AllReadyH.nil
        obtain ⟨c0, c1, c2, cf, cl⟩ := kM.C.num
        change _ = some (Value.bool false) at c2
        go_simp
        clear c0 c1 c2 cf cl
        refine hK.out _ _ kB (fun hHeld => ?_)
        clear hK K hHeld
        (try simp only [Act.put, List.setIfInBounds_toArray, List.set_cons_zero, List.set_cons_succ])
        refine tk9 5 kB ?_
        refine tk9 6 kB ?_
        refine tk9 7 kB ?_
        refine tk9 8 kB ?_
        refine tk9 10 kB ?_
        refine tk9 11 kB ?_
        refine tk9 12 kB ?_
        refine wpAnyH_ready (rs := [9, 13]) (by kernel_rfl) (by simp) ?_
        refine AllReadyH.cons (by simp only [List.getElem?_toArray, List.getElem?_cons_succ, List.getElem?_cons_zero]; rfl) (fun K hK => ?_) ?_
        · obtain ⟨c0, c1, c2, cf, cl⟩ := kM.C.num
          rw [HKE.out] at c1
          go_simp
          clear c0 c1 c2 cf cl
          refine hK.out _ _ kB (fun hHeld => ?_)
          clear hK K hHeld
          (try simp only [Act.put, List.setIfInBounds_toArray, List.set_cons_zero, List.set_cons_succ])
          refine wpAnyH_ready (rs := [13]) (by kernel_rfl) (by simp) ?_
          refine AllReadyH.cons (by simp only [List.getElem?_toArray, List.getElem?_cons_succ, List.getElem?_cons_zero]; rfl) (fun K hK => ?_) AllReadyH.nil
          obtain ⟨c0, c1, c2, cf, cl⟩ := kM.C.num
          rw [HKE.out] at c1
          go_simp
          clear c0 c1 c2 cf cl
          refine hK.out _ _ kB (fun hHeld => ?_)
          clear hK K hHeld
          (try simp only [Act.put, List.setIfInBounds_toArray, List.set_cons_zero, List.set_cons_succ])
          refine tk9 14 kB ?_
          refine tk9 15 kB ?_
          refine tk9 16 kB ?_
          refine tk9 17 kB ?_
          refine tk9 18 kB ?_
          refine wpAnyH_ready (rs := [19]) (by kernel_rfl) (by simp) ?_
          refine AllReadyH.cons (by simp only [List.getElem?_toArray, List.getElem?_cons_succ, List.getElem?_cons_zero]; rfl) (fun K hK => ?_) AllReadyH.nil
          obtain ⟨c0, c1, c2, cf, cl⟩ := kM.C.num
          go_simp
          clear c0 c1 c2 cf cl
          have gs : WD.grownBy (WD.setCell ⟨b, 2, none⟩ (.bool true)) (some b) := sc_set (sc_below (Below.refl _ _) _)
          have kN := kM.call gs (show ScO (WD.setCell ⟨b, 2, none⟩ (.bool true)) b s Q from hFin.out _ kM.C)
          replace kB := b0_grown kB gs
          clear kM
          have kM := kN
          obtain ⟨WZ, hWZ⟩ : ∃ X, X = WD.setCell ⟨b, 2, none⟩ (.bool true) := ⟨_, rfl⟩
          rw [← hWZ] at kM kB ⊢
          clear hWZ gs kN
          refine hK.out _ _ kB (fun hHeld => ?_)
          clear hK K hHeld
          (try simp only [Act.put, List.setIfInBounds_toArray, List.set_cons_zero, List.set_cons_succ])
          refine wpAnyH_done (by kernel_rfl) ?_ _
          refine NoPanic.normal ?_
          have SM := Lib.hid kM
          clear kM kB
          obtain ⟨xr, hxr⟩ : ∃ xr : Ow.Rw, xr = ⟨0, [], 0, [], [], 0, false, [], 0⟩ := ⟨_, rfl⟩
          have SM2 := Lib.hid (show RmAt w WZ b s Q xr (.slice none 0 0) [] by rw [hxr]; exact SM.out)
          clear SM hxr
          have FZ := Lib.hid SM2.out.fin
          obtain ⟨z0, z1, z2, z3, z4, z5, z6, z7, z8, z9, zf, zl⟩ := SM2.out.R
          obtain ⟨y0, y1, y2, y3, y4, y5, y6, y7, y8, y9, yf, yl⟩ := SM2.out.Z
          dsimp only at z0 z1 z2 z3 z4 z5 z6 z7 z8 z9 y0 y1 y2 y3 y4 y5 y6 y7 y8 y9
          clear SM2
          go_wp2
          clear z0 z1 z2 z3 z4 z5 z6 z7 z8 z9 zf zl y0 y1 y2 y3 y4 y5 y6 y7 y8 y9 yf yl
          generalize hWY : ((((((((((WZ.setCell ⟨w.heap.size, 0, none⟩ (.int .i64 xr.k)).setCell ⟨w.heap.size, 1, none⟩ (.string (str xr.n))).setCell ⟨w.heap.size, 2, none⟩ (.int .i64 (xr.off : Nat))).setCell ⟨w.heap.size, 3, none⟩ (.slice none 0 0)).setCell ⟨w.heap.size, 4, none⟩ (.slice none 0 0)).setCell ⟨w.heap.size, 5, none⟩ (.string (str xr.text))).setCell ⟨w.heap.size, 6, none⟩ (.int .i64 (xr.at_ : Nat))).setCell ⟨w.heap.size, 7, none⟩ (.bool xr.td)).setCell ⟨w.heap.size, 8, none⟩ (.string (str xr.tm))).setCell ⟨w.heap.size, 9, none⟩ (.int .i64 (xr.wh : Nat))) = WY at *
          clear hWY
          obtain ⟨FC, FR, FG, FT⟩ := FZ.out
          obtain ⟨y0, y1, y2, y3, y4, y5, y6, y7, y8, y9, yf, yl⟩ := FR
          dsimp only at y0 y1 y2 y3 y4 y5 y6 y7 y8 y9
          refine bodyPost_ret (v := .tuple #[rwv (xr, .slice none 0 0), .bool false]) (by simp [results, Tryd.results23, go_sem, y0, y1, y2, y3, y4, y5, y6, y7, y8, y9, rwv]) rfl ?_
          exact ⟨xr, false, rfl, hon.out.symm, FC, FG, fun R r e => (by have := hon.out; rw [e] at this; cases this)⟩
        refine AllReadyH.cons (by simp only [List.getElem?_toArray, List.getElem?_cons_succ, List.getElem?_cons_zero]; rfl) (fun K hK => ?_) AllReadyH.nil
        obtain ⟨c0, c1, c2, cf, cl⟩ := kM.C.num
        rw [HKE.out] at c1
        go_simp
        clear c0 c1 c2 cf cl
        refine hK.out _ _ kB (fun hHeld => ?_)
        clear hK K hHeld
        (try simp only [Act.put, List.setIfInBounds_toArray, List.set_cons_zero, List.set_cons_succ])
        refine tk9 14 kB ?_
        refine wpAnyH_ready (rs := [9]) (by kernel_rfl) (by simp) ?_
        refine AllReadyH.cons (by simp only [List.getElem?_toArray, List.getElem?_cons_succ, List.getElem?_cons_zero]; rfl) (fun K hK => ?_) AllReadyH.nil
        obtain ⟨c0, c1, c2, cf, cl⟩ := kM.C.num
        rw [HKE.out] at c1
        go_simp
        clear c0 c1 c2 cf cl
        refine hK.out _ _ kB (fun hHeld => ?_)
        clear hK K hHeld
        (try simp only [Act.put, List.setIfInBounds_toArray, List.set_cons_zero, List.set_cons_succ])
        refine tk9 15 kB ?_
        refine tk9 16 kB ?_
        refine tk9 17 kB ?_
        refine tk9 18 kB ?_
        refine wpAnyH_ready (rs := [19]) (by kernel_rfl) (by simp) ?_
        refine AllReadyH.cons (by simp only [List.getElem?_toArray, List.getElem?_cons_succ, List.getElem?_cons_zero]; rfl) (fun K hK => ?_) AllReadyH.nil
        obtain ⟨c0, c1, c2, cf, cl⟩ := kM.C.num
        go_simp
        clear c0 c1 c2 cf cl
        have gs : WD.grownBy (WD.setCell ⟨b, 2, none⟩ (.bool true)) (some b) := sc_set (sc_below (Below.refl _ _) _)
        have kN := kM.call gs (show ScO (WD.setCell ⟨b, 2, none⟩ (.bool true)) b s Q from hFin.out _ kM.C)
        replace kB := b0_grown kB gs
        clear kM
        have kM := kN
        obtain ⟨WZ, hWZ⟩ : ∃ X, X = WD.setCell ⟨b, 2, none⟩ (.bool true) := ⟨_, rfl⟩
        rw [← hWZ] at kM kB ⊢
        clear hWZ gs kN
        refine hK.out _ _ kB (fun hHeld => ?_)
        clear hK K hHeld
        (try simp only [Act.put, List.setIfInBounds_toArray, List.set_cons_zero, List.set_cons_succ])
        refine wpAnyH_done (by kernel_rfl) ?_ _
        refine NoPanic.normal ?_
        have SM := Lib.hid kM
        clear kM kB
        obtain ⟨xr, hxr⟩ : ∃ xr : Ow.Rw, xr = ⟨0, [], 0, [], [], 0, false, [], 0⟩ := ⟨_, rfl⟩
        have SM2 := Lib.hid (show RmAt w WZ b s Q xr (.slice none 0 0) [] by rw [hxr]; exact SM.out)
        clear SM hxr
        have FZ := Lib.hid SM2.out.fin
        obtain ⟨z0, z1, z2, z3, z4, z5, z6, z7, z8, z9, zf, zl⟩ := SM2.out.R
        obtain ⟨y0, y1, y2, y3, y4, y5, y6, y7, y8, y9, yf, yl⟩ := SM2.out.Z
        dsimp only at z0 z1 z2 z3 z4 z5 z6 z7 z8 z9 y0 y1 y2 y3 y4 y5 y6 y7 y8 y9
        clear SM2
        go_wp2
        clear z0 z1 z2 z3 z4 z5 z6 z7 z8 z9 zf zl y0 y1 y2 y3 y4 y5 y6 y7 y8 y9 yf yl
        generalize hWY : ((((((((((WZ.setCell ⟨w.heap.size, 0, none⟩ (.int .i64 xr.k)).setCell ⟨w.heap.size, 1, none⟩ (.string (str xr.n))).setCell ⟨w.heap.size, 2, none⟩ (.int .i64 (xr.off : Nat))).setCell ⟨w.heap.size, 3, none⟩ (.slice none 0 0)).setCell ⟨w.heap.size, 4, none⟩ (.slice none 0 0)).setCell ⟨w.heap.size, 5, none⟩ (.string (str xr.text))).setCell ⟨w.heap.size, 6, none⟩ (.int .i64 (xr.at_ : Nat))).setCell ⟨w.heap.size, 7, none⟩ (.bool xr.td)).setCell ⟨w.heap.size, 8, none⟩ (.string (str xr.tm))).setCell ⟨w.heap.size, 9, none⟩ (.int .i64 (xr.wh : Nat))) = WY at *
        clear hWY
        obtain ⟨FC, FR, FG, FT⟩ := FZ.out
        obtain ⟨y0, y1, y2, y3, y4, y5, y6, y7, y8, y9, yf, yl⟩ := FR
        dsimp only at y0 y1 y2 y3 y4 y5 y6 y7 y8 y9
        refine bodyPost_ret (v := .tuple #[rwv (xr, .slice none 0 0), .bool false]) (by simp [results, Tryd.results23, go_sem, y0, y1, y2, y3, y4, y5, y6, y7, y8, y9, rwv]) rfl ?_
        exact ⟨xr, false, rfl, hon.out.symm, FC, FG, fun R r e => (by have := hon.out; rw [e] at this; cases this)⟩
    · rw [decide_eq_false q] at hdm
      generalize Ow.hd r = HD at *
      obtain ⟨rt, hrt⟩ : ∃ x, x = r := ⟨_, rfl⟩
      have SX := Lib.hid (show RmAt w w3 b s (Ow.Out.ok () rt : Ow.Out Unit) ⟨0, [], 0, [], [], 0, false, [], 0⟩ (.slice none 0 0) [] by rw [hrt]; have := S3.out; exact ⟨this.C.to rfl rfl, this.R, this.Z, this.G, this.T, this.l1⟩)
      have HQ3 := Lib.hid (show Q = if rt = [] then .ok none [] else .fell rt by
        rw [HQ2.out, hrt, if_neg q]
        by_cases ht : r = []
        · rw [if_pos ht, if_pos (Or.inl ht)]
        · rw [if_neg ht, if_neg]; rintro (h | h)
          · exact ht h
          · apply q; rw [h]; rfl)
      clear S3 HQ2 hrt q
      obtain ⟨K, hK⟩ : ∃ k, k = s.length - (Ow.Out.ok () rt : Ow.Out Unit).rest.length := ⟨_, rfl⟩
      have HKE := Lib.hid hK.symm
      have hKr : K = s.length - rt.length := hK
      have hrl : rt.length ≤ s.length := SX.out.C.suf.length_le
      clear hK
      by_cases ht : rt = []
      · have hk1 : decide ((K : Int) < (s.length : Int)) = false := decide_eq_false (by rw [ht] at hKr; simp at hKr; omega)
        have hk2 : decide (K < s.length) = false := decide_eq_false (by rw [ht] at hKr; simp at hKr; omega)
        have hQ := Lib.hid (show Q = .ok none [] by rw [HQ3.out, if_pos ht])
        have hon := Lib.hid (show Ow.onB Q = false by rw [hQ.out]; rfl)
        have hFin := Lib.hid (fun W (h : ScO W b s (Ow.Out.ok () rt : Ow.Out Unit)) => h.stay9 Q (by rw [hQ.out, ht]; rfl) (by rw [hQ.out]; rfl))
        clear HQ3 ht hKr hrl
        go_upto_region 8 with fail
        obtain ⟨WB, hWB⟩ : ∃ X, X = w3 := ⟨_, rfl⟩
        rw [← hWB] at SX ⊢
        clear hWB
        refine wp_region_noPanic ?_
        refine wp_region_held_drew (S := fun X => Below 0 WB X) (by kernel_rfl) ?_ (fun hHeld => ?_)
        · exact Below.drew (Below.refl _ _)
        have kB : Below 0 WB WB.drew := Below.drew (Below.refl _ _)
        clear hHeld
        have kM := SX.out.call (sc_below (below_drewN (Below.refl _ _) 1) _) (SX.out.C.below (below_drewN (Below.refl _ _) 1))
        change RmAt w WB.drew _ _ _ _ _ _ at kM
        obtain ⟨WD, hWD⟩ : ∃ X, X = WB.drew := ⟨_, rfl⟩
        rw [← hWD] at kB kM ⊢
        clear hWD
        refine tk9 0 kB ?_
        refine tk9 1 kB ?_
        refine tk9 2 kB ?_
        refine tk9 3 kB ?_
        refine wpAnyH_ready (rs := [4]) (by kernel_rfl) (by simp) ?_
        refine AllReadyH.cons (by simp only [List.getElem?_toArray, List.getElem?_cons_succ, List.getElem?_cons_zero]; rfl) (fun K hK => ?_) AllReadyH.nil
        obtain ⟨c0, c1, c2, cf, cl⟩ := kM.C.num
        change _ = some (Value.bool false) at c2
        go_simp
        clear c0 c1 c2 cf cl
        refine hK.out _ _ kB (fun hHeld => ?_)
        clear hK K hHeld
        (try simp only [Act.put, List.setIfInBounds_toArray, List.set_cons_zero, List.set_cons_succ])
        refine tk9 5 kB ?_
        refine tk9 6 kB ?_
        refine tk9 7 kB ?_
        refine tk9 8 kB ?_
        refine tk9 10 kB ?_
        refine tk9 11 kB ?_
        refine tk9 12 kB ?_
        refine wpAnyH_ready (rs := [9, 13]) (by kernel_rfl) (by simp) ?_
        refine AllReadyH.cons (by simp only [List.getElem?_toArray, List.getElem?_cons_succ, List.getElem?_cons_zero]; rfl) (fun K hK => ?_) ?_
        · obtain ⟨c0, c1, c2, cf, cl⟩ := kM.C.num
          rw [HKE.out] at c1
          go_simp
          clear c0 c1 c2 cf cl
          refine hK.out _ _ kB (fun hHeld => ?_)
          clear hK K hHeld
          (try simp only [Act.put, List.setIfInBounds_toArray, List.set_cons_zero, List.set_cons_succ])
          refine wpAnyH_ready (rs := [13]) (by kernel_rfl) (by simp) ?_
          refine AllReadyH.cons (by simp only [List.getElem?_toArray, List.getElem?_cons_succ, List.getElem?_cons_zero]; rfl) (fun K hK => ?_) AllReadyH.nil
          obtain ⟨c0, c1, c2, cf, cl⟩ := kM.C.num
          rw [HKE.out] at c1
          go_simp
          clear c0 c1 c2 cf cl
          refine hK.out _ _ kB (fun hHeld => ?_)
          clear hK K hHeld
          (try simp only [Act.put, List.setIfInBounds_toArray, List.set_cons_zero, List.set_cons_succ])
          refine tk9 14 kB ?_
          refine tk9 15 kB ?_
          refine tk9 16 kB ?_
          refine tk9 17 kB ?_
          refine tk9 18 kB ?_
          refine wpAnyH_ready (rs := [19]) (by kernel_rfl) (by simp) ?_
          refine AllReadyH.cons (by simp only [List.getElem?_toArray, List.getElem?_cons_succ, List.getElem?_cons_zero]; rfl) (fun K hK => ?_) AllReadyH.nil
          obtain ⟨c0, c1, c2, cf, cl⟩ := kM.C.num
          go_simp
          clear c0 c1 c2 cf cl
          have gs : WD.grownBy (WD.setCell ⟨b, 2, none⟩ (.bool false)) (some b) := sc_set (sc_below (Below.refl _ _) _)
          have kN := kM.call gs (show ScO (WD.setCell ⟨b, 2, none⟩ (.bool false)) b s Q from hFin.out _ kM.C)
          replace kB := b0_grown kB gs
          clear kM
          have kM := kN
          obtain ⟨WZ, hWZ⟩ : ∃ X, X = WD.setCell ⟨b, 2, none⟩ (.bool false) := ⟨_, rfl⟩
          rw [← hWZ] at kM kB ⊢
          clear hWZ gs kN
          refine hK.out _ _ kB (fun hHeld => ?_)
          clear hK K hHeld
          (try simp only [Act.put, List.setIfInBounds_toArray, List.set_cons_zero, List.set_cons_succ])
          refine wpAnyH_done (by kernel_rfl) ?_ _
          refine NoPanic.normal ?_
          have SM := Lib.hid kM
          clear kM kB
          obtain ⟨xr, hxr⟩ : ∃ xr : Ow.Rw, xr = ⟨0, [], 0, [], [], 0, false, [], 0⟩ := ⟨_, rfl⟩
          have SM2 := Lib.hid (show RmAt w WZ b s Q xr (.slice none 0 0) [] by rw [hxr]; exact SM.out)
          clear SM hxr
          have FZ := Lib.hid SM2.out.fin
          obtain ⟨z0, z1, z2, z3, z4, z5, z6, z7, z8, z9, zf, zl⟩ := SM2.out.R
          obtain ⟨y0, y1, y2, y3, y4, y5, y6, y7, y8, y9, yf, yl⟩ := SM2.out.Z
          dsimp only at z0 z1 z2 z3 z4 z5 z6 z7 z8 z9 y0 y1 y2 y3 y4 y5 y6 y7 y8 y9
          clear SM2
          go_wp2
          clear z0 z1 z2 z3 z4 z5 z6 z7 z8 z9 zf zl y0 y1 y2 y3 y4 y5 y6 y7 y8 y9 yf yl
          generalize hWY : ((((((((((WZ.setCell ⟨w.heap.size, 0, none⟩ (.int .i64 xr.k)).setCell ⟨w.heap.size, 1, none⟩ (.string (str xr.n))).setCell ⟨w.heap.size, 2, none⟩ (.int .i64 (xr.off : Nat))).setCell ⟨w.heap.size, 3, none⟩ (.slice none 0 0)).setCell ⟨w.heap.size, 4, none⟩ (.slice none 0 0)).setCell ⟨w.heap.size, 5, none⟩ (.string (str xr.text))).setCell ⟨w.heap.size, 6, none⟩ (.int .i64 (xr.at_ : Nat))).setCell ⟨w.heap.size, 7, none⟩ (.bool xr.td)).setCell ⟨w.heap.size, 8, none⟩ (.string (str xr.tm))).setCell ⟨w.heap.size, 9, none⟩ (.int .i64 (xr.wh : Nat))) = WY at *
          clear hWY
          obtain ⟨FC, FR, FG, FT⟩ := FZ.out
          obtain ⟨y0, y1, y2, y3, y4, y5, y6, y7, y8, y9, yf, yl⟩ := FR
          dsimp only at y0 y1 y2 y3 y4 y5 y6 y7 y8 y9
          refine bodyPost_ret (v := .tuple #[rwv (xr, .slice none 0 0), .bool false]) (by simp [results, Tryd.results23, go_sem, y0, y1, y2, y3, y4, y5, y6, y7, y8, y9, rwv]) rfl ?_
          exact ⟨xr, false, rfl, hon.out.symm, FC, FG, fun R r e => (by have := hon.out; rw [e] at this; cases this)⟩
        refine AllReadyH.cons (by simp only [List.getElem?_toArray, List.getElem?_cons_succ, List.getElem?_cons_zero]; rfl) (fun K hK => ?_) AllReadyH.nil
        obtain ⟨c0, c1, c2, cf, cl⟩ := kM.C.num
        rw [HKE.out] at c1
        go_simp
        clear c0 c1 c2 cf cl
        refine hK.out _ _ kB (fun hHeld => ?_)
        clear hK K hHeld
        (try simp only [Act.put, List.setIfInBounds_toArray, List.set_cons_zero, List.set_cons_succ])
        refine tk9 14 kB ?_
        refine wpAnyH_ready (rs := [9]) (by kernel_rfl) (by simp) ?_
        refine AllReadyH.cons (by simp only [List.getElem?_toArray, List.getElem?_cons_succ, List.getElem?_cons_zero]; rfl) (fun K hK => ?_) AllReadyH.nil
        obtain ⟨c0, c1, c2, cf, cl⟩ := kM.C.num
        rw [HKE.out] at c1
        go_simp
        clear c0 c1 c2 cf cl
        refine hK.out _ _ kB (fun hHeld => ?_)
        clear hK K hHeld
        (try simp only [Act.put, List.setIfInBounds_toArray, List.set_cons_zero, List.set_cons_succ])
        refine tk9 15 kB ?_
        refine tk9 16 kB ?_
        refine tk9 17 kB ?_
        refine tk9 18 kB ?_
        refine wpAnyH_ready (rs := [19]) (by kernel_rfl) (by simp) ?_
        refine AllReadyH.cons (by simp only [List.getElem?_toArray, List.getElem?_cons_succ, List.getElem?_cons_zero]; rfl) (fun K hK => ?_) AllReadyH.nil
        obtain ⟨c0, c1, c2, cf, cl⟩ := kM.C.num
        go_simp
        clear c0 c1 c2 cf cl
        have gs : WD.grownBy (WD.setCell ⟨b, 2, none⟩ (.bool false)) (some b) := sc_set (sc_below (Below.refl _ _) _)
        have kN := kM.call gs (show ScO (WD.setCell ⟨b, 2, none⟩ (.bool false)) b s Q from hFin.out _ kM.C)
        replace kB := b0_grown kB gs
        clear kM
        have kM := kN
        obtain ⟨WZ, hWZ⟩ : ∃ X, X = WD.setCell ⟨b, 2, none⟩ (.bool false) := ⟨_, rfl⟩
        rw [← hWZ] at kM kB ⊢
        clear hWZ gs kN
        refine hK.out _ _ kB (fun hHeld => ?_)
        clear hK K hHeld
        (try simp only [Act.put, List.setIfInBounds_toArray, List.set_cons_zero, List.set_cons_succ])
        refine wpAnyH_done (by kernel_rfl) ?_ _
        refine NoPanic.normal ?_
        have SM := Lib.hid kM
        clear kM kB
        obtain ⟨xr, hxr⟩ : ∃ xr : Ow.Rw, xr = ⟨0, [], 0, [], [], 0, false, [], 0⟩ := ⟨_, rfl⟩
        have SM2 := Lib.hid (show RmAt w WZ b s Q xr (.slice none 0 0) [] by rw [hxr]; exact SM.out)
        clear SM hxr
        have FZ := Lib.hid SM2.out.fin
        obtain ⟨z0, z1, z2, z3, z4, z5, z6, z7, z8, z9, zf, zl⟩ := SM2.out.R
        obtain ⟨y0, y1, y2, y3, y4, y5, y6, y7, y8, y9, yf, yl⟩ := SM2.out.Z
        dsimp only at z0 z1 z2 z3 z4 z5 z6 z7 z8 z9 y0 y1 y2 y3 y4 y5 y6 y7 y8 y9
        clear SM2
        go_wp2
        clear z0 z1 z2 z3 z4 z5 z6 z7 z8 z9 zf zl y0 y1 y2 y3 y4 y5 y6 y7 y8 y9 yf yl
        generalize hWY : ((((((((((WZ.setCell ⟨w.heap.size, 0, none⟩ (.int .i64 xr.k)).setCell ⟨w.heap.size, 1, none⟩ (.string (str xr.n))).setCell ⟨w.heap.size, 2, none⟩ (.int .i64 (xr.off : Nat))).setCell ⟨w.heap.size, 3, none⟩ (.slice none 0 0)).setCell ⟨w.heap.size, 4, none⟩ (.slice none 0 0)).setCell ⟨w.heap.size, 5, none⟩ (.string (str xr.text))).setCell ⟨w.heap.size, 6, none⟩ (.int .i64 (xr.at_ : Nat))).setCell ⟨w.heap.size, 7, none⟩ (.bool xr.td)).setCell ⟨w.heap.size, 8, none⟩ (.string (str xr.tm))).setCell ⟨w.heap.size, 9, none⟩ (.int .i64 (xr.wh : Nat))) = WY at *
        clear hWY
        obtain ⟨FC, FR, FG, FT⟩ := FZ.out
        obtain ⟨y0, y1, y2, y3, y4, y5, y6, y7, y8, y9, yf, yl⟩ := FR
        dsimp only at y0 y1 y2 y3 y4 y5 y6 y7 y8 y9
        refine bodyPost_ret (v := .tuple #[rwv (xr, .slice none 0 0), .bool false]) (by simp [results, Tryd.results23, go_sem, y0, y1, y2, y3, y4, y5, y6, y7, y8, y9, rwv]) rfl ?_
        exact ⟨xr, false, rfl, hon.out.symm, FC, FG, fun R r e => (by have := hon.out; rw [e] at this; cases this)⟩
      · have hpos : 0 < rt.length := List.length_pos_iff.2 ht
        have hk1 : decide ((K : Int) < (s.length : Int)) = true := decide_eq_true (by omega)
        have hk2 : decide (K < s.length) = true := decide_eq_true (by omega)
        have hQ := Lib.hid (show Q = .fell rt by rw [HQ3.out, if_neg ht])
        have hon := Lib.hid (show Ow.onB Q = false by rw [hQ.out]; rfl)
        have hFin := Lib.hid (fun W (h : ScO W b s (Ow.Out.ok () rt : Ow.Out Unit)) => h.fall9 Q (by rw [hQ.out]; rfl) (by rw [hQ.out]; rfl))
        clear HQ3 ht hKr hrl hpos
        go_upto_region 8 with fail
        obtain ⟨WB, hWB⟩ : ∃ X, X = w3 := ⟨_, rfl⟩
        rw [← hWB] at SX ⊢
        clear hWB
        refine wp_region_noPanic ?_
        refine wp_region_held_drew (S := fun X => Below 0 WB X) (by kernel_rfl) ?_ (fun hHeld => ?_)
        · exact Below.drew (Below.refl _ _)
        have kB : Below 0 WB WB.drew := Below.drew (Below.refl _ _)
        clear hHeld
        have kM := SX.out.call (sc_below (below_drewN (Below.refl _ _) 1) _) (SX.out.C.below (below_drewN (Below.refl _ _) 1))
        change RmAt w WB.drew _ _ _ _ _ _ at kM
        obtain ⟨WD, hWD⟩ : ∃ X, X = WB.drew := ⟨_, rfl⟩
        rw [← hWD] at kB kM ⊢
        clear hWD
        refine tk9 0 kB ?_
        refine tk9 1 kB ?_
        refine tk9 2 kB ?_
        refine tk9 3 kB ?_
        refine wpAnyH_ready (rs := [4]) (by kernel_rfl) (by simp) ?_
        refine AllReadyH.cons (by simp only [List.getElem?_toArray, List.getElem?_cons_succ, List.getElem?_cons_zero]; rfl) (fun K hK => ?_) AllReadyH.nil
        obtain ⟨c0, c1, c2, cf, cl⟩ := kM.C.num
        change _ = some (Value.bool false) at c2
        go_simp
        clear c0 c1 c2 cf cl
        refine hK.out _ _ kB (fun hHeld => ?_)
        clear hK K hHeld
        (try simp only [Act.put, List.setIfInBounds_toArray, List.set_cons_zero, List.set_cons_succ])
        refine tk9 5 kB ?_
        refine tk9 6 kB ?_
        refine tk9 7 kB ?_
        refine tk9 8 kB ?_
        refine tk9 10 kB ?_
        refine tk9 11 kB ?_
        refine tk9 12 kB ?_
        refine wpAnyH_ready (rs := [9, 13]) (by kernel_rfl) (by simp) ?_
        refine AllReadyH.cons (by simp only [List.getElem?_toArray, List.getElem?_cons_succ, List.getElem?_cons_zero]; rfl) (fun K hK => ?_) ?_
        · obtain ⟨c0, c1, c2, cf, cl⟩ := kM.C.num
          rw [HKE.out] at c1
          go_simp
          clear c0 c1 c2 cf cl
          refine hK.out _ _ kB (fun hHeld => ?_)
          clear hK K hHeld
          (try simp only [Act.put, List.setIfInBounds_toArray, List.set_cons_zero, List.set_cons_succ])
          refine wpAnyH_ready (rs := [13]) (by kernel_rfl) (by simp) ?_
          refine AllReadyH.cons (by simp only [List.getElem?_toArray, List.getElem?_cons_succ, List.getElem?_cons_zero]; rfl) (fun K hK => ?_) AllReadyH.nil
          obtain ⟨c0, c1, c2, cf, cl⟩ := kM.C.num
          rw [HKE.out] at c1
          go_simp
          clear c0 c1 c2 cf cl
          refine hK.out _ _ kB (fun hHeld => ?_)
          clear hK K hHeld
          (try simp only [Act.put, List.setIfInBounds_toArray, List.set_cons_zero, List.set_cons_succ])
          refine tk9 14 kB ?_
          refine tk9 15 kB ?_
          refine tk9 16 kB ?_
          refine tk9 17 kB ?_
          refine tk9 18 kB ?_
          refine wpAnyH_ready (rs := [19]) (by kernel_rfl) (by simp) ?_
          refine AllReadyH.cons (by simp only [List.getElem?_toArray, List.getElem?_cons_succ, List.getElem?_cons_zero]; rfl) (fun K hK => ?_) AllReadyH.nil
          obtain ⟨c0, c1, c2, cf, cl⟩ := kM.C.num
          go_simp
          clear c0 c1 c2 cf cl
          have gs : WD.grownBy (WD.setCell ⟨b, 2, none⟩ (.bool true)) (some b) := sc_set (sc_below (Below.refl _ _) _)
          have kN := kM.call gs (show ScO (WD.setCell ⟨b, 2, none⟩ (.bool true)) b s Q from hFin.out _ kM.C)
          replace kB := b0_grown kB gs
          clear kM
          have kM := kN
          obtain ⟨WZ, hWZ⟩ : ∃ X, X = WD.setCell ⟨b, 2, none⟩ (.bool true) := ⟨_, rfl⟩
          rw [← hWZ] at kM kB ⊢
          clear hWZ gs kN
          refine hK.out _ _ kB (fun hHeld => ?_)
          clear hK K hHeld
          (try simp only [Act.put, List.setIfInBounds_toArray, List.set_cons_zero, List.set_cons_succ])
          refine wpAnyH_done (by kernel_rfl) ?_ _
          refine NoPanic.normal ?_
          have SM := Lib.hid kM
          clear kM kB
          obtain ⟨xr, hxr⟩ : ∃ xr : Ow.Rw, xr = ⟨0, [], 0, [], [], 0, false, [], 0⟩ := ⟨_, rfl⟩
          have SM2 := Lib.hid (show RmAt w WZ b s Q xr (.slice none 0 0) [] by rw [hxr]; exact SM.out)
          clear SM hxr
          have FZ := Lib.hid SM2.out.fin
          obtain ⟨z0, z1, z2, z3, z4, z5, z6, z7, z8, z9, zf, zl⟩ := SM2.out.R
          obtain ⟨y0, y1, y2, y3, y4, y5, y6, y7, y8, y9, yf, yl⟩ := SM2.out.Z
          dsimp only at z0 z1 z2 z3 z4 z5 z6 z7 z8 z9 y0 y1 y2 y3 y4 y5 y6 y7 y8 y9
          clear SM2
          go_wp2
          clear z0 z1 z2 z3 z4 z5 z6 z7 z8 z9 zf zl y0 y1 y2 y3 y4 y5 y6 y7 y8 y9 yf yl
          generalize hWY : ((((((((((WZ.setCell ⟨w.heap.size, 0, none⟩ (.int .i64 xr.k)).setCell ⟨w.heap.size, 1, none⟩ (.string (str xr.n))).setCell ⟨w.heap.size, 2, none⟩ (.int .i64 (xr.off : Nat))).setCell ⟨w.heap.size, 3, none⟩ (.slice none 0 0)).setCell ⟨w.heap.size, 4, none⟩ (.slice none 0 0)).setCell ⟨w.heap.size, 5, none⟩ (.string (str xr.text))).setCell ⟨w.heap.size, 6, none⟩ (.int .i64 (xr.at_ : Nat))).setCell ⟨w.heap.size, 7, none⟩ (.bool xr.td)).setCell ⟨w.heap.size, 8, none⟩ (.string (str xr.tm))).setCell ⟨w.heap.size, 9, none⟩ (.int .i64 (xr.wh : Nat))) = WY at *
          clear hWY
          obtain ⟨FC, FR, FG, FT⟩ := FZ.out
          obtain ⟨y0, y1, y2, y3, y4, y5, y6, y7, y8, y9, yf, yl⟩ := FR
          dsimp only at y0 y1 y2 y3 y4 y5 y6 y7 y8 y9
          refine bodyPost_ret (v := .tuple #[rwv (xr, .slice none 0 0), .bool false]) (by simp [results, Tryd.results23, go_sem, y0, y1, y2, y3, y4, y5, y6, y7, y8, y9, rwv]) rfl ?_
          exact ⟨xr, false, rfl, hon.out.symm, FC, FG, fun R r e => (by have := hon.out; rw [e] at this; cases this)⟩
        refine AllReadyH.cons (by simp only [List.getElem?_toArray, List.getElem?_cons_succ, List.getElem?_cons_zero]; rfl) (fun K hK => ?_) AllReadyH.nil
        obtain ⟨c0, c1, c2, cf, cl⟩ := kM.C.num
        rw [HKE.out] at c1
        go_simp
        clear c0 c1 c2 cf cl
        refine hK.out _ _ kB (fun hHeld => ?_)
        clear hK K hHeld
        (try simp only [Act.put, List.setIfInBounds_toArray, List.set_cons_zero, List.set_cons_succ])
        refine tk9 14 kB ?_
        refine wpAnyH_ready (rs := [9]) (by kernel_rfl) (by simp) ?_
        refine AllReadyH.cons (by simp only [List.getElem?_toArray, List.getElem?_cons_succ, List.getElem?_cons_zero]; rfl) (fun K hK => ?_) AllReadyH.nil
        obtain ⟨c0, c1, c2, cf, cl⟩ := kM.C.num
        rw [HKE.out] at c1
        go_simp
        clear c0 c1 c2 cf cl
        refine hK.out _ _ kB (fun hHeld => ?_)
        clear hK K hHeld
        (try simp only [Act.put, List.setIfInBounds_toArray, List.set_cons_zero, List.set_cons_succ])
        refine tk9 15 kB ?_
        refine tk9 16 kB ?_
        refine tk9 17 kB ?_
        refine tk9 18 kB ?_
        refine wpAnyH_ready (rs := [19]) (by kernel_rfl) (by simp) ?_
        refine AllReadyH.cons (by simp only [List.getElem?_toArray, List.getElem?_cons_succ, List.getElem?_cons_zero]; rfl) (fun K hK => ?_) AllReadyH.nil
        obtain ⟨c0, c1, c2, cf, cl⟩ := kM.C.num
        go_simp
        clear c0 c1 c2 cf cl
        have gs : WD.grownBy (WD.setCell ⟨b, 2, none⟩ (.bool true)) (some b) := sc_set (sc_below (Below.refl _ _) _)
        have kN := kM.call gs (show ScO (WD.setCell ⟨b, 2, none⟩ (.bool true)) b s Q from hFin.out _ kM.C)
        replace kB := b0_grown kB gs
        clear kM
        have kM := kN
        obtain ⟨WZ, hWZ⟩ : ∃ X, X = WD.setCell ⟨b, 2, none⟩ (.bool true) := ⟨_, rfl⟩
        rw [← hWZ] at kM kB ⊢
        clear hWZ gs kN
        refine hK.out _ _ kB (fun hHeld => ?_)
        clear hK K hHeld
        (try simp only [Act.put, List.setIfInBounds_toArray, List.set_cons_zero, List.set_cons_succ])
        refine wpAnyH_done (by kernel_rfl) ?_ _
        refine NoPanic.normal ?_
        have SM := Lib.hid kM
        clear kM kB
        obtain ⟨xr, hxr⟩ : ∃ xr : Ow.Rw, xr = ⟨0, [], 0, [], [], 0, false, [], 0⟩ := ⟨_, rfl⟩
        have SM2 := Lib.hid (show RmAt w WZ b s Q xr (.slice none 0 0) [] by rw [hxr]; exact SM.out)
        clear SM hxr
        have FZ := Lib.hid SM2.out.fin
        obtain ⟨z0, z1, z2, z3, z4, z5, z6, z7, z8, z9, zf, zl⟩ := SM2.out.R
        obtain ⟨y0, y1, y2, y3, y4, y5, y6, y7, y8, y9, yf, yl⟩ := SM2.out.Z
        dsimp only at z0 z1 z2 z3 z4 z5 z6 z7 z8 z9 y0 y1 y2 y3 y4 y5 y6 y7 y8 y9
        clear SM2
        go_wp2
        clear z0 z1 z2 z3 z4 z5 z6 z7 z8 z9 zf zl y0 y1 y2 y3 y4 y5 y6 y7 y8 y9 yf yl
        generalize hWY : ((((((((((WZ.setCell ⟨w.heap.size, 0, none⟩ (.int .i64 xr.k)).setCell ⟨w.heap.size, 1, none⟩ (.string (str xr.n))).setCell ⟨w.heap.size, 2, none⟩ (.int .i64 (xr.off : Nat))).setCell ⟨w.heap.size, 3, none⟩ (.slice none 0 0)).setCell ⟨w.heap.size, 4, none⟩ (.slice none 0 0)).setCell ⟨w.heap.size, 5, none⟩ (.string (str xr.text))).setCell ⟨w.heap.size, 6, none⟩ (.int .i64 (xr.at_ : Nat))).setCell ⟨w.heap.size, 7, none⟩ (.bool xr.td)).setCell ⟨w.heap.size, 8, none⟩ (.string (str xr.tm))).setCell ⟨w.heap.size, 9, none⟩ (.int .i64 (xr.wh : Nat))) = WY at *
        clear hWY
        obtain ⟨FC, FR, FG, FT⟩ := FZ.out
        obtain ⟨y0, y1, y2, y3, y4, y5, y6, y7, y8, y9, yf, yl⟩ := FR
        dsimp only at y0 y1 y2 y3 y4 y5 y6 y7 y8 y9
        refine bodyPost_ret (v := .tuple #[rwv (xr, .slice none 0 0), .bool false]) (by simp [results, Tryd.results23, go_sem, y0, y1, y2, y3, y4, y5, y6, y7, y8, y9, rwv]) rfl ?_
        exact ⟨xr, false, rfl, hon.out.symm, FC, FG, fun R r e => (by have := hon.out; rw [e] at this; cases this)⟩

end Go.Proofs.YthniemoganoapaaDoor
