/- The walk of Scan's told (layer 17, the reference). -/
import Derived.Test.YthniemoganoapaaDoorRefOwJ
set_option maxRecDepth 100000
set_option linter.unusedVariables false
set_option linter.unusedSimpArgs false
namespace Go.Proofs.YthniemoganoapaaDoor
open Go.RowKit
attribute [local go_sem ↓] Go.wp_at_zero Go.wp_at_succ

theorem RwAt.set0 {w : World} {c : Nat} {x : Rs} (h : RwAt w c x) (n : Int) : RwAt (w.setCell ⟨c, 0, none⟩ (.int .i64 n)) c ({ x.1 with k := n }, x.2) := by
  obtain ⟨h0, h1, h2, h3, h4, h5, h6, h7, h8, h9, hf, hl⟩ := h
  exact ⟨by go_simp, by go_simp, by go_simp, by go_simp, by go_simp, by go_simp, by go_simp, by go_simp, by go_simp, by go_simp, fun o => by go_simp, by simpa [World.setCell] using hl⟩
theorem RwAt.set2 {w : World} {c : Nat} {x : Rs} (h : RwAt w c x) (n : Nat) : RwAt (w.setCell ⟨c, 2, none⟩ (.int .i64 (n : Nat))) c ({ x.1 with off := n }, x.2) := by
  obtain ⟨h0, h1, h2, h3, h4, h5, h6, h7, h8, h9, hf, hl⟩ := h
  exact ⟨by go_simp, by go_simp, by go_simp, by go_simp, by go_simp, by go_simp, by go_simp, by go_simp, by go_simp, by go_simp, fun o => by go_simp, by simpa [World.setCell] using hl⟩
theorem ScO.fall9 {α β : Type} {w : World} {b : Nat} {s : List UInt8} {o : Ow.Out α} (h : ScO w b s o) (o' : Ow.Out β) (e1 : o'.rest = o.rest) (e2 : Ow.fellB o' = true) : ScO (w.setCell ⟨b, 2, none⟩ (.bool true)) b s o' :=
  ⟨by rw [e1]; exact h.suf, by rw [e1, e2]; exact h.num.fall⟩
namespace Ow
def onB (o : Out (Option Rw)) : Bool := match o with | .ok (some _) _ => true | _ => false
end Ow
/-- what told leaves -/
def ToldP (w : World) (b : Nat) (s : List UInt8) (Q : Ow.Out (Option Ow.Rw)) (e : Ending) (w' : World) : Prop :=
  ∃ x on, e = .returned (.tuple #[rwv (x, .slice none 0 0), .bool on]) ∧ on = Ow.onB Q ∧ ScO w' b s Q ∧ w.grownBy w' (some b) ∧ ∀ R r, Q = .ok (some R) r → x = R ∧ R.tags = []

set_option maxHeartbeats 64000000 in
theorem told1_calls (b : Nat) (s : List UInt8) (w : World) (r00 : List UInt8) (h : ScO w b s (Ow.Out.ok () r00)) (hs : s.length ≤ 1900) (hne : r00.head? = some 84) :
    Calls Tryd.prog 23 #[.pointer (some ⟨b, 0, none⟩)] w fun e w' => ToldP w b s (Ow.told s.length r00) e w' := by
  have hblt := h.num.lt
  obtain ⟨Q, hQ⟩ : ∃ Q, Q = Ow.told s.length r00 := ⟨_, rfl⟩
  rw [← hQ]
  have HQ0 := Lib.hid (show Q = (Ow.lit [84, 89, 80, 69, 32] r00).bind fun _ r => Ow.head 1 s.length r by
    rw [hQ]
    cases r00 with
    | nil => cases hne
    | cons c l =>
      have : c = 84 := by simpa using hne
      subst this
      unfold Ow.told; simp)
  have hh : Ow.hd r00 = 84 := by
    cases r00 with
    | nil => cases hne
    | cons c l =>
      have : c = 84 := by simpa using hne
      subst this; rfl
  have m0 : (Ow.hd r00 == (69 : Int)) = false := by rw [hh]; rfl
  have m1 : (Ow.hd r00 == (84 : Int)) = true := by rw [hh]; rfl
  have m2 : (Ow.hd r00 == (85 : Int)) = false := by rw [hh]; rfl
  have m3 : (Ow.hd r00 == (72 : Int)) = false := by rw [hh]; rfl
  clear hh
  obtain ⟨W1, hW1⟩ : ∃ X, X = (w.alloc (.cells #[.int .i64 0, .string ⟨#[]⟩, .int .i64 0, .slice none 0 0, .slice none 0 0, .string ⟨#[]⟩, .int .i64 0, .bool false, .string ⟨#[]⟩, .int .i64 0] 42)).alloc (.cells #[.int .i64 0, .string ⟨#[]⟩, .int .i64 0, .slice none 0 0, .slice none 0 0, .string ⟨#[]⟩, .int .i64 0, .bool false, .string ⟨#[]⟩, .int .i64 0] 42) := ⟨_, rfl⟩
  have B1 : Below w.heap.size w W1 := by rw [hW1]; exact ((Below.refl _ _).alloc (Nat.le_refl _) _).alloc (by simp) _
  have R1 := (show RwAt W1 w.heap.size (⟨0, [], 0, [], [], 0, false, [], 0⟩, .slice none 0 0) by rw [hW1]; exact (RwAt.new w 0 0 _).belowB (B := w.heap.size + 1) ((Below.refl _ _).alloc (Nat.le_of_eq (al_size _ _).symm) _) (Nat.lt_succ_self _))
  have Q1 := (show RwAt W1 (w.heap.size + 1) (⟨0, [], 0, [], [], 0, false, [], 0⟩, .slice none 0 0) by rw [hW1]; have := RwAt.new (w.alloc (.cells #[.int .i64 0, .string ⟨#[]⟩, .int .i64 0, .slice none 0 0, .slice none 0 0, .string ⟨#[]⟩, .int .i64 0, .bool false, .string ⟨#[]⟩, .int .i64 0] 42)) 0 0 42; rw [al_size] at this; exact this)
  have SI := Lib.hid (show RmAt w W1 b s (Ow.Out.ok () r00) ⟨0, [], 0, [], [], 0, false, [], 0⟩ (.slice none 0 0) [] from ⟨h.below B1, Q1, R1, sc_below B1 (some b), KOwn.nil _ _ _ _ _, hblt⟩)
  have HW1 := Lib.hid hW1
  clear hQ hW1 B1 R1 Q1 h
  go_enter Tryd.func23, Tryd.ntmps23
  go_wp2_with fail
  rw [← HW1.out]
  clear HW1
  refine (scnext_calls (Ow.Out.ok () r00) b s W1 SI.out.C (by unfold maxLen; omega)).mono ?_; rintro e w0 ⟨rfl, b0⟩
  have S0 := Lib.hid (SI.out.call (sc_below b0 _) (SI.out.C.below b0))
  rw [show (Ow.Out.ok () r00).rest = r00 from rfl]
  generalize Ow.hd r00 = HD at *
  clear b0 SI
  obtain ⟨z0, z1, z2, z3, z4, z5, z6, z7, z8, z9, zf, zl⟩ := S0.out.R
  have SA := Lib.hid (S0.out.sto (S0.out.R.set0 1))
  clear S0
  go_wp2_with fail
  clear z0 z1 z2 z3 z4 z5 z6 z7 z8 z9 zf zl
  refine (scl_calls _ [84, 89, 80, 69, 32] b s _ SA.out.C (by unfold maxLen; simp) (by unfold maxLen; omega)).mono ?_; rintro e w2 ⟨rfl, g2, C2⟩
  obtain ⟨oz, hoz⟩ : ∃ o, o = Ow.lit [84, 89, 80, 69, 32] r00 := ⟨_, rfl⟩
  rw [show ((Ow.Out.ok () r00).bind fun _ r => Ow.lit [84, 89, 80, 69, 32] r) = oz from hoz.symm] at C2
  have S1 := Lib.hid (SA.out.call g2 C2)
  have HQ := Lib.hid (show Q = oz.bind fun _ r => Ow.head 1 s.length r by rw [hoz]; exact HQ0.out)
  clear SA g2 C2 HQ0
  go_upto_region 19 with fail
  obtain ⟨of, hof⟩ : ∃ k, k = s.length - oz.rest.length := ⟨_, rfl⟩
  obtain ⟨c0, c1, c2, cf, cl⟩ := S1.out.C.num
  rw [← hof] at c1
  have HOF := Lib.hid hof
  clear hof
  obtain ⟨z0, z1, z2, z3, z4, z5, z6, z7, z8, z9, zf, zl⟩ := S1.out.R
  have S2 := Lib.hid (S1.out.sto (S1.out.R.set2 of))
  clear S1
  go_wp2_with fail
  clear z0 z1 z2 z3 z4 z5 z6 z7 z8 z9 zf zl c0 c1 c2 cf cl
  refine (run_calls oz 2 [] true b s _ S2.out.C (by unfold maxLen; simp) (by unfold maxLen; omega)).mono ?_; rintro e w3 ⟨⟨x3, rfl, hx3⟩, g3, C3⟩
  obtain ⟨nm, rfl⟩ := text_is x3
  obtain ⟨o1, ho1⟩ : ∃ o, o = oz.bind fun _ r => Ow.run 2 [] true r := ⟨_, rfl⟩
  rw [← ho1] at C3 hx3
  have hn1 : ∀ v r, o1 = .ok v r → nm = v := fun v r e => str_inj (hx3 v r e)
  have S3 := Lib.hid (S2.out.call g3 C3)
  obtain ⟨z0, z1, z2, z3, z4, z5, z6, z7, z8, z9, zf, zl⟩ := S3.out.R
  have S4 := Lib.hid (S3.out.sto (S3.out.R.set1 nm))
  clear g3 C3 S2 S3 hx3
  go_wp2_with fail
  clear z0 z1 z2 z3 z4 z5 z6 z7 z8 z9 zf zl
  refine (scl_calls o1 [32] b s _ S4.out.C (by decide) (by unfold maxLen; omega)).mono ?_; rintro e w5 ⟨rfl, g5, C5⟩
  obtain ⟨o2, ho2⟩ : ∃ o, o = o1.bind fun _ r => Ow.lit [32] r := ⟨_, rfl⟩
  rw [← ho2] at C5
  have S5 := Lib.hid (S4.out.call g5 C5)
  obtain ⟨at_, hat⟩ : ∃ k, k = s.length - o2.rest.length := ⟨_, rfl⟩
  obtain ⟨c0, c1, c2, cf, cl⟩ := S5.out.C.num
  rw [← hat] at c1
  have HAT := Lib.hid hat
  clear hat
  obtain ⟨z0, z1, z2, z3, z4, z5, z6, z7, z8, z9, zf, zl⟩ := S5.out.R
  have S6 := Lib.hid (S5.out.sto (S5.out.R.set6 at_))
  clear g5 C5 S4 S5
  cases hP2 : o2 with
  | fell r2 =>
    rw [hP2] at S6 c2
    have hQf : Q = .fell r2 := by
      rw [HQ.out]
      rw [hP2] at ho2
      cases hz : oz with
      | fell r =>
        rw [hz] at ho1; rw [ho1] at ho2
        have e : r2 = r := by injection ho2
        rw [e]; rfl
      | ok u r =>
        rw [hz] at ho1
        have ho1 : o1 = Ow.run 2 [] true r := ho1
        show Ow.head 1 s.length r = _
        unfold Ow.head
        rw [← ho1]
        cases h1 : o1 with
        | fell r' =>
          rw [h1] at ho2
          have e : r2 = r' := by injection ho2
          rw [e]; rfl
        | ok v r' =>
          rw [h1] at ho2
          have ho2 : Ow.Out.fell r2 = Ow.lit [32] r' := ho2
          show (Ow.lit [32] r').bind _ = _; rw [← ho2]; rfl
    obtain ⟨xr, hxr⟩ : ∃ xr : Ow.Rw, xr = ⟨1, nm, of, [], [], at_, false, [], 0⟩ := ⟨_, rfl⟩
    obtain ⟨oq, hoq⟩ : ∃ o : Ow.Out Unit, o = .fell r2 := ⟨_, rfl⟩
    have SX := Lib.hid (show RmAt w (w5.setCell ⟨w.heap.size + 1, 6, none⟩ (.int .i64 (at_ : Nat))) b s oq xr (.slice none 0 0) [] by rw [hxr, hoq]; have := S6.out; exact ⟨this.C, by obtain ⟨z0, z1, z2, z3, z4, z5, z6, z7, z8, z9, zf, zl⟩ := this.R; exact ⟨z0, z1, z2, z3, z4, z5, z6, z7, z8, z9, zf, zl⟩, this.Z, this.G, this.T, this.l1⟩)
    have hr := Lib.hid (show Q.rest = oq.rest ∧ Ow.fellB Q = Ow.fellB oq ∧ Ow.onB Q = !(Ow.fellB oq) ∧ ∀ R r, Q = .ok (some R) r → xr = R ∧ R.tags = [] by
      rw [hQf, hoq]; exact ⟨rfl, rfl, rfl, fun R r e => (by cases e)⟩)
    have c2 : (w5).cell? ⟨b, 2, none⟩ = some (.bool true) := c2
    clear S6 HQ hQf ho1 ho2 hn1 HAT HOF hxr hoq hP2
    go_upto_region 29 with fail
    obtain ⟨WB, hWB⟩ : ∃ X, X = (w5.setCell ⟨w.heap.size + 1, 6, none⟩ (.int .i64 (at_ : Nat))) := ⟨_, rfl⟩
    rw [← hWB] at SX ⊢
    clear hWB
    refine wp_region_noPanic ?_
    refine wp_region_held_drew (S := fun X => Below 0 WB X) (by kernel_rfl) ?_ (fun hHeld => ?_)
    · exact Below.drew (Below.refl _ _)
    have kB : Below 0 WB WB.drew := Below.drew (Below.refl _ _)
    clear hHeld
    have kM := SX.out.call (sc_below (below_drewN (Below.refl _ _) 1) _) (SX.out.C.below (below_drewN (Below.refl _ _) 1))
    change RmAt w WB.drew _ _ _ _ _ _ at kM
    obtain ⟨WD, hWD⟩ : ∃ X, X = WB.drew := ⟨_, rfl⟩
    rw [← hWD] at kB kM ⊢
    clear hWD
    refine tk9 1 kB ?_
    refine tk9 2 kB ?_
    refine tk9 3 kB ?_
    refine wpAnyH_ready (rs := [0, 4]) (by kernel_rfl) (by simp) ?_
    refine AllReadyH.cons (by simp only [List.getElem?_toArray, List.getElem?_cons_succ, List.getElem?_cons_zero]; rfl) (fun K hK => ?_) ?_
    · obtain ⟨z0, z1, z2, z3, z4, z5, z6, z7, z8, z9, zf, zl⟩ := kM.R
      dsimp only at z0 z1 z2 z3 z4 z5 z6 z7 z8 z9
      go_simp
      clear z0 z1 z2 z3 z4 z5 z6 z7 z8 z9 zf zl
      refine hK.out _ _ kB (fun hHeld => ?_)
      clear hK K hHeld
      (try simp only [Act.put, List.setIfInBounds_toArray, List.set_cons_zero, List.set_cons_succ])
      refine wpAnyH_ready (rs := [4, 6]) (by kernel_rfl) (by simp) ?_
      refine AllReadyH.cons (by simp only [List.getElem?_toArray, List.getElem?_cons_succ, List.getElem?_cons_zero]; rfl) (fun K hK => ?_) ?_
      · obtain ⟨c0, c1, c2, cf, cl⟩ := kM.C.num
        go_simp
        clear c0 c1 c2 cf cl
        refine hK.out _ _ kB (fun hHeld => ?_)
        clear hK K hHeld
        (try simp only [Act.put, List.setIfInBounds_toArray, List.set_cons_zero, List.set_cons_succ])
        refine tk9 5 kB ?_
        refine wpAnyH_ready (rs := [6]) (by kernel_rfl) (by simp) ?_
        refine AllReadyH.cons (by simp only [List.getElem?_toArray, List.getElem?_cons_succ, List.getElem?_cons_zero]; rfl) (fun K hK => ?_) AllReadyH.nil
        have FZ := kM.fin
        obtain ⟨y0, y1, y2, y3, y4, y5, y6, y7, y8, y9, yf, yl⟩ := kM.Z
        dsimp only at y0 y1 y2 y3 y4 y5 y6 y7 y8 y9
        go_simp
        clear y0 y1 y2 y3 y4 y5 y6 y7 y8 y9 yf yl
        replace kB : Below 0 WB ((((((((((WD.setCell ⟨w.heap.size, 0, none⟩ (.int .i64 xr.k)).setCell ⟨w.heap.size, 1, none⟩ (.string (str xr.n))).setCell ⟨w.heap.size, 2, none⟩ (.int .i64 (xr.off : Nat))).setCell ⟨w.heap.size, 3, none⟩ (.slice none 0 0)).setCell ⟨w.heap.size, 4, none⟩ (.slice none 0 0)).setCell ⟨w.heap.size, 5, none⟩ (.string (str xr.text))).setCell ⟨w.heap.size, 6, none⟩ (.int .i64 (xr.at_ : Nat))).setCell ⟨w.heap.size, 7, none⟩ (.bool xr.td)).setCell ⟨w.heap.size, 8, none⟩ (.string (str xr.tm))).setCell ⟨w.heap.size, 9, none⟩ (.int .i64 (xr.wh : Nat))) := b0_grown kB grown_ten
        obtain ⟨WZ, hWZ⟩ : ∃ X, X = ((((((((((WD.setCell ⟨w.heap.size, 0, none⟩ (.int .i64 xr.k)).setCell ⟨w.heap.size, 1, none⟩ (.string (str xr.n))).setCell ⟨w.heap.size, 2, none⟩ (.int .i64 (xr.off : Nat))).setCell ⟨w.heap.size, 3, none⟩ (.slice none 0 0)).setCell ⟨w.heap.size, 4, none⟩ (.slice none 0 0)).setCell ⟨w.heap.size, 5, none⟩ (.string (str xr.text))).setCell ⟨w.heap.size, 6, none⟩ (.int .i64 (xr.at_ : Nat))).setCell ⟨w.heap.size, 7, none⟩ (.bool xr.td)).setCell ⟨w.heap.size, 8, none⟩ (.string (str xr.tm))).setCell ⟨w.heap.size, 9, none⟩ (.int .i64 (xr.wh : Nat))) := ⟨_, rfl⟩
        rw [← hWZ] at FZ kB ⊢
        clear hWZ
        refine hK.out _ _ kB (fun hHeld => ?_)
        clear hK K hHeld
        (try simp only [Act.put, List.setIfInBounds_toArray, List.set_cons_zero, List.set_cons_succ])
        refine tk9 7 kB ?_
        refine wpAnyH_done (by kernel_rfl) ?_ _
        refine NoPanic.normal ?_
        clear kM kB
        obtain ⟨FC, FR, FG, FT⟩ := FZ
        go_wp2
        obtain ⟨y0, y1, y2, y3, y4, y5, y6, y7, y8, y9, yf, yl⟩ := FR
        dsimp only at y0 y1 y2 y3 y4 y5 y6 y7 y8 y9
        refine bodyPost_ret (v := .tuple #[rwv (xr, .slice none 0 0), .bool (!(Ow.fellB oq))]) (by simp [results, Tryd.results23, go_sem, y0, y1, y2, y3, y4, y5, y6, y7, y8, y9, rwv]) rfl ?_
        exact ⟨xr, _, rfl, by rw [hr.out.2.2.1], FC.to hr.out.1 hr.out.2.1, FG, hr.out.2.2.2⟩
      refine AllReadyH.cons (by simp only [List.getElem?_toArray, List.getElem?_cons_succ, List.getElem?_cons_zero]; rfl) (fun K hK => ?_) AllReadyH.nil
      have FZ := kM.fin
      obtain ⟨y0, y1, y2, y3, y4, y5, y6, y7, y8, y9, yf, yl⟩ := kM.Z
      dsimp only at y0 y1 y2 y3 y4 y5 y6 y7 y8 y9
      go_simp
      clear y0 y1 y2 y3 y4 y5 y6 y7 y8 y9 yf yl
      replace kB : Below 0 WB ((((((((((WD.setCell ⟨w.heap.size, 0, none⟩ (.int .i64 xr.k)).setCell ⟨w.heap.size, 1, none⟩ (.string (str xr.n))).setCell ⟨w.heap.size, 2, none⟩ (.int .i64 (xr.off : Nat))).setCell ⟨w.heap.size, 3, none⟩ (.slice none 0 0)).setCell ⟨w.heap.size, 4, none⟩ (.slice none 0 0)).setCell ⟨w.heap.size, 5, none⟩ (.string (str xr.text))).setCell ⟨w.heap.size, 6, none⟩ (.int .i64 (xr.at_ : Nat))).setCell ⟨w.heap.size, 7, none⟩ (.bool xr.td)).setCell ⟨w.heap.size, 8, none⟩ (.string (str xr.tm))).setCell ⟨w.heap.size, 9, none⟩ (.int .i64 (xr.wh : Nat))) := b0_grown kB grown_ten
      obtain ⟨WZ, hWZ⟩ : ∃ X, X = ((((((((((WD.setCell ⟨w.heap.size, 0, none⟩ (.int .i64 xr.k)).setCell ⟨w.heap.size, 1, none⟩ (.string (str xr.n))).setCell ⟨w.heap.size, 2, none⟩ (.int .i64 (xr.off : Nat))).setCell ⟨w.heap.size, 3, none⟩ (.slice none 0 0)).setCell ⟨w.heap.size, 4, none⟩ (.slice none 0 0)).setCell ⟨w.heap.size, 5, none⟩ (.string (str xr.text))).setCell ⟨w.heap.size, 6, none⟩ (.int .i64 (xr.at_ : Nat))).setCell ⟨w.heap.size, 7, none⟩ (.bool xr.td)).setCell ⟨w.heap.size, 8, none⟩ (.string (str xr.tm))).setCell ⟨w.heap.size, 9, none⟩ (.int .i64 (xr.wh : Nat))) := ⟨_, rfl⟩
      rw [← hWZ] at FZ kB ⊢
      clear hWZ
      refine hK.out _ _ kB (fun hHeld => ?_)
      clear hK K hHeld
      (try simp only [Act.put, List.setIfInBounds_toArray, List.set_cons_zero, List.set_cons_succ])
      refine wpAnyH_ready (rs := [4]) (by kernel_rfl) (by simp) ?_
      refine AllReadyH.cons (by simp only [List.getElem?_toArray, List.getElem?_cons_succ, List.getElem?_cons_zero]; rfl) (fun K hK => ?_) AllReadyH.nil
      obtain ⟨c0, c1, c2, cf, cl⟩ := FZ.1.num
      go_simp
      clear c0 c1 c2 cf cl
      refine hK.out _ _ kB (fun hHeld => ?_)
      clear hK K hHeld
      (try simp only [Act.put, List.setIfInBounds_toArray, List.set_cons_zero, List.set_cons_succ])
      refine tk9 5 kB ?_
      refine tk9 7 kB ?_
      refine wpAnyH_done (by kernel_rfl) ?_ _
      refine NoPanic.normal ?_
      clear kM kB
      obtain ⟨FC, FR, FG, FT⟩ := FZ
      go_wp2
      obtain ⟨y0, y1, y2, y3, y4, y5, y6, y7, y8, y9, yf, yl⟩ := FR
      dsimp only at y0 y1 y2 y3 y4 y5 y6 y7 y8 y9
      refine bodyPost_ret (v := .tuple #[rwv (xr, .slice none 0 0), .bool (!(Ow.fellB oq))]) (by simp [results, Tryd.results23, go_sem, y0, y1, y2, y3, y4, y5, y6, y7, y8, y9, rwv]) rfl ?_
      exact ⟨xr, _, rfl, by rw [hr.out.2.2.1], FC.to hr.out.1 hr.out.2.1, FG, hr.out.2.2.2⟩
    refine AllReadyH.cons (by simp only [List.getElem?_toArray, List.getElem?_cons_succ, List.getElem?_cons_zero]; rfl) (fun K hK => ?_) AllReadyH.nil
    obtain ⟨c0, c1, c2, cf, cl⟩ := kM.C.num
    go_simp
    clear c0 c1 c2 cf cl
    refine hK.out _ _ kB (fun hHeld => ?_)
    clear hK K hHeld
    (try simp only [Act.put, List.setIfInBounds_toArray, List.set_cons_zero, List.set_cons_succ])
    refine tk9 5 kB ?_
    refine wpAnyH_ready (rs := [0]) (by kernel_rfl) (by simp) ?_
    refine AllReadyH.cons (by simp only [List.getElem?_toArray, List.getElem?_cons_succ, List.getElem?_cons_zero]; rfl) (fun K hK => ?_) AllReadyH.nil
    obtain ⟨z0, z1, z2, z3, z4, z5, z6, z7, z8, z9, zf, zl⟩ := kM.R
    dsimp only at z0 z1 z2 z3 z4 z5 z6 z7 z8 z9
    go_simp
    clear z0 z1 z2 z3 z4 z5 z6 z7 z8 z9 zf zl
    refine hK.out _ _ kB (fun hHeld => ?_)
    clear hK K hHeld
    (try simp only [Act.put, List.setIfInBounds_toArray, List.set_cons_zero, List.set_cons_succ])
    refine wpAnyH_ready (rs := [6]) (by kernel_rfl) (by simp) ?_
    refine AllReadyH.cons (by simp only [List.getElem?_toArray, List.getElem?_cons_succ, List.getElem?_cons_zero]; rfl) (fun K hK => ?_) AllReadyH.nil
    have FZ := kM.fin
    obtain ⟨y0, y1, y2, y3, y4, y5, y6, y7, y8, y9, yf, yl⟩ := kM.Z
    dsimp only at y0 y1 y2 y3 y4 y5 y6 y7 y8 y9
    go_simp
    clear y0 y1 y2 y3 y4 y5 y6 y7 y8 y9 yf yl
    replace kB : Below 0 WB ((((((((((WD.setCell ⟨w.heap.size, 0, none⟩ (.int .i64 xr.k)).setCell ⟨w.heap.size, 1, none⟩ (.string (str xr.n))).setCell ⟨w.heap.size, 2, none⟩ (.int .i64 (xr.off : Nat))).setCell ⟨w.heap.size, 3, none⟩ (.slice none 0 0)).setCell ⟨w.heap.size, 4, none⟩ (.slice none 0 0)).setCell ⟨w.heap.size, 5, none⟩ (.string (str xr.text))).setCell ⟨w.heap.size, 6, none⟩ (.int .i64 (xr.at_ : Nat))).setCell ⟨w.heap.size, 7, none⟩ (.bool xr.td)).setCell ⟨w.heap.size, 8, none⟩ (.string (str xr.tm))).setCell ⟨w.heap.size, 9, none⟩ (.int .i64 (xr.wh : Nat))) := b0_grown kB grown_ten
    obtain ⟨WZ, hWZ⟩ : ∃ X, X = ((((((((((WD.setCell ⟨w.heap.size, 0, none⟩ (.int .i64 xr.k)).setCell ⟨w.heap.size, 1, none⟩ (.string (str xr.n))).setCell ⟨w.heap.size, 2, none⟩ (.int .i64 (xr.off : Nat))).setCell ⟨w.heap.size, 3, none⟩ (.slice none 0 0)).setCell ⟨w.heap.size, 4, none⟩ (.slice none 0 0)).setCell ⟨w.heap.size, 5, none⟩ (.string (str xr.text))).setCell ⟨w.heap.size, 6, none⟩ (.int .i64 (xr.at_ : Nat))).setCell ⟨w.heap.size, 7, none⟩ (.bool xr.td)).setCell ⟨w.heap.size, 8, none⟩ (.string (str xr.tm))).setCell ⟨w.heap.size, 9, none⟩ (.int .i64 (xr.wh : Nat))) := ⟨_, rfl⟩
    rw [← hWZ] at FZ kB ⊢
    clear hWZ
    refine hK.out _ _ kB (fun hHeld => ?_)
    clear hK K hHeld
    (try simp only [Act.put, List.setIfInBounds_toArray, List.set_cons_zero, List.set_cons_succ])
    refine tk9 7 kB ?_
    refine wpAnyH_done (by kernel_rfl) ?_ _
    refine NoPanic.normal ?_
    clear kM kB
    obtain ⟨FC, FR, FG, FT⟩ := FZ
    go_wp2
    obtain ⟨y0, y1, y2, y3, y4, y5, y6, y7, y8, y9, yf, yl⟩ := FR
    dsimp only at y0 y1 y2 y3 y4 y5 y6 y7 y8 y9
    refine bodyPost_ret (v := .tuple #[rwv (xr, .slice none 0 0), .bool (!(Ow.fellB oq))]) (by simp [results, Tryd.results23, go_sem, y0, y1, y2, y3, y4, y5, y6, y7, y8, y9, rwv]) rfl ?_
    exact ⟨xr, _, rfl, by rw [hr.out.2.2.1], FC.to hr.out.1 hr.out.2.1, FG, hr.out.2.2.2⟩
  | ok u r2 =>
    rw [hP2] at S6 c2
    obtain ⟨uz, rz, v1, r1, hz, h1⟩ : ∃ uz rz v1 r1, oz = .ok uz rz ∧ o1 = .ok v1 r1 := by
      cases hz : oz with
      | fell r => rw [hz] at ho1; rw [ho1] at ho2; rw [ho2] at hP2; cases hP2
      | ok uz rz =>
        cases h1 : o1 with
        | fell r => rw [h1] at ho2; rw [ho2] at hP2; cases hP2
        | ok v1 r1 => exact ⟨uz, rz, v1, r1, rfl, rfl⟩
    obtain rfl := hn1 _ _ h1
    have hrun : Ow.run 2 [] true rz = .ok nm r1 := by rw [← h1, ho1, hz]; rfl
    have hlit : Ow.lit [32] r1 = .ok u r2 := by rw [← hP2, ho2, h1]; rfl
    have hof : of = s.length - rz.length := by rw [HOF.out, hz]; rfl
    have hat : at_ = s.length - r2.length := by rw [HAT.out, hP2]; rfl
    have HQ2 := Lib.hid (show Q = (Ow.text 1 r2).bind fun tx r3 => .ok (some ⟨1, nm, of, [], tx, at_, false, [], 0⟩) r3 by
      rw [HQ.out, hz]; show Ow.head 1 s.length rz = _
      unfold Ow.head
      rw [hrun]; show (Ow.lit [32] r1).bind _ = _
      rw [hlit, hof, hat]; rfl)
    have c2 : (w5).cell? ⟨b, 2, none⟩ = some (.bool false) := c2
    clear HQ hrun hlit hof hat hz h1 ho1 ho2 hn1 HAT HOF hP2
    go_wp2_with fail
    clear z0 z1 z2 z3 z4 z5 z6 z7 z8 z9 zf zl c0 c1 c2 cf cl
    refine (run_calls (Ow.Out.ok u r2) 1 [] false b s _ S6.out.C (by unfold maxLen; simp) (by unfold maxLen; omega)).mono ?_; rintro e w7 ⟨⟨x7, rfl, hx7⟩, g7, C7⟩
    obtain ⟨tx, rfl⟩ := text_is x7
    obtain ⟨oq, hoq⟩ : ∃ o, o = Ow.text 1 r2 := ⟨_, rfl⟩
    have C7 : ScO w7 b s oq := by rw [hoq]; exact C7
    have hn7 : ∀ v r, oq = .ok v r → tx = v := fun v r e => str_inj (hx7 v r (by rw [hoq] at e; exact e))
    have S7 := Lib.hid (S6.out.call g7 C7)
    obtain ⟨z0, z1, z2, z3, z4, z5, z6, z7, z8, z9, zf, zl⟩ := S7.out.R
    have S8 := Lib.hid (S7.out.sto (S7.out.R.set5 tx))
    obtain ⟨xr, hxr⟩ : ∃ xr : Ow.Rw, xr = ⟨1, nm, of, [], tx, at_, false, [], 0⟩ := ⟨_, rfl⟩
    have SX := Lib.hid (show RmAt w (w7.setCell ⟨w.heap.size + 1, 5, none⟩ (.string (str tx))) b s oq xr (.slice none 0 0) [] by rw [hxr]; have := S8.out; exact ⟨this.C, by obtain ⟨z0, z1, z2, z3, z4, z5, z6, z7, z8, z9, zf, zl⟩ := this.R; exact ⟨z0, z1, z2, z3, z4, z5, z6, z7, z8, z9, zf, zl⟩, this.Z, this.G, this.T, this.l1⟩)
    have hr := Lib.hid (show Q.rest = oq.rest ∧ Ow.fellB Q = Ow.fellB oq ∧ Ow.onB Q = !(Ow.fellB oq) ∧ ∀ R r, Q = .ok (some R) r → xr = R ∧ R.tags = [] by
      rw [HQ2.out, ← hoq, hxr]
      cases hq : oq with
      | fell r => exact ⟨rfl, rfl, rfl, fun R r e => (by cases e)⟩
      | ok v r =>
        obtain rfl := hn7 _ _ hq
        exact ⟨rfl, rfl, rfl, fun R r e => (by injection e with e1 e2; injection e1 with e1; exact ⟨e1, by rw [← e1]⟩)⟩)
    clear S6 S7 S8 HQ2 hn7 hx7 hxr hoq g7 C7
    go_upto_region 29 with fail
    obtain ⟨WB, hWB⟩ : ∃ X, X = (w7.setCell ⟨w.heap.size + 1, 5, none⟩ (.string (str tx))) := ⟨_, rfl⟩
    rw [← hWB] at SX ⊢
    clear hWB
    refine wp_region_noPanic ?_
    refine wp_region_held_drew (S := fun X => Below 0 WB X) (by kernel_rfl) ?_ (fun hHeld => ?_)
    · exact Below.drew (Below.refl _ _)
    have kB : Below 0 WB WB.drew := Below.drew (Below.refl _ _)
    clear hHeld
    have kM := SX.out.call (sc_below (below_drewN (Below.refl _ _) 1) _) (SX.out.C.below (below_drewN (Below.refl _ _) 1))
    change RmAt w WB.drew _ _ _ _ _ _ at kM
    obtain ⟨WD, hWD⟩ : ∃ X, X = WB.drew := ⟨_, rfl⟩
    rw [← hWD] at kB kM ⊢
    clear hWD
    refine tk9 1 kB ?_
    refine tk9 2 kB ?_
    refine tk9 3 kB ?_
    refine wpAnyH_ready (rs := [0, 4]) (by kernel_rfl) (by simp) ?_
    refine AllReadyH.cons (by simp only [List.getElem?_toArray, List.getElem?_cons_succ, List.getElem?_cons_zero]; rfl) (fun K hK => ?_) ?_
    · obtain ⟨z0, z1, z2, z3, z4, z5, z6, z7, z8, z9, zf, zl⟩ := kM.R
      dsimp only at z0 z1 z2 z3 z4 z5 z6 z7 z8 z9
      go_simp
      clear z0 z1 z2 z3 z4 z5 z6 z7 z8 z9 zf zl
      refine hK.out _ _ kB (fun hHeld => ?_)
      clear hK K hHeld
      (try simp only [Act.put, List.setIfInBounds_toArray, List.set_cons_zero, List.set_cons_succ])
      refine wpAnyH_ready (rs := [4, 6]) (by kernel_rfl) (by simp) ?_
      refine AllReadyH.cons (by simp only [List.getElem?_toArray, List.getElem?_cons_succ, List.getElem?_cons_zero]; rfl) (fun K hK => ?_) ?_
      · obtain ⟨c0, c1, c2, cf, cl⟩ := kM.C.num
        go_simp
        clear c0 c1 c2 cf cl
        refine hK.out _ _ kB (fun hHeld => ?_)
        clear hK K hHeld
        (try simp only [Act.put, List.setIfInBounds_toArray, List.set_cons_zero, List.set_cons_succ])
        refine tk9 5 kB ?_
        refine wpAnyH_ready (rs := [6]) (by kernel_rfl) (by simp) ?_
        refine AllReadyH.cons (by simp only [List.getElem?_toArray, List.getElem?_cons_succ, List.getElem?_cons_zero]; rfl) (fun K hK => ?_) AllReadyH.nil
        have FZ := kM.fin
        obtain ⟨y0, y1, y2, y3, y4, y5, y6, y7, y8, y9, yf, yl⟩ := kM.Z
        dsimp only at y0 y1 y2 y3 y4 y5 y6 y7 y8 y9
        go_simp
        clear y0 y1 y2 y3 y4 y5 y6 y7 y8 y9 yf yl
        replace kB : Below 0 WB ((((((((((WD.setCell ⟨w.heap.size, 0, none⟩ (.int .i64 xr.k)).setCell ⟨w.heap.size, 1, none⟩ (.string (str xr.n))).setCell ⟨w.heap.size, 2, none⟩ (.int .i64 (xr.off : Nat))).setCell ⟨w.heap.size, 3, none⟩ (.slice none 0 0)).setCell ⟨w.heap.size, 4, none⟩ (.slice none 0 0)).setCell ⟨w.heap.size, 5, none⟩ (.string (str xr.text))).setCell ⟨w.heap.size, 6, none⟩ (.int .i64 (xr.at_ : Nat))).setCell ⟨w.heap.size, 7, none⟩ (.bool xr.td)).setCell ⟨w.heap.size, 8, none⟩ (.string (str xr.tm))).setCell ⟨w.heap.size, 9, none⟩ (.int .i64 (xr.wh : Nat))) := b0_grown kB grown_ten
        obtain ⟨WZ, hWZ⟩ : ∃ X, X = ((((((((((WD.setCell ⟨w.heap.size, 0, none⟩ (.int .i64 xr.k)).setCell ⟨w.heap.size, 1, none⟩ (.string (str xr.n))).setCell ⟨w.heap.size, 2, none⟩ (.int .i64 (xr.off : Nat))).setCell ⟨w.heap.size, 3, none⟩ (.slice none 0 0)).setCell ⟨w.heap.size, 4, none⟩ (.slice none 0 0)).setCell ⟨w.heap.size, 5, none⟩ (.string (str xr.text))).setCell ⟨w.heap.size, 6, none⟩ (.int .i64 (xr.at_ : Nat))).setCell ⟨w.heap.size, 7, none⟩ (.bool xr.td)).setCell ⟨w.heap.size, 8, none⟩ (.string (str xr.tm))).setCell ⟨w.heap.size, 9, none⟩ (.int .i64 (xr.wh : Nat))) := ⟨_, rfl⟩
        rw [← hWZ] at FZ kB ⊢
        clear hWZ
        refine hK.out _ _ kB (fun hHeld => ?_)
        clear hK K hHeld
        (try simp only [Act.put, List.setIfInBounds_toArray, List.set_cons_zero, List.set_cons_succ])
        refine tk9 7 kB ?_
        refine wpAnyH_done (by kernel_rfl) ?_ _
        refine NoPanic.normal ?_
        clear kM kB
        obtain ⟨FC, FR, FG, FT⟩ := FZ
        go_wp2
        obtain ⟨y0, y1, y2, y3, y4, y5, y6, y7, y8, y9, yf, yl⟩ := FR
        dsimp only at y0 y1 y2 y3 y4 y5 y6 y7 y8 y9
        refine bodyPost_ret (v := .tuple #[rwv (xr, .slice none 0 0), .bool (!(Ow.fellB oq))]) (by simp [results, Tryd.results23, go_sem, y0, y1, y2, y3, y4, y5, y6, y7, y8, y9, rwv]) rfl ?_
        exact ⟨xr, _, rfl, by rw [hr.out.2.2.1], FC.to hr.out.1 hr.out.2.1, FG, hr.out.2.2.2⟩
      refine AllReadyH.cons (by simp only [List.getElem?_toArray, List.getElem?_cons_succ, List.getElem?_cons_zero]; rfl) (fun K hK => ?_) AllReadyH.nil
      have FZ := kM.fin
      obtain ⟨y0, y1, y2, y3, y4, y5, y6, y7, y8, y9, yf, yl⟩ := kM.Z
      dsimp only at y0 y1 y2 y3 y4 y5 y6 y7 y8 y9
      go_simp
      clear y0 y1 y2 y3 y4 y5 y6 y7 y8 y9 yf yl
      replace kB : Below 0 WB ((((((((((WD.setCell ⟨w.heap.size, 0, none⟩ (.int .i64 xr.k)).setCell ⟨w.heap.size, 1, none⟩ (.string (str xr.n))).setCell ⟨w.heap.size, 2, none⟩ (.int .i64 (xr.off : Nat))).setCell ⟨w.heap.size, 3, none⟩ (.slice none 0 0)).setCell ⟨w.heap.size, 4, none⟩ (.slice none 0 0)).setCell ⟨w.heap.size, 5, none⟩ (.string (str xr.text))).setCell ⟨w.heap.size, 6, none⟩ (.int .i64 (xr.at_ : Nat))).setCell ⟨w.heap.size, 7, none⟩ (.bool xr.td)).setCell ⟨w.heap.size, 8, none⟩ (.string (str xr.tm))).setCell ⟨w.heap.size, 9, none⟩ (.int .i64 (xr.wh : Nat))) := b0_grown kB grown_ten
      obtain ⟨WZ, hWZ⟩ : ∃ X, X = ((((((((((WD.setCell ⟨w.heap.size, 0, none⟩ (.int .i64 xr.k)).setCell ⟨w.heap.size, 1, none⟩ (.string (str xr.n))).setCell ⟨w.heap.size, 2, none⟩ (.int .i64 (xr.off : Nat))).setCell ⟨w.heap.size, 3, none⟩ (.slice none 0 0)).setCell ⟨w.heap.size, 4, none⟩ (.slice none 0 0)).setCell ⟨w.heap.size, 5, none⟩ (.string (str xr.text))).setCell ⟨w.heap.size, 6, none⟩ (.int .i64 (xr.at_ : Nat))).setCell ⟨w.heap.size, 7, none⟩ (.bool xr.td)).setCell ⟨w.heap.size, 8, none⟩ (.string (str xr.tm))).setCell ⟨w.heap.size, 9, none⟩ (.int .i64 (xr.wh : Nat))) := ⟨_, rfl⟩
      rw [← hWZ] at FZ kB ⊢
      clear hWZ
      refine hK.out _ _ kB (fun hHeld => ?_)
      clear hK K hHeld
      (try simp only [Act.put, List.setIfInBounds_toArray, List.set_cons_zero, List.set_cons_succ])
      refine wpAnyH_ready (rs := [4]) (by kernel_rfl) (by simp) ?_
      refine AllReadyH.cons (by simp only [List.getElem?_toArray, List.getElem?_cons_succ, List.getElem?_cons_zero]; rfl) (fun K hK => ?_) AllReadyH.nil
      obtain ⟨c0, c1, c2, cf, cl⟩ := FZ.1.num
      go_simp
      clear c0 c1 c2 cf cl
      refine hK.out _ _ kB (fun hHeld => ?_)
      clear hK K hHeld
      (try simp only [Act.put, List.setIfInBounds_toArray, List.set_cons_zero, List.set_cons_succ])
      refine tk9 5 kB ?_
      refine tk9 7 kB ?_
      refine wpAnyH_done (by kernel_rfl) ?_ _
      refine NoPanic.normal ?_
      clear kM kB
      obtain ⟨FC, FR, FG, FT⟩ := FZ
      go_wp2
      obtain ⟨y0, y1, y2, y3, y4, y5, y6, y7, y8, y9, yf, yl⟩ := FR
      dsimp only at y0 y1 y2 y3 y4 y5 y6 y7 y8 y9
      refine bodyPost_ret (v := .tuple #[rwv (xr, .slice none 0 0), .bool (!(Ow.fellB oq))]) (by simp [results, Tryd.results23, go_sem, y0, y1, y2, y3, y4, y5, y6, y7, y8, y9, rwv]) rfl ?_
      exact ⟨xr, _, rfl, by rw [hr.out.2.2.1], FC.to hr.out.1 hr.out.2.1, FG, hr.out.2.2.2⟩
    refine AllReadyH.cons (by simp only [List.getElem?_toArray, List.getElem?_cons_succ, List.getElem?_cons_zero]; rfl) (fun K hK => ?_) AllReadyH.nil
    obtain ⟨c0, c1, c2, cf, cl⟩ := kM.C.num
    go_simp
    clear c0 c1 c2 cf cl
    refine hK.out _ _ kB (fun hHeld => ?_)
    clear hK K hHeld
    (try simp only [Act.put, List.setIfInBounds_toArray, List.set_cons_zero, List.set_cons_succ])
    refine tk9 5 kB ?_
    refine wpAnyH_ready (rs := [0]) (by kernel_rfl) (by simp) ?_
    refine AllReadyH.cons (by simp only [List.getElem?_toArray, List.getElem?_cons_succ, List.getElem?_cons_zero]; rfl) (fun K hK => ?_) AllReadyH.nil
    obtain ⟨z0, z1, z2, z3, z4, z5, z6, z7, z8, z9, zf, zl⟩ := kM.R
    dsimp only at z0 z1 z2 z3 z4 z5 z6 z7 z8 z9
    go_simp
    clear z0 z1 z2 z3 z4 z5 z6 z7 z8 z9 zf zl
    refine hK.out _ _ kB (fun hHeld => ?_)
    clear hK K hHeld
    (try simp only [Act.put, List.setIfInBounds_toArray, List.set_cons_zero, List.set_cons_succ])
    refine wpAnyH_ready (rs := [6]) (by kernel_rfl) (by simp) ?_
    refine AllReadyH.cons (by simp only [List.getElem?_toArray, List.getElem?_cons_succ, List.getElem?_cons_zero]; rfl) (fun K hK => ?_) AllReadyH.nil
    have FZ := kM.fin
    obtain ⟨y0, y1, y2, y3, y4, y5, y6, y7, y8, y9, yf, yl⟩ := kM.Z
    dsimp only at y0 y1 y2 y3 y4 y5 y6 y7 y8 y9
    go_simp
    clear y0 y1 y2 y3 y4 y5 y6 y7 y8 y9 yf yl
    replace kB : Below 0 WB ((((((((((WD.setCell ⟨w.heap.size, 0, none⟩ (.int .i64 xr.k)).setCell ⟨w.heap.size, 1, none⟩ (.string (str xr.n))).setCell ⟨w.heap.size, 2, none⟩ (.int .i64 (xr.off : Nat))).setCell ⟨w.heap.size, 3, none⟩ (.slice none 0 0)).setCell ⟨w.heap.size, 4, none⟩ (.slice none 0 0)).setCell ⟨w.heap.size, 5, none⟩ (.string (str xr.text))).setCell ⟨w.heap.size, 6, none⟩ (.int .i64 (xr.at_ : Nat))).setCell ⟨w.heap.size, 7, none⟩ (.bool xr.td)).setCell ⟨w.heap.size, 8, none⟩ (.string (str xr.tm))).setCell ⟨w.heap.size, 9, none⟩ (.int .i64 (xr.wh : Nat))) := b0_grown kB grown_ten
    obtain ⟨WZ, hWZ⟩ : ∃ X, X = ((((((((((WD.setCell ⟨w.heap.size, 0, none⟩ (.int .i64 xr.k)).setCell ⟨w.heap.size, 1, none⟩ (.string (str xr.n))).setCell ⟨w.heap.size, 2, none⟩ (.int .i64 (xr.off : Nat))).setCell ⟨w.heap.size, 3, none⟩ (.slice none 0 0)).setCell ⟨w.heap.size, 4, none⟩ (.slice none 0 0)).setCell ⟨w.heap.size, 5, none⟩ (.string (str xr.text))).setCell ⟨w.heap.size, 6, none⟩ (.int .i64 (xr.at_ : Nat))).setCell ⟨w.heap.size, 7, none⟩ (.bool xr.td)).setCell ⟨w.heap.size, 8, none⟩ (.string (str xr.tm))).setCell ⟨w.heap.size, 9, none⟩ (.int .i64 (xr.wh : Nat))) := ⟨_, rfl⟩
    rw [← hWZ] at FZ kB ⊢
    clear hWZ
    refine hK.out _ _ kB (fun hHeld => ?_)
    clear hK K hHeld
    (try simp only [Act.put, List.setIfInBounds_toArray, List.set_cons_zero, List.set_cons_succ])
    refine tk9 7 kB ?_
    refine wpAnyH_done (by kernel_rfl) ?_ _
    refine NoPanic.normal ?_
    clear kM kB
    obtain ⟨FC, FR, FG, FT⟩ := FZ
    go_wp2
    obtain ⟨y0, y1, y2, y3, y4, y5, y6, y7, y8, y9, yf, yl⟩ := FR
    dsimp only at y0 y1 y2 y3 y4 y5 y6 y7 y8 y9
    refine bodyPost_ret (v := .tuple #[rwv (xr, .slice none 0 0), .bool (!(Ow.fellB oq))]) (by simp [results, Tryd.results23, go_sem, y0, y1, y2, y3, y4, y5, y6, y7, y8, y9, rwv]) rfl ?_
    exact ⟨xr, _, rfl, by rw [hr.out.2.2.1], FC.to hr.out.1 hr.out.2.1, FG, hr.out.2.2.2⟩

set_option maxHeartbeats 64000000 in
theorem told0_calls (b : Nat) (s : List UInt8) (w : World) (r00 : List UInt8) (h : ScO w b s (Ow.Out.ok () r00)) (hs : s.length ≤ 1900) (hne : ¬ r00.head? = some 69 ∧ ¬ r00.head? = some 84 ∧ ¬ r00.head? = some 85 ∧ ¬ r00.head? = some 72) :
    Calls Tryd.prog 23 #[.pointer (some ⟨b, 0, none⟩)] w fun e w' => ToldP w b s (Ow.told s.length r00) e w' := by
  have hblt := h.num.lt
  obtain ⟨Q, hQ⟩ : ∃ Q, Q = Ow.told s.length r00 := ⟨_, rfl⟩
  rw [← hQ]
  have HQ0 := Lib.hid (show Q = .fell r00 by
    rw [hQ]
    cases r00 with
    | nil => rfl
    | cons c l =>
      obtain ⟨h1, h2, h3, h4⟩ := hne
      simp only [List.head?_cons, Option.some.injEq] at h1 h2 h3 h4
      unfold Ow.told; simp only [h1, h2, h3, h4, if_false])
  have m1 : (Ow.hd r00 == (69 : Int)) = false := by have := Ow.hd_is (l := r00) (c := 69) (by decide); rw [decide_eq_false hne.1] at this; exact this
  have m2 : (Ow.hd r00 == (84 : Int)) = false := by have := Ow.hd_is (l := r00) (c := 84) (by decide); rw [decide_eq_false hne.2.1] at this; exact this
  have m3 : (Ow.hd r00 == (85 : Int)) = false := by have := Ow.hd_is (l := r00) (c := 85) (by decide); rw [decide_eq_false hne.2.2.1] at this; exact this
  have m4 : (Ow.hd r00 == (72 : Int)) = false := by have := Ow.hd_is (l := r00) (c := 72) (by decide); rw [decide_eq_false hne.2.2.2] at this; exact this
  obtain ⟨W1, hW1⟩ : ∃ X, X = (w.alloc (.cells #[.int .i64 0, .string ⟨#[]⟩, .int .i64 0, .slice none 0 0, .slice none 0 0, .string ⟨#[]⟩, .int .i64 0, .bool false, .string ⟨#[]⟩, .int .i64 0] 42)).alloc (.cells #[.int .i64 0, .string ⟨#[]⟩, .int .i64 0, .slice none 0 0, .slice none 0 0, .string ⟨#[]⟩, .int .i64 0, .bool false, .string ⟨#[]⟩, .int .i64 0] 42) := ⟨_, rfl⟩
  have B1 : Below w.heap.size w W1 := by rw [hW1]; exact ((Below.refl _ _).alloc (Nat.le_refl _) _).alloc (by simp) _
  have R1 := (show RwAt W1 w.heap.size (⟨0, [], 0, [], [], 0, false, [], 0⟩, .slice none 0 0) by rw [hW1]; exact (RwAt.new w 0 0 _).belowB (B := w.heap.size + 1) ((Below.refl _ _).alloc (Nat.le_of_eq (al_size _ _).symm) _) (Nat.lt_succ_self _))
  have Q1 := (show RwAt W1 (w.heap.size + 1) (⟨0, [], 0, [], [], 0, false, [], 0⟩, .slice none 0 0) by rw [hW1]; have := RwAt.new (w.alloc (.cells #[.int .i64 0, .string ⟨#[]⟩, .int .i64 0, .slice none 0 0, .slice none 0 0, .string ⟨#[]⟩, .int .i64 0, .bool false, .string ⟨#[]⟩, .int .i64 0] 42)) 0 0 42; rw [al_size] at this; exact this)
  have SI := Lib.hid (show RmAt w W1 b s (Ow.Out.ok () r00) ⟨0, [], 0, [], [], 0, false, [], 0⟩ (.slice none 0 0) [] from ⟨h.below B1, Q1, R1, sc_below B1 (some b), KOwn.nil _ _ _ _ _, hblt⟩)
  have HW1 := Lib.hid hW1
  clear hQ hW1 B1 R1 Q1 h
  go_enter Tryd.func23, Tryd.ntmps23
  go_wp2_with fail
  rw [← HW1.out]
  clear HW1
  refine (scnext_calls (Ow.Out.ok () r00) b s W1 SI.out.C (by unfold maxLen; omega)).mono ?_; rintro e w0 ⟨rfl, b0⟩
  have S0 := Lib.hid (SI.out.call (sc_below b0 _) (SI.out.C.below b0))
  rw [show (Ow.Out.ok () r00).rest = r00 from rfl]
  generalize Ow.hd r00 = HD at *
  clear b0 SI
  have CM := S0.out.C.fall9 (Ow.Out.fell r00 : Ow.Out Unit) rfl rfl
  have S1 := Lib.hid (S0.out.call (sc_set (sc_below (Below.refl _ _) _)) CM)
  obtain ⟨c0, c1, c2, cf, cl⟩ := S0.out.C.num
  obtain ⟨oz, hoz⟩ : ∃ o : Ow.Out Unit, o = .fell r00 := ⟨_, rfl⟩
  rw [← hoz] at S1
  have HQ := Lib.hid (show Q = oz.bind fun _ r => Ow.head 0 s.length r by rw [hoz]; exact HQ0.out)
  clear S0 CM HQ0
  go_upto_region 19 with fail
  obtain ⟨of, hof⟩ : ∃ k, k = s.length - oz.rest.length := ⟨_, rfl⟩
  obtain ⟨c0, c1, c2, cf, cl⟩ := S1.out.C.num
  rw [← hof] at c1
  have HOF := Lib.hid hof
  clear hof
  obtain ⟨z0, z1, z2, z3, z4, z5, z6, z7, z8, z9, zf, zl⟩ := S1.out.R
  have S2 := Lib.hid (S1.out.sto (S1.out.R.set2 of))
  clear S1
  go_wp2_with fail
  clear z0 z1 z2 z3 z4 z5 z6 z7 z8 z9 zf zl c0 c1 c2 cf cl
  refine (run_calls oz 2 [] true b s _ S2.out.C (by unfold maxLen; simp) (by unfold maxLen; omega)).mono ?_; rintro e w3 ⟨⟨x3, rfl, hx3⟩, g3, C3⟩
  obtain ⟨nm, rfl⟩ := text_is x3
  obtain ⟨o1, ho1⟩ : ∃ o, o = oz.bind fun _ r => Ow.run 2 [] true r := ⟨_, rfl⟩
  rw [← ho1] at C3 hx3
  have hn1 : ∀ v r, o1 = .ok v r → nm = v := fun v r e => str_inj (hx3 v r e)
  have S3 := Lib.hid (S2.out.call g3 C3)
  obtain ⟨z0, z1, z2, z3, z4, z5, z6, z7, z8, z9, zf, zl⟩ := S3.out.R
  have S4 := Lib.hid (S3.out.sto (S3.out.R.set1 nm))
  clear g3 C3 S2 S3 hx3
  go_wp2_with fail
  clear z0 z1 z2 z3 z4 z5 z6 z7 z8 z9 zf zl
  refine (scl_calls o1 [32] b s _ S4.out.C (by decide) (by unfold maxLen; omega)).mono ?_; rintro e w5 ⟨rfl, g5, C5⟩
  obtain ⟨o2, ho2⟩ : ∃ o, o = o1.bind fun _ r => Ow.lit [32] r := ⟨_, rfl⟩
  rw [← ho2] at C5
  have S5 := Lib.hid (S4.out.call g5 C5)
  obtain ⟨at_, hat⟩ : ∃ k, k = s.length - o2.rest.length := ⟨_, rfl⟩
  obtain ⟨c0, c1, c2, cf, cl⟩ := S5.out.C.num
  rw [← hat] at c1
  have HAT := Lib.hid hat
  clear hat
  obtain ⟨z0, z1, z2, z3, z4, z5, z6, z7, z8, z9, zf, zl⟩ := S5.out.R
  have S6 := Lib.hid (S5.out.sto (S5.out.R.set6 at_))
  clear g5 C5 S4 S5
  cases hP2 : o2 with
  | fell r2 =>
    rw [hP2] at S6 c2
    have hQf : Q = .fell r2 := by
      rw [HQ.out]
      rw [hP2] at ho2
      cases hz : oz with
      | fell r =>
        rw [hz] at ho1; rw [ho1] at ho2
        have e : r2 = r := by injection ho2
        rw [e]; rfl
      | ok u r =>
        rw [hz] at ho1
        have ho1 : o1 = Ow.run 2 [] true r := ho1
        show Ow.head 0 s.length r = _
        unfold Ow.head
        rw [← ho1]
        cases h1 : o1 with
        | fell r' =>
          rw [h1] at ho2
          have e : r2 = r' := by injection ho2
          rw [e]; rfl
        | ok v r' =>
          rw [h1] at ho2
          have ho2 : Ow.Out.fell r2 = Ow.lit [32] r' := ho2
          show (Ow.lit [32] r').bind _ = _; rw [← ho2]; rfl
    obtain ⟨xr, hxr⟩ : ∃ xr : Ow.Rw, xr = ⟨0, nm, of, [], [], at_, false, [], 0⟩ := ⟨_, rfl⟩
    obtain ⟨oq, hoq⟩ : ∃ o : Ow.Out Unit, o = .fell r2 := ⟨_, rfl⟩
    have SX := Lib.hid (show RmAt w (w5.setCell ⟨w.heap.size + 1, 6, none⟩ (.int .i64 (at_ : Nat))) b s oq xr (.slice none 0 0) [] by rw [hxr, hoq]; have := S6.out; exact ⟨this.C, by obtain ⟨z0, z1, z2, z3, z4, z5, z6, z7, z8, z9, zf, zl⟩ := this.R; exact ⟨z0, z1, z2, z3, z4, z5, z6, z7, z8, z9, zf, zl⟩, this.Z, this.G, this.T, this.l1⟩)
    have hr := Lib.hid (show Q.rest = oq.rest ∧ Ow.fellB Q = Ow.fellB oq ∧ Ow.onB Q = !(Ow.fellB oq) ∧ ∀ R r, Q = .ok (some R) r → xr = R ∧ R.tags = [] by
      rw [hQf, hoq]; exact ⟨rfl, rfl, rfl, fun R r e => (by cases e)⟩)
    have c2 : (w5).cell? ⟨b, 2, none⟩ = some (.bool true) := c2
    clear S6 HQ hQf ho1 ho2 hn1 HAT HOF hxr hoq hP2
    go_upto_region 29 with fail
    obtain ⟨WB, hWB⟩ : ∃ X, X = (w5.setCell ⟨w.heap.size + 1, 6, none⟩ (.int .i64 (at_ : Nat))) := ⟨_, rfl⟩
    rw [← hWB] at SX ⊢
    clear hWB
    refine wp_region_noPanic ?_
    refine wp_region_held_drew (S := fun X => Below 0 WB X) (by kernel_rfl) ?_ (fun hHeld => ?_)
    · exact Below.drew (Below.refl _ _)
    have kB : Below 0 WB WB.drew := Below.drew (Below.refl _ _)
    clear hHeld
    have kM := SX.out.call (sc_below (below_drewN (Below.refl _ _) 1) _) (SX.out.C.below (below_drewN (Below.refl _ _) 1))
    change RmAt w WB.drew _ _ _ _ _ _ at kM
    obtain ⟨WD, hWD⟩ : ∃ X, X = WB.drew := ⟨_, rfl⟩
    rw [← hWD] at kB kM ⊢
    clear hWD
    refine tk9 1 kB ?_
    refine tk9 2 kB ?_
    refine tk9 3 kB ?_
    refine wpAnyH_ready (rs := [0, 4]) (by kernel_rfl) (by simp) ?_
    refine AllReadyH.cons (by simp only [List.getElem?_toArray, List.getElem?_cons_succ, List.getElem?_cons_zero]; rfl) (fun K hK => ?_) ?_
    · obtain ⟨z0, z1, z2, z3, z4, z5, z6, z7, z8, z9, zf, zl⟩ := kM.R
      dsimp only at z0 z1 z2 z3 z4 z5 z6 z7 z8 z9
      go_simp
      clear z0 z1 z2 z3 z4 z5 z6 z7 z8 z9 zf zl
      refine hK.out _ _ kB (fun hHeld => ?_)
      clear hK K hHeld
      (try simp only [Act.put, List.setIfInBounds_toArray, List.set_cons_zero, List.set_cons_succ])
      refine wpAnyH_ready (rs := [4, 6]) (by kernel_rfl) (by simp) ?_
      refine AllReadyH.cons (by simp only [List.getElem?_toArray, List.getElem?_cons_succ, List.getElem?_cons_zero]; rfl) (fun K hK => ?_) ?_
      · obtain ⟨c0, c1, c2, cf, cl⟩ := kM.C.num
        go_simp
        clear c0 c1 c2 cf cl
        refine hK.out _ _ kB (fun hHeld => ?_)
        clear hK K hHeld
        (try simp only [Act.put, List.setIfInBounds_toArray, List.set_cons_zero, List.set_cons_succ])
        refine tk9 5 kB ?_
        refine wpAnyH_ready (rs := [6]) (by kernel_rfl) (by simp) ?_
        refine AllReadyH.cons (by simp only [List.getElem?_toArray, List.getElem?_cons_succ, List.getElem?_cons_zero]; rfl) (fun K hK => ?_) AllReadyH.nil
        have FZ := kM.fin
        obtain ⟨y0, y1, y2, y3, y4, y5, y6, y7, y8, y9, yf, yl⟩ := kM.Z
        dsimp only at y0 y1 y2 y3 y4 y5 y6 y7 y8 y9
        go_simp
        clear y0 y1 y2 y3 y4 y5 y6 y7 y8 y9 yf yl
        replace kB : Below 0 WB ((((((((((WD.setCell ⟨w.heap.size, 0, none⟩ (.int .i64 xr.k)).setCell ⟨w.heap.size, 1, none⟩ (.string (str xr.n))).setCell ⟨w.heap.size, 2, none⟩ (.int .i64 (xr.off : Nat))).setCell ⟨w.heap.size, 3, none⟩ (.slice none 0 0)).setCell ⟨w.heap.size, 4, none⟩ (.slice none 0 0)).setCell ⟨w.heap.size, 5, none⟩ (.string (str xr.text))).setCell ⟨w.heap.size, 6, none⟩ (.int .i64 (xr.at_ : Nat))).setCell ⟨w.heap.size, 7, none⟩ (.bool xr.td)).setCell ⟨w.heap.size, 8, none⟩ (.string (str xr.tm))).setCell ⟨w.heap.size, 9, none⟩ (.int .i64 (xr.wh : Nat))) := b0_grown kB grown_ten
        obtain ⟨WZ, hWZ⟩ : ∃ X, X = ((((((((((WD.setCell ⟨w.heap.size, 0, none⟩ (.int .i64 xr.k)).setCell ⟨w.heap.size, 1, none⟩ (.string (str xr.n))).setCell ⟨w.heap.size, 2, none⟩ (.int .i64 (xr.off : Nat))).setCell ⟨w.heap.size, 3, none⟩ (.slice none 0 0)).setCell ⟨w.heap.size, 4, none⟩ (.slice none 0 0)).setCell ⟨w.heap.size, 5, none⟩ (.string (str xr.text))).setCell ⟨w.heap.size, 6, none⟩ (.int .i64 (xr.at_ : Nat))).setCell ⟨w.heap.size, 7, none⟩ (.bool xr.td)).setCell ⟨w.heap.size, 8, none⟩ (.string (str xr.tm))).setCell ⟨w.heap.size, 9, none⟩ (.int .i64 (xr.wh : Nat))) := ⟨_, rfl⟩
        rw [← hWZ] at FZ kB ⊢
        clear hWZ
        refine hK.out _ _ kB (fun hHeld => ?_)
        clear hK K hHeld
        (try simp only [Act.put, List.setIfInBounds_toArray, List.set_cons_zero, List.set_cons_succ])
        refine tk9 7 kB ?_
        refine wpAnyH_done (by kernel_rfl) ?_ _
        refine NoPanic.normal ?_
        clear kM kB
        obtain ⟨FC, FR, FG, FT⟩ := FZ
        go_wp2
        obtain ⟨y0, y1, y2, y3, y4, y5, y6, y7, y8, y9, yf, yl⟩ := FR
        dsimp only at y0 y1 y2 y3 y4 y5 y6 y7 y8 y9
        refine bodyPost_ret (v := .tuple #[rwv (xr, .slice none 0 0), .bool (!(Ow.fellB oq))]) (by simp [results, Tryd.results23, go_sem, y0, y1, y2, y3, y4, y5, y6, y7, y8, y9, rwv]) rfl ?_
        exact ⟨xr, _, rfl, by rw [hr.out.2.2.1], FC.to hr.out.1 hr.out.2.1, FG, hr.out.2.2.2⟩
      refine AllReadyH.cons (by simp only [List.getElem?_toArray, List.getElem?_cons_succ, List.getElem?_cons_zero]; rfl) (fun K hK => ?_) AllReadyH.nil
      have FZ := kM.fin
      obtain ⟨y0, y1, y2, y3, y4, y5, y6, y7, y8, y9, yf, yl⟩ := kM.Z
      dsimp only at y0 y1 y2 y3 y4 y5 y6 y7 y8 y9
      go_simp
      clear y0 y1 y2 y3 y4 y5 y6 y7 y8 y9 yf yl
      replace kB : Below 0 WB ((((((((((WD.setCell ⟨w.heap.size, 0, none⟩ (.int .i64 xr.k)).setCell ⟨w.heap.size, 1, none⟩ (.string (str xr.n))).setCell ⟨w.heap.size, 2, none⟩ (.int .i64 (xr.off : Nat))).setCell ⟨w.heap.size, 3, none⟩ (.slice none 0 0)).setCell ⟨w.heap.size, 4, none⟩ (.slice none 0 0)).setCell ⟨w.heap.size, 5, none⟩ (.string (str xr.text))).setCell ⟨w.heap.size, 6, none⟩ (.int .i64 (xr.at_ : Nat))).setCell ⟨w.heap.size, 7, none⟩ (.bool xr.td)).setCell ⟨w.heap.size, 8, none⟩ (.string (str xr.tm))).setCell ⟨w.heap.size, 9, none⟩ (.int .i64 (xr.wh : Nat))) := b0_grown kB grown_ten
      obtain ⟨WZ, hWZ⟩ : ∃ X, X = ((((((((((WD.setCell ⟨w.heap.size, 0, none⟩ (.int .i64 xr.k)).setCell ⟨w.heap.size, 1, none⟩ (.string (str xr.n))).setCell ⟨w.heap.size, 2, none⟩ (.int .i64 (xr.off : Nat))).setCell ⟨w.heap.size, 3, none⟩ (.slice none 0 0)).setCell ⟨w.heap.size, 4, none⟩ (.slice none 0 0)).setCell ⟨w.heap.size, 5, none⟩ (.string (str xr.text))).setCell ⟨w.heap.size, 6, none⟩ (.int .i64 (xr.at_ : Nat))).setCell ⟨w.heap.size, 7, none⟩ (.bool xr.td)).setCell ⟨w.heap.size, 8, none⟩ (.string (str xr.tm))).setCell ⟨w.heap.size, 9, none⟩ (.int .i64 (xr.wh : Nat))) := ⟨_, rfl⟩
      rw [← hWZ] at FZ kB ⊢
      clear hWZ
      refine hK.out _ _ kB (fun hHeld => ?_)
      clear hK K hHeld
      (try simp only [Act.put, List.setIfInBounds_toArray, List.set_cons_zero, List.set_cons_succ])
      refine wpAnyH_ready (rs := [4]) (by kernel_rfl) (by simp) ?_
      refine AllReadyH.cons (by simp only [List.getElem?_toArray, List.getElem?_cons_succ, List.getElem?_cons_zero]; rfl) (fun K hK => ?_) AllReadyH.nil
      obtain ⟨c0, c1, c2, cf, cl⟩ := FZ.1.num
      go_simp
      clear c0 c1 c2 cf cl
      refine hK.out _ _ kB (fun hHeld => ?_)
      clear hK K hHeld
      (try simp only [Act.put, List.setIfInBounds_toArray, List.set_cons_zero, List.set_cons_succ])
      refine tk9 5 kB ?_
      refine tk9 7 kB ?_
      refine wpAnyH_done (by kernel_rfl) ?_ _
      refine NoPanic.normal ?_
      clear kM kB
      obtain ⟨FC, FR, FG, FT⟩ := FZ
      go_wp2
      obtain ⟨y0, y1, y2, y3, y4, y5, y6, y7, y8, y9, yf, yl⟩ := FR
      dsimp only at y0 y1 y2 y3 y4 y5 y6 y7 y8 y9
      refine bodyPost_ret (v := .tuple #[rwv (xr, .slice none 0 0), .bool (!(Ow.fellB oq))]) (by simp [results, Tryd.results23, go_sem, y0, y1, y2, y3, y4, y5, y6, y7, y8, y9, rwv]) rfl ?_
      exact ⟨xr, _, rfl, by rw [hr.out.2.2.1], FC.to hr.out.1 hr.out.2.1, FG, hr.out.2.2.2⟩
    refine AllReadyH.cons (by simp only [List.getElem?_toArray, List.getElem?_cons_succ, List.getElem?_cons_zero]; rfl) (fun K hK => ?_) AllReadyH.nil
    obtain ⟨c0, c1, c2, cf, cl⟩ := kM.C.num
    go_simp
    clear c0 c1 c2 cf cl
    refine hK.out _ _ kB (fun hHeld => ?_)
    clear hK K hHeld
    (try simp only [Act.put, List.setIfInBounds_toArray, List.set_cons_zero, List.set_cons_succ])
    refine tk9 5 kB ?_
    refine wpAnyH_ready (rs := [0]) (by kernel_rfl) (by simp) ?_
    refine AllReadyH.cons (by simp only [List.getElem?_toArray, List.getElem?_cons_succ, List.getElem?_cons_zero]; rfl) (fun K hK => ?_) AllReadyH.nil
    obtain ⟨z0, z1, z2, z3, z4, z5, z6, z7, z8, z9, zf, zl⟩ := kM.R
    dsimp only at z0 z1 z2 z3 z4 z5 z6 z7 z8 z9
    go_simp
    clear z0 z1 z2 z3 z4 z5 z6 z7 z8 z9 zf zl
    refine hK.out _ _ kB (fun hHeld => ?_)
    clear hK K hHeld
    (try simp only [Act.put, List.setIfInBounds_toArray, List.set_cons_zero, List.set_cons_succ])
    refine wpAnyH_ready (rs := [6]) (by kernel_rfl) (by simp) ?_
    refine AllReadyH.cons (by simp only [List.getElem?_toArray, List.getElem?_cons_succ, List.getElem?_cons_zero]; rfl) (fun K hK => ?_) AllReadyH.nil
    have FZ := kM.fin
    obtain ⟨y0, y1, y2, y3, y4, y5, y6, y7, y8, y9, yf, yl⟩ := kM.Z
    dsimp only at y0 y1 y2 y3 y4 y5 y6 y7 y8 y9
    go_simp
    clear y0 y1 y2 y3 y4 y5 y6 y7 y8 y9 yf yl
    replace kB : Below 0 WB ((((((((((WD.setCell ⟨w.heap.size, 0, none⟩ (.int .i64 xr.k)).setCell ⟨w.heap.size, 1, none⟩ (.string (str xr.n))).setCell ⟨w.heap.size, 2, none⟩ (.int .i64 (xr.off : Nat))).setCell ⟨w.heap.size, 3, none⟩ (.slice none 0 0)).setCell ⟨w.heap.size, 4, none⟩ (.slice none 0 0)).setCell ⟨w.heap.size, 5, none⟩ (.string (str xr.text))).setCell ⟨w.heap.size, 6, none⟩ (.int .i64 (xr.at_ : Nat))).setCell ⟨w.heap.size, 7, none⟩ (.bool xr.td)).setCell ⟨w.heap.size, 8, none⟩ (.string (str xr.tm))).setCell ⟨w.heap.size, 9, none⟩ (.int .i64 (xr.wh : Nat))) := b0_grown kB grown_ten
    obtain ⟨WZ, hWZ⟩ : ∃ X, X = ((((((((((WD.setCell ⟨w.heap.size, 0, none⟩ (.int .i64 xr.k)).setCell ⟨w.heap.size, 1, none⟩ (.string (str xr.n))).setCell ⟨w.heap.size, 2, none⟩ (.int .i64 (xr.off : Nat))).setCell ⟨w.heap.size, 3, none⟩ (.slice none 0 0)).setCell ⟨w.heap.size, 4, none⟩ (.slice none 0 0)).setCell ⟨w.heap.size, 5, none⟩ (.string (str xr.text))).setCell ⟨w.heap.size, 6, none⟩ (.int .i64 (xr.at_ : Nat))).setCell ⟨w.heap.size, 7, none⟩ (.bool xr.td)).setCell ⟨w.heap.size, 8, none⟩ (.string (str xr.tm))).setCell ⟨w.heap.size, 9, none⟩ (.int .i64 (xr.wh : Nat))) := ⟨_, rfl⟩
    rw [← hWZ] at FZ kB ⊢
    clear hWZ
    refine hK.out _ _ kB (fun hHeld => ?_)
    clear hK K hHeld
    (try simp only [Act.put, List.setIfInBounds_toArray, List.set_cons_zero, List.set_cons_succ])
    refine tk9 7 kB ?_
    refine wpAnyH_done (by kernel_rfl) ?_ _
    refine NoPanic.normal ?_
    clear kM kB
    obtain ⟨FC, FR, FG, FT⟩ := FZ
    go_wp2
    obtain ⟨y0, y1, y2, y3, y4, y5, y6, y7, y8, y9, yf, yl⟩ := FR
    dsimp only at y0 y1 y2 y3 y4 y5 y6 y7 y8 y9
    refine bodyPost_ret (v := .tuple #[rwv (xr, .slice none 0 0), .bool (!(Ow.fellB oq))]) (by simp [results, Tryd.results23, go_sem, y0, y1, y2, y3, y4, y5, y6, y7, y8, y9, rwv]) rfl ?_
    exact ⟨xr, _, rfl, by rw [hr.out.2.2.1], FC.to hr.out.1 hr.out.2.1, FG, hr.out.2.2.2⟩
  | ok u r2 =>
    exfalso
    rw [ho2, ho1, hoz] at hP2
    cases hP2

end Go.Proofs.YthniemoganoapaaDoor
