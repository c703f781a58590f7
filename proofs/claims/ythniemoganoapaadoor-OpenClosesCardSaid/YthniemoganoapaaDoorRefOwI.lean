/- The walk of Scan's tags (layer 17, the reference). -/
import Derived.Test.YthniemoganoapaaDoorOpF
set_option maxRecDepth 100000
set_option linter.unusedVariables false
set_option linter.unusedSimpArgs false
namespace Go.Proofs.YthniemoganoapaaDoor
open Go.RowKit
attribute [local go_sem ↓] Go.wp_at_zero Go.wp_at_succ

theorem ScA.gro9 {w w' : World} {b k : Nat} {s : List UInt8} {f : Bool} {row : Option Nat} (h : ScA w b s k f) (hg : w.grownBy w' row) (hne : some b ≠ row) : ScA w' b s k f :=
  ⟨(hg.cell_far ⟨b, 0, none⟩ h.lt hne).trans h.c0, (hg.cell_far ⟨b, 1, none⟩ h.lt hne).trans h.c1, (hg.cell_far ⟨b, 2, none⟩ h.lt hne).trans h.c2, fun o => (hg.frozen_far ⟨b, o, none⟩ h.lt hne).trans (h.fr o), Nat.lt_of_lt_of_le h.lt hg.size⟩
theorem ScO.grown {α : Type} {w w' : World} {b : Nat} {s : List UInt8} {o : Ow.Out α} {row : Option Nat} (h : ScO w b s o) (hg : w.grownBy w' row) (hne : some b ≠ row) : ScO w' b s o := ⟨h.suf, h.num.gro9 hg hne⟩

theorem own_kd9 {w : World} {base e size n : Nat} {v : Value} {xs : List Value} (h : w.ownsRow base e size v n xs) : ∀ g, v.ownBlock = some g → ∃ c fz, w.heap[g]? = some (.cells c e fz) := by
  intro g hg
  rcases h.2 with ⟨rfl, _⟩ | ⟨g', cap, cur, rfl, _, h2, _⟩
  · cases hg
  · cases hg; exact ⟨_, _, h2⟩
theorem own_lt9 {w : World} {base e size n : Nat} {v : Value} {xs : List Value} (h : w.ownsRow base e size v n xs) : ∀ k, v.ownBlock = some k → k < w.heap.size := by
  intro k hk
  obtain ⟨c, f, hc⟩ := own_kd9 h k hk
  exact (Array.getElem?_eq_some_iff.1 hc).1

set_option maxHeartbeats 32000000 in
theorem sctags_calls (b br : Nat) (s : List UInt8) (w : World) (r00 : List UInt8) (x : Ow.Rw) (h : ScO w b s (Ow.Out.ok () r00)) (hr : RwAt w br (x, .slice none 0 0)) (hbb : b < br) (hs : s.length ≤ 1900) :
    Calls Tryd.prog 32 #[.pointer (some ⟨b, 0, none⟩), .pointer (some ⟨br, 0, none⟩)] w fun e w' =>
      e = .returned (.tuple #[]) ∧ ∃ A n cap L, ScO w' b s (Ow.tags s.length r00) ∧ RwAt w' br (x, .slice A n cap) ∧ Gr2 w w' b br ∧ TgOwn w' w.heap.size (.slice A n cap) L ∧ ∀ M r, Ow.tags s.length r00 = .ok M r → M = L := by
  have hbr := hr.lt
  have hs00 : r00.length ≤ s.length := h.suf.length_le
  obtain ⟨Q, hQ⟩ : ∃ Q, Q = Ow.tags s.length r00 := ⟨_, rfl⟩
  rw [← hQ]
  have HQ0 := Lib.hid (show Q = ((Ow.Out.ok () r00).bind fun _ r => Ow.tagsF (r00.length + 1) s.length r).map ([] ++ ·) by rw [hQ]; exact (by cases h : Ow.tagsF (r00.length + 1) s.length r00 <;> (unfold Ow.tags; rw [h]; simp [Ow.Out.map, Ow.Out.bind, h])))
  have S0 := Lib.hid h
  have R0 := Lib.hid hr
  have G0 := Lib.hid (Gr2.refl w b br)
  clear hQ h hr
  go_enter Tryd.func32, Tryd.ntmps32
  go_wp2_with fail
  go_loopg [5] (r00.length + 1) (fun g _ wr => ∃ (o' : Ow.Out Unit) (f : Nat) (L : List Ow.Tg) (A : Option Addr) (n cap : Nat), g = o'.rest.length + 1 ∧ o'.rest.length < f ∧ L.length + o'.rest.length ≤ s.length ∧ Hid (ScO wr b s o') ∧ Hid (RwAt wr br (x, .slice A n cap)) ∧ Hid (Gr2 w wr b br) ∧ Hid (TgOwn wr w.heap.size (.slice A n cap) L) ∧ Hid (Q = (o'.bind fun _ r => Ow.tagsF f s.length r).map (L ++ ·)))
  case atStart => exact ⟨_, _, [], none, 0, 0, rfl, Nat.lt_succ_self _, by show 0 + r00.length ≤ _; omega, S0, R0, G0, Lib.hid (KOwn.nil _ _ _ _ _), HQ0⟩
  case round =>
    clear S0 R0 G0 HQ0
    obtain ⟨o', f, L, A, n, cap, hg, hf, hL, S1, R1, G1, T1, HQ⟩ := hrel
    have HGg := Lib.hid hg
    clear hg
    obtain ⟨c0, c1, c2, cf, cl⟩ := S1.out.num
    cases o' with
    | fell r =>
      have hr := Lib.hid (show Q = .fell r from HQ.out)
      go_wp2_with fail
      refine (scl_calls _ [125] b s wr S1.out (by decide) (by unfold maxLen; omega)).mono ?_; rintro e w9 ⟨rfl, g9, S9⟩
      have SZ := Lib.hid (show ScO w9 b s Q from S9.to (by rw [hr.out]; rfl) (by rw [hr.out]; rfl))
      go_wp2
      go_end0
      exact ⟨rfl, _, _, _, _, SZ.out, R1.out.grown g9 (by intro e; injection e; omega), G1.out.one g9 (fun q e => by injection e with e; exact Or.inl e.symm), ko_grown T1.out g9 (by omega), fun M r e => (by rw [hr.out] at e; cases e)⟩
    | ok u0 r0 =>
      obtain ⟨f, rfl⟩ : ∃ f', f = f' + 1 := ⟨f - 1, by omega⟩
      have hf2 : r0.length < f + 1 := hf
      have hL2 : L.length + r0.length ≤ s.length := hL
      have HQ1 := Lib.hid (show Q = ((Ow.tag1 s.length r0).bind fun t r => if r.head? = some 44 then (Ow.tagsF f s.length r.tail).map (t :: ·) else (Ow.lit [125] r).bind fun _ r' => .ok [t] r').map (L ++ ·) by rw [HQ.out]; rfl)
      clear HQ hf hL
      obtain ⟨of, hof⟩ : ∃ k, k = s.length - r0.length := ⟨_, rfl⟩
      rw [show s.length - (Ow.Out.ok u0 r0).rest.length = of from hof.symm] at c1
      have HOF := Lib.hid hof
      clear hof
      obtain ⟨W2, hW2⟩ : ∃ X, X = wr.alloc (.cells #[.string ⟨#[]⟩, .string ⟨#[]⟩, .int .i64 (of : Nat), .int .i64 0] 44) := ⟨_, rfl⟩
      have b2 : Below wr.heap.size wr W2 := by rw [hW2]; exact (Below.refl _ _).alloc (Nat.le_refl _) _
      obtain ⟨bt, hbt⟩ : ∃ z, z = wr.heap.size := ⟨_, rfl⟩
      have hbtg : w.heap.size ≤ bt := by rw [hbt]; exact G1.out.size
      have t2 := Lib.hid (show TgAt W2 bt ⟨[], [], of, 0⟩ by rw [hW2, hbt]; exact TgAt.new wr of _)
      have S2 := Lib.hid (S1.out.below b2)
      have R2 := Lib.hid (R1.out.below b2)
      have G2 := Lib.hid (G1.out.below b2)
      have T2 := Lib.hid (KOwn.below T1.out b2)
      have kne : (Value.slice A n cap).ownBlock ≠ some bt := fun e => by have := own_lt9 T1.out _ e; omega
      clear b2 S1 R1 G1 T1
      have HW2 := Lib.hid hW2
      have HBT := Lib.hid hbt
      clear hW2 hbt
      go_wp2_with fail
      rw [← HW2.out, ← HBT.out]
      clear c0 c1 c2 cf cl
      refine (run_calls _ 3 [] true b s W2 S2.out (by unfold maxLen; simp) (by unfold maxLen; omega)).mono ?_; rintro e w3 ⟨⟨x1, rfl, hx1⟩, g3, S3⟩
      obtain ⟨nm, rfl⟩ := text_is x1
      obtain ⟨o1, ho1⟩ : ∃ o, o = Ow.run 3 [] true r0 := ⟨_, rfl⟩
      rw [show ((Ow.Out.ok u0 r0).bind fun _ r => Ow.run 3 [] true r) = o1 from ho1.symm] at S3 hx1
      have hn1 : ∀ v r, o1 = .ok v r → nm = v := fun v r e => str_inj (hx1 v r e)
      have gs : w3.grownBy (w3.setCell ⟨bt, 0, none⟩ (.string (str nm))) (some bt) := sc_set (sc_below (Below.refl _ _) _)
      have t3 := Lib.hid (t2.out.grown g3 (by intro e; injection e; omega))
      obtain ⟨y0, y1, y2, y3, yf, yl⟩ := t3.out
      have t4 := Lib.hid (t3.out.set0 nm)
      have S4 := Lib.hid (S3.grown gs (by intro e; injection e; omega))
      have R4 := Lib.hid ((R2.out.grown g3 (by intro e; injection e; omega)).grown gs (by intro e; injection e; omega))
      have G4 := Lib.hid ((G2.out.one g3 (fun q e => by injection e with e; exact Or.inl e.symm)).one gs (fun q e => by injection e with e; exact Or.inr (Or.inr (by omega))))
      have T4 := Lib.hid (World.ownsRow.kept (ko_grown T2.out g3 (by omega)) gs (Or.inr kne))
      clear S3 g3 gs S2 R2 G2 T2 t2 t3 hx1
      go_wp2_with fail
      clear y0 y1 y2 y3 yf yl
      obtain ⟨o2, ho2⟩ : ∃ o, o = o1.bind fun _ r => Ow.lit [61, 34] r := ⟨_, rfl⟩
      refine (scl_calls o1 [61, 34] b s _ S4.out (by unfold maxLen; simp) (by unfold maxLen; omega)).mono ?_; rintro e w5 ⟨rfl, g5, S5⟩
      rw [← ho2] at S5
      obtain ⟨at_, hat⟩ : ∃ k, k = s.length - o2.rest.length := ⟨_, rfl⟩
      have t5 := Lib.hid (t4.out.grown g5 (by intro e; injection e; omega))
      have R5 := Lib.hid (R4.out.grown g5 (by intro e; injection e; omega))
      have G5 := Lib.hid (G4.out.one g5 (fun q e => by injection e with e; exact Or.inl e.symm))
      have T5 := Lib.hid (ko_grown T4.out g5 (by omega))
      have S5 := Lib.hid S5
      obtain ⟨c0, c1, c2, cf, cl⟩ := S5.out.num
      rw [← hat] at c1
      have HAT := Lib.hid hat
      clear hat
      obtain ⟨y0, y1, y2, y3, yf, yl⟩ := t5.out
      have gs : w5.grownBy (w5.setCell ⟨bt, 3, none⟩ (.int .i64 (at_ : Nat))) (some bt) := sc_set (sc_below (Below.refl _ _) _)
      have t6 := Lib.hid (t5.out.set3 at_)
      have S6 := Lib.hid (S5.out.grown gs (by intro e; injection e; omega))
      have R6 := Lib.hid (R5.out.grown gs (by intro e; injection e; omega))
      have G6 := Lib.hid (G5.out.one gs (fun q e => by injection e with e; exact Or.inr (Or.inr (by omega))))
      have T6 := Lib.hid (World.ownsRow.kept T5.out gs (Or.inr kne))
      clear g5 gs S4 R4 G4 T4 t4 R5 G5 T5 t5
      go_wp2_with fail
      clear y0 y1 y2 y3 yf yl c0 c1 c2 cf cl S5
      obtain ⟨o3, ho3⟩ : ∃ o, o = o2.bind fun _ r => Ow.str 34 [10] [92, 34, 110] 110 r := ⟨_, rfl⟩
      refine (scstr_calls o2 34 [10] [92, 34, 110] 110 b s _ S6.out (by decide) (by unfold maxLen; simp) (by unfold maxLen; simp) (by omega)).mono ?_; rintro e wx ⟨⟨x3, rfl, hx3⟩, gx, Sx⟩
      obtain ⟨va, rfl⟩ := text_is x3
      rw [← ho3] at Sx hx3
      have hn3 : ∀ v r, o3 = .ok v r → va = v := fun v r e => str_inj (hx3 v r e)
      have gs : wx.grownBy (wx.setCell ⟨bt, 1, none⟩ (.string (str va))) (some bt) := sc_set (sc_below (Below.refl _ _) _)
      have tx := Lib.hid (t6.out.grown gx (by intro e; injection e; omega))
      obtain ⟨y0, y1, y2, y3, yf, yl⟩ := tx.out
      have ty := Lib.hid (tx.out.set1 va)
      have Sy := Lib.hid (Sx.grown gs (by intro e; injection e; omega))
      have Ry := Lib.hid ((R6.out.grown gx (by intro e; injection e; omega)).grown gs (by intro e; injection e; omega))
      have Gy := Lib.hid ((G6.out.one gx (fun q e => by injection e with e; exact Or.inl e.symm)).one gs (fun q e => by injection e with e; exact Or.inr (Or.inr (by omega))))
      have Ty := Lib.hid (World.ownsRow.kept (ko_grown T6.out gx (by omega)) gs (Or.inr kne))
      clear Sx gx gs S6 R6 G6 T6 t6 tx hx3
      go_wp2_with fail
      clear y0 y1 y2 y3 yf yl
      obtain ⟨o4, ho4⟩ : ∃ o, o = o3.bind fun _ r => Ow.lit [34] r := ⟨_, rfl⟩
      refine (scl_calls o3 [34] b s _ Sy.out (by unfold maxLen; simp) (by unfold maxLen; omega)).mono ?_; rintro e W7 ⟨rfl, g7, S7⟩
      rw [← ho4] at S7
      have H7 := Lib.hid S7
      have t7 := Lib.hid (ty.out.grown g7 (by intro e; injection e; omega))
      have R7 := Lib.hid (Ry.out.grown g7 (by intro e; injection e; omega))
      have G7 := Lib.hid (Gy.out.one g7 (fun q e => by injection e with e; exact Or.inl e.symm))
      have T7 := Lib.hid (ko_grown Ty.out g7 (by omega))
      have HTG := Lib.hid (Ow.tag1_parts (N := s.length) (l := r0) ho1 ho2 ho3 ho4)
      clear g7 S7 Sy Ry Gy Ty ty ho1 ho2 ho3 ho4 HW2 HBT kne
      go_upto_region 7 with fail
      refine wp_region_noPanic ?_
      refine wp_region_held_drew (S := fun X => Below 0 W7 X) (by kernel_rfl) ?_ (fun hHeld => ?_)
      · exact Below.drew (Below.refl _ _)
      have kB : Below 0 W7 W7.drew := Below.drew (Below.refl _ _)
      clear hHeld
      have kS := H7.out.below (below_drewN (Below.refl _ _) 1)
      have kR := R7.out.below (below_drewN (Below.refl _ _) 1)
      have kG := G7.out.below (below_drewN (Below.refl _ _) 1)
      have kT := KOwn.below T7.out (below_drewN (Below.refl _ _) 1)
      have kt := t7.out.belowB (below_drewN (Below.refl W7.heap.size W7) 1) t7.out.lt
      change ScO W7.drew _ _ _ at kS
      change RwAt W7.drew _ _ at kR
      change Gr2 _ W7.drew _ _ at kG
      change KOwn _ _ _ W7.drew _ _ _ at kT
      change TgAt W7.drew _ _ at kt
      obtain ⟨WD, hWD⟩ : ∃ X, X = W7.drew := ⟨_, rfl⟩
      rw [← hWD] at kB kS kR kG kT kt ⊢
      clear hWD
      refine tk9 0 kB ?_
      refine tk9 1 kB ?_
      refine tk9 2 kB ?_
      refine tk9 3 kB ?_
      refine wpAnyH_ready (rs := [4, 5]) (by kernel_rfl) (by simp) ?_
      refine AllReadyH.cons (by simp only [List.getElem?_toArray, List.getElem?_cons_succ, List.getElem?_cons_zero]; rfl) (fun K hK => ?_) ?_
      · have kR2 := kR
        obtain ⟨z0, z1, z2, z3, z4, z5, z6, z7, z8, z9, zf, zl⟩ := kR2
        go_simp
        clear z0 z1 z2 z3 z4 z5 z6 z7 z8 z9 zf zl
        refine hK.out _ _ kB (fun hHeld => ?_)
        clear hK K hHeld
        (try simp only [Act.put, List.setIfInBounds_toArray, List.set_cons_zero, List.set_cons_succ])
        refine wpAnyH_ready (rs := [5]) (by kernel_rfl) (by simp) ?_
        refine AllReadyH.cons (by simp only [List.getElem?_toArray, List.getElem?_cons_succ, List.getElem?_cons_zero]; rfl) (fun K hK => ?_) AllReadyH.nil
        have kt2 := kt
        obtain ⟨y0, y1, y2, y3, yf, yl⟩ := kt2
        go_simp
        clear y0 y1 y2 y3 yf yl
        refine hK.out _ _ kB (fun hHeld => ?_)
        clear hK K hHeld
        (try simp only [Act.put, List.setIfInBounds_toArray, List.set_cons_zero, List.set_cons_succ])
        refine wpAnyH_ready (rs := [6]) (by kernel_rfl) (by simp) ?_
        refine AllReadyH.cons (by simp only [List.getElem?_toArray, List.getElem?_cons_succ, List.getElem?_cons_zero]; rfl) (fun K hK => ?_) AllReadyH.nil
        go_simp
        have kX := tg_knew WD (⟨nm, va, of, at_⟩ : Ow.Tg)
        have bA := (Below.refl WD.heap.size WD).alloc (Nat.le_refl _) (.cells #[.string (str nm), .string (str va), .int .i64 (of : Nat), .int .i64 (at_ : Nat)] 44)
        replace kS := kS.below bA
        replace kR := kR.below bA
        replace kG := kG.below bA
        replace kT := KOwn.below kT bA
        replace kt := kt.belowB bA kt.lt
        replace kB := b0_grown kB (sc_below bA none)
        dsimp only at kX
        obtain ⟨W6, hW6⟩ : ∃ X, X = WD.alloc (.cells #[.string (str nm), .string (str va), .int .i64 (of : Nat), .int .i64 (at_ : Nat)] 44) := ⟨_, rfl⟩
        rw [← hW6] at kS kR kG kT kt kX kB ⊢
        clear hW6 bA
        refine hK.out _ _ kB (fun hHeld => ?_)
        clear hK K hHeld
        (try simp only [Act.put, List.setIfInBounds_toArray, List.set_cons_zero, List.set_cons_succ])
        refine wpAnyH_ready (rs := [7]) (by kernel_rfl) (by simp) ?_
        refine AllReadyH.cons (by simp only [List.getElem?_toArray, List.getElem?_cons_succ, List.getElem?_cons_zero]; rfl) (fun K hK => ?_) AllReadyH.nil
        refine step_append_krow tgTy encTg_len (by rfl) (.tmp 34) (.tmp 36) (by rfl) w.heap.size _ L (by rfl) kT _ [(⟨nm, va, of, at_⟩ : Ow.Tg)] (by rfl) kX (fun y hy => by rw [List.mem_singleton.1 hy]; exact encTg_one _) (by simp; omega) kG.size ?_
        intro v7 w7 o7 g7
        obtain ⟨A7, n7, cap7, rfl⟩ : ∃ A n cap, v7 = .slice A n cap := (by obtain ⟨A, cap, he, _⟩ := KOwn.row encTg_len o7; exact ⟨A, _, cap, he⟩)
        have kO := own_ge kT
        replace kS := kS.grown g7 (by intro e; have := kO _ e.symm; omega)
        replace kR := kR.grown g7 (by intro e; have := kO _ e.symm; omega)
        replace kG := kG.one g7 (fun q e => Or.inr (Or.inr (kO q e)))
        replace kB := b0_grown kB g7
        replace kT := o7
        clear kt kX kO o7 g7
        refine hK.out _ _ kB (fun hHeld => ?_)
        clear hK K hHeld
        (try simp only [Act.put, List.setIfInBounds_toArray, List.set_cons_zero, List.set_cons_succ])
        refine tk9 8 kB ?_
        refine tk9 9 kB ?_
        refine wpAnyH_ready (rs := [10]) (by kernel_rfl) (by simp) ?_
        refine AllReadyH.cons (by simp only [List.getElem?_toArray, List.getElem?_cons_succ, List.getElem?_cons_zero]; rfl) (fun K hK => ?_) AllReadyH.nil
        have kR2 := kR
        obtain ⟨z0, z1, z2, z3, z4, z5, z6, z7, z8, z9, zf, zl⟩ := kR2
        go_simp
        clear z0 z1 z2 z3 z4 z5 z6 z7 z8 z9 zf zl
        have gs : w7.grownBy (w7.setCell ⟨br, 3, none⟩ (.slice A7 n7 cap7)) (some br) := sc_set (sc_below (Below.refl _ _) _)
        replace kS := kS.grown gs (by intro e; injection e; omega)
        replace kR := kR.put3 (u := .slice A7 n7 cap7)
        replace kG := kG.one gs (fun q e => by injection e with e; exact Or.inr (Or.inl e.symm))
        replace kT := ko_grown kT gs hbr
        replace kB := b0_grown kB gs
        obtain ⟨WZ, hWZ⟩ : ∃ X, X = w7.setCell ⟨br, 3, none⟩ (.slice A7 n7 cap7) := ⟨_, rfl⟩
        rw [← hWZ] at kS kR kG kT kB ⊢
        clear hWZ gs
        refine hK.out _ _ kB (fun hHeld => ?_)
        clear hK K hHeld
        (try simp only [Act.put, List.setIfInBounds_toArray, List.set_cons_zero, List.set_cons_succ])
        refine wpAnyH_done (by kernel_rfl) ?_ _
        refine NoPanic.normal ?_
        have S8 := Lib.hid kS
        have R8 := Lib.hid kR
        have G8 := Lib.hid kG
        have T8 := Lib.hid kT
        clear kS kR kG kT kB H7 R7 G7 T7 t7
        obtain ⟨c0, c1, c2, cf, cl⟩ := S8.out.num
        rcases HTG.out with ⟨r, e4, ht⟩ | ⟨u, r, nm2, r1, va2, r3, e4, e1, e3, ht⟩
        · rw [e4] at c1 c2 S8
          have hr := Lib.hid (show Q = .fell r by rw [HQ1.out, ht]; rfl)
          go_wp2_with fail
          refine (scl_calls _ [125] b s WZ S8.out (by decide) (by unfold maxLen; omega)).mono ?_; rintro e w9 ⟨rfl, g9, S9⟩
          have SZ := Lib.hid (show ScO w9 b s Q from S9.to (by rw [hr.out]; rfl) (by rw [hr.out]; rfl))
          go_wp2
          go_end0
          exact ⟨rfl, _, _, _, _, SZ.out, R8.out.grown g9 (by intro e; injection e; omega), G8.out.one g9 (fun q e => by injection e with e; exact Or.inl e.symm), ko_grown T8.out g9 (by omega), fun M r e => (by rw [hr.out] at e; cases e)⟩
        · obtain rfl := hn1 _ _ e1
          obtain rfl := hn3 _ _ e3
          rw [e4] at c1 c2 S8
          have hnx := scnext_calls _ b s WZ S8.out (by unfold maxLen; omega)
          have hdm : (Ow.hd r == (44 : Int)) = decide (r.head? = some 44) := Ow.hd_is (l := r) (c := 44) (by decide)
          have hQ2 := Lib.hid (show Q = (if r.head? = some 44 then (Ow.tagsF f s.length r.tail).map ((⟨nm, va, of, at_⟩ : Ow.Tg) :: ·) else (Ow.lit [125] r).bind fun _ r' => .ok [(⟨nm, va, of, at_⟩ : Ow.Tg)] r').map (L ++ ·) by
            rw [HQ1.out, ht, HOF.out, HAT.out]; rfl)
          rw [show (Ow.Out.ok u r).rest = r from rfl] at hnx
          have hrs : r <:+ s := S8.out.suf
          have hcur : r.length ≤ r0.length := by
            have h1 := Ow.tag1_len ht
            exact h1
          by_cases q : r.head? = some 44
          · rw [decide_eq_true q] at hdm
            rw [if_pos q] at hQ2
            have hne : ((Ow.hd r) != (44 : Int)) = false := by rw [bne, hdm]; rfl
            generalize Ow.hd r = HD at *
            go_wp2_with fail
            refine hnx.mono ?_; rintro e w9 ⟨rfl, b9⟩
            have S9 := Lib.hid (S8.out.below b9)
            have R9 := Lib.hid (R8.out.below b9)
            have G9 := Lib.hid (G8.out.below b9)
            have T9 := Lib.hid (KOwn.below T8.out b9)
            clear hnx b9 S8 R8 G8 T8 c0 c1 c2 cf cl
            have hrt : r = 44 :: r.tail := Ow.head_some q
            have hkl : s.length - r.length + 1 = s.length - r.tail.length := by
              have h1 := hrs.length_le
              have h2 := congrArg List.length hrt
              simp only [List.length_cons] at h2
              omega
            have hrl : r.tail.length < r.length := by
              have h2 := congrArg List.length hrt
              simp only [List.length_cons] at h2
              omega
            obtain ⟨c0, c1, c2, cf, cl⟩ := S9.out.num
            obtain ⟨K2, hK2⟩ : ∃ k, k = s.length - r.tail.length := ⟨_, rfl⟩
            rw [show s.length - (Ow.Out.ok u r).rest.length = s.length - r.length from rfl] at c1
            obtain ⟨K1, hK1⟩ : ∃ k, k = s.length - r.length := ⟨_, rfl⟩
            rw [← hK1] at c1 hkl
            have hw : IntKind.i64.wrap ((K1 : Int) + 1) = (K2 : Int) := by
              rw [show (K1 : Int) + 1 = (K2 : Int) by omega]; exact IntWalk.i64_in _ (by omega)
            have SM := Lib.hid (show ScO (w9.setCell ⟨b, 1, none⟩ (.int .i64 (K2 : Nat))) b s (Ow.Out.ok () r.tail) from ⟨(List.tail_suffix r).trans hrs, by show ScA _ b s (s.length - r.tail.length) false; rw [← hK2]; exact S9.out.num.move K2⟩)
            have gm : w9.grownBy (w9.setCell ⟨b, 1, none⟩ (.int .i64 (K2 : Nat))) (some b) := sc_set (sc_below (Below.refl _ _) _)
            clear hK1 hK2 hkl
            have RM := Lib.hid (R9.out.grown gm (by intro e; injection e; omega))
            have GM := Lib.hid (G9.out.one gm (fun q e => by injection e with e; exact Or.inl e.symm))
            have TM := Lib.hid (ko_grown T9.out gm (by omega))
            have HQ3 := Lib.hid (show Q = ((Ow.Out.ok () r.tail).bind fun _ r => Ow.tagsF f s.length r).map ((L ++ [(⟨nm, va, of, at_⟩ : Ow.Tg)]) ++ ·) by
              rw [hQ2.out]; show Ow.Out.map (Ow.Out.map _ _) _ = Ow.Out.map (Ow.tagsF f s.length r.tail) _
              cases Ow.tagsF f s.length r.tail <;> simp [Ow.Out.map])
            clear hQ2 gm S9 R9 G9 T9 hrt hdm q
            go_wp2
            go_roundg (r.tail.length + 1)
            case measure => have hgg : _ = r0.length + 1 := HGg.out; omega
            case rel => exact ⟨Ow.Out.ok () r.tail, f, L ++ [(⟨nm, va, of, at_⟩ : Ow.Tg)], _, _, _, rfl, by show r.tail.length < f; omega, by simp only [List.length_append, List.length_cons, List.length_nil]; show _ + r.tail.length ≤ _; omega, SM, RM, GM, TM, HQ3⟩
          · rw [decide_eq_false q] at hdm
            rw [if_neg q] at hQ2
            have hne : ((Ow.hd r) != (44 : Int)) = true := by rw [bne, hdm]; rfl
            generalize Ow.hd r = HD at *
            go_wp2_with fail
            refine hnx.mono ?_; rintro e w9 ⟨rfl, b9⟩
            have S9 := Lib.hid (S8.out.below b9)
            have R9 := Lib.hid (R8.out.below b9)
            have G9 := Lib.hid (G8.out.below b9)
            have T9 := Lib.hid (KOwn.below T8.out b9)
            clear hnx b9 S8 R8 G8 T8 c0 c1 c2 cf cl hdm q
            go_wp2_with fail
            refine (scl_calls _ [125] b s w9 S9.out (by decide) (by unfold maxLen; omega)).mono ?_; rintro e wA ⟨rfl, gA, SA⟩
            have hq3 : Hid (Q = (Ow.lit [125] r).map fun _ => L ++ [(⟨nm, va, of, at_⟩ : Ow.Tg)]) := Lib.hid (by rw [hQ2.out]; cases Ow.lit [125] r <;> rfl)
            have SZ := Lib.hid (show ScO wA b s Q from SA.to (by rw [hq3.out]; show _ = (Ow.lit [125] r).rest; cases Ow.lit [125] r <;> rfl) (by rw [hq3.out]; show _ = Ow.fellB (Ow.lit [125] r); cases Ow.lit [125] r <;> rfl))
            have RZ := Lib.hid (R9.out.grown gA (by intro e; injection e; omega))
            have GZ := Lib.hid (G9.out.one gA (fun q e => by injection e with e; exact Or.inl e.symm))
            have TZ := Lib.hid (ko_grown T9.out gA (by omega))
            clear hQ2 SA gA S9 R9 G9 T9
            go_wp2
            go_end0
            exact ⟨rfl, _, _, _, _, SZ.out, RZ.out, GZ.out, TZ.out, fun M r2 e => (by rw [hq3.out] at e; cases hl : Ow.lit [125] r with | fell r => rw [hl] at e; cases e | ok u2 r => rw [hl] at e; injection e with e1 e2; exact e1.symm)⟩
      refine AllReadyH.cons (by simp only [List.getElem?_toArray, List.getElem?_cons_succ, List.getElem?_cons_zero]; rfl) (fun K hK => ?_) AllReadyH.nil
      have kt2 := kt
      obtain ⟨y0, y1, y2, y3, yf, yl⟩ := kt2
      go_simp
      clear y0 y1 y2 y3 yf yl
      refine hK.out _ _ kB (fun hHeld => ?_)
      clear hK K hHeld
      (try simp only [Act.put, List.setIfInBounds_toArray, List.set_cons_zero, List.set_cons_succ])
      refine wpAnyH_ready (rs := [4, 6]) (by kernel_rfl) (by simp) ?_
      refine AllReadyH.cons (by simp only [List.getElem?_toArray, List.getElem?_cons_succ, List.getElem?_cons_zero]; rfl) (fun K hK => ?_) ?_
      · have kR2 := kR
        obtain ⟨z0, z1, z2, z3, z4, z5, z6, z7, z8, z9, zf, zl⟩ := kR2
        go_simp
        clear z0 z1 z2 z3 z4 z5 z6 z7 z8 z9 zf zl
        refine hK.out _ _ kB (fun hHeld => ?_)
        clear hK K hHeld
        (try simp only [Act.put, List.setIfInBounds_toArray, List.set_cons_zero, List.set_cons_succ])
        refine wpAnyH_ready (rs := [6]) (by kernel_rfl) (by simp) ?_
        refine AllReadyH.cons (by simp only [List.getElem?_toArray, List.getElem?_cons_succ, List.getElem?_cons_zero]; rfl) (fun K hK => ?_) AllReadyH.nil
        go_simp
        have kX := tg_knew WD (⟨nm, va, of, at_⟩ : Ow.Tg)
        have bA := (Below.refl WD.heap.size WD).alloc (Nat.le_refl _) (.cells #[.string (str nm), .string (str va), .int .i64 (of : Nat), .int .i64 (at_ : Nat)] 44)
        replace kS := kS.below bA
        replace kR := kR.below bA
        replace kG := kG.below bA
        replace kT := KOwn.below kT bA
        replace kt := kt.belowB bA kt.lt
        replace kB := b0_grown kB (sc_below bA none)
        dsimp only at kX
        obtain ⟨W6, hW6⟩ : ∃ X, X = WD.alloc (.cells #[.string (str nm), .string (str va), .int .i64 (of : Nat), .int .i64 (at_ : Nat)] 44) := ⟨_, rfl⟩
        rw [← hW6] at kS kR kG kT kt kX kB ⊢
        clear hW6 bA
        refine hK.out _ _ kB (fun hHeld => ?_)
        clear hK K hHeld
        (try simp only [Act.put, List.setIfInBounds_toArray, List.set_cons_zero, List.set_cons_succ])
        refine wpAnyH_ready (rs := [7]) (by kernel_rfl) (by simp) ?_
        refine AllReadyH.cons (by simp only [List.getElem?_toArray, List.getElem?_cons_succ, List.getElem?_cons_zero]; rfl) (fun K hK => ?_) AllReadyH.nil
        refine step_append_krow tgTy encTg_len (by rfl) (.tmp 34) (.tmp 36) (by rfl) w.heap.size _ L (by rfl) kT _ [(⟨nm, va, of, at_⟩ : Ow.Tg)] (by rfl) kX (fun y hy => by rw [List.mem_singleton.1 hy]; exact encTg_one _) (by simp; omega) kG.size ?_
        intro v7 w7 o7 g7
        obtain ⟨A7, n7, cap7, rfl⟩ : ∃ A n cap, v7 = .slice A n cap := (by obtain ⟨A, cap, he, _⟩ := KOwn.row encTg_len o7; exact ⟨A, _, cap, he⟩)
        have kO := own_ge kT
        replace kS := kS.grown g7 (by intro e; have := kO _ e.symm; omega)
        replace kR := kR.grown g7 (by intro e; have := kO _ e.symm; omega)
        replace kG := kG.one g7 (fun q e => Or.inr (Or.inr (kO q e)))
        replace kB := b0_grown kB g7
        replace kT := o7
        clear kt kX kO o7 g7
        refine hK.out _ _ kB (fun hHeld => ?_)
        clear hK K hHeld
        (try simp only [Act.put, List.setIfInBounds_toArray, List.set_cons_zero, List.set_cons_succ])
        refine tk9 8 kB ?_
        refine tk9 9 kB ?_
        refine wpAnyH_ready (rs := [10]) (by kernel_rfl) (by simp) ?_
        refine AllReadyH.cons (by simp only [List.getElem?_toArray, List.getElem?_cons_succ, List.getElem?_cons_zero]; rfl) (fun K hK => ?_) AllReadyH.nil
        have kR2 := kR
        obtain ⟨z0, z1, z2, z3, z4, z5, z6, z7, z8, z9, zf, zl⟩ := kR2
        go_simp
        clear z0 z1 z2 z3 z4 z5 z6 z7 z8 z9 zf zl
        have gs : w7.grownBy (w7.setCell ⟨br, 3, none⟩ (.slice A7 n7 cap7)) (some br) := sc_set (sc_below (Below.refl _ _) _)
        replace kS := kS.grown gs (by intro e; injection e; omega)
        replace kR := kR.put3 (u := .slice A7 n7 cap7)
        replace kG := kG.one gs (fun q e => by injection e with e; exact Or.inr (Or.inl e.symm))
        replace kT := ko_grown kT gs hbr
        replace kB := b0_grown kB gs
        obtain ⟨WZ, hWZ⟩ : ∃ X, X = w7.setCell ⟨br, 3, none⟩ (.slice A7 n7 cap7) := ⟨_, rfl⟩
        rw [← hWZ] at kS kR kG kT kB ⊢
        clear hWZ gs
        refine hK.out _ _ kB (fun hHeld => ?_)
        clear hK K hHeld
        (try simp only [Act.put, List.setIfInBounds_toArray, List.set_cons_zero, List.set_cons_succ])
        refine wpAnyH_done (by kernel_rfl) ?_ _
        refine NoPanic.normal ?_
        have S8 := Lib.hid kS
        have R8 := Lib.hid kR
        have G8 := Lib.hid kG
        have T8 := Lib.hid kT
        clear kS kR kG kT kB H7 R7 G7 T7 t7
        obtain ⟨c0, c1, c2, cf, cl⟩ := S8.out.num
        rcases HTG.out with ⟨r, e4, ht⟩ | ⟨u, r, nm2, r1, va2, r3, e4, e1, e3, ht⟩
        · rw [e4] at c1 c2 S8
          have hr := Lib.hid (show Q = .fell r by rw [HQ1.out, ht]; rfl)
          go_wp2_with fail
          refine (scl_calls _ [125] b s WZ S8.out (by decide) (by unfold maxLen; omega)).mono ?_; rintro e w9 ⟨rfl, g9, S9⟩
          have SZ := Lib.hid (show ScO w9 b s Q from S9.to (by rw [hr.out]; rfl) (by rw [hr.out]; rfl))
          go_wp2
          go_end0
          exact ⟨rfl, _, _, _, _, SZ.out, R8.out.grown g9 (by intro e; injection e; omega), G8.out.one g9 (fun q e => by injection e with e; exact Or.inl e.symm), ko_grown T8.out g9 (by omega), fun M r e => (by rw [hr.out] at e; cases e)⟩
        · obtain rfl := hn1 _ _ e1
          obtain rfl := hn3 _ _ e3
          rw [e4] at c1 c2 S8
          have hnx := scnext_calls _ b s WZ S8.out (by unfold maxLen; omega)
          have hdm : (Ow.hd r == (44 : Int)) = decide (r.head? = some 44) := Ow.hd_is (l := r) (c := 44) (by decide)
          have hQ2 := Lib.hid (show Q = (if r.head? = some 44 then (Ow.tagsF f s.length r.tail).map ((⟨nm, va, of, at_⟩ : Ow.Tg) :: ·) else (Ow.lit [125] r).bind fun _ r' => .ok [(⟨nm, va, of, at_⟩ : Ow.Tg)] r').map (L ++ ·) by
            rw [HQ1.out, ht, HOF.out, HAT.out]; rfl)
          rw [show (Ow.Out.ok u r).rest = r from rfl] at hnx
          have hrs : r <:+ s := S8.out.suf
          have hcur : r.length ≤ r0.length := by
            have h1 := Ow.tag1_len ht
            exact h1
          by_cases q : r.head? = some 44
          · rw [decide_eq_true q] at hdm
            rw [if_pos q] at hQ2
            have hne : ((Ow.hd r) != (44 : Int)) = false := by rw [bne, hdm]; rfl
            generalize Ow.hd r = HD at *
            go_wp2_with fail
            refine hnx.mono ?_; rintro e w9 ⟨rfl, b9⟩
            have S9 := Lib.hid (S8.out.below b9)
            have R9 := Lib.hid (R8.out.below b9)
            have G9 := Lib.hid (G8.out.below b9)
            have T9 := Lib.hid (KOwn.below T8.out b9)
            clear hnx b9 S8 R8 G8 T8 c0 c1 c2 cf cl
            have hrt : r = 44 :: r.tail := Ow.head_some q
            have hkl : s.length - r.length + 1 = s.length - r.tail.length := by
              have h1 := hrs.length_le
              have h2 := congrArg List.length hrt
              simp only [List.length_cons] at h2
              omega
            have hrl : r.tail.length < r.length := by
              have h2 := congrArg List.length hrt
              simp only [List.length_cons] at h2
              omega
            obtain ⟨c0, c1, c2, cf, cl⟩ := S9.out.num
            obtain ⟨K2, hK2⟩ : ∃ k, k = s.length - r.tail.length := ⟨_, rfl⟩
            rw [show s.length - (Ow.Out.ok u r).rest.length = s.length - r.length from rfl] at c1
            obtain ⟨K1, hK1⟩ : ∃ k, k = s.length - r.length := ⟨_, rfl⟩
            rw [← hK1] at c1 hkl
            have hw : IntKind.i64.wrap ((K1 : Int) + 1) = (K2 : Int) := by
              rw [show (K1 : Int) + 1 = (K2 : Int) by omega]; exact IntWalk.i64_in _ (by omega)
            have SM := Lib.hid (show ScO (w9.setCell ⟨b, 1, none⟩ (.int .i64 (K2 : Nat))) b s (Ow.Out.ok () r.tail) from ⟨(List.tail_suffix r).trans hrs, by show ScA _ b s (s.length - r.tail.length) false; rw [← hK2]; exact S9.out.num.move K2⟩)
            have gm : w9.grownBy (w9.setCell ⟨b, 1, none⟩ (.int .i64 (K2 : Nat))) (some b) := sc_set (sc_below (Below.refl _ _) _)
            clear hK1 hK2 hkl
            have RM := Lib.hid (R9.out.grown gm (by intro e; injection e; omega))
            have GM := Lib.hid (G9.out.one gm (fun q e => by injection e with e; exact Or.inl e.symm))
            have TM := Lib.hid (ko_grown T9.out gm (by omega))
            have HQ3 := Lib.hid (show Q = ((Ow.Out.ok () r.tail).bind fun _ r => Ow.tagsF f s.length r).map ((L ++ [(⟨nm, va, of, at_⟩ : Ow.Tg)]) ++ ·) by
              rw [hQ2.out]; show Ow.Out.map (Ow.Out.map _ _) _ = Ow.Out.map (Ow.tagsF f s.length r.tail) _
              cases Ow.tagsF f s.length r.tail <;> simp [Ow.Out.map])
            clear hQ2 gm S9 R9 G9 T9 hrt hdm q
            go_wp2
            go_roundg (r.tail.length + 1)
            case measure => have hgg : _ = r0.length + 1 := HGg.out; omega
            case rel => exact ⟨Ow.Out.ok () r.tail, f, L ++ [(⟨nm, va, of, at_⟩ : Ow.Tg)], _, _, _, rfl, by show r.tail.length < f; omega, by simp only [List.length_append, List.length_cons, List.length_nil]; show _ + r.tail.length ≤ _; omega, SM, RM, GM, TM, HQ3⟩
          · rw [decide_eq_false q] at hdm
            rw [if_neg q] at hQ2
            have hne : ((Ow.hd r) != (44 : Int)) = true := by rw [bne, hdm]; rfl
            generalize Ow.hd r = HD at *
            go_wp2_with fail
            refine hnx.mono ?_; rintro e w9 ⟨rfl, b9⟩
            have S9 := Lib.hid (S8.out.below b9)
            have R9 := Lib.hid (R8.out.below b9)
            have G9 := Lib.hid (G8.out.below b9)
            have T9 := Lib.hid (KOwn.below T8.out b9)
            clear hnx b9 S8 R8 G8 T8 c0 c1 c2 cf cl hdm q
            go_wp2_with fail
            refine (scl_calls _ [125] b s w9 S9.out (by decide) (by unfold maxLen; omega)).mono ?_; rintro e wA ⟨rfl, gA, SA⟩
            have hq3 : Hid (Q = (Ow.lit [125] r).map fun _ => L ++ [(⟨nm, va, of, at_⟩ : Ow.Tg)]) := Lib.hid (by rw [hQ2.out]; cases Ow.lit [125] r <;> rfl)
            have SZ := Lib.hid (show ScO wA b s Q from SA.to (by rw [hq3.out]; show _ = (Ow.lit [125] r).rest; cases Ow.lit [125] r <;> rfl) (by rw [hq3.out]; show _ = Ow.fellB (Ow.lit [125] r); cases Ow.lit [125] r <;> rfl))
            have RZ := Lib.hid (R9.out.grown gA (by intro e; injection e; omega))
            have GZ := Lib.hid (G9.out.one gA (fun q e => by injection e with e; exact Or.inl e.symm))
            have TZ := Lib.hid (ko_grown T9.out gA (by omega))
            clear hQ2 SA gA S9 R9 G9 T9
            go_wp2
            go_end0
            exact ⟨rfl, _, _, _, _, SZ.out, RZ.out, GZ.out, TZ.out, fun M r2 e => (by rw [hq3.out] at e; cases hl : Ow.lit [125] r with | fell r => rw [hl] at e; cases e | ok u2 r => rw [hl] at e; injection e with e1 e2; exact e1.symm)⟩
      refine AllReadyH.cons (by simp only [List.getElem?_toArray, List.getElem?_cons_succ, List.getElem?_cons_zero]; rfl) (fun K hK => ?_) AllReadyH.nil
      go_simp
      have kX := tg_knew WD (⟨nm, va, of, at_⟩ : Ow.Tg)
      have bA := (Below.refl WD.heap.size WD).alloc (Nat.le_refl _) (.cells #[.string (str nm), .string (str va), .int .i64 (of : Nat), .int .i64 (at_ : Nat)] 44)
      replace kS := kS.below bA
      replace kR := kR.below bA
      replace kG := kG.below bA
      replace kT := KOwn.below kT bA
      replace kt := kt.belowB bA kt.lt
      replace kB := b0_grown kB (sc_below bA none)
      dsimp only at kX
      obtain ⟨W6, hW6⟩ : ∃ X, X = WD.alloc (.cells #[.string (str nm), .string (str va), .int .i64 (of : Nat), .int .i64 (at_ : Nat)] 44) := ⟨_, rfl⟩
      rw [← hW6] at kS kR kG kT kt kX kB ⊢
      clear hW6 bA
      refine hK.out _ _ kB (fun hHeld => ?_)
      clear hK K hHeld
      (try simp only [Act.put, List.setIfInBounds_toArray, List.set_cons_zero, List.set_cons_succ])
      refine wpAnyH_ready (rs := [4]) (by kernel_rfl) (by simp) ?_
      refine AllReadyH.cons (by simp only [List.getElem?_toArray, List.getElem?_cons_succ, List.getElem?_cons_zero]; rfl) (fun K hK => ?_) AllReadyH.nil
      have kR2 := kR
      obtain ⟨z0, z1, z2, z3, z4, z5, z6, z7, z8, z9, zf, zl⟩ := kR2
      go_simp
      clear z0 z1 z2 z3 z4 z5 z6 z7 z8 z9 zf zl
      refine hK.out _ _ kB (fun hHeld => ?_)
      clear hK K hHeld
      (try simp only [Act.put, List.setIfInBounds_toArray, List.set_cons_zero, List.set_cons_succ])
      refine wpAnyH_ready (rs := [7]) (by kernel_rfl) (by simp) ?_
      refine AllReadyH.cons (by simp only [List.getElem?_toArray, List.getElem?_cons_succ, List.getElem?_cons_zero]; rfl) (fun K hK => ?_) AllReadyH.nil
      refine step_append_krow tgTy encTg_len (by rfl) (.tmp 34) (.tmp 36) (by rfl) w.heap.size _ L (by rfl) kT _ [(⟨nm, va, of, at_⟩ : Ow.Tg)] (by rfl) kX (fun y hy => by rw [List.mem_singleton.1 hy]; exact encTg_one _) (by simp; omega) kG.size ?_
      intro v7 w7 o7 g7
      obtain ⟨A7, n7, cap7, rfl⟩ : ∃ A n cap, v7 = .slice A n cap := (by obtain ⟨A, cap, he, _⟩ := KOwn.row encTg_len o7; exact ⟨A, _, cap, he⟩)
      have kO := own_ge kT
      replace kS := kS.grown g7 (by intro e; have := kO _ e.symm; omega)
      replace kR := kR.grown g7 (by intro e; have := kO _ e.symm; omega)
      replace kG := kG.one g7 (fun q e => Or.inr (Or.inr (kO q e)))
      replace kB := b0_grown kB g7
      replace kT := o7
      clear kt kX kO o7 g7
      refine hK.out _ _ kB (fun hHeld => ?_)
      clear hK K hHeld
      (try simp only [Act.put, List.setIfInBounds_toArray, List.set_cons_zero, List.set_cons_succ])
      refine tk9 8 kB ?_
      refine tk9 9 kB ?_
      refine wpAnyH_ready (rs := [10]) (by kernel_rfl) (by simp) ?_
      refine AllReadyH.cons (by simp only [List.getElem?_toArray, List.getElem?_cons_succ, List.getElem?_cons_zero]; rfl) (fun K hK => ?_) AllReadyH.nil
      have kR2 := kR
      obtain ⟨z0, z1, z2, z3, z4, z5, z6, z7, z8, z9, zf, zl⟩ := kR2
      go_simp
      clear z0 z1 z2 z3 z4 z5 z6 z7 z8 z9 zf zl
      have gs : w7.grownBy (w7.setCell ⟨br, 3, none⟩ (.slice A7 n7 cap7)) (some br) := sc_set (sc_below (Below.refl _ _) _)
      replace kS := kS.grown gs (by intro e; injection e; omega)
      replace kR := kR.put3 (u := .slice A7 n7 cap7)
      replace kG := kG.one gs (fun q e => by injection e with e; exact Or.inr (Or.inl e.symm))
      replace kT := ko_grown kT gs hbr
      replace kB := b0_grown kB gs
      obtain ⟨WZ, hWZ⟩ : ∃ X, X = w7.setCell ⟨br, 3, none⟩ (.slice A7 n7 cap7) := ⟨_, rfl⟩
      rw [← hWZ] at kS kR kG kT kB ⊢
      clear hWZ gs
      refine hK.out _ _ kB (fun hHeld => ?_)
      clear hK K hHeld
      (try simp only [Act.put, List.setIfInBounds_toArray, List.set_cons_zero, List.set_cons_succ])
      refine wpAnyH_done (by kernel_rfl) ?_ _
      refine NoPanic.normal ?_
      have S8 := Lib.hid kS
      have R8 := Lib.hid kR
      have G8 := Lib.hid kG
      have T8 := Lib.hid kT
      clear kS kR kG kT kB H7 R7 G7 T7 t7
      obtain ⟨c0, c1, c2, cf, cl⟩ := S8.out.num
      rcases HTG.out with ⟨r, e4, ht⟩ | ⟨u, r, nm2, r1, va2, r3, e4, e1, e3, ht⟩
      · rw [e4] at c1 c2 S8
        have hr := Lib.hid (show Q = .fell r by rw [HQ1.out, ht]; rfl)
        go_wp2_with fail
        refine (scl_calls _ [125] b s WZ S8.out (by decide) (by unfold maxLen; omega)).mono ?_; rintro e w9 ⟨rfl, g9, S9⟩
        have SZ := Lib.hid (show ScO w9 b s Q from S9.to (by rw [hr.out]; rfl) (by rw [hr.out]; rfl))
        go_wp2
        go_end0
        exact ⟨rfl, _, _, _, _, SZ.out, R8.out.grown g9 (by intro e; injection e; omega), G8.out.one g9 (fun q e => by injection e with e; exact Or.inl e.symm), ko_grown T8.out g9 (by omega), fun M r e => (by rw [hr.out] at e; cases e)⟩
      · obtain rfl := hn1 _ _ e1
        obtain rfl := hn3 _ _ e3
        rw [e4] at c1 c2 S8
        have hnx := scnext_calls _ b s WZ S8.out (by unfold maxLen; omega)
        have hdm : (Ow.hd r == (44 : Int)) = decide (r.head? = some 44) := Ow.hd_is (l := r) (c := 44) (by decide)
        have hQ2 := Lib.hid (show Q = (if r.head? = some 44 then (Ow.tagsF f s.length r.tail).map ((⟨nm, va, of, at_⟩ : Ow.Tg) :: ·) else (Ow.lit [125] r).bind fun _ r' => .ok [(⟨nm, va, of, at_⟩ : Ow.Tg)] r').map (L ++ ·) by
          rw [HQ1.out, ht, HOF.out, HAT.out]; rfl)
        rw [show (Ow.Out.ok u r).rest = r from rfl] at hnx
        have hrs : r <:+ s := S8.out.suf
        have hcur : r.length ≤ r0.length := by
          have h1 := Ow.tag1_len ht
          exact h1
        by_cases q : r.head? = some 44
        · rw [decide_eq_true q] at hdm
          rw [if_pos q] at hQ2
          have hne : ((Ow.hd r) != (44 : Int)) = false := by rw [bne, hdm]; rfl
          generalize Ow.hd r = HD at *
          go_wp2_with fail
          refine hnx.mono ?_; rintro e w9 ⟨rfl, b9⟩
          have S9 := Lib.hid (S8.out.below b9)
          have R9 := Lib.hid (R8.out.below b9)
          have G9 := Lib.hid (G8.out.below b9)
          have T9 := Lib.hid (KOwn.below T8.out b9)
          clear hnx b9 S8 R8 G8 T8 c0 c1 c2 cf cl
          have hrt : r = 44 :: r.tail := Ow.head_some q
          have hkl : s.length - r.length + 1 = s.length - r.tail.length := by
            have h1 := hrs.length_le
            have h2 := congrArg List.length hrt
            simp only [List.length_cons] at h2
            omega
          have hrl : r.tail.length < r.length := by
            have h2 := congrArg List.length hrt
            simp only [List.length_cons] at h2
            omega
          obtain ⟨c0, c1, c2, cf, cl⟩ := S9.out.num
          obtain ⟨K2, hK2⟩ : ∃ k, k = s.length - r.tail.length := ⟨_, rfl⟩
          rw [show s.length - (Ow.Out.ok u r).rest.length = s.length - r.length from rfl] at c1
          obtain ⟨K1, hK1⟩ : ∃ k, k = s.length - r.length := ⟨_, rfl⟩
          rw [← hK1] at c1 hkl
          have hw : IntKind.i64.wrap ((K1 : Int) + 1) = (K2 : Int) := by
            rw [show (K1 : Int) + 1 = (K2 : Int) by omega]; exact IntWalk.i64_in _ (by omega)
          have SM := Lib.hid (show ScO (w9.setCell ⟨b, 1, none⟩ (.int .i64 (K2 : Nat))) b s (Ow.Out.ok () r.tail) from ⟨(List.tail_suffix r).trans hrs, by show ScA _ b s (s.length - r.tail.length) false; rw [← hK2]; exact S9.out.num.move K2⟩)
          have gm : w9.grownBy (w9.setCell ⟨b, 1, none⟩ (.int .i64 (K2 : Nat))) (some b) := sc_set (sc_below (Below.refl _ _) _)
          clear hK1 hK2 hkl
          have RM := Lib.hid (R9.out.grown gm (by intro e; injection e; omega))
          have GM := Lib.hid (G9.out.one gm (fun q e => by injection e with e; exact Or.inl e.symm))
          have TM := Lib.hid (ko_grown T9.out gm (by omega))
          have HQ3 := Lib.hid (show Q = ((Ow.Out.ok () r.tail).bind fun _ r => Ow.tagsF f s.length r).map ((L ++ [(⟨nm, va, of, at_⟩ : Ow.Tg)]) ++ ·) by
            rw [hQ2.out]; show Ow.Out.map (Ow.Out.map _ _) _ = Ow.Out.map (Ow.tagsF f s.length r.tail) _
            cases Ow.tagsF f s.length r.tail <;> simp [Ow.Out.map])
          clear hQ2 gm S9 R9 G9 T9 hrt hdm q
          go_wp2
          go_roundg (r.tail.length + 1)
          case measure => have hgg : _ = r0.length + 1 := HGg.out; omega
          case rel => exact ⟨Ow.Out.ok () r.tail, f, L ++ [(⟨nm, va, of, at_⟩ : Ow.Tg)], _, _, _, rfl, by show r.tail.length < f; omega, by simp only [List.length_append, List.length_cons, List.length_nil]; show _ + r.tail.length ≤ _; omega, SM, RM, GM, TM, HQ3⟩
        · rw [decide_eq_false q] at hdm
          rw [if_neg q] at hQ2
          have hne : ((Ow.hd r) != (44 : Int)) = true := by rw [bne, hdm]; rfl
          generalize Ow.hd r = HD at *
          go_wp2_with fail
          refine hnx.mono ?_; rintro e w9 ⟨rfl, b9⟩
          have S9 := Lib.hid (S8.out.below b9)
          have R9 := Lib.hid (R8.out.below b9)
          have G9 := Lib.hid (G8.out.below b9)
          have T9 := Lib.hid (KOwn.below T8.out b9)
          clear hnx b9 S8 R8 G8 T8 c0 c1 c2 cf cl hdm q
          go_wp2_with fail
          refine (scl_calls _ [125] b s w9 S9.out (by decide) (by unfold maxLen; omega)).mono ?_; rintro e wA ⟨rfl, gA, SA⟩
          have hq3 : Hid (Q = (Ow.lit [125] r).map fun _ => L ++ [(⟨nm, va, of, at_⟩ : Ow.Tg)]) := Lib.hid (by rw [hQ2.out]; cases Ow.lit [125] r <;> rfl)
          have SZ := Lib.hid (show ScO wA b s Q from SA.to (by rw [hq3.out]; show _ = (Ow.lit [125] r).rest; cases Ow.lit [125] r <;> rfl) (by rw [hq3.out]; show _ = Ow.fellB (Ow.lit [125] r); cases Ow.lit [125] r <;> rfl))
          have RZ := Lib.hid (R9.out.grown gA (by intro e; injection e; omega))
          have GZ := Lib.hid (G9.out.one gA (fun q e => by injection e with e; exact Or.inl e.symm))
          have TZ := Lib.hid (ko_grown T9.out gA (by omega))
          clear hQ2 SA gA S9 R9 G9 T9
          go_wp2
          go_end0
          exact ⟨rfl, _, _, _, _, SZ.out, RZ.out, GZ.out, TZ.out, fun M r2 e => (by rw [hq3.out] at e; cases hl : Ow.lit [125] r with | fell r => rw [hl] at e; cases e | ok u2 r => rw [hl] at e; injection e with e1 e2; exact e1.symm)⟩

end Go.Proofs.YthniemoganoapaaDoor
