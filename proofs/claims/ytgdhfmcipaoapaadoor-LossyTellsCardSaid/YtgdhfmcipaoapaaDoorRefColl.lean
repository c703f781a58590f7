/- The walk of the reference's Collide (layer 14). -/
import Derived.Test.YtgdhfmcipaoapaaDoorRefLossA
import Derived.Test.YtgdhfmcipaoapaaDoorLossRow
import Derived.Deep.DeepCutAuto
import Derived.Deep.RegionHeld3
import Derived.BigQuiet
import Derived.Laws.Cover1
set_option maxRecDepth 100000
set_option linter.unusedVariables false
set_option linter.unusedSimpArgs false
namespace Go.Proofs.YtgdhfmcipaoapaaDoor
open Go.RowKit

/-- is the pair (X, Y) a clash, ahead of what was found (fo: is anything: A, Z) -/
def rcV (f : Co.Bs → Co.Bs) (A Z : Co.Bs) (fo : Bool) (X Y : Co.Bs) : Bool :=
  decide (X < Y) && decide (f X = f Y) && (!fo || decide (X < A) || (decide (X = A) && decide (Y < Z)))
theorem rcV_is (f : Co.Bs → Co.Bs) (A Z : Co.Bs) (fo : Bool) (X Y : Co.Bs) : rcV f A Z fo X Y = (decide (X < Y) && decide (f X = f Y) && (!fo || decide (X < A) || (decide (X = A) && decide (Y < Z)))) := rfl
theorem rcV_step (f : Co.Bs → Co.Bs) (o : Option (Co.Bs × Co.Bs)) (X Y : Co.Bs) : Co.step f o (X, Y) = if rcV f (pA o) (pB o) o.isSome X Y = true then some (X, Y) else o := by
  have e : (Co.clash f (X, Y) ∧ Co.firstO o (X, Y) = true) ↔ rcV f (pA o) (pB o) o.isSome X Y = true := by
    unfold rcV Co.clash
    cases o with
    | none => simp [Co.firstO]
    | some d =>
      have h1 : Co.firstO (some d) (X, Y) = true ↔ (X < d.1 ∨ X = d.1 ∧ Y < d.2) := decide_eq_true_iff
      rw [h1]
      show _ ↔ (decide (X < Y) && decide (f X = f Y) && (!true || decide (X < d.1) || (decide (X = d.1) && decide (Y < d.2)))) = true
      simp only [ Bool.not_true, Bool.false_or, Bool.and_eq_true, Bool.or_eq_true, decide_eq_true_eq]
  unfold Co.step
  by_cases h : rcV f (pA o) (pB o) o.isSome X Y = true
  · rw [if_pos h, if_pos (e.2 h)]
  · rw [if_neg h, if_neg (fun k => h (e.1 k))]
/-- what lies between two rounds -/
structure RC (w W : World) (o : Option (Co.Bs × Co.Bs)) : Prop where
  e6 : W.heap[w.heap.size]? = some (.cells #[.string ⟨#[]⟩, .string ⟨#[]⟩] 26 (0, 0))
  e8 : W.heap[w.heap.size + 1]? = some (.cells #[.string (str (pA o)), .string (str (pB o))] 26 (0, 0))
  bl : Below w.heap.size w W
theorem RC.below {w W W' : World} {o : Option (Co.Bs × Co.Bs)} (h : RC w W o) (hb : Below W.heap.size W W') : RC w W' o :=
  ⟨by rw [hb.block _ (Array.getElem?_eq_some_iff.1 h.e6).1]; exact h.e6, by rw [hb.block _ (Array.getElem?_eq_some_iff.1 h.e8).1]; exact h.e8, trans9 h.bl hb⟩
theorem RC.put {w W : World} {o : Option (Co.Bs × Co.Bs)} (h : RC w W o) (X Y : Co.Bs) : RC w ((W.setCell ⟨w.heap.size + 1, 0, none⟩ (.string (str X))).setCell ⟨w.heap.size + 1, 1, none⟩ (.string (str Y))) (some (X, Y)) := by
  refine ⟨?_, set_heap _ _ 1 _ _ _ (.string (str Y)) (set_heap W _ 0 _ _ _ (.string (str X)) h.e8), (h.bl.setCell (p := ⟨w.heap.size + 1, 0, none⟩) (Nat.le_succ _) _).setCell (p := ⟨w.heap.size + 1, 1, none⟩) (Nat.le_succ _) _⟩
  rw [heap_setCell_other _ _ _ _ (by show w.heap.size ≠ w.heap.size + 1; omega), heap_setCell_other _ _ _ _ (by show w.heap.size ≠ w.heap.size + 1; omega)]
  exact h.e6

set_option maxHeartbeats 16000000 in
theorem rcoll_calls (P S : Int) (v : Value) (n : Nat) (ls : Nat → Co.Bs) (w : World) (hn : n ≤ 10000) (hr : StrRow w v n (fun i => str (ls i))) (hs : ∀ i, i < n → (ls i).length ≤ 4194304) :
    Calls Tryd.prog 9 #[.int .i64 P, .int .i64 S, v] w fun e w' => e = .returned (collV (Co.collO (Ch.loss P S) (nms n ls))) ∧ Below w.heap.size w w' := by
  obtain ⟨a, cap, rfl, h1, h2, h3⟩ := hr
  have Hcell := Lib.hid h3
  have Hs := Lib.hid hs
  have HL := Lib.hid (show (nms n ls).length = n by simp [nms])
  have HG := Lib.hid (show ∀ i, i < n → (nms n ls).getD i [] = ls i from fun i hi => by simp [nms, List.getD_eq_getElem?_getD, hi])
  unfold maxLen at h2
  clear h3 hs
  go_enter Tryd.func9, Tryd.ntmps9
  go_wp2_with fail
  obtain ⟨g1, g2, g3⟩ := two_new w (.cells #[.string ⟨#[]⟩, .string ⟨#[]⟩] 26) (.cells #[.string ⟨#[]⟩, .string ⟨#[]⟩] 26)
  have R0 := Lib.hid (show RC w ((w.alloc (.cells #[.string ⟨#[]⟩, .string ⟨#[]⟩] 26)).alloc (.cells #[.string ⟨#[]⟩, .string ⟨#[]⟩] 26)) none from ⟨g1, g2, g3⟩)
  clear g1 g2 g3
  generalize (w.alloc (.cells #[.string ⟨#[]⟩, .string ⟨#[]⟩] 26)).alloc (.cells #[.string ⟨#[]⟩, .string ⟨#[]⟩] 26) = W0 at *
  go_loopw [9, 10] (fun sf s wr => ∃ i : Nat, i ≤ n ∧ sf = .bool (Co.collTo (Ch.loss P S) (nms n ls) i 0).isSome ∧ s = .int .i64 (i : Nat) ∧ Hid (RC w wr (Co.collTo (Ch.loss P S) (nms n ls) i 0))) (fun _ s _ => n - (intOf s).toNat)
  case atStart => exact ⟨0, by omega, rfl, rfl, R0.out⟩
  case round =>
    obtain ⟨i, hi, rfl, rfl, H⟩ := hrel
    by_cases hin : i < n
    · obtain ⟨b, off, rfl, hbs, hcs⟩ := Hcell.out (by omega)
      have Hcs := Lib.hid hcs
      have d1 : decide ((i : Int) < (n : Int)) = true := decide_eq_true (by omega)
      have d1' : decide (i < n) = true := decide_eq_true hin
      have h0i : (0 : Int) ≤ (i : Int) := by omega
      have hii : (i : Int) < (n : Int) := by omega
      have HX := Lib.hid (show ∃ X, ls i = X from ⟨_, rfl⟩)
      obtain ⟨X, hX⟩ := HX.out
      have HX := Lib.hid hX
      clear hX hcs
      go_wp2_with fail
      go_loopw [9, 11] (fun sf s wr => ∃ k : Nat, k ≤ n ∧ sf = .bool (Co.collTo (Ch.loss P S) (nms n ls) i k).isSome ∧ s = .int .i64 (k : Nat) ∧ Hid (RC w wr (Co.collTo (Ch.loss P S) (nms n ls) i k))) (fun _ s _ => n - (intOf s).toNat)
      case atStart => exact ⟨0, by omega, rfl, rfl, H.out⟩
      case round =>
        clear H
        obtain ⟨k, hk, rfl, rfl, H⟩ := hrel
        by_cases hkn : k < n
        · have d2 : decide ((k : Int) < (n : Int)) = true := decide_eq_true (by omega)
          have d2' : decide (k < n) = true := decide_eq_true hkn
          have h0k : (0 : Int) ≤ (k : Int) := by omega
          have hki : (k : Int) < (n : Int) := by omega
          have c0 := (H.out.bl.cell (p := ⟨b, off + i, none⟩) hbs).trans (Hcs.out i hin).1
          rw [HX.out] at c0
          have HY := Lib.hid (show ∃ Y, ls k = Y from ⟨_, rfl⟩)
          obtain ⟨Y, hY⟩ := HY.out
          have HY := Lib.hid hY
          clear hY
          have c1 := (H.out.bl.cell (p := ⟨b, off + k, none⟩) hbs).trans (Hcs.out k hkn).1
          rw [HY.out] at c1
          have HK := Lib.hid (show X.length ≤ 4194304 ∧ Y.length ≤ 4194304 from ⟨by rw [← HX.out]; exact Hs.out i hin, by rw [← HY.out]; exact Hs.out k hkn⟩)
          have HS := Lib.hid (show Co.collTo (Ch.loss P S) (nms n ls) i (k + 1) = if rcV (Ch.loss P S) (pA (Co.collTo (Ch.loss P S) (nms n ls) i k)) (pB (Co.collTo (Ch.loss P S) (nms n ls) i k)) (Co.collTo (Ch.loss P S) (nms n ls) i k).isSome X Y = true then some (X, Y) else Co.collTo (Ch.loss P S) (nms n ls) i k by
            rw [Co.collTo_put _ _ _ _ (by rw [HL.out]; exact hkn), HG.out i hin, HG.out k hkn, HX.out, HY.out, rcV_step])
          generalize Co.collTo (Ch.loss P S) (nms n ls) i k = o at *
          go_upto_region 9 with (fail)
          go_cut [12] (fun s wx => ∃ bc : Nat, s = .pointer (some ⟨bc, 0, none⟩) ∧ Hid (RC w wx o ∧ w.heap.size + 1 < bc ∧ wx.heap[bc]? = some (.cells #[.string (str X), .string (str Y)] 26 (0, 0))))
          case first =>
            have hbw : b < wr.heap.size := Nat.lt_of_lt_of_le hbs H.out.bl.size
            have hz6 : w.heap.size + 1 < wr.heap.size := (Array.getElem?_eq_some_iff.1 H.out.e8).1
            go_region
            all_goals
              go_wp2_with fail
              go_meet
              exact ⟨wr.heap.size, rfl, H.out.below (Below.drew (kp_alloc (Below.refl _ _) _)), hz6, heap_alloc_new wr _⟩
          case rest =>
            obtain ⟨bc, rfl, HB⟩ := hcut
            obtain ⟨w9, hw9⟩ : ∃ w9, w9 = wc := ⟨_, rfl⟩
            subst hw9
            have zbc := (Array.getElem?_eq_some_iff.1 HB.out.2.2).1
            have kbc0 : w9.cell? ⟨bc, 0, none⟩ = some (.string (str X)) := by rw [cell_of_row _ _ 0 _ _ _ HB.out.2.2]; rfl
            have kbc1 : w9.cell? ⟨bc, 1, none⟩ = some (.string (str Y)) := by rw [cell_of_row _ _ 1 _ _ _ HB.out.2.2]; rfl
            have hb8 : ∃ b8, w.heap.size + 1 = b8 := ⟨_, rfl⟩
            obtain ⟨b8, hb8⟩ := hb8
            have zb8 : b8 < w9.heap.size := by rw [← hb8]; exact (Array.getElem?_eq_some_iff.1 HB.out.1.e8).1
            have kb80 : w9.cell? ⟨b8, 0, none⟩ = some (.string (str (pA o))) := by rw [← hb8, cell_of_row _ _ 0 _ _ _ HB.out.1.e8]; rfl
            have kb81 : w9.cell? ⟨b8, 1, none⟩ = some (.string (str (pB o))) := by rw [← hb8, cell_of_row _ _ 1 _ _ _ HB.out.1.e8]; rfl
            have Hb8 := Lib.hid hb8
            rw [hb8]
            clear hb8 c0 c1 H
            go_upto_region 10 with (fail)
            go_cut [76] (fun s wx => s = .bool (rcV (Ch.loss P S) (pA o) (pB o) o.isSome X Y) ∧ Hid (Below w9.heap.size w9 wx))
            case first =>
              have Ho := Lib.hid (show ∃ A Z fo, pA o = A ∧ pB o = Z ∧ o.isSome = fo from ⟨_, _, _, rfl, rfl, rfl⟩)
              clear HB Hb8 HS HX HY
              generalize pA o = A at *
              generalize pB o = Z at *
              generalize o.isSome = fo at *
              clear Ho
              have n1 := Lib.hid (fun W => rloss_calls P S X W (by have := HK.out.1; omega))
              have n2 := Lib.hid (fun W => rloss_calls P S Y W (by have := HK.out.2; omega))
              have HR0 := Lib.hid (rcV_is (Ch.loss P S) A Z fo X Y)
              generalize Ch.loss P S X = fx at *
              generalize Ch.loss P S Y = fy at *
              by_cases hXY : X < Y
              · have d1 : Op.bytesLess X Y = true := by rw [bl_lt]; exact decide_eq_true hXY
                by_cases hff : fx = fy
                · subst hff
                  cases fo with
                  | false =>
                    have HR := Lib.hid (HR0.out.trans (show _ = true from by simp [hXY]))
                    clear hXY HR0
                    refine wp_region_noPanic ?_
                    refine wp_region_held_drew (S := fun X => Below w9.heap.size w9 X) (by kernel_rfl) ?_ (fun hHeld => ?_)
                    · exact Below.drew (Below.refl _ _)
                    have kB : Below w9.heap.size w9 w9.drew := Below.drew (Below.refl _ _)
                    clear hHeld
                    refine tk9 0 kB ?_
                    refine tk9 1 kB ?_ (hy := Or.inl ⟨by rfl, by intro x hSw; (try dsimp only at hSw); have y0 := (hSw.cell (p := ⟨bc, 0, none⟩) zbc).trans kbc0; first | (go_simp; done) | (go_simp; with_reducible rfl)⟩)
                    refine tk9 2 kB ?_
                    refine tk9 3 kB ?_ (hy := Or.inl ⟨by rfl, by intro x hSw; (try dsimp only at hSw); have y0 := (hSw.cell (p := ⟨bc, 1, none⟩) zbc).trans kbc1; first | (go_simp; done) | (go_simp; with_reducible rfl)⟩)
                    refine tk9 4 kB ?_
                    refine tk9 5 kB ?_
                    refine tk9 6 kB ?_
                    refine tk9 7 kB ?_
                    refine tk9 8 kB ?_
                    refine tk9 9 kB ?_ (hy := Or.inl ⟨by rfl, by intro x hSw; (try dsimp only at hSw); have y0 := (hSw.cell (p := ⟨bc, 0, none⟩) zbc).trans kbc0; first | (go_simp; done) | (go_simp; with_reducible rfl)⟩)
                    refine tk9 11 kB ?_
                    refine tk9 12 kB ?_
                    refine tk9 13 kB ?_
                    refine tk9 14 kB ?_ (hy := Or.inl ⟨by rfl, by intro x hSw; (try dsimp only at hSw); have y0 := (hSw.cell (p := ⟨bc, 1, none⟩) zbc).trans kbc1; first | (go_simp; done) | (go_simp; with_reducible rfl)⟩)
                    refine wpAnyH_ready (rs := [10]) (by kernel_rfl) (by simp) ?_
                    refine AllReadyH.cons (by simp only [List.getElem?_toArray, List.getElem?_cons_succ, List.getElem?_cons_zero]; rfl) (fun K hK => ?_) AllReadyH.nil
                    try go_simp
                    refine (n1.out _).mono ?_
                    rintro e w11 ⟨rfl, b11⟩
                    replace kB := trans9 kB b11
                    refine hK.out _ _ kB (fun hHeld => ?_)
                    clear hK K hHeld
                    (try simp only [Act.put, List.setIfInBounds_toArray, List.set_cons_zero, List.set_cons_succ])
                    refine wpAnyH_ready (rs := [15]) (by kernel_rfl) (by simp) ?_
                    refine AllReadyH.cons (by simp only [List.getElem?_toArray, List.getElem?_cons_succ, List.getElem?_cons_zero]; rfl) (fun K hK => ?_) AllReadyH.nil
                    try go_simp
                    refine (n2.out _).mono ?_
                    rintro e w12 ⟨rfl, b12⟩
                    replace kB := trans9 kB b12
                    refine hK.out _ _ kB (fun hHeld => ?_)
                    clear hK K hHeld
                    (try simp only [Act.put, List.setIfInBounds_toArray, List.set_cons_zero, List.set_cons_succ])
                    refine tk9 16 kB ?_
                    refine tk9 17 kB ?_
                    refine tk9 18 kB ?_
                    refine tk9 19 kB ?_
                    refine tk9 20 kB ?_
                    refine tk9 21 kB ?_
                    refine tk9 22 kB ?_ (v := undef) (hy := Or.inr ⟨by rfl, rfl⟩)
                    refine tk9 23 kB ?_ (v := undef) (hy := Or.inr ⟨by rfl, rfl⟩)
                    refine tk9 24 kB ?_ (v := undef) (hy := Or.inr ⟨by rfl, rfl⟩)
                    refine tk9 25 kB ?_ (v := undef) (hy := Or.inr ⟨by rfl, rfl⟩)
                    refine tk9 26 kB ?_ (v := undef) (hy := Or.inr ⟨by rfl, rfl⟩)
                    refine tk9 27 kB ?_
                    refine tk9 28 kB ?_
                    refine tk9 29 kB ?_ (v := undef) (hy := Or.inr ⟨by rfl, rfl⟩)
                    refine tk9 30 kB ?_ (v := undef) (hy := Or.inr ⟨by rfl, rfl⟩)
                    refine tk9 31 kB ?_ (v := undef) (hy := Or.inr ⟨by rfl, rfl⟩)
                    refine tk9 32 kB ?_ (v := undef) (hy := Or.inr ⟨by rfl, rfl⟩)
                    refine tk9 33 kB ?_ (v := undef) (hy := Or.inr ⟨by rfl, rfl⟩)
                    refine tk9 34 kB ?_ (v := undef) (hy := Or.inr ⟨by rfl, rfl⟩)
                    refine tk9 35 kB ?_ (v := undef) (hy := Or.inr ⟨by rfl, rfl⟩)
                    refine tk9 36 kB ?_ (v := undef) (hy := Or.inr ⟨by rfl, rfl⟩)
                    refine tk9 37 kB ?_ (v := undef) (hy := Or.inr ⟨by rfl, rfl⟩)
                    refine tk9 38 kB ?_ (v := undef) (hy := Or.inr ⟨by rfl, rfl⟩)
                    refine tk9 39 kB ?_ (v := undef) (hy := Or.inr ⟨by rfl, rfl⟩)
                    refine tk9 40 kB ?_ (v := undef) (hy := Or.inr ⟨by rfl, rfl⟩)
                    refine tk9 41 kB ?_
                    refine tk9 42 kB ?_
                    refine wpAnyH_done (by kernel_rfl) ?_ _
                    refine NoPanic.normal ?_
                    go_wp2_with fail
                    go_meet
                    exact ⟨by rw [HR.out], kB⟩
                  | true =>
                    by_cases hXA : X < A
                    · have d2 : Op.bytesLess X A = true := by rw [bl_lt]; exact decide_eq_true hXA
                      have HR := Lib.hid (HR0.out.trans (show _ = true from by simp [hXY, hXA]))
                      clear hXY hXA HR0
                      refine wp_region_noPanic ?_
                      refine wp_region_held_drew (S := fun X => Below w9.heap.size w9 X) (by kernel_rfl) ?_ (fun hHeld => ?_)
                      · exact Below.drew (Below.refl _ _)
                      have kB : Below w9.heap.size w9 w9.drew := Below.drew (Below.refl _ _)
                      clear hHeld
                      refine tk9 0 kB ?_
                      refine tk9 1 kB ?_ (hy := Or.inl ⟨by rfl, by intro x hSw; (try dsimp only at hSw); have y0 := (hSw.cell (p := ⟨bc, 0, none⟩) zbc).trans kbc0; first | (go_simp; done) | (go_simp; with_reducible rfl)⟩)
                      refine tk9 2 kB ?_
                      refine tk9 3 kB ?_ (hy := Or.inl ⟨by rfl, by intro x hSw; (try dsimp only at hSw); have y0 := (hSw.cell (p := ⟨bc, 1, none⟩) zbc).trans kbc1; first | (go_simp; done) | (go_simp; with_reducible rfl)⟩)
                      refine tk9 4 kB ?_
                      refine tk9 5 kB ?_
                      refine tk9 6 kB ?_
                      refine tk9 7 kB ?_
                      refine tk9 8 kB ?_
                      refine tk9 9 kB ?_ (hy := Or.inl ⟨by rfl, by intro x hSw; (try dsimp only at hSw); have y0 := (hSw.cell (p := ⟨bc, 0, none⟩) zbc).trans kbc0; first | (go_simp; done) | (go_simp; with_reducible rfl)⟩)
                      refine tk9 11 kB ?_
                      refine tk9 12 kB ?_
                      refine tk9 13 kB ?_
                      refine tk9 14 kB ?_ (hy := Or.inl ⟨by rfl, by intro x hSw; (try dsimp only at hSw); have y0 := (hSw.cell (p := ⟨bc, 1, none⟩) zbc).trans kbc1; first | (go_simp; done) | (go_simp; with_reducible rfl)⟩)
                      refine wpAnyH_ready (rs := [10]) (by kernel_rfl) (by simp) ?_
                      refine AllReadyH.cons (by simp only [List.getElem?_toArray, List.getElem?_cons_succ, List.getElem?_cons_zero]; rfl) (fun K hK => ?_) AllReadyH.nil
                      try go_simp
                      refine (n1.out _).mono ?_
                      rintro e w11 ⟨rfl, b11⟩
                      replace kB := trans9 kB b11
                      refine hK.out _ _ kB (fun hHeld => ?_)
                      clear hK K hHeld
                      (try simp only [Act.put, List.setIfInBounds_toArray, List.set_cons_zero, List.set_cons_succ])
                      refine wpAnyH_ready (rs := [15]) (by kernel_rfl) (by simp) ?_
                      refine AllReadyH.cons (by simp only [List.getElem?_toArray, List.getElem?_cons_succ, List.getElem?_cons_zero]; rfl) (fun K hK => ?_) AllReadyH.nil
                      try go_simp
                      refine (n2.out _).mono ?_
                      rintro e w12 ⟨rfl, b12⟩
                      replace kB := trans9 kB b12
                      refine hK.out _ _ kB (fun hHeld => ?_)
                      clear hK K hHeld
                      (try simp only [Act.put, List.setIfInBounds_toArray, List.set_cons_zero, List.set_cons_succ])
                      refine tk9 16 kB ?_
                      refine tk9 17 kB ?_
                      refine tk9 18 kB ?_
                      refine tk9 19 kB ?_
                      refine tk9 20 kB ?_
                      refine tk9 21 kB ?_
                      refine tk9 22 kB ?_
                      refine tk9 23 kB ?_ (hy := Or.inl ⟨by rfl, by intro x hSw; (try dsimp only at hSw); have y0 := (hSw.cell (p := ⟨bc, 0, none⟩) zbc).trans kbc0; first | (go_simp; done) | (go_simp; with_reducible rfl)⟩)
                      refine tk9 24 kB ?_
                      refine tk9 25 kB ?_ (hy := Or.inl ⟨by rfl, by intro x hSw; (try dsimp only at hSw); have y0 := (hSw.cell (p := ⟨b8, 0, none⟩) zb8).trans kb80; first | (go_simp; done) | (go_simp; with_reducible rfl)⟩)
                      refine tk9 26 kB ?_
                      refine tk9 27 kB ?_
                      refine tk9 28 kB ?_
                      refine tk9 29 kB ?_ (v := undef) (hy := Or.inr ⟨by rfl, rfl⟩)
                      refine tk9 30 kB ?_ (v := undef) (hy := Or.inr ⟨by rfl, rfl⟩)
                      refine tk9 31 kB ?_ (v := undef) (hy := Or.inr ⟨by rfl, rfl⟩)
                      refine tk9 32 kB ?_ (v := undef) (hy := Or.inr ⟨by rfl, rfl⟩)
                      refine tk9 33 kB ?_ (v := undef) (hy := Or.inr ⟨by rfl, rfl⟩)
                      refine tk9 34 kB ?_ (v := undef) (hy := Or.inr ⟨by rfl, rfl⟩)
                      refine tk9 35 kB ?_ (v := undef) (hy := Or.inr ⟨by rfl, rfl⟩)
                      refine tk9 36 kB ?_ (v := undef) (hy := Or.inr ⟨by rfl, rfl⟩)
                      refine tk9 37 kB ?_ (v := undef) (hy := Or.inr ⟨by rfl, rfl⟩)
                      refine tk9 38 kB ?_ (v := undef) (hy := Or.inr ⟨by rfl, rfl⟩)
                      refine tk9 39 kB ?_ (v := undef) (hy := Or.inr ⟨by rfl, rfl⟩)
                      refine tk9 40 kB ?_ (v := undef) (hy := Or.inr ⟨by rfl, rfl⟩)
                      refine tk9 41 kB ?_
                      refine tk9 42 kB ?_
                      refine wpAnyH_done (by kernel_rfl) ?_ _
                      refine NoPanic.normal ?_
                      go_wp2_with fail
                      go_meet
                      exact ⟨by rw [HR.out], kB⟩
                    · have d2 : Op.bytesLess X A = false := by rw [bl_lt]; exact decide_eq_false hXA
                      by_cases hE : X = A
                      · have e3 : (X == A) = true := beq_iff_eq.2 hE
                        by_cases hYZ : Y < Z
                        · have d3 : Op.bytesLess Y Z = true := by rw [bl_lt]; exact decide_eq_true hYZ
                          have HR := Lib.hid (HR0.out.trans (show _ = true from by simp only [hXY, hXA, decide_true, decide_false, decide_eq_true hE, decide_eq_true hYZ]; rfl))
                          clear hXY hXA hE hYZ HR0
                          refine wp_region_noPanic ?_
                          refine wp_region_held_drew (S := fun X => Below w9.heap.size w9 X) (by kernel_rfl) ?_ (fun hHeld => ?_)
                          · exact Below.drew (Below.refl _ _)
                          have kB : Below w9.heap.size w9 w9.drew := Below.drew (Below.refl _ _)
                          clear hHeld
                          refine tk9 0 kB ?_
                          refine tk9 1 kB ?_ (hy := Or.inl ⟨by rfl, by intro x hSw; (try dsimp only at hSw); have y0 := (hSw.cell (p := ⟨bc, 0, none⟩) zbc).trans kbc0; first | (go_simp; done) | (go_simp; with_reducible rfl)⟩)
                          refine tk9 2 kB ?_
                          refine tk9 3 kB ?_ (hy := Or.inl ⟨by rfl, by intro x hSw; (try dsimp only at hSw); have y0 := (hSw.cell (p := ⟨bc, 1, none⟩) zbc).trans kbc1; first | (go_simp; done) | (go_simp; with_reducible rfl)⟩)
                          refine tk9 4 kB ?_
                          refine tk9 5 kB ?_
                          refine tk9 6 kB ?_
                          refine tk9 7 kB ?_
                          refine tk9 8 kB ?_
                          refine tk9 9 kB ?_ (hy := Or.inl ⟨by rfl, by intro x hSw; (try dsimp only at hSw); have y0 := (hSw.cell (p := ⟨bc, 0, none⟩) zbc).trans kbc0; first | (go_simp; done) | (go_simp; with_reducible rfl)⟩)
                          refine tk9 11 kB ?_
                          refine tk9 12 kB ?_
                          refine tk9 13 kB ?_
                          refine tk9 14 kB ?_ (hy := Or.inl ⟨by rfl, by intro x hSw; (try dsimp only at hSw); have y0 := (hSw.cell (p := ⟨bc, 1, none⟩) zbc).trans kbc1; first | (go_simp; done) | (go_simp; with_reducible rfl)⟩)
                          refine wpAnyH_ready (rs := [10]) (by kernel_rfl) (by simp) ?_
                          refine AllReadyH.cons (by simp only [List.getElem?_toArray, List.getElem?_cons_succ, List.getElem?_cons_zero]; rfl) (fun K hK => ?_) AllReadyH.nil
                          try go_simp
                          refine (n1.out _).mono ?_
                          rintro e w11 ⟨rfl, b11⟩
                          replace kB := trans9 kB b11
                          refine hK.out _ _ kB (fun hHeld => ?_)
                          clear hK K hHeld
                          (try simp only [Act.put, List.setIfInBounds_toArray, List.set_cons_zero, List.set_cons_succ])
                          refine wpAnyH_ready (rs := [15]) (by kernel_rfl) (by simp) ?_
                          refine AllReadyH.cons (by simp only [List.getElem?_toArray, List.getElem?_cons_succ, List.getElem?_cons_zero]; rfl) (fun K hK => ?_) AllReadyH.nil
                          try go_simp
                          refine (n2.out _).mono ?_
                          rintro e w12 ⟨rfl, b12⟩
                          replace kB := trans9 kB b12
                          refine hK.out _ _ kB (fun hHeld => ?_)
                          clear hK K hHeld
                          (try simp only [Act.put, List.setIfInBounds_toArray, List.set_cons_zero, List.set_cons_succ])
                          refine tk9 16 kB ?_
                          refine tk9 17 kB ?_
                          refine tk9 18 kB ?_
                          refine tk9 19 kB ?_
                          refine tk9 20 kB ?_
                          refine tk9 21 kB ?_
                          refine tk9 22 kB ?_
                          refine tk9 23 kB ?_ (hy := Or.inl ⟨by rfl, by intro x hSw; (try dsimp only at hSw); have y0 := (hSw.cell (p := ⟨bc, 0, none⟩) zbc).trans kbc0; first | (go_simp; done) | (go_simp; with_reducible rfl)⟩)
                          refine tk9 24 kB ?_
                          refine tk9 25 kB ?_ (hy := Or.inl ⟨by rfl, by intro x hSw; (try dsimp only at hSw); have y0 := (hSw.cell (p := ⟨b8, 0, none⟩) zb8).trans kb80; first | (go_simp; done) | (go_simp; with_reducible rfl)⟩)
                          refine tk9 26 kB ?_
                          refine tk9 27 kB ?_
                          refine tk9 28 kB ?_
                          refine tk9 29 kB ?_
                          refine tk9 30 kB ?_ (hy := Or.inl ⟨by rfl, by intro x hSw; (try dsimp only at hSw); have y0 := (hSw.cell (p := ⟨bc, 0, none⟩) zbc).trans kbc0; first | (go_simp; done) | (go_simp; with_reducible rfl)⟩)
                          refine tk9 31 kB ?_
                          refine tk9 32 kB ?_ (hy := Or.inl ⟨by rfl, by intro x hSw; (try dsimp only at hSw); have y0 := (hSw.cell (p := ⟨b8, 0, none⟩) zb8).trans kb80; first | (go_simp; done) | (go_simp; with_reducible rfl)⟩)
                          refine tk9 33 kB ?_
                          refine tk9 34 kB ?_
                          refine tk9 35 kB ?_
                          refine tk9 36 kB ?_ (hy := Or.inl ⟨by rfl, by intro x hSw; (try dsimp only at hSw); have y0 := (hSw.cell (p := ⟨bc, 1, none⟩) zbc).trans kbc1; first | (go_simp; done) | (go_simp; with_reducible rfl)⟩)
                          refine tk9 37 kB ?_
                          refine tk9 38 kB ?_ (hy := Or.inl ⟨by rfl, by intro x hSw; (try dsimp only at hSw); have y0 := (hSw.cell (p := ⟨b8, 1, none⟩) zb8).trans kb81; first | (go_simp; done) | (go_simp; with_reducible rfl)⟩)
                          refine tk9 39 kB ?_
                          refine tk9 40 kB ?_
                          refine tk9 41 kB ?_
                          refine tk9 42 kB ?_
                          refine wpAnyH_done (by kernel_rfl) ?_ _
                          refine NoPanic.normal ?_
                          go_wp2_with fail
                          go_meet
                          exact ⟨by rw [HR.out], kB⟩
                        · have d3 : Op.bytesLess Y Z = false := by rw [bl_lt]; exact decide_eq_false hYZ
                          have HR := Lib.hid (HR0.out.trans (show _ = false from by simp only [hXY, hXA, decide_true, decide_false, decide_eq_true hE, decide_eq_false hYZ]; rfl))
                          clear hXY hXA hE hYZ HR0
                          refine wp_region_noPanic ?_
                          refine wp_region_held_drew (S := fun X => Below w9.heap.size w9 X) (by kernel_rfl) ?_ (fun hHeld => ?_)
                          · exact Below.drew (Below.refl _ _)
                          have kB : Below w9.heap.size w9 w9.drew := Below.drew (Below.refl _ _)
                          clear hHeld
                          refine tk9 0 kB ?_
                          refine tk9 1 kB ?_ (hy := Or.inl ⟨by rfl, by intro x hSw; (try dsimp only at hSw); have y0 := (hSw.cell (p := ⟨bc, 0, none⟩) zbc).trans kbc0; first | (go_simp; done) | (go_simp; with_reducible rfl)⟩)
                          refine tk9 2 kB ?_
                          refine tk9 3 kB ?_ (hy := Or.inl ⟨by rfl, by intro x hSw; (try dsimp only at hSw); have y0 := (hSw.cell (p := ⟨bc, 1, none⟩) zbc).trans kbc1; first | (go_simp; done) | (go_simp; with_reducible rfl)⟩)
                          refine tk9 4 kB ?_
                          refine tk9 5 kB ?_
                          refine tk9 6 kB ?_
                          refine tk9 7 kB ?_
                          refine tk9 8 kB ?_
                          refine tk9 9 kB ?_ (hy := Or.inl ⟨by rfl, by intro x hSw; (try dsimp only at hSw); have y0 := (hSw.cell (p := ⟨bc, 0, none⟩) zbc).trans kbc0; first | (go_simp; done) | (go_simp; with_reducible rfl)⟩)
                          refine tk9 11 kB ?_
                          refine tk9 12 kB ?_
                          refine tk9 13 kB ?_
                          refine tk9 14 kB ?_ (hy := Or.inl ⟨by rfl, by intro x hSw; (try dsimp only at hSw); have y0 := (hSw.cell (p := ⟨bc, 1, none⟩) zbc).trans kbc1; first | (go_simp; done) | (go_simp; with_reducible rfl)⟩)
                          refine wpAnyH_ready (rs := [10]) (by kernel_rfl) (by simp) ?_
                          refine AllReadyH.cons (by simp only [List.getElem?_toArray, List.getElem?_cons_succ, List.getElem?_cons_zero]; rfl) (fun K hK => ?_) AllReadyH.nil
                          try go_simp
                          refine (n1.out _).mono ?_
                          rintro e w11 ⟨rfl, b11⟩
                          replace kB := trans9 kB b11
                          refine hK.out _ _ kB (fun hHeld => ?_)
                          clear hK K hHeld
                          (try simp only [Act.put, List.setIfInBounds_toArray, List.set_cons_zero, List.set_cons_succ])
                          refine wpAnyH_ready (rs := [15]) (by kernel_rfl) (by simp) ?_
                          refine AllReadyH.cons (by simp only [List.getElem?_toArray, List.getElem?_cons_succ, List.getElem?_cons_zero]; rfl) (fun K hK => ?_) AllReadyH.nil
                          try go_simp
                          refine (n2.out _).mono ?_
                          rintro e w12 ⟨rfl, b12⟩
                          replace kB := trans9 kB b12
                          refine hK.out _ _ kB (fun hHeld => ?_)
                          clear hK K hHeld
                          (try simp only [Act.put, List.setIfInBounds_toArray, List.set_cons_zero, List.set_cons_succ])
                          refine tk9 16 kB ?_
                          refine tk9 17 kB ?_
                          refine tk9 18 kB ?_
                          refine tk9 19 kB ?_
                          refine tk9 20 kB ?_
                          refine tk9 21 kB ?_
                          refine tk9 22 kB ?_
                          refine tk9 23 kB ?_ (hy := Or.inl ⟨by rfl, by intro x hSw; (try dsimp only at hSw); have y0 := (hSw.cell (p := ⟨bc, 0, none⟩) zbc).trans kbc0; first | (go_simp; done) | (go_simp; with_reducible rfl)⟩)
                          refine tk9 24 kB ?_
                          refine tk9 25 kB ?_ (hy := Or.inl ⟨by rfl, by intro x hSw; (try dsimp only at hSw); have y0 := (hSw.cell (p := ⟨b8, 0, none⟩) zb8).trans kb80; first | (go_simp; done) | (go_simp; with_reducible rfl)⟩)
                          refine tk9 26 kB ?_
                          refine tk9 27 kB ?_
                          refine tk9 28 kB ?_
                          refine tk9 29 kB ?_
                          refine tk9 30 kB ?_ (hy := Or.inl ⟨by rfl, by intro x hSw; (try dsimp only at hSw); have y0 := (hSw.cell (p := ⟨bc, 0, none⟩) zbc).trans kbc0; first | (go_simp; done) | (go_simp; with_reducible rfl)⟩)
                          refine tk9 31 kB ?_
                          refine tk9 32 kB ?_ (hy := Or.inl ⟨by rfl, by intro x hSw; (try dsimp only at hSw); have y0 := (hSw.cell (p := ⟨b8, 0, none⟩) zb8).trans kb80; first | (go_simp; done) | (go_simp; with_reducible rfl)⟩)
                          refine tk9 33 kB ?_
                          refine tk9 34 kB ?_
                          refine tk9 35 kB ?_
                          refine tk9 36 kB ?_ (hy := Or.inl ⟨by rfl, by intro x hSw; (try dsimp only at hSw); have y0 := (hSw.cell (p := ⟨bc, 1, none⟩) zbc).trans kbc1; first | (go_simp; done) | (go_simp; with_reducible rfl)⟩)
                          refine tk9 37 kB ?_
                          refine tk9 38 kB ?_ (hy := Or.inl ⟨by rfl, by intro x hSw; (try dsimp only at hSw); have y0 := (hSw.cell (p := ⟨b8, 1, none⟩) zb8).trans kb81; first | (go_simp; done) | (go_simp; with_reducible rfl)⟩)
                          refine tk9 39 kB ?_
                          refine tk9 40 kB ?_
                          refine tk9 41 kB ?_
                          refine tk9 42 kB ?_
                          refine wpAnyH_done (by kernel_rfl) ?_ _
                          refine NoPanic.normal ?_
                          go_wp2_with fail
                          go_meet
                          exact ⟨by rw [HR.out], kB⟩
                      · have e3 : (X == A) = false := beq_eq_false_iff_ne.2 hE
                        have HR := Lib.hid (HR0.out.trans (show _ = false from by simp only [hXY, hXA, decide_true, decide_false, decide_eq_false hE]; rfl))
                        clear hXY hXA hE HR0
                        refine wp_region_noPanic ?_
                        refine wp_region_held_drew (S := fun X => Below w9.heap.size w9 X) (by kernel_rfl) ?_ (fun hHeld => ?_)
                        · exact Below.drew (Below.refl _ _)
                        have kB : Below w9.heap.size w9 w9.drew := Below.drew (Below.refl _ _)
                        clear hHeld
                        refine tk9 0 kB ?_
                        refine tk9 1 kB ?_ (hy := Or.inl ⟨by rfl, by intro x hSw; (try dsimp only at hSw); have y0 := (hSw.cell (p := ⟨bc, 0, none⟩) zbc).trans kbc0; first | (go_simp; done) | (go_simp; with_reducible rfl)⟩)
                        refine tk9 2 kB ?_
                        refine tk9 3 kB ?_ (hy := Or.inl ⟨by rfl, by intro x hSw; (try dsimp only at hSw); have y0 := (hSw.cell (p := ⟨bc, 1, none⟩) zbc).trans kbc1; first | (go_simp; done) | (go_simp; with_reducible rfl)⟩)
                        refine tk9 4 kB ?_
                        refine tk9 5 kB ?_
                        refine tk9 6 kB ?_
                        refine tk9 7 kB ?_
                        refine tk9 8 kB ?_
                        refine tk9 9 kB ?_ (hy := Or.inl ⟨by rfl, by intro x hSw; (try dsimp only at hSw); have y0 := (hSw.cell (p := ⟨bc, 0, none⟩) zbc).trans kbc0; first | (go_simp; done) | (go_simp; with_reducible rfl)⟩)
                        refine tk9 11 kB ?_
                        refine tk9 12 kB ?_
                        refine tk9 13 kB ?_
                        refine tk9 14 kB ?_ (hy := Or.inl ⟨by rfl, by intro x hSw; (try dsimp only at hSw); have y0 := (hSw.cell (p := ⟨bc, 1, none⟩) zbc).trans kbc1; first | (go_simp; done) | (go_simp; with_reducible rfl)⟩)
                        refine wpAnyH_ready (rs := [10]) (by kernel_rfl) (by simp) ?_
                        refine AllReadyH.cons (by simp only [List.getElem?_toArray, List.getElem?_cons_succ, List.getElem?_cons_zero]; rfl) (fun K hK => ?_) AllReadyH.nil
                        try go_simp
                        refine (n1.out _).mono ?_
                        rintro e w11 ⟨rfl, b11⟩
                        replace kB := trans9 kB b11
                        refine hK.out _ _ kB (fun hHeld => ?_)
                        clear hK K hHeld
                        (try simp only [Act.put, List.setIfInBounds_toArray, List.set_cons_zero, List.set_cons_succ])
                        refine wpAnyH_ready (rs := [15]) (by kernel_rfl) (by simp) ?_
                        refine AllReadyH.cons (by simp only [List.getElem?_toArray, List.getElem?_cons_succ, List.getElem?_cons_zero]; rfl) (fun K hK => ?_) AllReadyH.nil
                        try go_simp
                        refine (n2.out _).mono ?_
                        rintro e w12 ⟨rfl, b12⟩
                        replace kB := trans9 kB b12
                        refine hK.out _ _ kB (fun hHeld => ?_)
                        clear hK K hHeld
                        (try simp only [Act.put, List.setIfInBounds_toArray, List.set_cons_zero, List.set_cons_succ])
                        refine tk9 16 kB ?_
                        refine tk9 17 kB ?_
                        refine tk9 18 kB ?_
                        refine tk9 19 kB ?_
                        refine tk9 20 kB ?_
                        refine tk9 21 kB ?_
                        refine tk9 22 kB ?_
                        refine tk9 23 kB ?_ (hy := Or.inl ⟨by rfl, by intro x hSw; (try dsimp only at hSw); have y0 := (hSw.cell (p := ⟨bc, 0, none⟩) zbc).trans kbc0; first | (go_simp; done) | (go_simp; with_reducible rfl)⟩)
                        refine tk9 24 kB ?_
                        refine tk9 25 kB ?_ (hy := Or.inl ⟨by rfl, by intro x hSw; (try dsimp only at hSw); have y0 := (hSw.cell (p := ⟨b8, 0, none⟩) zb8).trans kb80; first | (go_simp; done) | (go_simp; with_reducible rfl)⟩)
                        refine tk9 26 kB ?_
                        refine tk9 27 kB ?_
                        refine tk9 28 kB ?_
                        refine tk9 29 kB ?_
                        refine tk9 30 kB ?_ (hy := Or.inl ⟨by rfl, by intro x hSw; (try dsimp only at hSw); have y0 := (hSw.cell (p := ⟨bc, 0, none⟩) zbc).trans kbc0; first | (go_simp; done) | (go_simp; with_reducible rfl)⟩)
                        refine tk9 31 kB ?_
                        refine tk9 32 kB ?_ (hy := Or.inl ⟨by rfl, by intro x hSw; (try dsimp only at hSw); have y0 := (hSw.cell (p := ⟨b8, 0, none⟩) zb8).trans kb80; first | (go_simp; done) | (go_simp; with_reducible rfl)⟩)
                        refine tk9 33 kB ?_
                        refine tk9 34 kB ?_
                        refine tk9 35 kB ?_ (v := undef) (hy := Or.inr ⟨by rfl, rfl⟩)
                        refine tk9 36 kB ?_ (v := undef) (hy := Or.inr ⟨by rfl, rfl⟩)
                        refine tk9 37 kB ?_ (v := undef) (hy := Or.inr ⟨by rfl, rfl⟩)
                        refine tk9 38 kB ?_ (v := undef) (hy := Or.inr ⟨by rfl, rfl⟩)
                        refine tk9 39 kB ?_ (v := undef) (hy := Or.inr ⟨by rfl, rfl⟩)
                        refine tk9 40 kB ?_
                        refine tk9 41 kB ?_
                        refine tk9 42 kB ?_
                        refine wpAnyH_done (by kernel_rfl) ?_ _
                        refine NoPanic.normal ?_
                        go_wp2_with fail
                        go_meet
                        exact ⟨by rw [HR.out], kB⟩
                · have e2 : (fx == fy) = false := beq_eq_false_iff_ne.2 hff
                  have HR := Lib.hid (HR0.out.trans (show _ = false from by simp [hff]))
                  clear hXY hff HR0
                  refine wp_region_noPanic ?_
                  refine wp_region_held_drew (S := fun X => Below w9.heap.size w9 X) (by kernel_rfl) ?_ (fun hHeld => ?_)
                  · exact Below.drew (Below.refl _ _)
                  have kB : Below w9.heap.size w9 w9.drew := Below.drew (Below.refl _ _)
                  clear hHeld
                  refine tk9 0 kB ?_
                  refine tk9 1 kB ?_ (hy := Or.inl ⟨by rfl, by intro x hSw; (try dsimp only at hSw); have y0 := (hSw.cell (p := ⟨bc, 0, none⟩) zbc).trans kbc0; first | (go_simp; done) | (go_simp; with_reducible rfl)⟩)
                  refine tk9 2 kB ?_
                  refine tk9 3 kB ?_ (hy := Or.inl ⟨by rfl, by intro x hSw; (try dsimp only at hSw); have y0 := (hSw.cell (p := ⟨bc, 1, none⟩) zbc).trans kbc1; first | (go_simp; done) | (go_simp; with_reducible rfl)⟩)
                  refine tk9 4 kB ?_
                  refine tk9 5 kB ?_
                  refine tk9 6 kB ?_
                  refine tk9 7 kB ?_
                  refine tk9 8 kB ?_
                  refine tk9 9 kB ?_ (hy := Or.inl ⟨by rfl, by intro x hSw; (try dsimp only at hSw); have y0 := (hSw.cell (p := ⟨bc, 0, none⟩) zbc).trans kbc0; first | (go_simp; done) | (go_simp; with_reducible rfl)⟩)
                  refine tk9 11 kB ?_
                  refine tk9 12 kB ?_
                  refine tk9 13 kB ?_
                  refine tk9 14 kB ?_ (hy := Or.inl ⟨by rfl, by intro x hSw; (try dsimp only at hSw); have y0 := (hSw.cell (p := ⟨bc, 1, none⟩) zbc).trans kbc1; first | (go_simp; done) | (go_simp; with_reducible rfl)⟩)
                  refine wpAnyH_ready (rs := [10]) (by kernel_rfl) (by simp) ?_
                  refine AllReadyH.cons (by simp only [List.getElem?_toArray, List.getElem?_cons_succ, List.getElem?_cons_zero]; rfl) (fun K hK => ?_) AllReadyH.nil
                  try go_simp
                  refine (n1.out _).mono ?_
                  rintro e w11 ⟨rfl, b11⟩
                  replace kB := trans9 kB b11
                  refine hK.out _ _ kB (fun hHeld => ?_)
                  clear hK K hHeld
                  (try simp only [Act.put, List.setIfInBounds_toArray, List.set_cons_zero, List.set_cons_succ])
                  refine wpAnyH_ready (rs := [15]) (by kernel_rfl) (by simp) ?_
                  refine AllReadyH.cons (by simp only [List.getElem?_toArray, List.getElem?_cons_succ, List.getElem?_cons_zero]; rfl) (fun K hK => ?_) AllReadyH.nil
                  try go_simp
                  refine (n2.out _).mono ?_
                  rintro e w12 ⟨rfl, b12⟩
                  replace kB := trans9 kB b12
                  refine hK.out _ _ kB (fun hHeld => ?_)
                  clear hK K hHeld
                  (try simp only [Act.put, List.setIfInBounds_toArray, List.set_cons_zero, List.set_cons_succ])
                  refine tk9 16 kB ?_
                  refine tk9 17 kB ?_
                  refine tk9 18 kB ?_
                  refine tk9 19 kB ?_ (v := undef) (hy := Or.inr ⟨by rfl, rfl⟩)
                  refine tk9 20 kB ?_ (v := undef) (hy := Or.inr ⟨by rfl, rfl⟩)
                  refine tk9 21 kB ?_ (v := undef) (hy := Or.inr ⟨by rfl, rfl⟩)
                  refine tk9 22 kB ?_ (v := undef) (hy := Or.inr ⟨by rfl, rfl⟩)
                  refine tk9 23 kB ?_ (v := undef) (hy := Or.inr ⟨by rfl, rfl⟩)
                  refine tk9 24 kB ?_ (v := undef) (hy := Or.inr ⟨by rfl, rfl⟩)
                  refine tk9 25 kB ?_ (v := undef) (hy := Or.inr ⟨by rfl, rfl⟩)
                  refine tk9 26 kB ?_ (v := undef) (hy := Or.inr ⟨by rfl, rfl⟩)
                  refine tk9 27 kB ?_ (v := undef) (hy := Or.inr ⟨by rfl, rfl⟩)
                  refine tk9 28 kB ?_ (v := undef) (hy := Or.inr ⟨by rfl, rfl⟩)
                  refine tk9 29 kB ?_ (v := undef) (hy := Or.inr ⟨by rfl, rfl⟩)
                  refine tk9 30 kB ?_ (v := undef) (hy := Or.inr ⟨by rfl, rfl⟩)
                  refine tk9 31 kB ?_ (v := undef) (hy := Or.inr ⟨by rfl, rfl⟩)
                  refine tk9 32 kB ?_ (v := undef) (hy := Or.inr ⟨by rfl, rfl⟩)
                  refine tk9 33 kB ?_ (v := undef) (hy := Or.inr ⟨by rfl, rfl⟩)
                  refine tk9 34 kB ?_ (v := undef) (hy := Or.inr ⟨by rfl, rfl⟩)
                  refine tk9 35 kB ?_ (v := undef) (hy := Or.inr ⟨by rfl, rfl⟩)
                  refine tk9 36 kB ?_ (v := undef) (hy := Or.inr ⟨by rfl, rfl⟩)
                  refine tk9 37 kB ?_ (v := undef) (hy := Or.inr ⟨by rfl, rfl⟩)
                  refine tk9 38 kB ?_ (v := undef) (hy := Or.inr ⟨by rfl, rfl⟩)
                  refine tk9 39 kB ?_ (v := undef) (hy := Or.inr ⟨by rfl, rfl⟩)
                  refine tk9 40 kB ?_ (v := undef) (hy := Or.inr ⟨by rfl, rfl⟩)
                  refine tk9 41 kB ?_ (v := undef) (hy := Or.inr ⟨by rfl, rfl⟩)
                  refine tk9 42 kB ?_
                  refine wpAnyH_done (by kernel_rfl) ?_ _
                  refine NoPanic.normal ?_
                  go_wp2_with fail
                  go_meet
                  exact ⟨by rw [HR.out], kB⟩
              · have d1 : Op.bytesLess X Y = false := by rw [bl_lt]; exact decide_eq_false hXY
                have HR := Lib.hid (HR0.out.trans (show _ = false from by simp [hXY]))
                clear hXY HR0
                refine wp_region_noPanic ?_
                refine wp_region_held_drew (S := fun X => Below w9.heap.size w9 X) (by kernel_rfl) ?_ (fun hHeld => ?_)
                · exact Below.drew (Below.refl _ _)
                have kB : Below w9.heap.size w9 w9.drew := Below.drew (Below.refl _ _)
                clear hHeld
                refine tk9 0 kB ?_
                refine tk9 1 kB ?_ (hy := Or.inl ⟨by rfl, by intro x hSw; (try dsimp only at hSw); have y0 := (hSw.cell (p := ⟨bc, 0, none⟩) zbc).trans kbc0; first | (go_simp; done) | (go_simp; with_reducible rfl)⟩)
                refine tk9 2 kB ?_
                refine tk9 3 kB ?_ (hy := Or.inl ⟨by rfl, by intro x hSw; (try dsimp only at hSw); have y0 := (hSw.cell (p := ⟨bc, 1, none⟩) zbc).trans kbc1; first | (go_simp; done) | (go_simp; with_reducible rfl)⟩)
                refine tk9 4 kB ?_
                refine tk9 5 kB ?_
                refine tk9 6 kB ?_ (v := undef) (hy := Or.inr ⟨by rfl, rfl⟩)
                refine tk9 7 kB ?_ (v := undef) (hy := Or.inr ⟨by rfl, rfl⟩)
                refine tk9 8 kB ?_ (v := undef) (hy := Or.inr ⟨by rfl, rfl⟩)
                refine tk9 9 kB ?_ (v := undef) (hy := Or.inr ⟨by rfl, rfl⟩)
                refine tk9 10 kB ?_ (v := undef) (hy := Or.inr ⟨by rfl, rfl⟩)
                refine tk9 11 kB ?_ (v := undef) (hy := Or.inr ⟨by rfl, rfl⟩)
                refine tk9 12 kB ?_ (v := undef) (hy := Or.inr ⟨by rfl, rfl⟩)
                refine tk9 13 kB ?_ (v := undef) (hy := Or.inr ⟨by rfl, rfl⟩)
                refine tk9 14 kB ?_ (v := undef) (hy := Or.inr ⟨by rfl, rfl⟩)
                refine tk9 15 kB ?_ (v := undef) (hy := Or.inr ⟨by rfl, rfl⟩)
                refine tk9 16 kB ?_ (v := undef) (hy := Or.inr ⟨by rfl, rfl⟩)
                refine tk9 17 kB ?_
                refine tk9 18 kB ?_
                refine tk9 19 kB ?_ (v := undef) (hy := Or.inr ⟨by rfl, rfl⟩)
                refine tk9 20 kB ?_ (v := undef) (hy := Or.inr ⟨by rfl, rfl⟩)
                refine tk9 21 kB ?_ (v := undef) (hy := Or.inr ⟨by rfl, rfl⟩)
                refine tk9 22 kB ?_ (v := undef) (hy := Or.inr ⟨by rfl, rfl⟩)
                refine tk9 23 kB ?_ (v := undef) (hy := Or.inr ⟨by rfl, rfl⟩)
                refine tk9 24 kB ?_ (v := undef) (hy := Or.inr ⟨by rfl, rfl⟩)
                refine tk9 25 kB ?_ (v := undef) (hy := Or.inr ⟨by rfl, rfl⟩)
                refine tk9 26 kB ?_ (v := undef) (hy := Or.inr ⟨by rfl, rfl⟩)
                refine tk9 27 kB ?_ (v := undef) (hy := Or.inr ⟨by rfl, rfl⟩)
                refine tk9 28 kB ?_ (v := undef) (hy := Or.inr ⟨by rfl, rfl⟩)
                refine tk9 29 kB ?_ (v := undef) (hy := Or.inr ⟨by rfl, rfl⟩)
                refine tk9 30 kB ?_ (v := undef) (hy := Or.inr ⟨by rfl, rfl⟩)
                refine tk9 31 kB ?_ (v := undef) (hy := Or.inr ⟨by rfl, rfl⟩)
                refine tk9 32 kB ?_ (v := undef) (hy := Or.inr ⟨by rfl, rfl⟩)
                refine tk9 33 kB ?_ (v := undef) (hy := Or.inr ⟨by rfl, rfl⟩)
                refine tk9 34 kB ?_ (v := undef) (hy := Or.inr ⟨by rfl, rfl⟩)
                refine tk9 35 kB ?_ (v := undef) (hy := Or.inr ⟨by rfl, rfl⟩)
                refine tk9 36 kB ?_ (v := undef) (hy := Or.inr ⟨by rfl, rfl⟩)
                refine tk9 37 kB ?_ (v := undef) (hy := Or.inr ⟨by rfl, rfl⟩)
                refine tk9 38 kB ?_ (v := undef) (hy := Or.inr ⟨by rfl, rfl⟩)
                refine tk9 39 kB ?_ (v := undef) (hy := Or.inr ⟨by rfl, rfl⟩)
                refine tk9 40 kB ?_ (v := undef) (hy := Or.inr ⟨by rfl, rfl⟩)
                refine tk9 41 kB ?_ (v := undef) (hy := Or.inr ⟨by rfl, rfl⟩)
                refine tk9 42 kB ?_
                refine wpAnyH_done (by kernel_rfl) ?_ _
                refine NoPanic.normal ?_
                go_wp2_with fail
                go_meet
                exact ⟨by rw [HR.out], kB⟩
            case rest =>
              obtain ⟨rfl, HB2⟩ := hcut
              have hb8 := Hb8.out
              subst hb8
              clear Hb8
              have R2 := HB.out.1.below HB2.out
              have ebc := (HB2.out.block bc zbc).trans HB.out.2.2
              clear kbc0 kbc1 kb80 kb81
              cases hv : rcV (Ch.loss P S) (pA o) (pB o) o.isSome X Y with
              | false =>
                have HS2 := Lib.hid (show Co.collTo (Ch.loss P S) (nms n ls) i (k + 1) = o by rw [HS.out, hv]; rfl)
                have HR2 := Lib.hid R2
                clear hv R2 HS
                go_wp2_with fail
                go_roundw
                case rel => exact ⟨k + 1, hkn, by rw [HS2.out], by go_num, by rw [HS2.out]; exact HR2.out⟩
                case measure => simp [intOf]; omega
              | true =>
                have HS2 := Lib.hid (show Co.collTo (Ch.loss P S) (nms n ls) i (k + 1) = some (X, Y) by rw [HS.out, hv]; rfl)
                have e8 := R2.e8
                have kbc0 : wc.cell? ⟨bc, 0, none⟩ = some (.string (str X)) := by rw [cell_of_row _ _ 0 _ _ _ ebc]; rfl
                have kbc1 : wc.cell? ⟨bc, 1, none⟩ = some (.string (str Y)) := by rw [cell_of_row _ _ 1 _ _ _ ebc]; rfl
                have kb80 : wc.cell? ⟨w.heap.size + 1, 0, none⟩ = some (.string (str (pA o))) := by rw [cell_of_row _ _ 0 _ _ _ e8]; rfl
                have kb81 : wc.cell? ⟨w.heap.size + 1, 1, none⟩ = some (.string (str (pB o))) := by rw [cell_of_row _ _ 1 _ _ _ e8]; rfl
                have fb80 : wc.frozen? ⟨w.heap.size + 1, 0, none⟩ = false := Lib.frozen_of_heap e8 0
                have fb81 : wc.frozen? ⟨w.heap.size + 1, 1, none⟩ = false := Lib.frozen_of_heap e8 1
                have R3 := R2.put X Y
                have HR2 := Lib.hid R3
                clear hv R2 R3 HS e8 ebc
                go_wp2_with fail
                go_roundw
                case rel => exact ⟨k + 1, hkn, by rw [HS2.out]; rfl, by go_num, by rw [HS2.out]; exact HR2.out⟩
                case measure => simp [intOf]; omega
        · obtain rfl : k = n := by omega
          have d2 : decide ((k : Int) < (k : Int)) = false := decide_eq_false (by omega)
          have d2' : decide (k < k) = false := decide_eq_false (by omega)
          have HS2 := Lib.hid (show Co.collTo (Ch.loss P S) (nms k ls) (i + 1) 0 = Co.collTo (Ch.loss P S) (nms k ls) i k by rw [Co.collTo_next _ _ _ (by rw [HL.out]; exact hin), HL.out])
          go_wp2_with fail
          go_roundw
          case rel => exact ⟨i + 1, hin, by rw [HS2.out], by go_num, by rw [HS2.out]; exact H.out⟩
          case measure => simp [intOf]; omega
    · obtain rfl : i = n := by omega
      have d1 : decide ((i : Int) < (i : Int)) = false := decide_eq_false (by omega)
      have d1' : decide (i < i) = false := decide_eq_false (by omega)
      have HO := Lib.hid (show Co.collTo (Ch.loss P S) (nms i ls) i 0 = Co.collO (Ch.loss P S) (nms i ls) by unfold Co.collO; rw [HL.out])
      rw [HO.out] at H
      rw [HO.out]
      have Hb8 := Lib.hid (show ∃ b8, w.heap.size + 1 = b8 from ⟨_, rfl⟩)
      obtain ⟨b8, hb8⟩ := Hb8.out
      generalize hO : Co.collO (Ch.loss P S) (nms i ls) = o at *
      have HOo := Lib.hid hO
      clear hO
      have e8 := H.out.e8
      have e6 := H.out.e6
      have kb80 : wr.cell? ⟨w.heap.size + 1, 0, none⟩ = some (.string (str (pA o))) := by rw [cell_of_row _ _ 0 _ _ _ e8]; rfl
      have kb81 : wr.cell? ⟨w.heap.size + 1, 1, none⟩ = some (.string (str (pB o))) := by rw [cell_of_row _ _ 1 _ _ _ e8]; rfl
      have kb60 : wr.cell? ⟨w.heap.size, 0, none⟩ = some (.string ⟨#[]⟩) := by rw [cell_of_row _ _ 0 _ _ _ e6]; rfl
      have kb61 : wr.cell? ⟨w.heap.size, 1, none⟩ = some (.string ⟨#[]⟩) := by rw [cell_of_row _ _ 1 _ _ _ e6]; rfl
      have fb60 : wr.frozen? ⟨w.heap.size, 0, none⟩ = false := Lib.frozen_of_heap e6 0
      have fb61 : wr.frozen? ⟨w.heap.size, 1, none⟩ = false := Lib.frozen_of_heap e6 1
      clear hb8
      have e61 := set_heap _ w.heap.size 1 _ _ _ (.string (str (pB o))) (set_heap wr w.heap.size 0 _ _ _ (.string (str (pA o))) e6)
      have y0 : ((wr.setCell ⟨w.heap.size, 0, none⟩ (.string (str (pA o)))).setCell ⟨w.heap.size, 1, none⟩ (.string (str (pB o)))).cell? ⟨w.heap.size, 0, none⟩ = some (.string (str (pA o))) := by rw [cell_of_row _ _ 0 _ _ _ e61]; rfl
      have y1 : ((wr.setCell ⟨w.heap.size, 0, none⟩ (.string (str (pA o)))).setCell ⟨w.heap.size, 1, none⟩ (.string (str (pB o)))).cell? ⟨w.heap.size, 1, none⟩ = some (.string (str (pB o))) := by rw [cell_of_row _ _ 1 _ _ _ e61]; rfl
      have HE := Lib.hid e61
      clear e61 e6 e8
      go_wp2_with fail
      refine bodyPost_ret (v := .tuple #[.agg #[.string (str (pA o)), .string (str (pB o))], .bool o.isSome]) (by simp [results, Tryd.results9, go_sem, y0, y1]) rfl ⟨by rw [HOo.out, collV_is], (H.out.bl.setCell (p := ⟨w.heap.size, 0, none⟩) (Nat.le_refl _) _).setCell (p := ⟨w.heap.size, 1, none⟩) (Nat.le_refl _) _⟩

end Go.Proofs.YtgdhfmcipaoapaaDoor
