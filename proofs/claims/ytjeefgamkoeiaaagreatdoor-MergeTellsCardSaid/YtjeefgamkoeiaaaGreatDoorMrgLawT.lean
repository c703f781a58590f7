/- The walk of the law MergeTells. -/
import Derived.Test.YtjeefgamkoeiaaaGreatDoorMrgR
import Derived.Test.YtjeefgamkoeiaaaGreatDoorMrgK
import Derived.Test.YtjeefgamkoeiaaaGreatDoorRefMrgA
import Derived.Test.YtjeefgamkoeiaaaGreatDoorBatW
set_option maxRecDepth 100000
set_option linter.unusedVariables false
set_option linter.unusedSimpArgs false
namespace Go.Proofs.YtjeefgamkoeiaaaGreatDoor
open Go.RowKit Go.Sort Dc
attribute [local go_sem ↓] Go.wp_at_zero Go.wp_at_succ

theorem same_ok3 (t s : List UInt8) (L M : List Fs) (v u : Value) (w : World) (hv : FmRow w v L) (hu : FmRow w u M) (hn : FpFew (fms L)) (h : fms L = fms M) (ht : t = s) :
    Calls Tryz.prog 12 #[batv t v, batv s u] w fun e w' => e = .returned (.bool true) ∧ Below w.heap.size w w' := by
  subst ht
  have hs := brsame_calls t t L M v u w hv hu hn.rows
  rw [h, sameB_refl] at hs
  exact hs
theorem minF_few {es : Nat → ByteArray} {n : Nat} {F : List Fs} (h : FmFew F) : FpFew (minF es n (fms F)) := by
  rw [← minS_fms]
  exact (minS_few h).plain
theorem rmerge_of (L : List Bp) (l : List Bs) (v : Value) (w : World) (hv : BtRow w v l) (hf : BtFew l) (hl4 : l.length ≤ 4) (hl : bps l = L) :
    Calls Tryz.prog 11 #[v] w fun e w' => MrgRes L e w' ∧ Below w.heap.size w w' := by
  subst hl
  exact rmerge_calls l v w hv hf hl4
theorem famOk_few (o : Option Fp) {h g : Hd} {A B : List Pt} (h1 : (h, A) = o.getD (hd0, [])) (h2 : (g, B) = o.getD (hd0, [])) : h = g ∧ A = B := by
  have e := h1.trans h2.symm
  exact ⟨congrArg Prod.fst e, congrArg Prod.snd e⟩
theorem PutRes.rput {z : Nat} {E : Nat → Prop} {o : Option Fp} {e : Ending} {w' : World} (h : PutRes z o e w') (hE : ∀ b, E b → b < z) : RPut E o e w' := by
  obtain ⟨A, n, cap, M, hd, he, hk, hm⟩ := h
  exact ⟨A, n, cap, M, hd, he, hk.off hE, hm⟩
theorem mput_of {E : Nat → Prop} {o : Option Fp} {x y : Value} {z : World} (h : Calls Tryz.prog 15 #[x, y] z fun e w' => PutRes z.heap.size o e w' ∧ Below z.heap.size z w') (hE : ∀ b, E b → b < z.heap.size) :
    Calls Tryz.prog 15 #[x, y] z fun e w' => RPut E o e w' ∧ Below z.heap.size z w' :=
  h.mono fun e w' hh => ⟨hh.1.rput hE, hh.2⟩

set_option maxHeartbeats 64000000 in
theorem tells_walk (l : List Bs) (n : Nat) (es : Nat → ByteArray) (v u : Value) (w : World) (hv : BtRow w v l) (hu : StrRow w u n es) (hT : ShPl w) :
    Calls Tryz.prog 3 #[v, u] w fun e w' => e = .returned (.bool true) ∧ Below w.heap.size w w' := by
  have HV := Lib.hid hv
  have HP := Lib.hid hv.2
  have HU := Lib.hid hu
  have HT := Lib.hid (fun W (hW : Below w.heap.size w W) => shpl_below hT hW)
  have hT0 := Lib.hid (mknown_calls w hT)
  obtain ⟨A, cap, rfl, hlc, hcm, hnil, hrow⟩ := hv.1
  obtain ⟨Au, capu, rfl, _, _, _⟩ := hu
  have HR := Lib.hid hrow
  clear hrow hnil hv hT hlc hcm
  go_enter Tryz.func3, Tryz.ntmps3
  go_wp2_with fail
  refine hT0.out.mono ?_; rintro e w1 ⟨rfl, b1⟩
  have K1 := Lib.hid b1
  clear b1 hT0
  by_cases h4 : (4 : Int) < (l.length : Int)
  · have d4 : decide ((4 : Int) < (l.length : Int)) = true := decide_eq_true h4
    have d4' : decide (4 < l.length) = true := by simp; omega
    go_wp2
    go_ret
    exact ⟨rfl, K1.out⟩
  have d4 : decide ((4 : Int) < (l.length : Int)) = false := decide_eq_false h4
  have d4' : decide (4 < l.length) = false := by simp; omega
  have hl4 : l.length ≤ 4 := by omega
  clear h4
  by_cases h8 : (8 : Int) < (n : Int)
  · have d8 : decide ((8 : Int) < (n : Int)) = true := decide_eq_true h8
    have d8' : decide (8 < n) = true := by simp; omega
    go_wp2
    go_ret
    exact ⟨rfl, K1.out⟩
  have d8 : decide ((8 : Int) < (n : Int)) = false := decide_eq_false h8
  have d8' : decide (8 < n) = false := by simp; omega
  have hn8 : n ≤ 8 := by omega
  clear h8
  go_wp2_with fail
  go_loopw [5] (fun s wr => ∃ k : Nat, k ≤ l.length ∧ s = .int .i64 (k : Nat) ∧ Hid (∀ (i : Nat) (x : Bs), i < k → l[i]? = some x → FmFew x.F ∧ ∀ y ∈ x.F, y.L.length ≤ 500) ∧ Below w.heap.size w wr) (fun s _ => l.length - (intOf s).toNat)
  case atStart => exact ⟨0, Nat.zero_le _, rfl, Lib.hid (fun i x h => absurd h (by omega)), K1.out⟩
  case round =>
    clear K1
    obtain ⟨k, hk, rfl, H, hb⟩ := hrel
    by_cases hkl : k < l.length
    · obtain ⟨b, off, rfl, hbs, hc⟩ := HR.out (by omega)
      obtain ⟨x, hx, hxp⟩ := bs_get hkl
      have hix := HP.out x (List.mem_of_getElem? hx)
      obtain ⟨c0, c1⟩ := br_cells hc hx
      have r0 := (hb.cell (p := ⟨b, off + k * 2, none⟩) hbs).trans c0
      have r1 := (hb.cell (p := ⟨b, off + k * 2 + 1, none⟩) hbs).trans c1
      have hwc := Lib.hid (wide_calls x.t x.F x.v wr (hix.1.below hb))
      obtain ⟨A2, cap2, hxv⟩ := bat_one hix.1
      have HX := Lib.hid hx
      have HB := Lib.hid hb
      rw [hxv] at r1 hwc
      clear hc c0 c1 hx hxp hix hbs hb
      go_wp2_with fail
      refine hwc.out.mono ?_; rintro e w2 ⟨hW, b2⟩
      have K2 := Lib.hid (trans9 HB.out b2)
      clear b2 r0 r1
      rcases hW.ways2 with rfl | ⟨rfl, hfew⟩
      · go_wp2
        go_ret
        exact ⟨rfl, K2.out⟩
      have hr : Hid (∀ (i : Nat) (z : Bs), i < k + 1 → l[i]? = some z → FmFew z.F ∧ ∀ y ∈ z.F, y.L.length ≤ 500) := Lib.hid (fun i z hi hz => by
        by_cases e : i = k
        · subst e; rw [HX.out] at hz; obtain rfl := Option.some.inj hz; exact hfew
        · exact H.out i z (by omega) hz)
      clear hfew hW
      go_wp2_with fail
      go_roundw
      case rel => exact ⟨k + 1, hkl, by go_num, hr, K2.out⟩
      case measure => simp [intOf]; omega
    · have HALL : Hid (∀ x ∈ l, FmFew x.F ∧ ∀ y ∈ x.F, y.L.length ≤ 500) := Lib.hid (fun x hx => by
        obtain ⟨i, hi, rfl⟩ := List.getElem_of_mem hx
        exact H.out i _ (by omega) (List.getElem?_eq_getElem hi))
      have HBF : Hid (BtFew l) := Lib.hid ⟨by omega, fun x hx => (HALL.out x hx).1⟩
      have HB := Lib.hid hb
      clear H hb
      obtain ⟨L, hL⟩ : ∃ L, L = bps l := ⟨_, rfl⟩
      have HL := Lib.hid hL
      clear hL
      have HM := Lib.hid (k_merge L l _ wr (HV.out.below HB.out) HBF.out HL.out.symm (HT.out wr HB.out))
      go_wp2_with fail
      refine HM.out.mono ?_; rintro e w3 ⟨⟨Am, nm_, cm, M, rfl, hrm, hm⟩, b3⟩
      have K3 := Lib.hid (trans9 HB.out b3)
      have RM3 := Lib.hid hrm
      have HMM := Lib.hid hm
      clear b3 hrm hm HM HB
      go_upto_region 11 with fail
      obtain ⟨W4, hW4⟩ : ∃ X, X = w3.alloc (.cells #[.string (str (mT L)), .slice Am nm_ cm] 28) := ⟨_, rfl⟩
      have hb4 : Below w3.heap.size w3 W4 := by rw [hW4]; exact (Below.refl _ _).alloc (Nat.le_refl _) _
      have K4 := Lib.hid (trans9 K3.out hb4)
      have RM := Lib.hid (RM3.out.below hb4)
      have BM : Hid (BatAt W4 w3.heap.size (mT L) (.slice Am nm_ cm)) := Lib.hid (by rw [hW4]; exact BatAt.new w3 _ _ _)
      rw [← hW4]
      clear hW4 hb4 K3 RM3
      generalize w3.heap.size = qm at *
      have HN := Lib.hid (rmerge_of L l _ W4 (HV.out.below K4.out) HBF.out hl4 HL.out.symm)
      go_wp2_with fail
      refine HN.out.mono ?_; rintro e w5 ⟨⟨An, nn_, cn, N, rfl, hrn, hn⟩, b5⟩
      have K5 := Lib.hid (trans9 K4.out b5)
      have RM5 := Lib.hid (RM.out.below b5)
      have BM5 := Lib.hid (BM.out.below b5)
      have RN5 := Lib.hid hrn
      have HNN := Lib.hid hn
      clear b5 hrn hn HN RM BM K4
      go_upto_region 12 with fail
      obtain ⟨W6, hW6⟩ : ∃ X, X = w5.alloc (.cells #[.string (str (mT L)), .slice An nn_ cn] 28) := ⟨_, rfl⟩
      have hb6 : Below w5.heap.size w5 W6 := by rw [hW6]; exact (Below.refl _ _).alloc (Nat.le_refl _) _
      have K6 := Lib.hid (trans9 K5.out hb6)
      have RM6 := Lib.hid (RM5.out.below hb6)
      have BM6 := Lib.hid (BM5.out.below hb6)
      have RN6 := Lib.hid (RN5.out.below hb6)
      have BN6 : Hid (BatAt W6 w5.heap.size (mT L) (.slice An nn_ cn)) := Lib.hid (by rw [hW6]; exact BatAt.new w5 _ _ _)
      rw [← hW6]
      clear hW6 hb6 K5 RM5 BM5 RN5
      generalize w5.heap.size = qn at *
      have HS := Lib.hid (same_ok3 (mT L) (mT L) M N (.slice Am nm_ cm) (.slice An nn_ cn) W6 RM6.out RN6.out (by rw [HMM.out]; exact mF_few2 _) (HMM.out.trans HNN.out.symm) rfl)
      generalize mErr L = me at *
      obtain ⟨m0, m1, mf, ml⟩ := BM6.out
      obtain ⟨p0, p1, pf, pl⟩ := BN6.out
      clear mf pf
      go_wp2_with fail
      refine HS.out.mono ?_; rintro e w7 ⟨rfl, b7⟩
      have K7 := Lib.hid (trans9 K6.out b7)
      clear b7 HS m0 m1 ml p0 p1 pl BM6 BN6 RM6 RN6 HMM HNN K6
      go_wp2_with fail
      go_loopw [10] (fun s wr => ∃ k : Nat, k ≤ l.length ∧ s = .int .i64 (k : Nat) ∧ Hid (Below w.heap.size w wr)) (fun s _ => l.length - (intOf s).toNat)
      case atStart => exact ⟨0, Nat.zero_le _, rfl, K7⟩
      case round =>
        clear K7
        obtain ⟨k, hk, rfl, HB⟩ := hrel
        by_cases hkl : k < l.length
        · obtain ⟨b, off, rfl, hbs, hc⟩ := HR.out (by omega)
          obtain ⟨x, hx, hxp⟩ := bs_get hkl
          have hxm := List.mem_of_getElem? hx
          have hix := HP.out x hxm
          have HX : Hid (∀ z, Below wr.heap.size wr z → z.cell? ⟨b, off + k * 2, none⟩ = some (.string (str x.t)) ∧ z.cell? ⟨b, off + k * 2 + 1, none⟩ = some x.v) := Lib.hid (fun z hz => by
            obtain ⟨c0, c1⟩ := br_cells hc hx
            exact ⟨((trans9 HB.out hz).cell (p := ⟨b, off + k * 2, none⟩) hbs).trans c0, ((trans9 HB.out hz).cell (p := ⟨b, off + k * 2 + 1, none⟩) hbs).trans c1⟩)
          have HMI := Lib.hid (fun z (hz : Below wr.heap.size wr z) => bminus_calls x.t x.F x.v (.slice Au n capu) n es z (hix.1.below (trans9 HB.out hz)) (HALL.out x hxm).1 (strRow_below HU.out (trans9 HB.out hz)))
          have HRI := Lib.hid (fun z (hz : Below wr.heap.size wr z) => rbminus_calls x.t x.F x.v (.slice Au n capu) n es z (hix.1.below (trans9 HB.out hz)) (HALL.out x hxm).1 (strRow_below HU.out (trans9 HB.out hz)))
          have HMF : Hid (FpFew (minF es n (fms x.F))) := Lib.hid (minF_few (HALL.out x hxm).1)
          obtain ⟨A2, cap2, hxv⟩ := bat_one hix.1
          have hk0 : (0 : Int) ≤ (k : Int) := by omega
          have hkb : (k : Int) < (l.length : Int) := by omega
          clear hc hx hxp hix hxm hbs
          rw [hxv] at HX HMI HRI
          go_wp2_with fail
          refine wp_region_noPanic ?_
          refine wp_region_held_drew (S := fun X => Below wr.heap.size wr X) (by kernel_rfl) ?_ (fun hHeld => ?_)
          · exact Below.drew (Below.refl _ _)
          have kB : Below wr.heap.size wr wr.drew := Below.drew (Below.refl _ _)
          clear hHeld
          refine tk9 0 kB ?_
          refine tk9 1 kB ?_
          refine tk9 2 kB ?_
          refine tk9 3 kB ?_ (hy := Or.inl ⟨by rfl, by intro x9 hSw; (try dsimp only at hSw); obtain ⟨x0, x1⟩ := HX.out x9 hSw; first | (go_simp; done) | (go_simp; with_reducible rfl)⟩)
          refine tk9 4 kB ?_
          refine tk9 6 kB ?_
          refine tk9 7 kB ?_
          refine tk9 8 kB ?_
          refine tk9 9 kB ?_ (hy := Or.inl ⟨by rfl, by intro x9 hSw; (try dsimp only at hSw); obtain ⟨x0, x1⟩ := HX.out x9 hSw; first | (go_simp; done) | (go_simp; with_reducible rfl)⟩)
          refine tk9 10 kB ?_
          refine wpAnyH_ready (rs := [5]) (by kernel_rfl) (by simp) ?_
          refine AllReadyH.cons (by simp only [List.getElem?_toArray, List.getElem?_cons_succ, List.getElem?_cons_zero]; rfl) (fun K hK => ?_) AllReadyH.nil
          try go_simp
          refine (HMI.out _ kB).mono ?_; rintro e w5 ⟨⟨A5, n5, c5, M5, rfl, k5, m5⟩, b5⟩
          replace kB := trans9 kB b5
          have r5 := k5.row
          clear b5 k5
          try go_wp2_with fail
          refine hK.out _ _ kB (fun hHeld => ?_)
          clear hK K hHeld
          (try simp only [Act.put, List.setIfInBounds_toArray, List.set_cons_zero, List.set_cons_succ])
          refine wpAnyH_ready (rs := [11]) (by kernel_rfl) (by simp) ?_
          refine AllReadyH.cons (by simp only [List.getElem?_toArray, List.getElem?_cons_succ, List.getElem?_cons_zero]; rfl) (fun K hK => ?_) AllReadyH.nil
          try go_simp
          refine (HRI.out _ kB).mono ?_; rintro e w6 ⟨⟨A6, n6, c6, M6, rfl, r6, m6⟩, b6⟩
          replace kB := trans9 kB b6
          replace r5 := r5.below b6
          clear b6
          try go_wp2_with fail
          refine hK.out _ _ kB (fun hHeld => ?_)
          clear hK K hHeld
          (try simp only [Act.put, List.setIfInBounds_toArray, List.set_cons_zero, List.set_cons_succ])
          refine wpAnyH_ready (rs := [12]) (by kernel_rfl) (by simp) ?_
          refine AllReadyH.cons (by simp only [List.getElem?_toArray, List.getElem?_cons_succ, List.getElem?_cons_zero]; rfl) (fun K hK => ?_) AllReadyH.nil
          try go_simp
          refine (same_ok3 x.t x.t M5 M6 _ _ _ r5 r6 (by rw [m5]; exact HMF.out) (m5.trans m6.symm) rfl).mono ?_; rintro e w7 ⟨rfl, b7⟩
          replace kB := trans9 kB b7
          clear b7 r5 r6 m5 m6
          try go_wp2_with fail
          refine hK.out _ _ kB (fun hHeld => ?_)
          clear hK K hHeld
          (try simp only [Act.put, List.setIfInBounds_toArray, List.set_cons_zero, List.set_cons_succ])
          refine tk9 13 kB ?_
          refine wpAnyH_done (by kernel_rfl) ?_ _
          refine NoPanic.normal ?_
          have KB2 := Lib.hid (trans9 HB.out kB)
          go_wp2_with fail
          go_roundw
          case rel => exact ⟨k + 1, hkl, by go_num, KB2⟩
          case measure => simp [intOf]; omega
        · by_cases h2 : (l.length : Int) < 2
          · have d2 : decide ((l.length : Int) < 2) = true := decide_eq_true h2
            have d2' : decide (l.length < 2) = true := by simp; omega
            go_wp2
            go_ret
            exact ⟨rfl, HB.out⟩
          have d2 : decide ((l.length : Int) < 2) = false := decide_eq_false h2
          have d2' : decide (l.length < 2) = false := by simp; omega
          obtain ⟨b, off, rfl, hbs, hc⟩ := HR.out (by omega)
          obtain ⟨x, hx, _⟩ := bs_get (show 0 < l.length by omega)
          obtain ⟨y, hy, _⟩ := bs_get (show 1 < l.length by omega)
          have hxm := List.mem_of_getElem? hx
          have hym := List.mem_of_getElem? hy
          have hix := HP.out x hxm
          have hiy := HP.out y hym
          obtain ⟨A2, cap2, hxv⟩ := bat_one hix.1
          obtain ⟨A3, cap3, hyv⟩ := bat_one hiy.1
          have HX0 : Hid (∀ z, Below wr.heap.size wr z → z.cell? ⟨b, off, none⟩ = some (.string (str x.t)) ∧ z.cell? ⟨b, off + 1, none⟩ = some x.v) := Lib.hid (fun z hz => by
            obtain ⟨c0, c1⟩ := br_cells hc hx
            rw [Nat.zero_mul, Nat.add_zero] at c0 c1
            exact ⟨((trans9 HB.out hz).cell (p := ⟨b, off, none⟩) hbs).trans c0, ((trans9 HB.out hz).cell (p := ⟨b, off + 1, none⟩) hbs).trans c1⟩)
          have HX1 : Hid (∀ z, Below wr.heap.size wr z → z.cell? ⟨b, off + 2, none⟩ = some (.string (str y.t)) ∧ z.cell? ⟨b, off + 2 + 1, none⟩ = some y.v) := Lib.hid (fun z hz => by
            obtain ⟨c0, c1⟩ := br_cells hc hy
            rw [Nat.one_mul] at c0 c1
            exact ⟨((trans9 HB.out hz).cell (p := ⟨b, off + 2, none⟩) hbs).trans c0, ((trans9 HB.out hz).cell (p := ⟨b, off + 2 + 1, none⟩) hbs).trans c1⟩)
          rw [hxv] at HX0
          rw [hyv] at HX1
          obtain ⟨_, x1⟩ := HX0.out wr (Below.refl _ _)
          obtain ⟨_, y1⟩ := HX1.out wr (Below.refl _ _)
          have hl1 : (1 : Int) < (l.length : Int) := by omega
          have hl0 : (0 : Int) < (l.length : Int) := by omega
          have hl1n : 1 < l.length := by omega
          have hl0n : 0 < l.length := by omega
          by_cases hF0 : x.F.length = 0
          · have e0 : ((x.F.length : Int) == 0) = true := by rw [hF0]; rfl
            generalize x.F.length = f0 at *
            subst hF0
            go_wp2
            go_ret
            exact ⟨rfl, HB.out⟩
          have hq0 : 0 < x.F.length := Nat.pos_of_ne_zero hF0
          have e0' : ¬ ((x.F.length : Int) = 0) := fun e => hF0 (Int.ofNat_eq_zero.1 e)
          have e0 : ((x.F.length : Int) == 0) = false := beq_eq_false_iff_ne.2 e0'
          by_cases hF1 : y.F.length = 0
          · have e1 : ((y.F.length : Int) == 0) = true := by rw [hF1]; rfl
            generalize y.F.length = f1 at *
            subst hF1
            go_wp2
            go_ret
            exact ⟨rfl, HB.out⟩
          have hq1 : 0 < y.F.length := Nat.pos_of_ne_zero hF1
          have e1' : ¬ ((y.F.length : Int) = 0) := fun e => hF1 (Int.ofNat_eq_zero.1 e)
          have e1 : ((y.F.length : Int) == 0) = false := beq_eq_false_iff_ne.2 e1'
          obtain ⟨A4, cap4, hA4, _, _, _, hr4⟩ := hix.1.1
          obtain ⟨A5, cap5, hA5, _, _, _, hr5⟩ := hiy.1.1
          rw [hxv] at hA4
          rw [hyv] at hA5
          cases hA4
          cases hA5
          obtain ⟨b4, off4, rfl, hbs4, hc4⟩ := hr4 hq0
          obtain ⟨b5, off5, rfl, hbs5, hc5⟩ := hr5 hq1
          obtain ⟨f, hf, _⟩ := fs_get hq0
          obtain ⟨g, hg, _⟩ := fs_get hq1
          have hfm := List.mem_of_getElem? hf
          have hgm := List.mem_of_getElem? hg
          have hfi := hix.1.2 f hfm
          have hgi := hiy.1.2 g hgm
          have HF0 : Hid (∀ z, Below wr.heap.size wr z → z.cell? ⟨b4, off4, none⟩ = some (.string (str f.hd.n)) ∧ z.cell? ⟨b4, off4 + 1, none⟩ = some (.int .i64 f.hd.k) ∧ z.cell? ⟨b4, off4 + 2, none⟩ = some (.string (str f.hd.u)) ∧ z.cell? ⟨b4, off4 + 3, none⟩ = some (.string (str f.hd.h)) ∧ z.cell? ⟨b4, off4 + 4, none⟩ = some f.v) := Lib.hid (fun z hz => by
            obtain ⟨c0, c1, c2, c3, c4⟩ := fr_cells hc4 hf
            rw [Nat.zero_mul, Nat.add_zero] at c0 c1 c2 c3 c4
            have hR : ∀ o, z.cell? ⟨b4, o, none⟩ = w.cell? ⟨b4, o, none⟩ := fun o => (trans9 HB.out hz).cell (p := ⟨b4, o, none⟩) hbs4
            exact ⟨(hR _).trans c0, (hR _).trans c1, (hR _).trans c2, (hR _).trans c3, (hR _).trans c4⟩)
          have HF1 : Hid (∀ z, Below wr.heap.size wr z → z.cell? ⟨b5, off5, none⟩ = some (.string (str g.hd.n)) ∧ z.cell? ⟨b5, off5 + 1, none⟩ = some (.int .i64 g.hd.k) ∧ z.cell? ⟨b5, off5 + 2, none⟩ = some (.string (str g.hd.u)) ∧ z.cell? ⟨b5, off5 + 3, none⟩ = some (.string (str g.hd.h)) ∧ z.cell? ⟨b5, off5 + 4, none⟩ = some g.v) := Lib.hid (fun z hz => by
            obtain ⟨c0, c1, c2, c3, c4⟩ := fr_cells hc5 hg
            rw [Nat.zero_mul, Nat.add_zero] at c0 c1 c2 c3 c4
            have hR : ∀ o, z.cell? ⟨b5, o, none⟩ = w.cell? ⟨b5, o, none⟩ := fun o => (trans9 HB.out hz).cell (p := ⟨b5, o, none⟩) hbs5
            exact ⟨(hR _).trans c0, (hR _).trans c1, (hR _).trans c2, (hR _).trans c3, (hR _).trans c4⟩)
          have HPM : Hid (∀ (z : World) (E2 : Nat → Prop), Below wr.heap.size wr z → (∀ b, E2 b → w.heap.size ≤ b) → (∀ b, E2 b → b < z.heap.size) → Calls Tryz.prog 15 #[famv f.hd f.v, famv g.hd g.v] z fun e w' => RPut E2 (putO (fm f) (fm g)) e w' ∧ Below z.heap.size z w') := Lib.hid (fun z E2 hz h1 h2 => mput_of (put_calls f g z (hfi.below (trans9 HB.out hz)) (hgi.below (trans9 HB.out hz)) ((HALL.out x hxm).2 f hfm) ((HALL.out y hym).2 g hgm) ((HALL.out x hxm).1.l f hfm) ((HALL.out y hym).1.l g hgm) (HT.out z (trans9 HB.out hz))) h2)
          have HPR : Hid (∀ (z : World) (E2 : Nat → Prop), Below wr.heap.size wr z → (∀ b, E2 b → w.heap.size ≤ b) → (∀ b, E2 b → b < z.heap.size) → Calls Tryz.prog 16 #[famv f.hd f.v, famv g.hd g.v] z fun e w' => RPut E2 (putO (fm f) (fm g)) e w' ∧ Below z.heap.size z w') := Lib.hid (fun z E2 hz h1 h2 => rput_calls f g z E2 h2 ⟨hfi.2, hfi.1.offw (trans9 HB.out hz) h1⟩ ⟨hgi.2, hgi.1.offw (trans9 HB.out hz) h1⟩ ((HALL.out x hxm).2 f hfm) ((HALL.out y hym).2 g hgm))
          obtain ⟨A6, n6, cap6, hf1⟩ : ∃ A1 n1 cap1, f.v = .slice A1 n1 cap1 := by obtain ⟨A, cap, he, _⟩ := hfi.1.1; exact ⟨A, _, cap, he⟩
          obtain ⟨A7, n7, cap7, hg1⟩ : ∃ A1 n1 cap1, g.v = .slice A1 n1 cap1 := by obtain ⟨A, cap, he, _⟩ := hgi.1.1; exact ⟨A, _, cap, he⟩
          rw [hf1] at HF0 HPM HPR
          rw [hg1] at HF1 HPM HPR
          have HWW0 : Hid (w.heap.size ≤ wr.heap.size) := Lib.hid HB.out.size
          have HFL : Hid (∀ o : Option Fp, o = putO (fm f) (fm g) → (o.getD (hd0, [])).2.length ≤ 1000) := Lib.hid (fun o ho => by
            subst ho
            unfold putO
            split
            · have h1 : (putP (fm f) (fm g)).2.length ≤ (fm f).2.length + (fm g).2.length := (mrg_len (f := cmpP) (g := snd2) (fm g).2 (fm f).2).2
              have h2 := (HALL.out x hxm).2 f hfm
              have h3 := (HALL.out y hym).2 g hgm
              have h4 : (fm f).2.length = f.L.length := by simp [pts]
              have h5 : (fm g).2.length = g.L.length := by simp [pts]
              show (putP (fm f) (fm g)).2.length ≤ 1000
              omega
            · simp)
          clear hc hx hy hxm hym hix hiy hc4 hc5 hr4 hr5 hf hg hfm hgm hfi hgi hbs hbs4 hbs5
          generalize x.F.length = f0 at *
          generalize y.F.length = f1 at *
          have hf00 : (0 : Int) < (f0 : Int) := by omega
          have hf10 : (0 : Int) < (f1 : Int) := by omega
          obtain ⟨O, hO⟩ : ∃ O, O = putO (fm f) (fm g) := ⟨_, rfl⟩
          rw [← hO] at HPM HPR
          have HOL : Hid ((O.getD (hd0, [])).2.length ≤ 1000) := Lib.hid (HFL.out O hO)
          clear hO HFL
          go_wp2_with fail
          clear x1 y1
          go_cut [11, 12] from 94 to 109 (fun s t wx => ∃ (xb : Nat) (h5 : Hd) (A5 : Option Addr) (n5 cap5 : Nat) (L5 : List Ps), s = .pointer (some ⟨xb, 0, none⟩) ∧ t = .bool O.isSome ∧ Hid (FamAt wx xb h5 (.slice A5 n5 cap5)) ∧ Hid (PtRow wx (.slice A5 n5 cap5) L5) ∧ Hid ((h5, pts L5) = O.getD (hd0, [])) ∧ Hid (Below wr.heap.size wr wx))
          case first =>
            refine wp_region_noPanic ?_
            refine wp_region_held_drew (S := fun X => Below wr.heap.size wr X) (by kernel_rfl) ?_ (fun hHeld => ?_)
            · exact Below.drew (Below.refl _ _)
            have kB : Below wr.heap.size wr wr.drew := Below.drew (Below.refl _ _)
            clear hHeld
            refine tk9 0 kB ?_
            refine tk9 1 kB ?_
            refine tk9 2 kB ?_
            refine tk9 3 kB ?_ (hy := Or.inl ⟨by rfl, by intro x hSw; (try dsimp only at hSw); obtain ⟨_, x1⟩ := HX0.out x hSw; first | (go_simp; done) | (go_simp; with_reducible rfl)⟩)
            refine tk9 4 kB ?_
            refine tk9 5 kB ?_ (hy := Or.inl ⟨by rfl, by intro x hSw; (try dsimp only at hSw); obtain ⟨c0, c1, c2, c3, c4⟩ := HF0.out x hSw; first | (go_simp; done) | (go_simp; with_reducible rfl)⟩)
            refine tk9 6 kB ?_
            refine tk9 7 kB ?_
            refine tk9 8 kB ?_
            refine tk9 9 kB ?_ (hy := Or.inl ⟨by rfl, by intro x hSw; (try dsimp only at hSw); obtain ⟨_, x1⟩ := HX1.out x hSw; first | (go_simp; done) | (go_simp; with_reducible rfl)⟩)
            refine tk9 10 kB ?_
            refine tk9 11 kB ?_ (hy := Or.inl ⟨by rfl, by intro x hSw; (try dsimp only at hSw); obtain ⟨c0, c1, c2, c3, c4⟩ := HF1.out x hSw; first | (go_simp; done) | (go_simp; with_reducible rfl)⟩)
            refine wpAnyH_ready (rs := [12, 16]) (by kernel_rfl) (by simp) ?_
            refine AllReadyH.cons (by simp only [List.getElem?_toArray, List.getElem?_cons_succ, List.getElem?_cons_zero]; rfl) (fun K hK => ?_) ?_
            · try go_simp
              refine (HPM.out _ (fun b => False) kB (fun b hb => hb.elim) (fun b hb => hb.elim)).mono ?_; rintro e w5 ⟨⟨A5, n5, cap5, L5, h5, rfl, po5, hp5⟩, b5⟩
              replace kB := trans9 kB b5
              clear b5
              obtain ⟨n5n, n5k, n5u, n5h⟩ := h5
              try go_wp2_with fail
              refine hK.out _ _ kB (fun hHeld => ?_)
              clear hK K hHeld
              (try simp only [Act.put, List.setIfInBounds_toArray, List.set_cons_zero, List.set_cons_succ])
              refine tk9 13 kB ?_
              refine tk9 14 kB ?_
              refine tk9 15 kB ?_
              refine wpAnyH_ready (rs := [16]) (by kernel_rfl) (by simp) ?_
              refine AllReadyH.cons (by simp only [List.getElem?_toArray, List.getElem?_cons_succ, List.getElem?_cons_zero]; rfl) (fun K hK => ?_) AllReadyH.nil
              go_simp
              have kN : FamAt (w5.alloc (.cells #[.string ⟨#[]⟩, .int .i64 0, .string ⟨#[]⟩, .string ⟨#[]⟩, .slice none 0 0] 41)) w5.heap.size hd0 (.slice none 0 0) := (FamAt.new w5 hd0 (.slice none 0 0) 41)
              have hge : wr.heap.size ≤ w5.heap.size := kB.size
              replace po5 := po5.snoc ((.cells #[.string ⟨#[]⟩, .int .i64 0, .string ⟨#[]⟩, .string ⟨#[]⟩, .slice none 0 0] 41))
              replace kB : Below wr.heap.size wr (w5.alloc (.cells #[.string ⟨#[]⟩, .int .i64 0, .string ⟨#[]⟩, .string ⟨#[]⟩, .slice none 0 0] 41)) := kp_alloc kB _
              obtain ⟨W9, hW9⟩ : ∃ X, X = (w5.alloc (.cells #[.string ⟨#[]⟩, .int .i64 0, .string ⟨#[]⟩, .string ⟨#[]⟩, .slice none 0 0] 41)) := ⟨_, rfl⟩
              rw [← hW9] at kB kN po5 ⊢
              clear hW9
              obtain ⟨xb, hxb⟩ : ∃ X, X = w5.heap.size := ⟨_, rfl⟩
              rw [← hxb] at kN hge po5 ⊢
              clear hxb
              refine hK.out _ _ kB (fun hHeld => ?_)
              clear hK K hHeld
              (try simp only [Act.put, List.setIfInBounds_toArray, List.set_cons_zero, List.set_cons_succ])
              refine wpAnyH_ready (rs := [17]) (by kernel_rfl) (by simp) ?_
              refine AllReadyH.cons (by simp only [List.getElem?_toArray, List.getElem?_cons_succ, List.getElem?_cons_zero]; rfl) (fun K hK => ?_) AllReadyH.nil
              refine step_store_fm (by rfl) (.tmp 11) (.tmp 108) (by rfl) xb _ _ ⟨n5n, n5k, n5u, n5h⟩ A5 n5 cap5 (by rfl) (by rfl) kN ?_
              have kN5 : FamAt (set5f W9 xb 0 ⟨n5n, n5k, n5u, n5h⟩ (.slice A5 n5 cap5)) xb ⟨n5n, n5k, n5u, n5h⟩ (.slice A5 n5 cap5) := FamAt.set5' (h := ⟨n5n, n5k, n5u, n5h⟩) (u := .slice A5 n5 cap5) kN
              replace po5 : POff (set5f W9 xb 0 ⟨n5n, n5k, n5u, n5h⟩ (.slice A5 n5 cap5)) (fun b => False ∨ b = xb) (.slice A5 n5 cap5) L5 := po5.set5 (n := n5n) (k := n5k) (u := n5u) (h := n5h) (v5 := .slice A5 n5 cap5)
              replace kB : Below wr.heap.size wr (set5f W9 xb 0 ⟨n5n, n5k, n5u, n5h⟩ (.slice A5 n5 cap5)) := ((((kB.setCell hge _).setCell hge _).setCell hge _).setCell hge _).setCell hge _
              obtain ⟨W10, hW10⟩ : ∃ X, X = (set5f W9 xb 0 ⟨n5n, n5k, n5u, n5h⟩ (.slice A5 n5 cap5)) := ⟨_, rfl⟩
              rw [← hW10] at kB kN5 po5 ⊢
              clear hW10 kN
              refine hK.out _ _ kB (fun hHeld => ?_)
              clear hK K hHeld
              (try simp only [Act.put, List.setIfInBounds_toArray, List.set_cons_zero, List.set_cons_succ])
              refine tk9 18 kB ?_
              refine wpAnyH_done (by kernel_rfl) ?_ _
              refine NoPanic.normal ?_
              go_wp2_with fail
              go_meet
              exact ⟨xb, _, A5, n5, cap5, L5, rfl, rfl, Lib.hid kN5, Lib.hid po5.row, Lib.hid hp5, Lib.hid kB⟩
            refine AllReadyH.cons (by simp only [List.getElem?_toArray, List.getElem?_cons_succ, List.getElem?_cons_zero]; rfl) (fun K hK => ?_) AllReadyH.nil
            go_simp
            have kN : FamAt (wr.alloc (.cells #[.string ⟨#[]⟩, .int .i64 0, .string ⟨#[]⟩, .string ⟨#[]⟩, .slice none 0 0] 41)).drew wr.heap.size hd0 (.slice none 0 0) := (FamAt.new wr hd0 (.slice none 0 0) 41).drew'
            have hge : wr.heap.size ≤ wr.heap.size := Nat.le_refl _
            replace kB : Below wr.heap.size wr (wr.alloc (.cells #[.string ⟨#[]⟩, .int .i64 0, .string ⟨#[]⟩, .string ⟨#[]⟩, .slice none 0 0] 41)).drew := Below.drew (kp_alloc (Below.refl _ _) _)
            obtain ⟨W9, hW9⟩ : ∃ X, X = (wr.alloc (.cells #[.string ⟨#[]⟩, .int .i64 0, .string ⟨#[]⟩, .string ⟨#[]⟩, .slice none 0 0] 41)).drew := ⟨_, rfl⟩
            rw [← hW9] at kB kN  ⊢
            clear hW9
            obtain ⟨xb, hxb⟩ : ∃ X, X = wr.heap.size := ⟨_, rfl⟩
            have kN2 := kN
            have hge2 := hge
            rw [← hxb] at kN2 ⊢
            replace hge2 : wr.heap.size ≤ xb := (by rw [hxb]; exact Nat.le_refl _)
            clear hxb kN hge
            have kN := kN2
            have hge := hge2
            clear kN2 hge2
            refine hK.out _ _ kB (fun hHeld => ?_)
            clear hK K hHeld
            (try simp only [Act.put, List.setIfInBounds_toArray, List.set_cons_zero, List.set_cons_succ])
            refine wpAnyH_ready (rs := [12]) (by kernel_rfl) (by simp) ?_
            refine AllReadyH.cons (by simp only [List.getElem?_toArray, List.getElem?_cons_succ, List.getElem?_cons_zero]; rfl) (fun K hK => ?_) AllReadyH.nil
            try go_simp
            refine (HPM.out _ (fun b => False ∨ b = xb) kB (fun b hb => hb.elim False.elim (fun e => by rw [e]; exact Nat.le_trans HWW0.out hge)) (fun b hb => hb.elim False.elim (fun e => by rw [e]; exact kN.lt))).mono ?_; rintro e w5 ⟨⟨A5, n5, cap5, L5, h5, rfl, po5, hp5⟩, b5⟩
            replace kN := kN.below b5
            replace kB := trans9 kB b5
            clear b5
            obtain ⟨n5n, n5k, n5u, n5h⟩ := h5
            try go_wp2_with fail
            refine hK.out _ _ kB (fun hHeld => ?_)
            clear hK K hHeld
            (try simp only [Act.put, List.setIfInBounds_toArray, List.set_cons_zero, List.set_cons_succ])
            refine tk9 13 kB ?_
            refine tk9 14 kB ?_
            refine tk9 15 kB ?_
            refine wpAnyH_ready (rs := [17]) (by kernel_rfl) (by simp) ?_
            refine AllReadyH.cons (by simp only [List.getElem?_toArray, List.getElem?_cons_succ, List.getElem?_cons_zero]; rfl) (fun K hK => ?_) AllReadyH.nil
            refine step_store_fm (by rfl) (.tmp 11) (.tmp 108) (by rfl) xb _ _ ⟨n5n, n5k, n5u, n5h⟩ A5 n5 cap5 (by rfl) (by rfl) kN ?_
            have kN5 : FamAt (set5f w5 xb 0 ⟨n5n, n5k, n5u, n5h⟩ (.slice A5 n5 cap5)) xb ⟨n5n, n5k, n5u, n5h⟩ (.slice A5 n5 cap5) := FamAt.set5' (h := ⟨n5n, n5k, n5u, n5h⟩) (u := .slice A5 n5 cap5) kN
            replace po5 : POff (set5f w5 xb 0 ⟨n5n, n5k, n5u, n5h⟩ (.slice A5 n5 cap5)) (fun b => False ∨ b = xb) (.slice A5 n5 cap5) L5 := po5.set5 (n := n5n) (k := n5k) (u := n5u) (h := n5h) (v5 := .slice A5 n5 cap5)
            replace kB : Below wr.heap.size wr (set5f w5 xb 0 ⟨n5n, n5k, n5u, n5h⟩ (.slice A5 n5 cap5)) := ((((kB.setCell hge _).setCell hge _).setCell hge _).setCell hge _).setCell hge _
            obtain ⟨W10, hW10⟩ : ∃ X, X = (set5f w5 xb 0 ⟨n5n, n5k, n5u, n5h⟩ (.slice A5 n5 cap5)) := ⟨_, rfl⟩
            rw [← hW10] at kB kN5 po5 ⊢
            clear hW10 kN
            refine hK.out _ _ kB (fun hHeld => ?_)
            clear hK K hHeld
            (try simp only [Act.put, List.setIfInBounds_toArray, List.set_cons_zero, List.set_cons_succ])
            refine tk9 18 kB ?_
            refine wpAnyH_done (by kernel_rfl) ?_ _
            refine NoPanic.normal ?_
            go_wp2_with fail
            go_meet
            exact ⟨xb, _, A5, n5, cap5, L5, rfl, rfl, Lib.hid kN5, Lib.hid po5.row, Lib.hid hp5, Lib.hid kB⟩
          case rest =>
            obtain ⟨x8, h8, A8, n9, c9, L8, rfl, rfl, FA, RA, EA, KA⟩ := hcut
            have HBc := Lib.hid (trans9 HB.out KA.out)
            replace HX0 := Lib.hid (fun z (hz : Below wc.heap.size wc z) => HX0.out z (trans9 KA.out hz))
            replace HX1 := Lib.hid (fun z (hz : Below wc.heap.size wc z) => HX1.out z (trans9 KA.out hz))
            replace HF0 := Lib.hid (fun z (hz : Below wc.heap.size wc z) => HF0.out z (trans9 KA.out hz))
            replace HF1 := Lib.hid (fun z (hz : Below wc.heap.size wc z) => HF1.out z (trans9 KA.out hz))
            replace HPR := Lib.hid (fun z E2 (hz : Below wc.heap.size wc z) h1 h2 => HPR.out z E2 (trans9 KA.out hz) h1 h2)
            have HWW : Hid (w.heap.size ≤ wc.heap.size) := Lib.hid HBc.out.size
            clear HPM KA HB
            generalize wc = W2 at *
            go_wp2_with fail
            go_cut [13, 14] from 110 to 125 (fun s t wx => ∃ (xb : Nat) (h5 : Hd) (A5 : Option Addr) (n5 cap5 : Nat) (L5 : List Ps), s = .pointer (some ⟨xb, 0, none⟩) ∧ t = .bool O.isSome ∧ Hid (FamAt wx xb h5 (.slice A5 n5 cap5)) ∧ Hid (PtRow wx (.slice A5 n5 cap5) L5) ∧ Hid ((h5, pts L5) = O.getD (hd0, [])) ∧ Hid (Below W2.heap.size W2 wx))
            case first =>
              refine wp_region_noPanic ?_
              refine wp_region_held_drew (S := fun X => Below W2.heap.size W2 X) (by kernel_rfl) ?_ (fun hHeld => ?_)
              · exact Below.drew (Below.refl _ _)
              have kB : Below W2.heap.size W2 W2.drew := Below.drew (Below.refl _ _)
              clear hHeld
              refine tk9 0 kB ?_
              refine tk9 1 kB ?_
              refine tk9 2 kB ?_
              refine tk9 3 kB ?_ (hy := Or.inl ⟨by rfl, by intro x hSw; (try dsimp only at hSw); obtain ⟨_, x1⟩ := HX0.out x hSw; first | (go_simp; done) | (go_simp; with_reducible rfl)⟩)
              refine tk9 4 kB ?_
              refine tk9 5 kB ?_ (hy := Or.inl ⟨by rfl, by intro x hSw; (try dsimp only at hSw); obtain ⟨c0, c1, c2, c3, c4⟩ := HF0.out x hSw; first | (go_simp; done) | (go_simp; with_reducible rfl)⟩)
              refine tk9 6 kB ?_
              refine tk9 7 kB ?_
              refine tk9 8 kB ?_
              refine tk9 9 kB ?_ (hy := Or.inl ⟨by rfl, by intro x hSw; (try dsimp only at hSw); obtain ⟨_, x1⟩ := HX1.out x hSw; first | (go_simp; done) | (go_simp; with_reducible rfl)⟩)
              refine tk9 10 kB ?_
              refine tk9 11 kB ?_ (hy := Or.inl ⟨by rfl, by intro x hSw; (try dsimp only at hSw); obtain ⟨c0, c1, c2, c3, c4⟩ := HF1.out x hSw; first | (go_simp; done) | (go_simp; with_reducible rfl)⟩)
              refine wpAnyH_ready (rs := [12, 16]) (by kernel_rfl) (by simp) ?_
              refine AllReadyH.cons (by simp only [List.getElem?_toArray, List.getElem?_cons_succ, List.getElem?_cons_zero]; rfl) (fun K hK => ?_) ?_
              · try go_simp
                refine (HPR.out _ (fun b => False) kB (fun b hb => hb.elim) (fun b hb => hb.elim)).mono ?_; rintro e w5 ⟨⟨A5, n5, cap5, L5, h5, rfl, po5, hp5⟩, b5⟩
                replace kB := trans9 kB b5
                clear b5
                obtain ⟨n5n, n5k, n5u, n5h⟩ := h5
                try go_wp2_with fail
                refine hK.out _ _ kB (fun hHeld => ?_)
                clear hK K hHeld
                (try simp only [Act.put, List.setIfInBounds_toArray, List.set_cons_zero, List.set_cons_succ])
                refine tk9 13 kB ?_
                refine tk9 14 kB ?_
                refine tk9 15 kB ?_
                refine wpAnyH_ready (rs := [16]) (by kernel_rfl) (by simp) ?_
                refine AllReadyH.cons (by simp only [List.getElem?_toArray, List.getElem?_cons_succ, List.getElem?_cons_zero]; rfl) (fun K hK => ?_) AllReadyH.nil
                go_simp
                have kN : FamAt (w5.alloc (.cells #[.string ⟨#[]⟩, .int .i64 0, .string ⟨#[]⟩, .string ⟨#[]⟩, .slice none 0 0] 41)) w5.heap.size hd0 (.slice none 0 0) := (FamAt.new w5 hd0 (.slice none 0 0) 41)
                have hge : W2.heap.size ≤ w5.heap.size := kB.size
                replace po5 := po5.snoc ((.cells #[.string ⟨#[]⟩, .int .i64 0, .string ⟨#[]⟩, .string ⟨#[]⟩, .slice none 0 0] 41))
                replace kB : Below W2.heap.size W2 (w5.alloc (.cells #[.string ⟨#[]⟩, .int .i64 0, .string ⟨#[]⟩, .string ⟨#[]⟩, .slice none 0 0] 41)) := kp_alloc kB _
                obtain ⟨W9, hW9⟩ : ∃ X, X = (w5.alloc (.cells #[.string ⟨#[]⟩, .int .i64 0, .string ⟨#[]⟩, .string ⟨#[]⟩, .slice none 0 0] 41)) := ⟨_, rfl⟩
                rw [← hW9] at kB kN po5 ⊢
                clear hW9
                obtain ⟨xb, hxb⟩ : ∃ X, X = w5.heap.size := ⟨_, rfl⟩
                rw [← hxb] at kN hge po5 ⊢
                clear hxb
                refine hK.out _ _ kB (fun hHeld => ?_)
                clear hK K hHeld
                (try simp only [Act.put, List.setIfInBounds_toArray, List.set_cons_zero, List.set_cons_succ])
                refine wpAnyH_ready (rs := [17]) (by kernel_rfl) (by simp) ?_
                refine AllReadyH.cons (by simp only [List.getElem?_toArray, List.getElem?_cons_succ, List.getElem?_cons_zero]; rfl) (fun K hK => ?_) AllReadyH.nil
                refine step_store_fm (by rfl) (.tmp 13) (.tmp 124) (by rfl) xb _ _ ⟨n5n, n5k, n5u, n5h⟩ A5 n5 cap5 (by rfl) (by rfl) kN ?_
                have kN5 : FamAt (set5f W9 xb 0 ⟨n5n, n5k, n5u, n5h⟩ (.slice A5 n5 cap5)) xb ⟨n5n, n5k, n5u, n5h⟩ (.slice A5 n5 cap5) := FamAt.set5' (h := ⟨n5n, n5k, n5u, n5h⟩) (u := .slice A5 n5 cap5) kN
                replace po5 : POff (set5f W9 xb 0 ⟨n5n, n5k, n5u, n5h⟩ (.slice A5 n5 cap5)) (fun b => False ∨ b = xb) (.slice A5 n5 cap5) L5 := po5.set5 (n := n5n) (k := n5k) (u := n5u) (h := n5h) (v5 := .slice A5 n5 cap5)
                replace kB : Below W2.heap.size W2 (set5f W9 xb 0 ⟨n5n, n5k, n5u, n5h⟩ (.slice A5 n5 cap5)) := ((((kB.setCell hge _).setCell hge _).setCell hge _).setCell hge _).setCell hge _
                obtain ⟨W10, hW10⟩ : ∃ X, X = (set5f W9 xb 0 ⟨n5n, n5k, n5u, n5h⟩ (.slice A5 n5 cap5)) := ⟨_, rfl⟩
                rw [← hW10] at kB kN5 po5 ⊢
                clear hW10 kN
                refine hK.out _ _ kB (fun hHeld => ?_)
                clear hK K hHeld
                (try simp only [Act.put, List.setIfInBounds_toArray, List.set_cons_zero, List.set_cons_succ])
                refine tk9 18 kB ?_
                refine wpAnyH_done (by kernel_rfl) ?_ _
                refine NoPanic.normal ?_
                go_wp2_with fail
                go_meet
                exact ⟨xb, _, A5, n5, cap5, L5, rfl, rfl, Lib.hid kN5, Lib.hid po5.row, Lib.hid hp5, Lib.hid kB⟩
              refine AllReadyH.cons (by simp only [List.getElem?_toArray, List.getElem?_cons_succ, List.getElem?_cons_zero]; rfl) (fun K hK => ?_) AllReadyH.nil
              go_simp
              have kN : FamAt (W2.alloc (.cells #[.string ⟨#[]⟩, .int .i64 0, .string ⟨#[]⟩, .string ⟨#[]⟩, .slice none 0 0] 41)).drew W2.heap.size hd0 (.slice none 0 0) := (FamAt.new W2 hd0 (.slice none 0 0) 41).drew'
              have hge : W2.heap.size ≤ W2.heap.size := Nat.le_refl _
              replace kB : Below W2.heap.size W2 (W2.alloc (.cells #[.string ⟨#[]⟩, .int .i64 0, .string ⟨#[]⟩, .string ⟨#[]⟩, .slice none 0 0] 41)).drew := Below.drew (kp_alloc (Below.refl _ _) _)
              obtain ⟨W9, hW9⟩ : ∃ X, X = (W2.alloc (.cells #[.string ⟨#[]⟩, .int .i64 0, .string ⟨#[]⟩, .string ⟨#[]⟩, .slice none 0 0] 41)).drew := ⟨_, rfl⟩
              rw [← hW9] at kB kN  ⊢
              clear hW9
              obtain ⟨xb, hxb⟩ : ∃ X, X = W2.heap.size := ⟨_, rfl⟩
              have kN2 := kN
              have hge2 := hge
              rw [← hxb] at kN2 ⊢
              replace hge2 : W2.heap.size ≤ xb := (by rw [hxb]; exact Nat.le_refl _)
              clear hxb kN hge
              have kN := kN2
              have hge := hge2
              clear kN2 hge2
              refine hK.out _ _ kB (fun hHeld => ?_)
              clear hK K hHeld
              (try simp only [Act.put, List.setIfInBounds_toArray, List.set_cons_zero, List.set_cons_succ])
              refine wpAnyH_ready (rs := [12]) (by kernel_rfl) (by simp) ?_
              refine AllReadyH.cons (by simp only [List.getElem?_toArray, List.getElem?_cons_succ, List.getElem?_cons_zero]; rfl) (fun K hK => ?_) AllReadyH.nil
              try go_simp
              refine (HPR.out _ (fun b => False ∨ b = xb) kB (fun b hb => hb.elim False.elim (fun e => by rw [e]; exact Nat.le_trans HWW.out hge)) (fun b hb => hb.elim False.elim (fun e => by rw [e]; exact kN.lt))).mono ?_; rintro e w5 ⟨⟨A5, n5, cap5, L5, h5, rfl, po5, hp5⟩, b5⟩
              replace kN := kN.below b5
              replace kB := trans9 kB b5
              clear b5
              obtain ⟨n5n, n5k, n5u, n5h⟩ := h5
              try go_wp2_with fail
              refine hK.out _ _ kB (fun hHeld => ?_)
              clear hK K hHeld
              (try simp only [Act.put, List.setIfInBounds_toArray, List.set_cons_zero, List.set_cons_succ])
              refine tk9 13 kB ?_
              refine tk9 14 kB ?_
              refine tk9 15 kB ?_
              refine wpAnyH_ready (rs := [17]) (by kernel_rfl) (by simp) ?_
              refine AllReadyH.cons (by simp only [List.getElem?_toArray, List.getElem?_cons_succ, List.getElem?_cons_zero]; rfl) (fun K hK => ?_) AllReadyH.nil
              refine step_store_fm (by rfl) (.tmp 13) (.tmp 124) (by rfl) xb _ _ ⟨n5n, n5k, n5u, n5h⟩ A5 n5 cap5 (by rfl) (by rfl) kN ?_
              have kN5 : FamAt (set5f w5 xb 0 ⟨n5n, n5k, n5u, n5h⟩ (.slice A5 n5 cap5)) xb ⟨n5n, n5k, n5u, n5h⟩ (.slice A5 n5 cap5) := FamAt.set5' (h := ⟨n5n, n5k, n5u, n5h⟩) (u := .slice A5 n5 cap5) kN
              replace po5 : POff (set5f w5 xb 0 ⟨n5n, n5k, n5u, n5h⟩ (.slice A5 n5 cap5)) (fun b => False ∨ b = xb) (.slice A5 n5 cap5) L5 := po5.set5 (n := n5n) (k := n5k) (u := n5u) (h := n5h) (v5 := .slice A5 n5 cap5)
              replace kB : Below W2.heap.size W2 (set5f w5 xb 0 ⟨n5n, n5k, n5u, n5h⟩ (.slice A5 n5 cap5)) := ((((kB.setCell hge _).setCell hge _).setCell hge _).setCell hge _).setCell hge _
              obtain ⟨W10, hW10⟩ : ∃ X, X = (set5f w5 xb 0 ⟨n5n, n5k, n5u, n5h⟩ (.slice A5 n5 cap5)) := ⟨_, rfl⟩
              rw [← hW10] at kB kN5 po5 ⊢
              clear hW10 kN
              refine hK.out _ _ kB (fun hHeld => ?_)
              clear hK K hHeld
              (try simp only [Act.put, List.setIfInBounds_toArray, List.set_cons_zero, List.set_cons_succ])
              refine tk9 18 kB ?_
              refine wpAnyH_done (by kernel_rfl) ?_ _
              refine NoPanic.normal ?_
              go_wp2_with fail
              go_meet
              exact ⟨xb, _, A5, n5, cap5, L5, rfl, rfl, Lib.hid kN5, Lib.hid po5.row, Lib.hid hp5, Lib.hid kB⟩
            case rest =>
              obtain ⟨x9, h9, A9, n10, c10, L9, rfl, rfl, FB, RB, EB, KB⟩ := hcut
              have FA2 := Lib.hid (FA.out.below KB.out)
              have RA2 := Lib.hid (RA.out.below KB.out)
              have KC := Lib.hid (trans9 HBc.out KB.out)
              have hsf := Lib.hid (rsamefam_calls h8 h9 L8 L9 (.slice A8 n9 c9) (.slice A9 n10 c10) wc RA2.out RB.out (by
                have h1 := HOL.out
                rw [← EA.out] at h1
                simpa [pts] using h1))
              have hres : Hid (sameF h8 h9 (pts L8) (pts L9) = true) := Lib.hid (by
                obtain ⟨e1, e2⟩ := famOk_few O EA.out EB.out
                rw [e1, e2]
                unfold sameF
                rw [decide_eq_true rfl, sameRow_refl]; rfl)
              rw [hres.out] at hsf
              obtain ⟨z0, z1, z2, z3, z4, zf, zl⟩ := FA2.out
              obtain ⟨q0, q1, q2, q3, q4, qf, ql⟩ := FB.out
              generalize O.isSome = ob at *
              clear zf qf
              go_wp2_with fail
              refine hsf.out.mono ?_; rintro e w9 ⟨rfl, b9⟩
              have K9 := Lib.hid (trans9 KC.out b9)
              clear b9
              go_wp2
              go_ret
              exact ⟨rfl, K9.out⟩

end Go.Proofs.YtjeefgamkoeiaaaGreatDoor
