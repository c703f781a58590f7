/- The walk of the law ClassHas (layer 16). -/
import Derived.Test.YtgoibhbmndpgpaaDoorClsHasP
import Derived.Deep.RegionHeld3
import Derived.Deep.DrawnRows
import Derived.Deep.DeepCutAuto
set_option maxRecDepth 100000
set_option linter.unusedVariables false
set_option linter.unusedSimpArgs false
namespace Go.Proofs.YtgoibhbmndpgpaaDoor
open Go.RowKit Go.Sort Dc
attribute [local go_sem ↓] Go.wp_at_zero Go.wp_at_succ

theorem Kl.bits_lo (v : Int) : 0 ≤ bits .and .i64 v 65535 ∧ bits .and .i64 v 65535 ≤ 65535 := by
  have h : (BitVec.ofInt 64 v &&& BitVec.ofInt 64 65535).toNat ≤ 65535 := by
    rw [BitVec.toNat_and]
    exact Nat.le_trans Nat.and_le_right (by decide)
  have e : bits .and .i64 v 65535 = IntKind.i64.wrap (((BitVec.ofInt 64 v &&& BitVec.ofInt 64 65535).toNat : Nat) : Int) := rfl
  rw [e, IntWalk.i64_in _ (by omega)]
  omega
theorem Kl.pt_m {w : World} {b : Nat} {lv : Value} {l : List Lb} {ro bm bs m s ti : Int} {inf td : Bool} (M : Int) (k : PtAt w b lv ⟨l, ro, inf, bm, bs, m, s, td, ti⟩) : PtAt (w.setCell ⟨b, 5, none⟩ (.int .i64 M)) b lv ⟨l, ro, inf, bm, bs, M, s, td, ti⟩ := by
  obtain ⟨h0, h1, h2, h3, h4, h5, h6, h7, h8, hf, hl⟩ := k
  dsimp only at h0 h1 h2 h3 h4 h5 h6 h7 h8
  exact ⟨by simp [go_sem, h0], by simp [go_sem, h1], by simp [go_sem, h2], by simp [go_sem, h3], by simp [go_sem, h4], by simp [go_sem, h5], by simp [go_sem, h6], by simp [go_sem, h7], by simp [go_sem, h8], fun o => by simpa using hf o, by simpa [World.setCell] using hl⟩
theorem Kl.pt_td {w : World} {b : Nat} {lv : Value} {l : List Lb} {ro bm bs m s ti : Int} {inf td : Bool} (t : Bool) (k : PtAt w b lv ⟨l, ro, inf, bm, bs, m, s, td, ti⟩) : PtAt (w.setCell ⟨b, 7, none⟩ (.bool t)) b lv ⟨l, ro, inf, bm, bs, m, s, t, ti⟩ := by
  obtain ⟨h0, h1, h2, h3, h4, h5, h6, h7, h8, hf, hl⟩ := k
  dsimp only at h0 h1 h2 h3 h4 h5 h6 h7 h8
  exact ⟨by simp [go_sem, h0], by simp [go_sem, h1], by simp [go_sem, h2], by simp [go_sem, h3], by simp [go_sem, h4], by simp [go_sem, h5], by simp [go_sem, h6], by simp [go_sem, h7], by simp [go_sem, h8], fun o => by simpa using hf o, by simpa [World.setCell] using hl⟩
theorem Kl.pt_ti {w : World} {b : Nat} {lv : Value} {l : List Lb} {ro bm bs m s ti : Int} {inf td : Bool} (t : Int) (k : PtAt w b lv ⟨l, ro, inf, bm, bs, m, s, td, ti⟩) : PtAt (w.setCell ⟨b, 8, none⟩ (.int .i64 t)) b lv ⟨l, ro, inf, bm, bs, m, s, td, t⟩ := by
  obtain ⟨h0, h1, h2, h3, h4, h5, h6, h7, h8, hf, hl⟩ := k
  dsimp only at h0 h1 h2 h3 h4 h5 h6 h7 h8
  exact ⟨by simp [go_sem, h0], by simp [go_sem, h1], by simp [go_sem, h2], by simp [go_sem, h3], by simp [go_sem, h4], by simp [go_sem, h5], by simp [go_sem, h6], by simp [go_sem, h7], by simp [go_sem, h8], fun o => by simpa using hf o, by simpa [World.setCell] using hl⟩
theorem Kl.pt_l {w : World} {b : Nat} {lv : Value} {l : List Lb} {ro bm bs m s ti : Int} {inf td : Bool} (u : Value) (l2 : List Lb) (k : PtAt w b lv ⟨l, ro, inf, bm, bs, m, s, td, ti⟩) : PtAt (w.setCell ⟨b, 0, none⟩ u) b u ⟨l2, ro, inf, bm, bs, m, s, td, ti⟩ := by
  obtain ⟨h0, h1, h2, h3, h4, h5, h6, h7, h8, hf, hl⟩ := k
  dsimp only at h0 h1 h2 h3 h4 h5 h6 h7 h8
  exact ⟨by simp [go_sem, h0], by simp [go_sem, h1], by simp [go_sem, h2], by simp [go_sem, h3], by simp [go_sem, h4], by simp [go_sem, h5], by simp [go_sem, h6], by simp [go_sem, h7], by simp [go_sem, h8], fun o => by simpa using hf o, by simpa [World.setCell] using hl⟩
theorem Kl.pt_in1 {ls : List Lb} {ro m ti : Int} {td : Bool} (hm : -9223372036854775807 ≤ m ∧ m ≤ 9223372036854775807) (ht : -9000000000000 ≤ ti ∧ ti ≤ 9000000000000) (hf : Fit ls) : PtIn ⟨ls, ro, false, 0, 0, m, 0, td, ti⟩ :=
  ⟨by show (-9223372036854775808 : Int) ≤ 0; decide, by show (0 : Int) ≤ 9223372036854775807; decide, by show (-9223372036854775808 : Int) ≤ m; omega, by show m ≤ (9223372036854775807 : Int); omega, by show (-9223372036854775808 : Int) ≤ ti; omega, by show ti ≤ (9223372036854775807 : Int); omega, hf⟩
theorem Kl.lab_heap {X : World} {b : Nat} {n v : List UInt8} (hL : X.heap[b]? = some (.cells #[.string (str n), .string (str v)] 31 (0, 0))) : LbRow X (.slice (some ⟨b, 0, none⟩) 1 1) [(n, v)] := by
  refine ⟨_, 1, rfl, Nat.le_refl _, by unfold maxLen; omega, (by rintro ⟨⟩), fun _ => ⟨b, 0, rfl, (Array.getElem?_eq_some_iff.1 hL).1, fun i y hy => ?_⟩⟩
  have hi : i = 0 := by have := (List.getElem?_eq_some_iff.1 hy).1; simp at this; omega
  subst hi
  obtain rfl : (n, v) = y := by simpa using hy
  exact ⟨by rw [cell_of_row X b _ _ _ (0, 0) hL]; rfl, by rw [cell_of_row X b _ _ _ (0, 0) hL]; rfl⟩
theorem Kl.lb_nil (w : World) : LbRow w (.slice none 0 0) [] := ⟨none, 0, rfl, Nat.le_refl _, by unfold maxLen; omega, fun _ => rfl, fun h => absurd h (by simp)⟩

set_option maxHeartbeats 16000000 in
theorem clshas_walk (proto kind v : Int) (nm vl : List UInt8) (ms : Int) (w : World) (hp0 : 0 ≤ proto) (hp1 : proto ≤ 255) (hk0 : 0 ≤ kind) (hk1 : kind ≤ 255) (hv0 : -2147483648 ≤ v) (hv1 : v ≤ 2147483647) (hm0 : -2147483648 ≤ ms) (hm1 : ms ≤ 2147483647) (hnl : nm.length ≤ maxLen) (hvl : vl.length ≤ maxLen) (hC : ClsC w)
    (hI' : ∀ (p : Int) (l : List UInt8) (X : World), Below w.heap.size w X → l.length ≤ maxLen → Calls Tryd.prog 7 #[.int .i64 p, .int .i64 1, .string (str l)] X fun e w' => e = .returned (.bool (Ch.isName p 1 l)) ∧ Below X.heap.size X w')
    (hK : ∀ X, Below w.heap.size w X → Calls Tryd.prog 6 #[] X fun e w' => e = .returned (.bool true) ∧ Below X.heap.size X w') :
    Calls Tryd.prog 3 #[.int .u8 proto, .int .u8 kind, .int .i32 v, .string (str nm), .string (str vl), .int .i32 ms] w fun e w' => e = .returned (.bool true) ∧ Below w.heap.size w w' := by
  have H0 := Lib.hid (hK w (Below.refl _ _))
  have HC := Lib.hid hC
  have HT : Hid (([116] : List UInt8).length ≤ maxLen) := Lib.hid (by unfold maxLen; simp)
  have HNL := Lib.hid hnl
  have HVL := Lib.hid hvl
  have hI := Lib.hid (fun (p : Int) (l : List UInt8) (X : World) (h : Below w.heap.size w X) => hI' p l X h)
  replace hI := Lib.hid (fun (p : Int) (l : List UInt8) (X : World) (h : Below w.heap.size w X) => show Calls Tryd.prog 7 #[.int .i64 p, .int .i64 1, .string (str nm)] X fun e w' => e = .returned (.bool (Ch.isName p 1 nm)) ∧ Below X.heap.size X w' from hI' p nm X h hnl)
  have hsn := str_size nm
  have hsv := str_size vl
  unfold maxLen at hnl hvl
  obtain ⟨q, hq, hq4⟩ : ∃ q : Nat, proto % 4 = (q : Int) ∧ q < 4 := ⟨(proto % 4).toNat, by omega, by omega⟩
  have t1 : proto.tmod 4 = (q : Int) := by rw [Int.tmod_eq_emod_of_nonneg hp0]; exact hq
  have t2 : IntKind.u8.wrap (q : Int) = (q : Int) := IntWalk.u8_in _ (by omega)
  have t3 : IntKind.i64.wrap (q : Int) = (q : Int) := IntWalk.i64_in _ (by omega)
  have t4 : IntKind.i64.wrap (1 + (q : Int)) = 1 + (q : Int) := IntWalk.i64_in _ (by omega)
  obtain ⟨m, hm, hm5⟩ : ∃ m : Nat, kind % 5 = (m : Int) ∧ m < 5 := ⟨(kind % 5).toNat, by omega, by omega⟩
  have t5 : kind.tmod 5 = (m : Int) := by rw [Int.tmod_eq_emod_of_nonneg hk0]; exact hm
  have t6 : IntKind.u8.wrap (m : Int) = (m : Int) := IntWalk.u8_in _ (by omega)
  have t7 : IntKind.i64.wrap (m : Int) = (m : Int) := IntWalk.i64_in _ (by omega)
  have t8 : IntKind.i64.wrap v = v := IntWalk.i64_in _ (by omega)
  have t9 : IntKind.i64.wrap ms = ms := IntWalk.i64_in _ (by omega)
  have t10 : IntKind.i64.wrap (1000 * ms) = 1000 * ms := IntWalk.i64_in _ (by omega)
  have HVB : Hid (-2147483648 ≤ v ∧ v ≤ 2147483647) := Lib.hid ⟨hv0, hv1⟩
  have HMS : Hid (-2147483648 ≤ ms ∧ ms ≤ 2147483647) := Lib.hid ⟨hm0, hm1⟩
  obtain ⟨P, hP, HPq⟩ : ∃ P : Int, (1 ≤ P ∧ P ≤ 4) ∧ Hid (P = 1 + (q : Int)) := ⟨1 + (q : Int), by omega, rfl⟩
  obtain ⟨K, hKK, HKq⟩ : ∃ K : Int, (0 ≤ K ∧ K ≤ 4) ∧ Hid (K = (m : Int)) := ⟨(m : Int), by omega, rfl⟩
  obtain ⟨ro, hro⟩ : ∃ ro : Int, ro = if K = 3 ∨ K = 4 then 4 else 0 := ⟨_, rfl⟩
  have HRO := Lib.hid hro
  have HP := Lib.hid hP
  have HKK := Lib.hid hKK
  have HKB : Hid (-9223372036854775808 ≤ K ∧ K ≤ 9223372036854775807) := Lib.hid (by omega)
  clear hq4 hm hm5 hq hC hK hp0 hp1 hk0 hk1 hP hKK hro hI' hv0 hv1 hm0 hm1
  go_enter Tryd.func3, Tryd.ntmps3
  go_wp2_with fail
  refine H0.out.mono ?_; rintro e w1 ⟨rfl, b1⟩
  have K1 := Lib.hid b1
  clear b1 H0
  by_cases h1 : 100 < nm.length
  · have d1 : decide ((100 : Int) < (nm.length : Int)) = true := decide_eq_true (by omega)
    have d1' : decide (100 < nm.length) = true := decide_eq_true h1
    go_wp2
    go_ret
    exact ⟨rfl, K1.out⟩
  have d1 : decide ((100 : Int) < (nm.length : Int)) = false := decide_eq_false (by omega)
  have d1' : decide (100 < nm.length) = false := decide_eq_false h1
  by_cases h2 : 100 < vl.length
  · have d2 : decide ((100 : Int) < (vl.length : Int)) = true := decide_eq_true (by omega)
    have d2' : decide (100 < vl.length) = true := decide_eq_true h2
    go_wp2
    go_ret
    exact ⟨rfl, K1.out⟩
  have d2 : decide ((100 : Int) < (vl.length : Int)) = false := decide_eq_false (by omega)
  have d2' : decide (100 < vl.length) = false := decide_eq_false h2
  go_upto_region 5 with (fail)
  clear d1 d1' d2 d2' h1 h2
  go_cut [13, 14] from 30 to 36 (fun s13 s14 wx => s13 = .int .i64 P ∧ s14 = .int .i64 K ∧ wx = w1)
  case first =>
    go_wp2_with fail
    go_meet
    exact ⟨by rw [HPq.out], by rw [HKq.out], rfl⟩
  case rest =>
  obtain ⟨rfl, rfl, rfl⟩ := hcut
  clear t1 t2 t3 t4 t5 t6 t7 HPq HKq
  obtain ⟨BB, hBB⟩ : ∃ B : Bool, B = ((K == 3) || (K == 4)) := ⟨_, rfl⟩
  have HBB := Lib.hid hBB
  clear hBB
  go_upto_region 7 with (fail)
  go_cut [42] (fun s42 wx => s42 = Value.bool BB ∧ wx = wc)
  case first =>
    by_cases h3 : K = 3
    · have d3 : (K == 3) = true := beq_iff_eq.2 h3
      have hb := Lib.hid (show BB = true by rw [HBB.out, d3]; rfl)
      clear HRO h3 HKK HKB HBB
      go_wp2_with fail
      go_meet
      exact ⟨by rw [hb.out], rfl⟩
    have d3 : (K == 3) = false := beq_eq_false_iff_ne.2 h3
    by_cases h4 : K = 4
    · have d4 : (K == 4) = true := beq_iff_eq.2 h4
      have hb := Lib.hid (show BB = true by rw [HBB.out, d3, d4]; rfl)
      clear HRO h3 h4 HKK HKB HBB
      go_wp2_with fail
      go_meet
      exact ⟨by rw [hb.out], rfl⟩
    have d4 : (K == 4) = false := beq_eq_false_iff_ne.2 h4
    have hb := Lib.hid (show BB = false by rw [HBB.out, d3, d4]; rfl)
    clear HRO h3 h4 HKK HKB HBB
    go_wp2_with fail
    go_meet
    exact ⟨by rw [hb.out], rfl⟩
  case rest =>
  obtain ⟨rfl, rfl⟩ := hcut
  have HROB : Hid (ro = if BB = true then 4 else 0) := Lib.hid (by
    rw [HRO.out, HBB.out]
    by_cases h3 : K = 3
    · rw [if_pos (Or.inl h3), if_pos (by rw [beq_iff_eq.2 h3]; rfl)]
    · by_cases h4 : K = 4
      · rw [if_pos (Or.inr h4), if_pos (by rw [beq_iff_eq.2 h4]; simp)]
      · rw [if_neg (by omega), if_neg (by rw [beq_eq_false_iff_ne.2 h3, beq_eq_false_iff_ne.2 h4]; decide)])
  clear HBB
  go_upto_if 42 with (fail)
  go_cut [15] (fun s15 wx => s15 = Value.int .i64 ro ∧ wx = wc)
  case first =>
    cases BB with
    | true =>
      have hr := Lib.hid (show ro = 4 from HROB.out)
      clear HRO HROB
      go_wp2_with fail
      go_meet
      exact ⟨by rw [hr.out], rfl⟩
    | false =>
      have hr := Lib.hid (show ro = 0 from HROB.out)
      clear HRO HROB
      go_wp2_with fail
      go_meet
      exact ⟨by rw [hr.out], rfl⟩
  case rest =>
  obtain ⟨rfl, rfl⟩ := hcut
  clear HROB
  have ka := kp_alloc (Below.refl wc.heap.size wc) (.cells (ptc (.slice none 0 0) ⟨[], ro, false, 0, 0, v, 0, false, 0⟩) 27)
  have PA := PtAt.new wc (.slice none 0 0) ⟨[], ro, false, 0, 0, v, 0, false, 0⟩ 27
  go_upto_region 10 with fail
  obtain ⟨W4, hW4⟩ : ∃ W, W = wc.alloc (.cells #[.slice none 0 0, .int .i64 ro, .bool false, .int .i64 0, .int .i64 0, .int .i64 v, .int .i64 0, .bool false, .int .i64 0] 27) := ⟨_, rfl⟩
  have HP4 : Hid (PtAt W4 wc.heap.size (.slice none 0 0) ⟨[], ro, false, 0, 0, v, 0, false, 0⟩) := Lib.hid (by rw [hW4]; exact PA)
  have K4 : Hid (Below w.heap.size w W4) := Lib.hid (by rw [hW4]; exact trans9 K1.out ka)
  have HBX : Hid (w.heap.size ≤ wc.heap.size) := Lib.hid K1.out.size
  rw [← hW4]
  clear hW4 ka PA K1
  generalize wc.heap.size = bx at *
  by_cases p4 : P = 4
  · have a1 : (P == 4) = true := beq_iff_eq.2 p4
    have a2 : (P != 4) = false := by rw [bne, a1]; rfl
    have HA2 := Lib.hid a2
    clear p4
    by_cases k2 : K = 2
    · have a3 : (K == 2) = true := beq_iff_eq.2 k2
      clear k2
      obtain ⟨y0, y1, y2, y3, y4, y5, y6, y7, y8, yf, yl⟩ := HP4.out
      dsimp only at y0 y1 y2 y3 y4 y5 y6 y7 y8
      go_upto_region 14 with fail
      clear y0 y1 y2 y3 y4 y5 y6 y7 y8 yf yl
      obtain ⟨M, hM⟩ : ∃ M, M = bits .and .i64 v 65535 := ⟨_, rfl⟩
      have HMB : Hid (0 ≤ M ∧ M ≤ 65535) := Lib.hid (by rw [hM]; exact Kl.bits_lo v)
      rw [← hM]
      clear hM
      obtain ⟨X, hX⟩ : ∃ X, X = (W4.setCell ⟨bx, 5, none⟩ (.int .i64 M)) := ⟨_, rfl⟩
      have HX : Hid (PtAt X bx (.slice none 0 0) ⟨[], ro, false, 0, 0, M, 0, false, 0⟩) := Lib.hid (by rw [hX]; exact Kl.pt_m M HP4.out)
      have HKX : Hid (Below w.heap.size w X) := Lib.hid (by rw [hX]; exact (K4.out.setCell (p := ⟨bx, 5, none⟩) HBX.out _))
      rw [← hX]
      clear hX HP4 K4
      have cI := Lib.hid (hI.out P nm X HKX.out)
      have cV := Lib.hid (fun Z (hZ : Below w.heap.size w Z) => HC.out.val P vl Z hZ HVL.out)
      cases hN : Ch.isName P 1 nm
      · rw [hN] at cI
        have HHAS := Lib.hid (Kl.has (p := P) (k := K) (ro := ro) (m := M) (ti := 0) (ls := []) (td := false) HP.out HKK.out HRO.out ((goodD_iff _ _).2 ⟨by omega, by omega, by have := HMB.out; omega, Or.inl rfl⟩) (fun _ => HMB.out.1) (HA2.out.symm) (fun e => by cases e) (fun _ => rfl) (Or.inl rfl))
        have HIN : Hid (PtIn ⟨[], ro, false, 0, 0, M, 0, false, 0⟩) := Lib.hid (Kl.pt_in1 (by have := HMB.out; omega) (by omega) (fun x hx => by cases hx))
        clear hN cV
        go_wp2_with fail
        refine cI.out.mono ?_; rintro e Y ⟨rfl, bI⟩
        have HPt := Lib.hid (HX.out.below bI)
        have HLb := Lib.hid (Kl.lb_nil Y)
        have HKY := Lib.hid (trans9 HKX.out bI)
        clear bI
        go_upto_region 17 with fail
        have cK := Lib.hid (HC.out.kinds P Y HKY.out)
        go_wp2_with fail
        refine cK.out.mono ?_; rintro e w7 ⟨⟨kv, rfl, hkv⟩, b7⟩
        have HP7 := Lib.hid (HPt.out.below b7)
        have HL7 := Lib.hid (LbRow.below HLb.out b7)
        have K7 := Lib.hid (trans9 HKY.out b7)
        obtain ⟨Ak, capk, rfl, hk1, hk2, hk3⟩ := hkv
        unfold maxLen at hk2
        have HRK := Lib.hid hk3
        obtain ⟨Q, hQ⟩ : ∃ Q, Q = Kl.kinds P := ⟨_, rfl⟩
        rw [← hQ] at HRK hk1 ⊢
        have HQ := Lib.hid hQ
        clear b7 hk3 hQ cK HKY HPt HLb
        go_wp2_with fail
        go_loop [17, 82] (fun a s => ∃ i : Nat, i ≤ Q.length ∧ a = .bool ((Q.take i).contains K) ∧ s = .int .i64 (i : Nat)) (fun _ s => Q.length - (intOf s).toNat)
        case atStart => exact ⟨0, Nat.zero_le _, rfl, rfl⟩
        case round =>
          obtain ⟨i, hi, rfl, rfl⟩ := hrel
          by_cases hiq : i < Q.length
          · obtain ⟨bk, offk, rfl, hbk, hck⟩ := HRK.out (by omega)
            have hx := hck i _ (List.getElem?_eq_getElem hiq)
            have hct := Lib.hid (Kl.contains_take (k := K) (List.getElem?_eq_getElem hiq))
            generalize Q[i] = qi at *
            clear hck
            cases hc0 : (Q.take i).contains K
            · rw [hc0] at hct
              by_cases e : qi = K
              · have e1 : (qi == K) = true := beq_iff_eq.2 e
                have hct2 := Lib.hid (show (Q.take (i + 1)).contains K = true by rw [hct.out, e1]; rfl)
                clear e hct hc0
                go_wp2
                go_round
                case rel => exact ⟨i + 1, hiq, by rw [hct2.out], by go_num⟩
                case measure => simp [intOf]; omega
              · have e1 : (qi == K) = false := beq_eq_false_iff_ne.2 e
                have hct2 := Lib.hid (show (Q.take (i + 1)).contains K = false by rw [hct.out, e1]; rfl)
                clear e hct hc0
                go_wp2
                go_round
                case rel => exact ⟨i + 1, hiq, by rw [hct2.out], by go_num⟩
                case measure => simp [intOf]; omega
            · rw [hc0] at hct
              have hct2 := Lib.hid (show (Q.take (i + 1)).contains K = true by rw [hct.out]; rfl)
              clear hct hc0
              go_wp2
              go_round
              case rel => exact ⟨i + 1, hiq, by rw [hct2.out], by go_num⟩
              case measure => simp [intOf]; omega
          · have hall : Q.take i = Q := List.take_of_length_le (by omega)
            rw [hall]
            have c1 := one16_calls K (((.slice none 0 0), ⟨[], ro, false, 0, 0, M, 0, false, 0⟩) : Ps) w7 HKB.out ⟨HL7.out, HIN.out⟩
            have C1 := Lib.hid c1
            obtain ⟨y0, y1, y2, y3, y4, y5, y6, y7, y8, yf, yl⟩ := HP7.out
            dsimp only at y0 y1 y2 y3 y4 y5 y6 y7 y8
            clear hall HRK hk1 hk2 c1
            go_wp2_with fail
            refine C1.out.mono ?_; rintro e w8 ⟨⟨A8, n8, c8, F8, rfl, row8, hf8⟩, b8⟩
            have K8 := Lib.hid (trans9 K7.out b8)
            have c9 := HC.out.is P [116] F8 _ w8 K8.out row8 (one16_few hf8 (by show 0 ≤ 12; omega)) HT.out
            rw [hf8, HHAS.out, ← HQ.out] at c9
            have C9 := Lib.hid c9
            clear c9 row8 hf8 b8 C1 y0 y1 y2 y3 y4 y5 y6 y7 y8 yf yl
            go_wp2_with fail
            refine C9.out.mono ?_; rintro e w9 ⟨rfl, b9⟩
            have K9 := Lib.hid (trans9 K8.out b9)
            clear b9
            go_wp2_with fail
            go_ret
            exact ⟨by first | rfl | simp, K9.out⟩
      rw [hN] at cI
      cases hV : Kl.val P vl
      · rw [hV] at cV
        have HHAS := Lib.hid (Kl.has (p := P) (k := K) (ro := ro) (m := M) (ti := 0) (ls := []) (td := false) HP.out HKK.out HRO.out ((goodD_iff _ _).2 ⟨by omega, by omega, by have := HMB.out; omega, Or.inl rfl⟩) (fun _ => HMB.out.1) (HA2.out.symm) (fun e => by cases e) (fun _ => rfl) (Or.inl rfl))
        have HIN : Hid (PtIn ⟨[], ro, false, 0, 0, M, 0, false, 0⟩) := Lib.hid (Kl.pt_in1 (by have := HMB.out; omega) (by omega) (fun x hx => by cases hx))
        clear hN hV
        go_wp2_with fail
        refine cI.out.mono ?_; rintro e Y0 ⟨rfl, bI⟩
        have HX0 := Lib.hid (HX.out.below bI)
        have HK0 := Lib.hid (trans9 HKX.out bI)
        clear bI
        go_wp2_with fail
        refine (cV.out Y0 HK0.out).mono ?_; rintro e Y ⟨rfl, bY⟩
        have HPt := Lib.hid (HX0.out.below bY)
        have HLb := Lib.hid (Kl.lb_nil Y)
        have HKY := Lib.hid (trans9 HK0.out bY)
        clear bY
        go_upto_region 17 with fail
        have cK := Lib.hid (HC.out.kinds P Y HKY.out)
        go_wp2_with fail
        refine cK.out.mono ?_; rintro e w7 ⟨⟨kv, rfl, hkv⟩, b7⟩
        have HP7 := Lib.hid (HPt.out.below b7)
        have HL7 := Lib.hid (LbRow.below HLb.out b7)
        have K7 := Lib.hid (trans9 HKY.out b7)
        obtain ⟨Ak, capk, rfl, hk1, hk2, hk3⟩ := hkv
        unfold maxLen at hk2
        have HRK := Lib.hid hk3
        obtain ⟨Q, hQ⟩ : ∃ Q, Q = Kl.kinds P := ⟨_, rfl⟩
        rw [← hQ] at HRK hk1 ⊢
        have HQ := Lib.hid hQ
        clear b7 hk3 hQ cK HKY HPt HLb
        go_wp2_with fail
        go_loop [17, 82] (fun a s => ∃ i : Nat, i ≤ Q.length ∧ a = .bool ((Q.take i).contains K) ∧ s = .int .i64 (i : Nat)) (fun _ s => Q.length - (intOf s).toNat)
        case atStart => exact ⟨0, Nat.zero_le _, rfl, rfl⟩
        case round =>
          obtain ⟨i, hi, rfl, rfl⟩ := hrel
          by_cases hiq : i < Q.length
          · obtain ⟨bk, offk, rfl, hbk, hck⟩ := HRK.out (by omega)
            have hx := hck i _ (List.getElem?_eq_getElem hiq)
            have hct := Lib.hid (Kl.contains_take (k := K) (List.getElem?_eq_getElem hiq))
            generalize Q[i] = qi at *
            clear hck
            cases hc0 : (Q.take i).contains K
            · rw [hc0] at hct
              by_cases e : qi = K
              · have e1 : (qi == K) = true := beq_iff_eq.2 e
                have hct2 := Lib.hid (show (Q.take (i + 1)).contains K = true by rw [hct.out, e1]; rfl)
                clear e hct hc0
                go_wp2
                go_round
                case rel => exact ⟨i + 1, hiq, by rw [hct2.out], by go_num⟩
                case measure => simp [intOf]; omega
              · have e1 : (qi == K) = false := beq_eq_false_iff_ne.2 e
                have hct2 := Lib.hid (show (Q.take (i + 1)).contains K = false by rw [hct.out, e1]; rfl)
                clear e hct hc0
                go_wp2
                go_round
                case rel => exact ⟨i + 1, hiq, by rw [hct2.out], by go_num⟩
                case measure => simp [intOf]; omega
            · rw [hc0] at hct
              have hct2 := Lib.hid (show (Q.take (i + 1)).contains K = true by rw [hct.out]; rfl)
              clear hct hc0
              go_wp2
              go_round
              case rel => exact ⟨i + 1, hiq, by rw [hct2.out], by go_num⟩
              case measure => simp [intOf]; omega
          · have hall : Q.take i = Q := List.take_of_length_le (by omega)
            rw [hall]
            have c1 := one16_calls K (((.slice none 0 0), ⟨[], ro, false, 0, 0, M, 0, false, 0⟩) : Ps) w7 HKB.out ⟨HL7.out, HIN.out⟩
            have C1 := Lib.hid c1
            obtain ⟨y0, y1, y2, y3, y4, y5, y6, y7, y8, yf, yl⟩ := HP7.out
            dsimp only at y0 y1 y2 y3 y4 y5 y6 y7 y8
            clear hall HRK hk1 hk2 c1
            go_wp2_with fail
            refine C1.out.mono ?_; rintro e w8 ⟨⟨A8, n8, c8, F8, rfl, row8, hf8⟩, b8⟩
            have K8 := Lib.hid (trans9 K7.out b8)
            have c9 := HC.out.is P [116] F8 _ w8 K8.out row8 (one16_few hf8 (by show 0 ≤ 12; omega)) HT.out
            rw [hf8, HHAS.out, ← HQ.out] at c9
            have C9 := Lib.hid c9
            clear c9 row8 hf8 b8 C1 y0 y1 y2 y3 y4 y5 y6 y7 y8 yf yl
            go_wp2_with fail
            refine C9.out.mono ?_; rintro e w9 ⟨rfl, b9⟩
            have K9 := Lib.hid (trans9 K8.out b9)
            clear b9
            go_wp2_with fail
            go_ret
            exact ⟨by first | rfl | simp, K9.out⟩
      rw [hV] at cV
      have HHAS := Lib.hid (Kl.has (p := P) (k := K) (ro := ro) (m := M) (ti := 0) (ls := [(nm, vl)]) (td := false) HP.out HKK.out HRO.out ((goodD_iff _ _).2 ⟨by omega, by omega, by have := HMB.out; omega, Or.inl rfl⟩) (fun _ => HMB.out.1) (HA2.out.symm) (fun e => by cases e) (fun _ => rfl) (Or.inr ⟨nm, vl, rfl, hN, hV⟩))
      have HIN : Hid (PtIn ⟨[(nm, vl)], ro, false, 0, 0, M, 0, false, 0⟩) := Lib.hid (Kl.pt_in1 (by have := HMB.out; omega) (by omega) (fun x hx => by rw [List.mem_singleton.1 hx]; exact ⟨HNL.out, HVL.out⟩))
      clear hN hV
      go_wp2_with fail
      refine cI.out.mono ?_; rintro e Y0 ⟨rfl, bI⟩
      have HX0 := Lib.hid (HX.out.below bI)
      have HK0 := Lib.hid (trans9 HKX.out bI)
      clear bI
      go_wp2_with fail
      refine (cV.out Y0 HK0.out).mono ?_; rintro e Y1 ⟨rfl, bY⟩
      have HP1 := Lib.hid (HX0.out.below bY)
      have HK1 := Lib.hid (trans9 HK0.out bY)
      clear bY
      obtain ⟨y0, y1, y2, y3, y4, y5, y6, y7, y8, yf, yl⟩ := HP1.out
      dsimp only at y0 y1 y2 y3 y4 y5 y6 y7 y8
      go_upto_region 17 with fail
      clear y0 y1 y2 y3 y4 y5 y6 y7 y8 yf
      obtain ⟨Y2, hY2⟩ : ∃ Y, Y = Y1.setCell ⟨bx, 0, none⟩ (.slice (some ⟨Y1.heap.size, 0, none⟩) 1 1) := ⟨_, rfl⟩
      have hsz : Y2.heap.size = Y1.heap.size := by rw [hY2]; simp [World.setCell]
      have hP2 : PtAt Y2 bx (.slice (some ⟨Y1.heap.size, 0, none⟩) 1 1) ⟨[(nm, vl)], ro, false, 0, 0, M, 0, false, 0⟩ := by rw [hY2]; exact Kl.pt_l (.slice (some ⟨Y1.heap.size, 0, none⟩) 1 1) [(nm, vl)] HP1.out
      have hK2 : Below w.heap.size w Y2 := by rw [hY2]; exact HK1.out.setCell (p := ⟨bx, 0, none⟩) HBX.out _
      rw [← hY2]
      have ka := kp_alloc (Below.refl Y2.heap.size Y2) (.cells #[.string (str nm), .string (str vl)] 31)
      have N1 := heap_alloc_new Y2 (.cells #[.string (str nm), .string (str vl)] 31)
      rw [hsz] at N1
      obtain ⟨Y, hY⟩ : ∃ Y, Y = Y2.alloc (.cells #[.string (str nm), .string (str vl)] 31) := ⟨_, rfl⟩
      rw [← hY] at N1 ka ⊢
      have HPt := Lib.hid (hP2.below ka)
      have HLb := Lib.hid (Kl.lab_heap N1)
      have HKY := Lib.hid (trans9 hK2 ka)
      clear hY hY2 ka N1 HP1 HK1 yl hsz hP2 hK2
      generalize Y1.heap.size = bl at *
      have cK := Lib.hid (HC.out.kinds P Y HKY.out)
      go_wp2_with fail
      refine cK.out.mono ?_; rintro e w7 ⟨⟨kv, rfl, hkv⟩, b7⟩
      have HP7 := Lib.hid (HPt.out.below b7)
      have HL7 := Lib.hid (LbRow.below HLb.out b7)
      have K7 := Lib.hid (trans9 HKY.out b7)
      obtain ⟨Ak, capk, rfl, hk1, hk2, hk3⟩ := hkv
      unfold maxLen at hk2
      have HRK := Lib.hid hk3
      obtain ⟨Q, hQ⟩ : ∃ Q, Q = Kl.kinds P := ⟨_, rfl⟩
      rw [← hQ] at HRK hk1 ⊢
      have HQ := Lib.hid hQ
      clear b7 hk3 hQ cK HKY HPt HLb
      go_wp2_with fail
      go_loop [17, 82] (fun a s => ∃ i : Nat, i ≤ Q.length ∧ a = .bool ((Q.take i).contains K) ∧ s = .int .i64 (i : Nat)) (fun _ s => Q.length - (intOf s).toNat)
      case atStart => exact ⟨0, Nat.zero_le _, rfl, rfl⟩
      case round =>
        obtain ⟨i, hi, rfl, rfl⟩ := hrel
        by_cases hiq : i < Q.length
        · obtain ⟨bk, offk, rfl, hbk, hck⟩ := HRK.out (by omega)
          have hx := hck i _ (List.getElem?_eq_getElem hiq)
          have hct := Lib.hid (Kl.contains_take (k := K) (List.getElem?_eq_getElem hiq))
          generalize Q[i] = qi at *
          clear hck
          cases hc0 : (Q.take i).contains K
          · rw [hc0] at hct
            by_cases e : qi = K
            · have e1 : (qi == K) = true := beq_iff_eq.2 e
              have hct2 := Lib.hid (show (Q.take (i + 1)).contains K = true by rw [hct.out, e1]; rfl)
              clear e hct hc0
              go_wp2
              go_round
              case rel => exact ⟨i + 1, hiq, by rw [hct2.out], by go_num⟩
              case measure => simp [intOf]; omega
            · have e1 : (qi == K) = false := beq_eq_false_iff_ne.2 e
              have hct2 := Lib.hid (show (Q.take (i + 1)).contains K = false by rw [hct.out, e1]; rfl)
              clear e hct hc0
              go_wp2
              go_round
              case rel => exact ⟨i + 1, hiq, by rw [hct2.out], by go_num⟩
              case measure => simp [intOf]; omega
          · rw [hc0] at hct
            have hct2 := Lib.hid (show (Q.take (i + 1)).contains K = true by rw [hct.out]; rfl)
            clear hct hc0
            go_wp2
            go_round
            case rel => exact ⟨i + 1, hiq, by rw [hct2.out], by go_num⟩
            case measure => simp [intOf]; omega
        · have hall : Q.take i = Q := List.take_of_length_le (by omega)
          rw [hall]
          have c1 := one16_calls K (((.slice (some ⟨bl, 0, none⟩) 1 1), ⟨[(nm, vl)], ro, false, 0, 0, M, 0, false, 0⟩) : Ps) w7 HKB.out ⟨HL7.out, HIN.out⟩
          have C1 := Lib.hid c1
          obtain ⟨y0, y1, y2, y3, y4, y5, y6, y7, y8, yf, yl⟩ := HP7.out
          dsimp only at y0 y1 y2 y3 y4 y5 y6 y7 y8
          clear hall HRK hk1 hk2 c1
          go_wp2_with fail
          refine C1.out.mono ?_; rintro e w8 ⟨⟨A8, n8, c8, F8, rfl, row8, hf8⟩, b8⟩
          have K8 := Lib.hid (trans9 K7.out b8)
          have c9 := HC.out.is P [116] F8 _ w8 K8.out row8 (one16_few hf8 (by show 1 ≤ 12; omega)) HT.out
          rw [hf8, HHAS.out, ← HQ.out] at c9
          have C9 := Lib.hid c9
          clear c9 row8 hf8 b8 C1 y0 y1 y2 y3 y4 y5 y6 y7 y8 yf yl
          go_wp2_with fail
          refine C9.out.mono ?_; rintro e w9 ⟨rfl, b9⟩
          have K9 := Lib.hid (trans9 K8.out b9)
          clear b9
          go_wp2_with fail
          go_ret
          exact ⟨by first | rfl | simp, K9.out⟩
    have a3 : (K == 2) = false := beq_eq_false_iff_ne.2 k2
    clear k2
    obtain ⟨y0, y1, y2, y3, y4, y5, y6, y7, y8, yf, yl⟩ := HP4.out
    dsimp only at y0 y1 y2 y3 y4 y5 y6 y7 y8
    go_upto_region 14 with fail
    clear y0 y1 y2 y3 y4 y5 y6 y7 y8 yf yl
    obtain ⟨M, hM⟩ : ∃ M, M = bits .and .i64 v 65535 := ⟨_, rfl⟩
    have HMB : Hid (0 ≤ M ∧ M ≤ 65535) := Lib.hid (by rw [hM]; exact Kl.bits_lo v)
    rw [← hM]
    clear hM
    obtain ⟨X, hX⟩ : ∃ X, X = (W4.setCell ⟨bx, 5, none⟩ (.int .i64 M)) := ⟨_, rfl⟩
    have HX : Hid (PtAt X bx (.slice none 0 0) ⟨[], ro, false, 0, 0, M, 0, false, 0⟩) := Lib.hid (by rw [hX]; exact Kl.pt_m M HP4.out)
    have HKX : Hid (Below w.heap.size w X) := Lib.hid (by rw [hX]; exact (K4.out.setCell (p := ⟨bx, 5, none⟩) HBX.out _))
    rw [← hX]
    clear hX HP4 K4
    have cI := Lib.hid (hI.out P nm X HKX.out)
    have cV := Lib.hid (fun Z (hZ : Below w.heap.size w Z) => HC.out.val P vl Z hZ HVL.out)
    cases hN : Ch.isName P 1 nm
    · rw [hN] at cI
      have HHAS := Lib.hid (Kl.has (p := P) (k := K) (ro := ro) (m := M) (ti := 0) (ls := []) (td := false) HP.out HKK.out HRO.out ((goodD_iff _ _).2 ⟨by omega, by omega, by have := HMB.out; omega, Or.inl rfl⟩) (fun _ => HMB.out.1) (HA2.out.symm) (fun e => by cases e) (fun _ => rfl) (Or.inl rfl))
      have HIN : Hid (PtIn ⟨[], ro, false, 0, 0, M, 0, false, 0⟩) := Lib.hid (Kl.pt_in1 (by have := HMB.out; omega) (by omega) (fun x hx => by cases hx))
      clear hN cV
      go_wp2_with fail
      refine cI.out.mono ?_; rintro e Y ⟨rfl, bI⟩
      have HPt := Lib.hid (HX.out.below bI)
      have HLb := Lib.hid (Kl.lb_nil Y)
      have HKY := Lib.hid (trans9 HKX.out bI)
      clear bI
      go_upto_region 17 with fail
      have cK := Lib.hid (HC.out.kinds P Y HKY.out)
      go_wp2_with fail
      refine cK.out.mono ?_; rintro e w7 ⟨⟨kv, rfl, hkv⟩, b7⟩
      have HP7 := Lib.hid (HPt.out.below b7)
      have HL7 := Lib.hid (LbRow.below HLb.out b7)
      have K7 := Lib.hid (trans9 HKY.out b7)
      obtain ⟨Ak, capk, rfl, hk1, hk2, hk3⟩ := hkv
      unfold maxLen at hk2
      have HRK := Lib.hid hk3
      obtain ⟨Q, hQ⟩ : ∃ Q, Q = Kl.kinds P := ⟨_, rfl⟩
      rw [← hQ] at HRK hk1 ⊢
      have HQ := Lib.hid hQ
      clear b7 hk3 hQ cK HKY HPt HLb
      go_wp2_with fail
      go_loop [17, 82] (fun a s => ∃ i : Nat, i ≤ Q.length ∧ a = .bool ((Q.take i).contains K) ∧ s = .int .i64 (i : Nat)) (fun _ s => Q.length - (intOf s).toNat)
      case atStart => exact ⟨0, Nat.zero_le _, rfl, rfl⟩
      case round =>
        obtain ⟨i, hi, rfl, rfl⟩ := hrel
        by_cases hiq : i < Q.length
        · obtain ⟨bk, offk, rfl, hbk, hck⟩ := HRK.out (by omega)
          have hx := hck i _ (List.getElem?_eq_getElem hiq)
          have hct := Lib.hid (Kl.contains_take (k := K) (List.getElem?_eq_getElem hiq))
          generalize Q[i] = qi at *
          clear hck
          cases hc0 : (Q.take i).contains K
          · rw [hc0] at hct
            by_cases e : qi = K
            · have e1 : (qi == K) = true := beq_iff_eq.2 e
              have hct2 := Lib.hid (show (Q.take (i + 1)).contains K = true by rw [hct.out, e1]; rfl)
              clear e hct hc0
              go_wp2
              go_round
              case rel => exact ⟨i + 1, hiq, by rw [hct2.out], by go_num⟩
              case measure => simp [intOf]; omega
            · have e1 : (qi == K) = false := beq_eq_false_iff_ne.2 e
              have hct2 := Lib.hid (show (Q.take (i + 1)).contains K = false by rw [hct.out, e1]; rfl)
              clear e hct hc0
              go_wp2
              go_round
              case rel => exact ⟨i + 1, hiq, by rw [hct2.out], by go_num⟩
              case measure => simp [intOf]; omega
          · rw [hc0] at hct
            have hct2 := Lib.hid (show (Q.take (i + 1)).contains K = true by rw [hct.out]; rfl)
            clear hct hc0
            go_wp2
            go_round
            case rel => exact ⟨i + 1, hiq, by rw [hct2.out], by go_num⟩
            case measure => simp [intOf]; omega
        · have hall : Q.take i = Q := List.take_of_length_le (by omega)
          rw [hall]
          have c1 := one16_calls K (((.slice none 0 0), ⟨[], ro, false, 0, 0, M, 0, false, 0⟩) : Ps) w7 HKB.out ⟨HL7.out, HIN.out⟩
          have C1 := Lib.hid c1
          obtain ⟨y0, y1, y2, y3, y4, y5, y6, y7, y8, yf, yl⟩ := HP7.out
          dsimp only at y0 y1 y2 y3 y4 y5 y6 y7 y8
          clear hall HRK hk1 hk2 c1
          go_wp2_with fail
          refine C1.out.mono ?_; rintro e w8 ⟨⟨A8, n8, c8, F8, rfl, row8, hf8⟩, b8⟩
          have K8 := Lib.hid (trans9 K7.out b8)
          have c9 := HC.out.is P [116] F8 _ w8 K8.out row8 (one16_few hf8 (by show 0 ≤ 12; omega)) HT.out
          rw [hf8, HHAS.out, ← HQ.out] at c9
          have C9 := Lib.hid c9
          clear c9 row8 hf8 b8 C1 y0 y1 y2 y3 y4 y5 y6 y7 y8 yf yl
          go_wp2_with fail
          refine C9.out.mono ?_; rintro e w9 ⟨rfl, b9⟩
          have K9 := Lib.hid (trans9 K8.out b9)
          clear b9
          go_wp2_with fail
          go_ret
          exact ⟨by first | rfl | simp, K9.out⟩
    rw [hN] at cI
    cases hV : Kl.val P vl
    · rw [hV] at cV
      have HHAS := Lib.hid (Kl.has (p := P) (k := K) (ro := ro) (m := M) (ti := 0) (ls := []) (td := false) HP.out HKK.out HRO.out ((goodD_iff _ _).2 ⟨by omega, by omega, by have := HMB.out; omega, Or.inl rfl⟩) (fun _ => HMB.out.1) (HA2.out.symm) (fun e => by cases e) (fun _ => rfl) (Or.inl rfl))
      have HIN : Hid (PtIn ⟨[], ro, false, 0, 0, M, 0, false, 0⟩) := Lib.hid (Kl.pt_in1 (by have := HMB.out; omega) (by omega) (fun x hx => by cases hx))
      clear hN hV
      go_wp2_with fail
      refine cI.out.mono ?_; rintro e Y0 ⟨rfl, bI⟩
      have HX0 := Lib.hid (HX.out.below bI)
      have HK0 := Lib.hid (trans9 HKX.out bI)
      clear bI
      go_wp2_with fail
      refine (cV.out Y0 HK0.out).mono ?_; rintro e Y ⟨rfl, bY⟩
      have HPt := Lib.hid (HX0.out.below bY)
      have HLb := Lib.hid (Kl.lb_nil Y)
      have HKY := Lib.hid (trans9 HK0.out bY)
      clear bY
      go_upto_region 17 with fail
      have cK := Lib.hid (HC.out.kinds P Y HKY.out)
      go_wp2_with fail
      refine cK.out.mono ?_; rintro e w7 ⟨⟨kv, rfl, hkv⟩, b7⟩
      have HP7 := Lib.hid (HPt.out.below b7)
      have HL7 := Lib.hid (LbRow.below HLb.out b7)
      have K7 := Lib.hid (trans9 HKY.out b7)
      obtain ⟨Ak, capk, rfl, hk1, hk2, hk3⟩ := hkv
      unfold maxLen at hk2
      have HRK := Lib.hid hk3
      obtain ⟨Q, hQ⟩ : ∃ Q, Q = Kl.kinds P := ⟨_, rfl⟩
      rw [← hQ] at HRK hk1 ⊢
      have HQ := Lib.hid hQ
      clear b7 hk3 hQ cK HKY HPt HLb
      go_wp2_with fail
      go_loop [17, 82] (fun a s => ∃ i : Nat, i ≤ Q.length ∧ a = .bool ((Q.take i).contains K) ∧ s = .int .i64 (i : Nat)) (fun _ s => Q.length - (intOf s).toNat)
      case atStart => exact ⟨0, Nat.zero_le _, rfl, rfl⟩
      case round =>
        obtain ⟨i, hi, rfl, rfl⟩ := hrel
        by_cases hiq : i < Q.length
        · obtain ⟨bk, offk, rfl, hbk, hck⟩ := HRK.out (by omega)
          have hx := hck i _ (List.getElem?_eq_getElem hiq)
          have hct := Lib.hid (Kl.contains_take (k := K) (List.getElem?_eq_getElem hiq))
          generalize Q[i] = qi at *
          clear hck
          cases hc0 : (Q.take i).contains K
          · rw [hc0] at hct
            by_cases e : qi = K
            · have e1 : (qi == K) = true := beq_iff_eq.2 e
              have hct2 := Lib.hid (show (Q.take (i + 1)).contains K = true by rw [hct.out, e1]; rfl)
              clear e hct hc0
              go_wp2
              go_round
              case rel => exact ⟨i + 1, hiq, by rw [hct2.out], by go_num⟩
              case measure => simp [intOf]; omega
            · have e1 : (qi == K) = false := beq_eq_false_iff_ne.2 e
              have hct2 := Lib.hid (show (Q.take (i + 1)).contains K = false by rw [hct.out, e1]; rfl)
              clear e hct hc0
              go_wp2
              go_round
              case rel => exact ⟨i + 1, hiq, by rw [hct2.out], by go_num⟩
              case measure => simp [intOf]; omega
          · rw [hc0] at hct
            have hct2 := Lib.hid (show (Q.take (i + 1)).contains K = true by rw [hct.out]; rfl)
            clear hct hc0
            go_wp2
            go_round
            case rel => exact ⟨i + 1, hiq, by rw [hct2.out], by go_num⟩
            case measure => simp [intOf]; omega
        · have hall : Q.take i = Q := List.take_of_length_le (by omega)
          rw [hall]
          have c1 := one16_calls K (((.slice none 0 0), ⟨[], ro, false, 0, 0, M, 0, false, 0⟩) : Ps) w7 HKB.out ⟨HL7.out, HIN.out⟩
          have C1 := Lib.hid c1
          obtain ⟨y0, y1, y2, y3, y4, y5, y6, y7, y8, yf, yl⟩ := HP7.out
          dsimp only at y0 y1 y2 y3 y4 y5 y6 y7 y8
          clear hall HRK hk1 hk2 c1
          go_wp2_with fail
          refine C1.out.mono ?_; rintro e w8 ⟨⟨A8, n8, c8, F8, rfl, row8, hf8⟩, b8⟩
          have K8 := Lib.hid (trans9 K7.out b8)
          have c9 := HC.out.is P [116] F8 _ w8 K8.out row8 (one16_few hf8 (by show 0 ≤ 12; omega)) HT.out
          rw [hf8, HHAS.out, ← HQ.out] at c9
          have C9 := Lib.hid c9
          clear c9 row8 hf8 b8 C1 y0 y1 y2 y3 y4 y5 y6 y7 y8 yf yl
          go_wp2_with fail
          refine C9.out.mono ?_; rintro e w9 ⟨rfl, b9⟩
          have K9 := Lib.hid (trans9 K8.out b9)
          clear b9
          go_wp2_with fail
          go_ret
          exact ⟨by first | rfl | simp, K9.out⟩
    rw [hV] at cV
    have HHAS := Lib.hid (Kl.has (p := P) (k := K) (ro := ro) (m := M) (ti := 0) (ls := [(nm, vl)]) (td := false) HP.out HKK.out HRO.out ((goodD_iff _ _).2 ⟨by omega, by omega, by have := HMB.out; omega, Or.inl rfl⟩) (fun _ => HMB.out.1) (HA2.out.symm) (fun e => by cases e) (fun _ => rfl) (Or.inr ⟨nm, vl, rfl, hN, hV⟩))
    have HIN : Hid (PtIn ⟨[(nm, vl)], ro, false, 0, 0, M, 0, false, 0⟩) := Lib.hid (Kl.pt_in1 (by have := HMB.out; omega) (by omega) (fun x hx => by rw [List.mem_singleton.1 hx]; exact ⟨HNL.out, HVL.out⟩))
    clear hN hV
    go_wp2_with fail
    refine cI.out.mono ?_; rintro e Y0 ⟨rfl, bI⟩
    have HX0 := Lib.hid (HX.out.below bI)
    have HK0 := Lib.hid (trans9 HKX.out bI)
    clear bI
    go_wp2_with fail
    refine (cV.out Y0 HK0.out).mono ?_; rintro e Y1 ⟨rfl, bY⟩
    have HP1 := Lib.hid (HX0.out.below bY)
    have HK1 := Lib.hid (trans9 HK0.out bY)
    clear bY
    obtain ⟨y0, y1, y2, y3, y4, y5, y6, y7, y8, yf, yl⟩ := HP1.out
    dsimp only at y0 y1 y2 y3 y4 y5 y6 y7 y8
    go_upto_region 17 with fail
    clear y0 y1 y2 y3 y4 y5 y6 y7 y8 yf
    obtain ⟨Y2, hY2⟩ : ∃ Y, Y = Y1.setCell ⟨bx, 0, none⟩ (.slice (some ⟨Y1.heap.size, 0, none⟩) 1 1) := ⟨_, rfl⟩
    have hsz : Y2.heap.size = Y1.heap.size := by rw [hY2]; simp [World.setCell]
    have hP2 : PtAt Y2 bx (.slice (some ⟨Y1.heap.size, 0, none⟩) 1 1) ⟨[(nm, vl)], ro, false, 0, 0, M, 0, false, 0⟩ := by rw [hY2]; exact Kl.pt_l (.slice (some ⟨Y1.heap.size, 0, none⟩) 1 1) [(nm, vl)] HP1.out
    have hK2 : Below w.heap.size w Y2 := by rw [hY2]; exact HK1.out.setCell (p := ⟨bx, 0, none⟩) HBX.out _
    rw [← hY2]
    have ka := kp_alloc (Below.refl Y2.heap.size Y2) (.cells #[.string (str nm), .string (str vl)] 31)
    have N1 := heap_alloc_new Y2 (.cells #[.string (str nm), .string (str vl)] 31)
    rw [hsz] at N1
    obtain ⟨Y, hY⟩ : ∃ Y, Y = Y2.alloc (.cells #[.string (str nm), .string (str vl)] 31) := ⟨_, rfl⟩
    rw [← hY] at N1 ka ⊢
    have HPt := Lib.hid (hP2.below ka)
    have HLb := Lib.hid (Kl.lab_heap N1)
    have HKY := Lib.hid (trans9 hK2 ka)
    clear hY hY2 ka N1 HP1 HK1 yl hsz hP2 hK2
    generalize Y1.heap.size = bl at *
    have cK := Lib.hid (HC.out.kinds P Y HKY.out)
    go_wp2_with fail
    refine cK.out.mono ?_; rintro e w7 ⟨⟨kv, rfl, hkv⟩, b7⟩
    have HP7 := Lib.hid (HPt.out.below b7)
    have HL7 := Lib.hid (LbRow.below HLb.out b7)
    have K7 := Lib.hid (trans9 HKY.out b7)
    obtain ⟨Ak, capk, rfl, hk1, hk2, hk3⟩ := hkv
    unfold maxLen at hk2
    have HRK := Lib.hid hk3
    obtain ⟨Q, hQ⟩ : ∃ Q, Q = Kl.kinds P := ⟨_, rfl⟩
    rw [← hQ] at HRK hk1 ⊢
    have HQ := Lib.hid hQ
    clear b7 hk3 hQ cK HKY HPt HLb
    go_wp2_with fail
    go_loop [17, 82] (fun a s => ∃ i : Nat, i ≤ Q.length ∧ a = .bool ((Q.take i).contains K) ∧ s = .int .i64 (i : Nat)) (fun _ s => Q.length - (intOf s).toNat)
    case atStart => exact ⟨0, Nat.zero_le _, rfl, rfl⟩
    case round =>
      obtain ⟨i, hi, rfl, rfl⟩ := hrel
      by_cases hiq : i < Q.length
      · obtain ⟨bk, offk, rfl, hbk, hck⟩ := HRK.out (by omega)
        have hx := hck i _ (List.getElem?_eq_getElem hiq)
        have hct := Lib.hid (Kl.contains_take (k := K) (List.getElem?_eq_getElem hiq))
        generalize Q[i] = qi at *
        clear hck
        cases hc0 : (Q.take i).contains K
        · rw [hc0] at hct
          by_cases e : qi = K
          · have e1 : (qi == K) = true := beq_iff_eq.2 e
            have hct2 := Lib.hid (show (Q.take (i + 1)).contains K = true by rw [hct.out, e1]; rfl)
            clear e hct hc0
            go_wp2
            go_round
            case rel => exact ⟨i + 1, hiq, by rw [hct2.out], by go_num⟩
            case measure => simp [intOf]; omega
          · have e1 : (qi == K) = false := beq_eq_false_iff_ne.2 e
            have hct2 := Lib.hid (show (Q.take (i + 1)).contains K = false by rw [hct.out, e1]; rfl)
            clear e hct hc0
            go_wp2
            go_round
            case rel => exact ⟨i + 1, hiq, by rw [hct2.out], by go_num⟩
            case measure => simp [intOf]; omega
        · rw [hc0] at hct
          have hct2 := Lib.hid (show (Q.take (i + 1)).contains K = true by rw [hct.out]; rfl)
          clear hct hc0
          go_wp2
          go_round
          case rel => exact ⟨i + 1, hiq, by rw [hct2.out], by go_num⟩
          case measure => simp [intOf]; omega
      · have hall : Q.take i = Q := List.take_of_length_le (by omega)
        rw [hall]
        have c1 := one16_calls K (((.slice (some ⟨bl, 0, none⟩) 1 1), ⟨[(nm, vl)], ro, false, 0, 0, M, 0, false, 0⟩) : Ps) w7 HKB.out ⟨HL7.out, HIN.out⟩
        have C1 := Lib.hid c1
        obtain ⟨y0, y1, y2, y3, y4, y5, y6, y7, y8, yf, yl⟩ := HP7.out
        dsimp only at y0 y1 y2 y3 y4 y5 y6 y7 y8
        clear hall HRK hk1 hk2 c1
        go_wp2_with fail
        refine C1.out.mono ?_; rintro e w8 ⟨⟨A8, n8, c8, F8, rfl, row8, hf8⟩, b8⟩
        have K8 := Lib.hid (trans9 K7.out b8)
        have c9 := HC.out.is P [116] F8 _ w8 K8.out row8 (one16_few hf8 (by show 1 ≤ 12; omega)) HT.out
        rw [hf8, HHAS.out, ← HQ.out] at c9
        have C9 := Lib.hid c9
        clear c9 row8 hf8 b8 C1 y0 y1 y2 y3 y4 y5 y6 y7 y8 yf yl
        go_wp2_with fail
        refine C9.out.mono ?_; rintro e w9 ⟨rfl, b9⟩
        have K9 := Lib.hid (trans9 K8.out b9)
        clear b9
        go_wp2_with fail
        go_ret
        exact ⟨by first | rfl | simp, K9.out⟩
  have a1 : (P == 4) = false := beq_eq_false_iff_ne.2 p4
  have a2 : (P != 4) = true := by rw [bne, a1]; rfl
  have HA2 := Lib.hid a2
  have HP4N := Lib.hid p4
  clear p4
  by_cases k2 : K = 2
  · have a3 : (K == 2) = true := beq_iff_eq.2 k2
    clear k2
    obtain ⟨y0, y1, y2, y3, y4, y5, y6, y7, y8, yf, yl⟩ := HP4.out
    dsimp only at y0 y1 y2 y3 y4 y5 y6 y7 y8
    go_upto_region 14 with fail
    clear y0 y1 y2 y3 y4 y5 y6 y7 y8 yf yl
    obtain ⟨M, hM⟩ : ∃ M, M = bits .and .i64 v 65535 := ⟨_, rfl⟩
    have HMB : Hid (0 ≤ M ∧ M ≤ 65535) := Lib.hid (by rw [hM]; exact Kl.bits_lo v)
    rw [← hM]
    clear hM
    obtain ⟨X, hX⟩ : ∃ X, X = (((W4.setCell ⟨bx, 5, none⟩ (.int .i64 M)).setCell ⟨bx, 7, none⟩ (.bool true)).setCell ⟨bx, 8, none⟩ (.int .i64 (1000 * ms))) := ⟨_, rfl⟩
    have HX : Hid (PtAt X bx (.slice none 0 0) ⟨[], ro, false, 0, 0, M, 0, true, (1000 * ms)⟩) := Lib.hid (by rw [hX]; exact Kl.pt_ti (1000 * ms) (Kl.pt_td true (Kl.pt_m M HP4.out)))
    have HKX : Hid (Below w.heap.size w X) := Lib.hid (by rw [hX]; exact (((K4.out.setCell (p := ⟨bx, 5, none⟩) HBX.out _).setCell (p := ⟨bx, 7, none⟩) HBX.out _).setCell (p := ⟨bx, 8, none⟩) HBX.out _))
    rw [← hX]
    clear hX HP4 K4
    have cI := Lib.hid (hI.out P nm X HKX.out)
    have cV := Lib.hid (fun Z (hZ : Below w.heap.size w Z) => HC.out.val P vl Z hZ HVL.out)
    cases hN : Ch.isName P 1 nm
    · rw [hN] at cI
      have HHAS := Lib.hid (Kl.has (p := P) (k := K) (ro := ro) (m := M) (ti := (1000 * ms)) (ls := []) (td := true) HP.out HKK.out HRO.out ((goodD_iff _ _).2 ⟨by omega, by omega, by have := HMB.out; omega, Or.inl rfl⟩) (fun _ => HMB.out.1) (HA2.out.symm) (fun _ => ⟨(isT_iff _).2 (by have := HMS.out; omega), by rw [Int.mul_tmod_right]⟩) (fun e => by cases e) (Or.inl rfl))
      have HIN : Hid (PtIn ⟨[], ro, false, 0, 0, M, 0, true, (1000 * ms)⟩) := Lib.hid (Kl.pt_in1 (by have := HMB.out; omega) (by have := HMS.out; omega) (fun x hx => by cases hx))
      clear hN cV
      go_wp2_with fail
      refine cI.out.mono ?_; rintro e Y ⟨rfl, bI⟩
      have HPt := Lib.hid (HX.out.below bI)
      have HLb := Lib.hid (Kl.lb_nil Y)
      have HKY := Lib.hid (trans9 HKX.out bI)
      clear bI
      go_upto_region 17 with fail
      have cK := Lib.hid (HC.out.kinds P Y HKY.out)
      go_wp2_with fail
      refine cK.out.mono ?_; rintro e w7 ⟨⟨kv, rfl, hkv⟩, b7⟩
      have HP7 := Lib.hid (HPt.out.below b7)
      have HL7 := Lib.hid (LbRow.below HLb.out b7)
      have K7 := Lib.hid (trans9 HKY.out b7)
      obtain ⟨Ak, capk, rfl, hk1, hk2, hk3⟩ := hkv
      unfold maxLen at hk2
      have HRK := Lib.hid hk3
      obtain ⟨Q, hQ⟩ : ∃ Q, Q = Kl.kinds P := ⟨_, rfl⟩
      rw [← hQ] at HRK hk1 ⊢
      have HQ := Lib.hid hQ
      clear b7 hk3 hQ cK HKY HPt HLb
      go_wp2_with fail
      go_loop [17, 82] (fun a s => ∃ i : Nat, i ≤ Q.length ∧ a = .bool ((Q.take i).contains K) ∧ s = .int .i64 (i : Nat)) (fun _ s => Q.length - (intOf s).toNat)
      case atStart => exact ⟨0, Nat.zero_le _, rfl, rfl⟩
      case round =>
        obtain ⟨i, hi, rfl, rfl⟩ := hrel
        by_cases hiq : i < Q.length
        · obtain ⟨bk, offk, rfl, hbk, hck⟩ := HRK.out (by omega)
          have hx := hck i _ (List.getElem?_eq_getElem hiq)
          have hct := Lib.hid (Kl.contains_take (k := K) (List.getElem?_eq_getElem hiq))
          generalize Q[i] = qi at *
          clear hck
          cases hc0 : (Q.take i).contains K
          · rw [hc0] at hct
            by_cases e : qi = K
            · have e1 : (qi == K) = true := beq_iff_eq.2 e
              have hct2 := Lib.hid (show (Q.take (i + 1)).contains K = true by rw [hct.out, e1]; rfl)
              clear e hct hc0
              go_wp2
              go_round
              case rel => exact ⟨i + 1, hiq, by rw [hct2.out], by go_num⟩
              case measure => simp [intOf]; omega
            · have e1 : (qi == K) = false := beq_eq_false_iff_ne.2 e
              have hct2 := Lib.hid (show (Q.take (i + 1)).contains K = false by rw [hct.out, e1]; rfl)
              clear e hct hc0
              go_wp2
              go_round
              case rel => exact ⟨i + 1, hiq, by rw [hct2.out], by go_num⟩
              case measure => simp [intOf]; omega
          · rw [hc0] at hct
            have hct2 := Lib.hid (show (Q.take (i + 1)).contains K = true by rw [hct.out]; rfl)
            clear hct hc0
            go_wp2
            go_round
            case rel => exact ⟨i + 1, hiq, by rw [hct2.out], by go_num⟩
            case measure => simp [intOf]; omega
        · have hall : Q.take i = Q := List.take_of_length_le (by omega)
          rw [hall]
          have c1 := one16_calls K (((.slice none 0 0), ⟨[], ro, false, 0, 0, M, 0, true, (1000 * ms)⟩) : Ps) w7 HKB.out ⟨HL7.out, HIN.out⟩
          have C1 := Lib.hid c1
          obtain ⟨y0, y1, y2, y3, y4, y5, y6, y7, y8, yf, yl⟩ := HP7.out
          dsimp only at y0 y1 y2 y3 y4 y5 y6 y7 y8
          clear hall HRK hk1 hk2 c1
          go_wp2_with fail
          refine C1.out.mono ?_; rintro e w8 ⟨⟨A8, n8, c8, F8, rfl, row8, hf8⟩, b8⟩
          have K8 := Lib.hid (trans9 K7.out b8)
          have c9 := HC.out.is P [116] F8 _ w8 K8.out row8 (one16_few hf8 (by show 0 ≤ 12; omega)) HT.out
          rw [hf8, HHAS.out, ← HQ.out] at c9
          have C9 := Lib.hid c9
          clear c9 row8 hf8 b8 C1 y0 y1 y2 y3 y4 y5 y6 y7 y8 yf yl
          go_wp2_with fail
          refine C9.out.mono ?_; rintro e w9 ⟨rfl, b9⟩
          have K9 := Lib.hid (trans9 K8.out b9)
          clear b9
          go_wp2_with fail
          go_ret
          exact ⟨by first | rfl | simp, K9.out⟩
    rw [hN] at cI
    cases hV : Kl.val P vl
    · rw [hV] at cV
      have HHAS := Lib.hid (Kl.has (p := P) (k := K) (ro := ro) (m := M) (ti := (1000 * ms)) (ls := []) (td := true) HP.out HKK.out HRO.out ((goodD_iff _ _).2 ⟨by omega, by omega, by have := HMB.out; omega, Or.inl rfl⟩) (fun _ => HMB.out.1) (HA2.out.symm) (fun _ => ⟨(isT_iff _).2 (by have := HMS.out; omega), by rw [Int.mul_tmod_right]⟩) (fun e => by cases e) (Or.inl rfl))
      have HIN : Hid (PtIn ⟨[], ro, false, 0, 0, M, 0, true, (1000 * ms)⟩) := Lib.hid (Kl.pt_in1 (by have := HMB.out; omega) (by have := HMS.out; omega) (fun x hx => by cases hx))
      clear hN hV
      go_wp2_with fail
      refine cI.out.mono ?_; rintro e Y0 ⟨rfl, bI⟩
      have HX0 := Lib.hid (HX.out.below bI)
      have HK0 := Lib.hid (trans9 HKX.out bI)
      clear bI
      go_wp2_with fail
      refine (cV.out Y0 HK0.out).mono ?_; rintro e Y ⟨rfl, bY⟩
      have HPt := Lib.hid (HX0.out.below bY)
      have HLb := Lib.hid (Kl.lb_nil Y)
      have HKY := Lib.hid (trans9 HK0.out bY)
      clear bY
      go_upto_region 17 with fail
      have cK := Lib.hid (HC.out.kinds P Y HKY.out)
      go_wp2_with fail
      refine cK.out.mono ?_; rintro e w7 ⟨⟨kv, rfl, hkv⟩, b7⟩
      have HP7 := Lib.hid (HPt.out.below b7)
      have HL7 := Lib.hid (LbRow.below HLb.out b7)
      have K7 := Lib.hid (trans9 HKY.out b7)
      obtain ⟨Ak, capk, rfl, hk1, hk2, hk3⟩ := hkv
      unfold maxLen at hk2
      have HRK := Lib.hid hk3
      obtain ⟨Q, hQ⟩ : ∃ Q, Q = Kl.kinds P := ⟨_, rfl⟩
      rw [← hQ] at HRK hk1 ⊢
      have HQ := Lib.hid hQ
      clear b7 hk3 hQ cK HKY HPt HLb
      go_wp2_with fail
      go_loop [17, 82] (fun a s => ∃ i : Nat, i ≤ Q.length ∧ a = .bool ((Q.take i).contains K) ∧ s = .int .i64 (i : Nat)) (fun _ s => Q.length - (intOf s).toNat)
      case atStart => exact ⟨0, Nat.zero_le _, rfl, rfl⟩
      case round =>
        obtain ⟨i, hi, rfl, rfl⟩ := hrel
        by_cases hiq : i < Q.length
        · obtain ⟨bk, offk, rfl, hbk, hck⟩ := HRK.out (by omega)
          have hx := hck i _ (List.getElem?_eq_getElem hiq)
          have hct := Lib.hid (Kl.contains_take (k := K) (List.getElem?_eq_getElem hiq))
          generalize Q[i] = qi at *
          clear hck
          cases hc0 : (Q.take i).contains K
          · rw [hc0] at hct
            by_cases e : qi = K
            · have e1 : (qi == K) = true := beq_iff_eq.2 e
              have hct2 := Lib.hid (show (Q.take (i + 1)).contains K = true by rw [hct.out, e1]; rfl)
              clear e hct hc0
              go_wp2
              go_round
              case rel => exact ⟨i + 1, hiq, by rw [hct2.out], by go_num⟩
              case measure => simp [intOf]; omega
            · have e1 : (qi == K) = false := beq_eq_false_iff_ne.2 e
              have hct2 := Lib.hid (show (Q.take (i + 1)).contains K = false by rw [hct.out, e1]; rfl)
              clear e hct hc0
              go_wp2
              go_round
              case rel => exact ⟨i + 1, hiq, by rw [hct2.out], by go_num⟩
              case measure => simp [intOf]; omega
          · rw [hc0] at hct
            have hct2 := Lib.hid (show (Q.take (i + 1)).contains K = true by rw [hct.out]; rfl)
            clear hct hc0
            go_wp2
            go_round
            case rel => exact ⟨i + 1, hiq, by rw [hct2.out], by go_num⟩
            case measure => simp [intOf]; omega
        · have hall : Q.take i = Q := List.take_of_length_le (by omega)
          rw [hall]
          have c1 := one16_calls K (((.slice none 0 0), ⟨[], ro, false, 0, 0, M, 0, true, (1000 * ms)⟩) : Ps) w7 HKB.out ⟨HL7.out, HIN.out⟩
          have C1 := Lib.hid c1
          obtain ⟨y0, y1, y2, y3, y4, y5, y6, y7, y8, yf, yl⟩ := HP7.out
          dsimp only at y0 y1 y2 y3 y4 y5 y6 y7 y8
          clear hall HRK hk1 hk2 c1
          go_wp2_with fail
          refine C1.out.mono ?_; rintro e w8 ⟨⟨A8, n8, c8, F8, rfl, row8, hf8⟩, b8⟩
          have K8 := Lib.hid (trans9 K7.out b8)
          have c9 := HC.out.is P [116] F8 _ w8 K8.out row8 (one16_few hf8 (by show 0 ≤ 12; omega)) HT.out
          rw [hf8, HHAS.out, ← HQ.out] at c9
          have C9 := Lib.hid c9
          clear c9 row8 hf8 b8 C1 y0 y1 y2 y3 y4 y5 y6 y7 y8 yf yl
          go_wp2_with fail
          refine C9.out.mono ?_; rintro e w9 ⟨rfl, b9⟩
          have K9 := Lib.hid (trans9 K8.out b9)
          clear b9
          go_wp2_with fail
          go_ret
          exact ⟨by first | rfl | simp, K9.out⟩
    rw [hV] at cV
    have HHAS := Lib.hid (Kl.has (p := P) (k := K) (ro := ro) (m := M) (ti := (1000 * ms)) (ls := [(nm, vl)]) (td := true) HP.out HKK.out HRO.out ((goodD_iff _ _).2 ⟨by omega, by omega, by have := HMB.out; omega, Or.inl rfl⟩) (fun _ => HMB.out.1) (HA2.out.symm) (fun _ => ⟨(isT_iff _).2 (by have := HMS.out; omega), by rw [Int.mul_tmod_right]⟩) (fun e => by cases e) (Or.inr ⟨nm, vl, rfl, hN, hV⟩))
    have HIN : Hid (PtIn ⟨[(nm, vl)], ro, false, 0, 0, M, 0, true, (1000 * ms)⟩) := Lib.hid (Kl.pt_in1 (by have := HMB.out; omega) (by have := HMS.out; omega) (fun x hx => by rw [List.mem_singleton.1 hx]; exact ⟨HNL.out, HVL.out⟩))
    clear hN hV
    go_wp2_with fail
    refine cI.out.mono ?_; rintro e Y0 ⟨rfl, bI⟩
    have HX0 := Lib.hid (HX.out.below bI)
    have HK0 := Lib.hid (trans9 HKX.out bI)
    clear bI
    go_wp2_with fail
    refine (cV.out Y0 HK0.out).mono ?_; rintro e Y1 ⟨rfl, bY⟩
    have HP1 := Lib.hid (HX0.out.below bY)
    have HK1 := Lib.hid (trans9 HK0.out bY)
    clear bY
    obtain ⟨y0, y1, y2, y3, y4, y5, y6, y7, y8, yf, yl⟩ := HP1.out
    dsimp only at y0 y1 y2 y3 y4 y5 y6 y7 y8
    go_upto_region 17 with fail
    clear y0 y1 y2 y3 y4 y5 y6 y7 y8 yf
    obtain ⟨Y2, hY2⟩ : ∃ Y, Y = Y1.setCell ⟨bx, 0, none⟩ (.slice (some ⟨Y1.heap.size, 0, none⟩) 1 1) := ⟨_, rfl⟩
    have hsz : Y2.heap.size = Y1.heap.size := by rw [hY2]; simp [World.setCell]
    have hP2 : PtAt Y2 bx (.slice (some ⟨Y1.heap.size, 0, none⟩) 1 1) ⟨[(nm, vl)], ro, false, 0, 0, M, 0, true, (1000 * ms)⟩ := by rw [hY2]; exact Kl.pt_l (.slice (some ⟨Y1.heap.size, 0, none⟩) 1 1) [(nm, vl)] HP1.out
    have hK2 : Below w.heap.size w Y2 := by rw [hY2]; exact HK1.out.setCell (p := ⟨bx, 0, none⟩) HBX.out _
    rw [← hY2]
    have ka := kp_alloc (Below.refl Y2.heap.size Y2) (.cells #[.string (str nm), .string (str vl)] 31)
    have N1 := heap_alloc_new Y2 (.cells #[.string (str nm), .string (str vl)] 31)
    rw [hsz] at N1
    obtain ⟨Y, hY⟩ : ∃ Y, Y = Y2.alloc (.cells #[.string (str nm), .string (str vl)] 31) := ⟨_, rfl⟩
    rw [← hY] at N1 ka ⊢
    have HPt := Lib.hid (hP2.below ka)
    have HLb := Lib.hid (Kl.lab_heap N1)
    have HKY := Lib.hid (trans9 hK2 ka)
    clear hY hY2 ka N1 HP1 HK1 yl hsz hP2 hK2
    generalize Y1.heap.size = bl at *
    have cK := Lib.hid (HC.out.kinds P Y HKY.out)
    go_wp2_with fail
    refine cK.out.mono ?_; rintro e w7 ⟨⟨kv, rfl, hkv⟩, b7⟩
    have HP7 := Lib.hid (HPt.out.below b7)
    have HL7 := Lib.hid (LbRow.below HLb.out b7)
    have K7 := Lib.hid (trans9 HKY.out b7)
    obtain ⟨Ak, capk, rfl, hk1, hk2, hk3⟩ := hkv
    unfold maxLen at hk2
    have HRK := Lib.hid hk3
    obtain ⟨Q, hQ⟩ : ∃ Q, Q = Kl.kinds P := ⟨_, rfl⟩
    rw [← hQ] at HRK hk1 ⊢
    have HQ := Lib.hid hQ
    clear b7 hk3 hQ cK HKY HPt HLb
    go_wp2_with fail
    go_loop [17, 82] (fun a s => ∃ i : Nat, i ≤ Q.length ∧ a = .bool ((Q.take i).contains K) ∧ s = .int .i64 (i : Nat)) (fun _ s => Q.length - (intOf s).toNat)
    case atStart => exact ⟨0, Nat.zero_le _, rfl, rfl⟩
    case round =>
      obtain ⟨i, hi, rfl, rfl⟩ := hrel
      by_cases hiq : i < Q.length
      · obtain ⟨bk, offk, rfl, hbk, hck⟩ := HRK.out (by omega)
        have hx := hck i _ (List.getElem?_eq_getElem hiq)
        have hct := Lib.hid (Kl.contains_take (k := K) (List.getElem?_eq_getElem hiq))
        generalize Q[i] = qi at *
        clear hck
        cases hc0 : (Q.take i).contains K
        · rw [hc0] at hct
          by_cases e : qi = K
          · have e1 : (qi == K) = true := beq_iff_eq.2 e
            have hct2 := Lib.hid (show (Q.take (i + 1)).contains K = true by rw [hct.out, e1]; rfl)
            clear e hct hc0
            go_wp2
            go_round
            case rel => exact ⟨i + 1, hiq, by rw [hct2.out], by go_num⟩
            case measure => simp [intOf]; omega
          · have e1 : (qi == K) = false := beq_eq_false_iff_ne.2 e
            have hct2 := Lib.hid (show (Q.take (i + 1)).contains K = false by rw [hct.out, e1]; rfl)
            clear e hct hc0
            go_wp2
            go_round
            case rel => exact ⟨i + 1, hiq, by rw [hct2.out], by go_num⟩
            case measure => simp [intOf]; omega
        · rw [hc0] at hct
          have hct2 := Lib.hid (show (Q.take (i + 1)).contains K = true by rw [hct.out]; rfl)
          clear hct hc0
          go_wp2
          go_round
          case rel => exact ⟨i + 1, hiq, by rw [hct2.out], by go_num⟩
          case measure => simp [intOf]; omega
      · have hall : Q.take i = Q := List.take_of_length_le (by omega)
        rw [hall]
        have c1 := one16_calls K (((.slice (some ⟨bl, 0, none⟩) 1 1), ⟨[(nm, vl)], ro, false, 0, 0, M, 0, true, (1000 * ms)⟩) : Ps) w7 HKB.out ⟨HL7.out, HIN.out⟩
        have C1 := Lib.hid c1
        obtain ⟨y0, y1, y2, y3, y4, y5, y6, y7, y8, yf, yl⟩ := HP7.out
        dsimp only at y0 y1 y2 y3 y4 y5 y6 y7 y8
        clear hall HRK hk1 hk2 c1
        go_wp2_with fail
        refine C1.out.mono ?_; rintro e w8 ⟨⟨A8, n8, c8, F8, rfl, row8, hf8⟩, b8⟩
        have K8 := Lib.hid (trans9 K7.out b8)
        have c9 := HC.out.is P [116] F8 _ w8 K8.out row8 (one16_few hf8 (by show 1 ≤ 12; omega)) HT.out
        rw [hf8, HHAS.out, ← HQ.out] at c9
        have C9 := Lib.hid c9
        clear c9 row8 hf8 b8 C1 y0 y1 y2 y3 y4 y5 y6 y7 y8 yf yl
        go_wp2_with fail
        refine C9.out.mono ?_; rintro e w9 ⟨rfl, b9⟩
        have K9 := Lib.hid (trans9 K8.out b9)
        clear b9
        go_wp2_with fail
        go_ret
        exact ⟨by first | rfl | simp, K9.out⟩
  have a3 : (K == 2) = false := beq_eq_false_iff_ne.2 k2
  have HK2N := Lib.hid k2
  clear k2
  obtain ⟨y0, y1, y2, y3, y4, y5, y6, y7, y8, yf, yl⟩ := HP4.out
  dsimp only at y0 y1 y2 y3 y4 y5 y6 y7 y8
  go_upto_region 14 with fail
  clear y0 y1 y2 y3 y4 y5 y6 y7 y8 yf yl
  skip
  obtain ⟨X, hX⟩ : ∃ X, X = ((W4.setCell ⟨bx, 7, none⟩ (.bool true)).setCell ⟨bx, 8, none⟩ (.int .i64 (1000 * ms))) := ⟨_, rfl⟩
  have HX : Hid (PtAt X bx (.slice none 0 0) ⟨[], ro, false, 0, 0, v, 0, true, (1000 * ms)⟩) := Lib.hid (by rw [hX]; exact Kl.pt_ti (1000 * ms) (Kl.pt_td true HP4.out))
  have HKX : Hid (Below w.heap.size w X) := Lib.hid (by rw [hX]; exact ((K4.out.setCell (p := ⟨bx, 7, none⟩) HBX.out _).setCell (p := ⟨bx, 8, none⟩) HBX.out _))
  rw [← hX]
  clear hX HP4 K4
  have cI := Lib.hid (hI.out P nm X HKX.out)
  have cV := Lib.hid (fun Z (hZ : Below w.heap.size w Z) => HC.out.val P vl Z hZ HVL.out)
  cases hN : Ch.isName P 1 nm
  · rw [hN] at cI
    have HHAS := Lib.hid (Kl.has (p := P) (k := K) (ro := ro) (m := v) (ti := (1000 * ms)) (ls := []) (td := true) HP.out HKK.out HRO.out ((goodD_iff _ _).2 ⟨by omega, by omega, by have := HVB.out; omega, Or.inl rfl⟩) (fun e => by have h1 := HP4N.out; have h2 := HK2N.out; omega) (HA2.out.symm) (fun _ => ⟨(isT_iff _).2 (by have := HMS.out; omega), by rw [Int.mul_tmod_right]⟩) (fun e => by cases e) (Or.inl rfl))
    have HIN : Hid (PtIn ⟨[], ro, false, 0, 0, v, 0, true, (1000 * ms)⟩) := Lib.hid (Kl.pt_in1 (by have := HVB.out; omega) (by have := HMS.out; omega) (fun x hx => by cases hx))
    clear hN cV
    go_wp2_with fail
    refine cI.out.mono ?_; rintro e Y ⟨rfl, bI⟩
    have HPt := Lib.hid (HX.out.below bI)
    have HLb := Lib.hid (Kl.lb_nil Y)
    have HKY := Lib.hid (trans9 HKX.out bI)
    clear bI
    go_upto_region 17 with fail
    have cK := Lib.hid (HC.out.kinds P Y HKY.out)
    go_wp2_with fail
    refine cK.out.mono ?_; rintro e w7 ⟨⟨kv, rfl, hkv⟩, b7⟩
    have HP7 := Lib.hid (HPt.out.below b7)
    have HL7 := Lib.hid (LbRow.below HLb.out b7)
    have K7 := Lib.hid (trans9 HKY.out b7)
    obtain ⟨Ak, capk, rfl, hk1, hk2, hk3⟩ := hkv
    unfold maxLen at hk2
    have HRK := Lib.hid hk3
    obtain ⟨Q, hQ⟩ : ∃ Q, Q = Kl.kinds P := ⟨_, rfl⟩
    rw [← hQ] at HRK hk1 ⊢
    have HQ := Lib.hid hQ
    clear b7 hk3 hQ cK HKY HPt HLb
    go_wp2_with fail
    go_loop [17, 82] (fun a s => ∃ i : Nat, i ≤ Q.length ∧ a = .bool ((Q.take i).contains K) ∧ s = .int .i64 (i : Nat)) (fun _ s => Q.length - (intOf s).toNat)
    case atStart => exact ⟨0, Nat.zero_le _, rfl, rfl⟩
    case round =>
      obtain ⟨i, hi, rfl, rfl⟩ := hrel
      by_cases hiq : i < Q.length
      · obtain ⟨bk, offk, rfl, hbk, hck⟩ := HRK.out (by omega)
        have hx := hck i _ (List.getElem?_eq_getElem hiq)
        have hct := Lib.hid (Kl.contains_take (k := K) (List.getElem?_eq_getElem hiq))
        generalize Q[i] = qi at *
        clear hck
        cases hc0 : (Q.take i).contains K
        · rw [hc0] at hct
          by_cases e : qi = K
          · have e1 : (qi == K) = true := beq_iff_eq.2 e
            have hct2 := Lib.hid (show (Q.take (i + 1)).contains K = true by rw [hct.out, e1]; rfl)
            clear e hct hc0
            go_wp2
            go_round
            case rel => exact ⟨i + 1, hiq, by rw [hct2.out], by go_num⟩
            case measure => simp [intOf]; omega
          · have e1 : (qi == K) = false := beq_eq_false_iff_ne.2 e
            have hct2 := Lib.hid (show (Q.take (i + 1)).contains K = false by rw [hct.out, e1]; rfl)
            clear e hct hc0
            go_wp2
            go_round
            case rel => exact ⟨i + 1, hiq, by rw [hct2.out], by go_num⟩
            case measure => simp [intOf]; omega
        · rw [hc0] at hct
          have hct2 := Lib.hid (show (Q.take (i + 1)).contains K = true by rw [hct.out]; rfl)
          clear hct hc0
          go_wp2
          go_round
          case rel => exact ⟨i + 1, hiq, by rw [hct2.out], by go_num⟩
          case measure => simp [intOf]; omega
      · have hall : Q.take i = Q := List.take_of_length_le (by omega)
        rw [hall]
        have c1 := one16_calls K (((.slice none 0 0), ⟨[], ro, false, 0, 0, v, 0, true, (1000 * ms)⟩) : Ps) w7 HKB.out ⟨HL7.out, HIN.out⟩
        have C1 := Lib.hid c1
        obtain ⟨y0, y1, y2, y3, y4, y5, y6, y7, y8, yf, yl⟩ := HP7.out
        dsimp only at y0 y1 y2 y3 y4 y5 y6 y7 y8
        clear hall HRK hk1 hk2 c1
        go_wp2_with fail
        refine C1.out.mono ?_; rintro e w8 ⟨⟨A8, n8, c8, F8, rfl, row8, hf8⟩, b8⟩
        have K8 := Lib.hid (trans9 K7.out b8)
        have c9 := HC.out.is P [116] F8 _ w8 K8.out row8 (one16_few hf8 (by show 0 ≤ 12; omega)) HT.out
        rw [hf8, HHAS.out, ← HQ.out] at c9
        have C9 := Lib.hid c9
        clear c9 row8 hf8 b8 C1 y0 y1 y2 y3 y4 y5 y6 y7 y8 yf yl
        go_wp2_with fail
        refine C9.out.mono ?_; rintro e w9 ⟨rfl, b9⟩
        have K9 := Lib.hid (trans9 K8.out b9)
        clear b9
        go_wp2_with fail
        go_ret
        exact ⟨by first | rfl | simp, K9.out⟩
  rw [hN] at cI
  cases hV : Kl.val P vl
  · rw [hV] at cV
    have HHAS := Lib.hid (Kl.has (p := P) (k := K) (ro := ro) (m := v) (ti := (1000 * ms)) (ls := []) (td := true) HP.out HKK.out HRO.out ((goodD_iff _ _).2 ⟨by omega, by omega, by have := HVB.out; omega, Or.inl rfl⟩) (fun e => by have h1 := HP4N.out; have h2 := HK2N.out; omega) (HA2.out.symm) (fun _ => ⟨(isT_iff _).2 (by have := HMS.out; omega), by rw [Int.mul_tmod_right]⟩) (fun e => by cases e) (Or.inl rfl))
    have HIN : Hid (PtIn ⟨[], ro, false, 0, 0, v, 0, true, (1000 * ms)⟩) := Lib.hid (Kl.pt_in1 (by have := HVB.out; omega) (by have := HMS.out; omega) (fun x hx => by cases hx))
    clear hN hV
    go_wp2_with fail
    refine cI.out.mono ?_; rintro e Y0 ⟨rfl, bI⟩
    have HX0 := Lib.hid (HX.out.below bI)
    have HK0 := Lib.hid (trans9 HKX.out bI)
    clear bI
    go_wp2_with fail
    refine (cV.out Y0 HK0.out).mono ?_; rintro e Y ⟨rfl, bY⟩
    have HPt := Lib.hid (HX0.out.below bY)
    have HLb := Lib.hid (Kl.lb_nil Y)
    have HKY := Lib.hid (trans9 HK0.out bY)
    clear bY
    go_upto_region 17 with fail
    have cK := Lib.hid (HC.out.kinds P Y HKY.out)
    go_wp2_with fail
    refine cK.out.mono ?_; rintro e w7 ⟨⟨kv, rfl, hkv⟩, b7⟩
    have HP7 := Lib.hid (HPt.out.below b7)
    have HL7 := Lib.hid (LbRow.below HLb.out b7)
    have K7 := Lib.hid (trans9 HKY.out b7)
    obtain ⟨Ak, capk, rfl, hk1, hk2, hk3⟩ := hkv
    unfold maxLen at hk2
    have HRK := Lib.hid hk3
    obtain ⟨Q, hQ⟩ : ∃ Q, Q = Kl.kinds P := ⟨_, rfl⟩
    rw [← hQ] at HRK hk1 ⊢
    have HQ := Lib.hid hQ
    clear b7 hk3 hQ cK HKY HPt HLb
    go_wp2_with fail
    go_loop [17, 82] (fun a s => ∃ i : Nat, i ≤ Q.length ∧ a = .bool ((Q.take i).contains K) ∧ s = .int .i64 (i : Nat)) (fun _ s => Q.length - (intOf s).toNat)
    case atStart => exact ⟨0, Nat.zero_le _, rfl, rfl⟩
    case round =>
      obtain ⟨i, hi, rfl, rfl⟩ := hrel
      by_cases hiq : i < Q.length
      · obtain ⟨bk, offk, rfl, hbk, hck⟩ := HRK.out (by omega)
        have hx := hck i _ (List.getElem?_eq_getElem hiq)
        have hct := Lib.hid (Kl.contains_take (k := K) (List.getElem?_eq_getElem hiq))
        generalize Q[i] = qi at *
        clear hck
        cases hc0 : (Q.take i).contains K
        · rw [hc0] at hct
          by_cases e : qi = K
          · have e1 : (qi == K) = true := beq_iff_eq.2 e
            have hct2 := Lib.hid (show (Q.take (i + 1)).contains K = true by rw [hct.out, e1]; rfl)
            clear e hct hc0
            go_wp2
            go_round
            case rel => exact ⟨i + 1, hiq, by rw [hct2.out], by go_num⟩
            case measure => simp [intOf]; omega
          · have e1 : (qi == K) = false := beq_eq_false_iff_ne.2 e
            have hct2 := Lib.hid (show (Q.take (i + 1)).contains K = false by rw [hct.out, e1]; rfl)
            clear e hct hc0
            go_wp2
            go_round
            case rel => exact ⟨i + 1, hiq, by rw [hct2.out], by go_num⟩
            case measure => simp [intOf]; omega
        · rw [hc0] at hct
          have hct2 := Lib.hid (show (Q.take (i + 1)).contains K = true by rw [hct.out]; rfl)
          clear hct hc0
          go_wp2
          go_round
          case rel => exact ⟨i + 1, hiq, by rw [hct2.out], by go_num⟩
          case measure => simp [intOf]; omega
      · have hall : Q.take i = Q := List.take_of_length_le (by omega)
        rw [hall]
        have c1 := one16_calls K (((.slice none 0 0), ⟨[], ro, false, 0, 0, v, 0, true, (1000 * ms)⟩) : Ps) w7 HKB.out ⟨HL7.out, HIN.out⟩
        have C1 := Lib.hid c1
        obtain ⟨y0, y1, y2, y3, y4, y5, y6, y7, y8, yf, yl⟩ := HP7.out
        dsimp only at y0 y1 y2 y3 y4 y5 y6 y7 y8
        clear hall HRK hk1 hk2 c1
        go_wp2_with fail
        refine C1.out.mono ?_; rintro e w8 ⟨⟨A8, n8, c8, F8, rfl, row8, hf8⟩, b8⟩
        have K8 := Lib.hid (trans9 K7.out b8)
        have c9 := HC.out.is P [116] F8 _ w8 K8.out row8 (one16_few hf8 (by show 0 ≤ 12; omega)) HT.out
        rw [hf8, HHAS.out, ← HQ.out] at c9
        have C9 := Lib.hid c9
        clear c9 row8 hf8 b8 C1 y0 y1 y2 y3 y4 y5 y6 y7 y8 yf yl
        go_wp2_with fail
        refine C9.out.mono ?_; rintro e w9 ⟨rfl, b9⟩
        have K9 := Lib.hid (trans9 K8.out b9)
        clear b9
        go_wp2_with fail
        go_ret
        exact ⟨by first | rfl | simp, K9.out⟩
  rw [hV] at cV
  have HHAS := Lib.hid (Kl.has (p := P) (k := K) (ro := ro) (m := v) (ti := (1000 * ms)) (ls := [(nm, vl)]) (td := true) HP.out HKK.out HRO.out ((goodD_iff _ _).2 ⟨by omega, by omega, by have := HVB.out; omega, Or.inl rfl⟩) (fun e => by have h1 := HP4N.out; have h2 := HK2N.out; omega) (HA2.out.symm) (fun _ => ⟨(isT_iff _).2 (by have := HMS.out; omega), by rw [Int.mul_tmod_right]⟩) (fun e => by cases e) (Or.inr ⟨nm, vl, rfl, hN, hV⟩))
  have HIN : Hid (PtIn ⟨[(nm, vl)], ro, false, 0, 0, v, 0, true, (1000 * ms)⟩) := Lib.hid (Kl.pt_in1 (by have := HVB.out; omega) (by have := HMS.out; omega) (fun x hx => by rw [List.mem_singleton.1 hx]; exact ⟨HNL.out, HVL.out⟩))
  clear hN hV
  go_wp2_with fail
  refine cI.out.mono ?_; rintro e Y0 ⟨rfl, bI⟩
  have HX0 := Lib.hid (HX.out.below bI)
  have HK0 := Lib.hid (trans9 HKX.out bI)
  clear bI
  go_wp2_with fail
  refine (cV.out Y0 HK0.out).mono ?_; rintro e Y1 ⟨rfl, bY⟩
  have HP1 := Lib.hid (HX0.out.below bY)
  have HK1 := Lib.hid (trans9 HK0.out bY)
  clear bY
  obtain ⟨y0, y1, y2, y3, y4, y5, y6, y7, y8, yf, yl⟩ := HP1.out
  dsimp only at y0 y1 y2 y3 y4 y5 y6 y7 y8
  go_upto_region 17 with fail
  clear y0 y1 y2 y3 y4 y5 y6 y7 y8 yf
  obtain ⟨Y2, hY2⟩ : ∃ Y, Y = Y1.setCell ⟨bx, 0, none⟩ (.slice (some ⟨Y1.heap.size, 0, none⟩) 1 1) := ⟨_, rfl⟩
  have hsz : Y2.heap.size = Y1.heap.size := by rw [hY2]; simp [World.setCell]
  have hP2 : PtAt Y2 bx (.slice (some ⟨Y1.heap.size, 0, none⟩) 1 1) ⟨[(nm, vl)], ro, false, 0, 0, v, 0, true, (1000 * ms)⟩ := by rw [hY2]; exact Kl.pt_l (.slice (some ⟨Y1.heap.size, 0, none⟩) 1 1) [(nm, vl)] HP1.out
  have hK2 : Below w.heap.size w Y2 := by rw [hY2]; exact HK1.out.setCell (p := ⟨bx, 0, none⟩) HBX.out _
  rw [← hY2]
  have ka := kp_alloc (Below.refl Y2.heap.size Y2) (.cells #[.string (str nm), .string (str vl)] 31)
  have N1 := heap_alloc_new Y2 (.cells #[.string (str nm), .string (str vl)] 31)
  rw [hsz] at N1
  obtain ⟨Y, hY⟩ : ∃ Y, Y = Y2.alloc (.cells #[.string (str nm), .string (str vl)] 31) := ⟨_, rfl⟩
  rw [← hY] at N1 ka ⊢
  have HPt := Lib.hid (hP2.below ka)
  have HLb := Lib.hid (Kl.lab_heap N1)
  have HKY := Lib.hid (trans9 hK2 ka)
  clear hY hY2 ka N1 HP1 HK1 yl hsz hP2 hK2
  generalize Y1.heap.size = bl at *
  have cK := Lib.hid (HC.out.kinds P Y HKY.out)
  go_wp2_with fail
  refine cK.out.mono ?_; rintro e w7 ⟨⟨kv, rfl, hkv⟩, b7⟩
  have HP7 := Lib.hid (HPt.out.below b7)
  have HL7 := Lib.hid (LbRow.below HLb.out b7)
  have K7 := Lib.hid (trans9 HKY.out b7)
  obtain ⟨Ak, capk, rfl, hk1, hk2, hk3⟩ := hkv
  unfold maxLen at hk2
  have HRK := Lib.hid hk3
  obtain ⟨Q, hQ⟩ : ∃ Q, Q = Kl.kinds P := ⟨_, rfl⟩
  rw [← hQ] at HRK hk1 ⊢
  have HQ := Lib.hid hQ
  clear b7 hk3 hQ cK HKY HPt HLb
  go_wp2_with fail
  go_loop [17, 82] (fun a s => ∃ i : Nat, i ≤ Q.length ∧ a = .bool ((Q.take i).contains K) ∧ s = .int .i64 (i : Nat)) (fun _ s => Q.length - (intOf s).toNat)
  case atStart => exact ⟨0, Nat.zero_le _, rfl, rfl⟩
  case round =>
    obtain ⟨i, hi, rfl, rfl⟩ := hrel
    by_cases hiq : i < Q.length
    · obtain ⟨bk, offk, rfl, hbk, hck⟩ := HRK.out (by omega)
      have hx := hck i _ (List.getElem?_eq_getElem hiq)
      have hct := Lib.hid (Kl.contains_take (k := K) (List.getElem?_eq_getElem hiq))
      generalize Q[i] = qi at *
      clear hck
      cases hc0 : (Q.take i).contains K
      · rw [hc0] at hct
        by_cases e : qi = K
        · have e1 : (qi == K) = true := beq_iff_eq.2 e
          have hct2 := Lib.hid (show (Q.take (i + 1)).contains K = true by rw [hct.out, e1]; rfl)
          clear e hct hc0
          go_wp2
          go_round
          case rel => exact ⟨i + 1, hiq, by rw [hct2.out], by go_num⟩
          case measure => simp [intOf]; omega
        · have e1 : (qi == K) = false := beq_eq_false_iff_ne.2 e
          have hct2 := Lib.hid (show (Q.take (i + 1)).contains K = false by rw [hct.out, e1]; rfl)
          clear e hct hc0
          go_wp2
          go_round
          case rel => exact ⟨i + 1, hiq, by rw [hct2.out], by go_num⟩
          case measure => simp [intOf]; omega
      · rw [hc0] at hct
        have hct2 := Lib.hid (show (Q.take (i + 1)).contains K = true by rw [hct.out]; rfl)
        clear hct hc0
        go_wp2
        go_round
        case rel => exact ⟨i + 1, hiq, by rw [hct2.out], by go_num⟩
        case measure => simp [intOf]; omega
    · have hall : Q.take i = Q := List.take_of_length_le (by omega)
      rw [hall]
      have c1 := one16_calls K (((.slice (some ⟨bl, 0, none⟩) 1 1), ⟨[(nm, vl)], ro, false, 0, 0, v, 0, true, (1000 * ms)⟩) : Ps) w7 HKB.out ⟨HL7.out, HIN.out⟩
      have C1 := Lib.hid c1
      obtain ⟨y0, y1, y2, y3, y4, y5, y6, y7, y8, yf, yl⟩ := HP7.out
      dsimp only at y0 y1 y2 y3 y4 y5 y6 y7 y8
      clear hall HRK hk1 hk2 c1
      go_wp2_with fail
      refine C1.out.mono ?_; rintro e w8 ⟨⟨A8, n8, c8, F8, rfl, row8, hf8⟩, b8⟩
      have K8 := Lib.hid (trans9 K7.out b8)
      have c9 := HC.out.is P [116] F8 _ w8 K8.out row8 (one16_few hf8 (by show 1 ≤ 12; omega)) HT.out
      rw [hf8, HHAS.out, ← HQ.out] at c9
      have C9 := Lib.hid c9
      clear c9 row8 hf8 b8 C1 y0 y1 y2 y3 y4 y5 y6 y7 y8 yf yl
      go_wp2_with fail
      refine C9.out.mono ?_; rintro e w9 ⟨rfl, b9⟩
      have K9 := Lib.hid (trans9 K8.out b9)
      clear b9
      go_wp2_with fail
      go_ret
      exact ⟨by first | rfl | simp, K9.out⟩

theorem clshas_str (proto kind v : Int) (s1 s2 : ByteArray) (ms : Int) (w : World) (hp0 : 0 ≤ proto) (hp1 : proto ≤ 255) (hk0 : 0 ≤ kind) (hk1 : kind ≤ 255) (hv0 : -2147483648 ≤ v) (hv1 : v ≤ 2147483647) (hm0 : -2147483648 ≤ ms) (hm1 : ms ≤ 2147483647) (h1 : s1.size ≤ maxLen) (h2 : s2.size ≤ maxLen) (hC : ClsC w)
    (hI' : ∀ (p : Int) (l : List UInt8) (X : World), Below w.heap.size w X → l.length ≤ maxLen → Calls Tryd.prog 7 #[.int .i64 p, .int .i64 1, .string (str l)] X fun e w' => e = .returned (.bool (Ch.isName p 1 l)) ∧ Below X.heap.size X w')
    (hK : ∀ X, Below w.heap.size w X → Calls Tryd.prog 6 #[] X fun e w' => e = .returned (.bool true) ∧ Below X.heap.size X w') :
    Calls Tryd.prog 3 #[.int .u8 proto, .int .u8 kind, .int .i32 v, .string s1, .string s2, .int .i32 ms] w fun e w' => e = .returned (.bool true) ∧ Below w.heap.size w w' := by
  rw [str_self s1, str_self s2]
  exact clshas_walk proto kind v _ _ ms w hp0 hp1 hk0 hk1 hv0 hv1 hm0 hm1 (by rw [← str_size, ← str_self]; exact h1) (by rw [← str_size, ← str_self]; exact h2) hC hI' hK

end Go.Proofs.YtgoibhbmndpgpaaDoor
