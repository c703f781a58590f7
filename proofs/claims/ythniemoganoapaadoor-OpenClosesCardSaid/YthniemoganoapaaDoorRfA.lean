/- The texts RefUtfA, RefUtfBd, one behind the other. -/
import Derived.Test.YthniemoganoapaaDoorRows
import Derived.Test.YthniemoganoapaaDoorPlA
import Derived.WalkKit
import Derived.WalkSpells
import Derived.WalkLawsBesides
import Derived.Handy
import Derived.Lib.Hide

/- The reference's functions on UTF-8: span, Front, Bad, Count. -/
set_option maxRecDepth 100000
set_option linter.unusedVariables false
set_option linter.unusedSimpArgs false
namespace Go.Proofs.YthniemoganoapaaDoor
open Go.RowKit

set_option maxHeartbeats 1000000 in
theorem span_calls (c : Int) (w : World) (h0 : 0 ≤ c) (h1 : c < 256) :
    Calls Tryd.prog 41 #[.int .u8 c] w fun e w' => e = .returned (.tuple #[.int .i64 (Utf.spanI c).1, .int .u8 (Utf.spanI c).2.1, .int .u8 (Utf.spanI c).2.2]) ∧ w = w' := by
  by_cases a1 : c < 128
  · have e : Utf.spanI c = (1, 0, 0) := by unfold Utf.spanI; rw [if_pos a1]
    rw [e]; clear e
    go_enter Tryd.func41, Tryd.ntmps41
    go_wp2
    go_ret3
    exact ⟨rfl, rfl⟩
  by_cases a2 : c < 194
  · have e : Utf.spanI c = (0, 0, 0) := by unfold Utf.spanI; rw [if_neg a1, if_pos a2]
    rw [e]; clear e
    go_enter Tryd.func41, Tryd.ntmps41
    go_wp2
    go_ret3
    exact ⟨rfl, rfl⟩
  by_cases a3 : 244 < c
  · have e : Utf.spanI c = (0, 0, 0) := by unfold Utf.spanI; rw [if_neg a1, if_neg a2, if_pos a3]
    rw [e]; clear e
    go_enter Tryd.func41, Tryd.ntmps41
    go_wp2
    go_ret3
    exact ⟨rfl, rfl⟩
  have d2 : decide (c < 194) = false := by simpa using a2
  have d3 : decide (244 < c) = false := by simpa using a3
  have e0 : Utf.spanI c = if c < 224 then (2, 128, 191) else if c = 224 then (3, 160, 191) else if c = 237 then (3, 128, 159) else if c < 240 then (3, 128, 191) else if c = 240 then (4, 144, 191) else if c = 244 then (4, 128, 143) else (4, 128, 191) := by
    unfold Utf.spanI; rw [if_neg a1, if_neg a2, if_neg a3]
  by_cases a4 : c < 224
  · rw [if_pos a4] at e0
    rw [e0]; clear e0
    go_enter Tryd.func41, Tryd.ntmps41
    go_wp2
    go_ret3
    exact ⟨rfl, rfl⟩
  rw [if_neg a4] at e0
  by_cases a5 : c = 224
  · rw [if_pos a5] at e0
    rw [e0]; clear e0
    subst a5
    go_enter Tryd.func41, Tryd.ntmps41
    go_wp2
    go_ret3
    exact ⟨rfl, rfl⟩
  rw [if_neg a5] at e0
  have d5 : (c == 224) = false := by simpa using a5
  by_cases a6 : c = 237
  · rw [if_pos a6] at e0
    rw [e0]; clear e0
    subst a6
    go_enter Tryd.func41, Tryd.ntmps41
    go_wp2
    go_ret3
    exact ⟨rfl, rfl⟩
  rw [if_neg a6] at e0
  have d6 : (c == 237) = false := by simpa using a6
  by_cases a7 : c < 240
  · rw [if_pos a7] at e0
    rw [e0]; clear e0
    go_enter Tryd.func41, Tryd.ntmps41
    go_wp2
    go_ret3
    exact ⟨rfl, rfl⟩
  rw [if_neg a7] at e0
  by_cases a8 : c = 240
  · rw [if_pos a8] at e0
    rw [e0]; clear e0
    subst a8
    go_enter Tryd.func41, Tryd.ntmps41
    go_wp2
    go_ret3
    exact ⟨rfl, rfl⟩
  rw [if_neg a8] at e0
  have d8 : (c == 240) = false := by simpa using a8
  by_cases a9 : c = 244
  · rw [if_pos a9] at e0
    rw [e0]; clear e0
    subst a9
    go_enter Tryd.func41, Tryd.ntmps41
    go_wp2
    go_ret3
    exact ⟨rfl, rfl⟩
  rw [if_neg a9] at e0
  have d9 : (c == 244) = false := by simpa using a9
  rw [e0]; clear e0
  go_enter Tryd.func41, Tryd.ntmps41
  go_wp2
  go_ret3
  exact ⟨rfl, rfl⟩

theorem upto_one (c : UInt8) (cs : List UInt8) (bs : List (Int × Int)) : Utf.Upto (((c.toNat : Int), (c.toNat : Int)) :: bs) (c :: cs) 1 :=
  Utf.upto_yes (Utf.upto_zero _ _) rfl rfl (Utf.inR_true (Int.le_refl _) (Int.le_refl _))
theorem spanB_at (c : Int) (k : Nat) (h1 : 1 ≤ k) (h : (k : Int) < (Utf.spanI c).1) : (Utf.spanB c)[k]? = some (if k = 1 then (Utf.spanI c).2 else (128, 191)) := by
  have := Utf.spanI_range c
  have hk : k = 1 ∨ k = 2 ∨ k = 3 := by omega
  unfold Utf.spanB
  rcases hk with rfl | rfl | rfl <;> simp [List.getElem?_take] <;> omega

set_option maxRecDepth 100000 in
set_option maxHeartbeats 1000000 in
theorem front_ref (s : ByteArray) (at' : Nat) (w : World) (hat : at' < s.size) (hs : s.size ≤ maxLen) :
    Calls Tryd.prog 28 #[.string s, .int .i64 at'] w fun e w' =>
      e = .returned (.tuple #[.int .i64 (Utf.front (s.data.toList.drop at')).1, .bool (Utf.front (s.data.toList.drop at')).2]) ∧ w = w' := by
  have hs' := hs
  unfold maxLen at hs'
  have hsl := Utf.size_len s
  have hat' : (at' : Int) < (s.size : Int) := by omega
  have hd : s.data.toList.drop at' = s[at'] :: s.data.toList.drop (at' + 1) := by
    obtain ⟨hl, e⟩ := List.getElem?_eq_some_iff.1 (Utf.byte_at s at' hat)
    rw [List.drop_eq_getElem_cons hl, e]
  have hfr := Utf.front_span s[at'] (s.data.toList.drop (at' + 1))
  have hup := upto_one s[at'] (s.data.toList.drop (at' + 1)) ((Utf.spanB s[at'].toNat).drop 1)
  rw [← hd] at hfr hup
  have hb0 : (Utf.spanB s[at'].toNat) = (((s[at'].toNat : Int), (s[at'].toNat : Int)) :: (Utf.spanB s[at'].toNat).drop 1) := rfl
  rw [← hb0] at hup
  have hr := Utf.spanI_range s[at'].toNat
  have hc := UInt8.toNat_lt s[at']
  by_cases hn0 : (Utf.spanI s[at'].toNat).1 = 0
  · rw [hn0] at hfr
    have sp := span_calls s[at'].toNat w (by omega) (by omega)
    rw [hn0] at sp
    rw [if_pos rfl] at hfr
    rw [hfr]
    have Sp := Lib.hid sp
    clear sp hfr hup hb0 hr hn0 hd hsl
    go_enter Tryd.func28, Tryd.ntmps28
    go_wp2_with (go_at_call 41; refine Sp.out.mono ?_; rintro e w1 ⟨rfl, rfl⟩)
    go_ret2
    exact ⟨rfl, rfl⟩
  · rw [if_neg hn0] at hfr
    have hlen := Utf.spanB_len _ hn0
    have hbat := fun k => spanB_at (s[at'].toNat : Int) k
    have sp := span_calls s[at'].toNat w (by omega) (by omega)
    rw [hfr]
    obtain ⟨n, lo, hi, hsp⟩ : ∃ n lo hi, Utf.spanI s[at'].toNat = (n, lo, hi) := ⟨_, _, _, rfl⟩
    rw [hsp] at sp hn0 hr hlen hbat
    simp only at sp hn0 hr hlen hbat
    generalize Utf.spanB s[at'].toNat = bs at *
    have hnn : (n == 0) = false := by simpa using hn0
    have Sp := Lib.hid sp
    have Hup := Lib.hid hup
    have Hlen := Lib.hid hlen
    have Hbat := Lib.hid hbat
    have Hsl := Lib.hid hsl
    obtain ⟨hr0, hr4, hrl, hrl5, hrh, hrh5⟩ := hr
    clear sp hfr hup hlen hb0 hn0 hbat hd hsl hsp
    go_enter Tryd.func28, Tryd.ntmps28
    go_wp2_with (go_at_call 41; refine Sp.out.mono ?_; rintro e w1 ⟨rfl, rfl⟩)
    go_loop [7, 8, 9] (fun vl vh vk => ∃ (k : Nat) (l h : Int), 1 ≤ k ∧ Utf.Upto bs (s.data.toList.drop at') k ∧ vk = .int .i64 k ∧ vl = .int .u8 l ∧ vh = .int .u8 h ∧ (l, h) = (if k = 1 then (lo, hi) else (128, 191))) (fun _ _ vk => (4 - intOf vk).toNat)
    case atStart => exact ⟨1, lo, hi, by omega, Hup.out, rfl, rfl, rfl, rfl⟩
    case round =>
      obtain ⟨k, l, h, hk1, hu, rfl, rfl, rfl, hlh⟩ := hrel
      have hin := hu.inL
      have hkb := hu.inB
      rw [Hlen.out] at hkb
      rw [List.length_drop, Hsl.out] at hin
      have Hu := Lib.hid hu
      have Hlh := Lib.hid hlh
      clear hu hlh
      by_cases hkn : (k : Int) < n
      · have dkn : decide ((k : Int) < n) = true := by simpa using hkn
        have Hb := Lib.hid (Hbat.out k hk1 hkn)
        by_cases hks : at' + k < s.size
        · have dks : decide ((at' : Int) + (k : Int) < (s.size : Int)) = true := by simp; omega
          have hks' : (at' : Int) + (k : Int) < (s.size : Int) := by omega
          have hby := Lib.hid (show (s.data.toList.drop at')[k]? = some s[at' + k] by rw [List.getElem?_drop]; exact Utf.byte_at s (at' + k) hks)
          have hc2 := UInt8.toNat_lt s[at' + k]
          cases hx : Utf.inR l h (s[at' + k].toNat : Int)
          · have hx' : (s[at' + k].toNat : Int) < l ∨ (¬ (s[at' + k].toNat : Int) < l ∧ h < (s[at' + k].toNat : Int)) := by
              simp only [Utf.inR, Bool.and_eq_false_iff, decide_eq_false_iff_not] at hx
              omega
            have Hres := Lib.hid (Utf.upto_no Hu.out (by rw [Hb.out, ← Hlh.out]) hby.out hx)
            clear hx
            rcases hx' with hx' | ⟨hx1, hx2⟩
            · go_wp2
              go_ret2
              exact ⟨by rw [Hres.out]; rfl, rfl⟩
            · go_wp2
              go_ret2
              exact ⟨by rw [Hres.out]; rfl, rfl⟩
          · have hx' := Utf.inR_le hx
            obtain ⟨hx1, hx2⟩ := hx'
            have dx1 : decide ((s[at' + k].toNat : Int) < l) = false := by simp; omega
            have dx2 : decide (h < (s[at' + k].toNat : Int)) = false := by simp; omega
            have Hyes := Lib.hid (Utf.upto_yes Hu.out (by rw [Hb.out, ← Hlh.out]) hby.out hx)
            clear hx
            go_wp2
            go_round
            case rel => exact ⟨k + 1, 128, 191, by omega, Hyes.out, by go_num, rfl, rfl, by rw [if_neg (by omega)]⟩
            case measure => simp [intOf]; omega
        · have dks : decide ((at' : Int) + (k : Int) < (s.size : Int)) = false := by simp; omega
          have hne : ((k : Int) == n) = false := by rw [beq_eq_false_iff_ne]; omega
          have Hres := Lib.hid (Utf.upto_out Hu.out (by rw [Hlen.out]; omega) (by rw [List.length_drop, Hsl.out]; omega))
          go_wp2
          go_ret2
          exact ⟨by rw [Hres.out]; rfl, rfl⟩
      · have dkn : decide ((k : Int) < n) = false := by simpa using hkn
        have hne : ((k : Int) == n) = true := by rw [beq_iff_eq]; omega
        have Hres := Lib.hid (Utf.upto_end Hu.out (by rw [Hlen.out]; omega))
        go_wp2
        go_ret2
        exact ⟨by rw [Hres.out]; rfl, rfl⟩

end Go.Proofs.YthniemoganoapaaDoor

/- The reference's Bad on UTF-8. -/
set_option maxRecDepth 100000
set_option linter.unusedVariables false
set_option linter.unusedSimpArgs false
namespace Go.Proofs.YthniemoganoapaaDoor
open Go.RowKit

set_option maxHeartbeats 1000000 in
theorem bad_ref (s : ByteArray) (w : World) (hs : s.size ≤ maxLen) :
    Calls Tryd.prog 17 #[.string s] w fun e w' => e = .returned (.int .i64 (Utf.bad s.data.toList)) ∧ w = w' := by
  have hs' := hs
  unfold maxLen at hs'
  go_enter Tryd.func17, Tryd.ntmps17
  go_wp2_with fail
  go_loop [3] (fun v => ∃ k n : Nat, Utf.Far s.data.toList k n ∧ v = .int .i64 k) (fun v => s.size - (intOf v).toNat)
  case atStart => exact ⟨0, 0, Utf.far_zero _, rfl⟩
  case round =>
    obtain ⟨k, n, hf, rfl⟩ := hrel
    have hsl := Utf.size_len s
    have Hf := Lib.hid hf
    have hin := hf.inL
    rw [hsl] at hin
    clear hf
    by_cases h1 : k < s.size
    · have h1' : k < s.data.toList.length := by omega
      have hle := (Utf.front_le (s.data.toList.drop k)).1
      rw [List.length_drop, hsl] at hle
      have fc := front_ref s k w h1 hs
      cases hw : (Utf.front (s.data.toList.drop k)).2
      · rw [hw] at fc
        have Hb := Lib.hid (Utf.far_no Hf.out h1' hw)
        obtain ⟨m, hm⟩ : ∃ m, (Utf.front (s.data.toList.drop k)).1 = m := ⟨_, rfl⟩
        rw [hm] at fc hle
        have Hm := Lib.hid hm
        have Fc := Lib.hid fc
        clear fc hw hsl hm
        go_wp2_with (go_at_call 28; refine Fc.out.mono ?_; rintro e w1 ⟨rfl, rfl⟩)
        go_ret
        exact ⟨by rw [Hb.out.1, Hm.out]; rfl, rfl⟩
      · rw [hw] at fc
        have Hy := Lib.hid (Utf.far_yes Hf.out h1' hw)
        have hwp := Utf.front_whole hw
        obtain ⟨m, hm⟩ : ∃ m, (Utf.front (s.data.toList.drop k)).1 = m := ⟨_, rfl⟩
        rw [hm] at fc hle hwp
        have Hm := Lib.hid hm
        have Fc := Lib.hid fc
        clear fc hw hsl hm
        go_wp2_with (go_at_call 28; refine Fc.out.mono ?_; rintro e w1 ⟨rfl, rfl⟩)
        go_round
        case rel => exact ⟨k + m, n + 1, by have := Hy.out; rw [Hm.out] at this; exact this, by go_num⟩
        case measure => simp [intOf]; omega
    · have Hb := Lib.hid (Utf.far_end Hf.out (by omega))
      clear hsl
      go_wp2
      go_ret
      exact ⟨by rw [Hb.out.1]; rfl, rfl⟩

end Go.Proofs.YthniemoganoapaaDoor
