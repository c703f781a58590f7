/- The texts RefUtfA, RefUtfBd, RefLabelA, RefLabelB, RefLabelC, RefDecA, RefDecB, RefDecC, RefDecE2, one behind the other. -/
import Derived.Test.YtgoibhbmndpgpaaGreatDoorRows
import Derived.Test.YtgoibhbmndpgpaaGreatDoorPlA
import Derived.WalkKit
import Derived.WalkSpells
import Derived.WalkLawsBesides
import Derived.Handy
import Derived.Lib.Hide
import Derived.Test.YtgoibhbmndpgpaaGreatDoorUlW
import Derived.Deep.QuietTactic
import Derived.BigQuiet
import Derived.Test.YtgoibhbmndpgpaaGreatDoorPdW
import Derived.Test.YtgoibhbmndpgpaaGreatDoorGrd
import Derived.IntWalk
import Derived.Below
import Derived.Laws.AppendOwn
import Derived.Laws.OwnMore
import Derived.Laws.AppendOwnNone
import Derived.OwnWalk
import Derived.Deep.AppendLies
import Derived.Test.YtgoibhbmndpgpaaGreatDoorDssW
import Derived.Lib.Strings

/- The reference's functions on UTF-8: span, Front, Bad, Count. -/
set_option maxRecDepth 100000
set_option linter.unusedVariables false
set_option linter.unusedSimpArgs false
namespace Go.Proofs.YtgoibhbmndpgpaaGreatDoor
open Go.RowKit

set_option maxHeartbeats 1000000 in
theorem span_calls (c : Int) (w : World) (h0 : 0 ≤ c) (h1 : c < 256) :
    Calls Tryz.prog 60 #[.int .u8 c] w fun e w' => e = .returned (.tuple #[.int .i64 (Utf.spanI c).1, .int .u8 (Utf.spanI c).2.1, .int .u8 (Utf.spanI c).2.2]) ∧ w = w' := by
  by_cases a1 : c < 128
  · have e : Utf.spanI c = (1, 0, 0) := by unfold Utf.spanI; rw [if_pos a1]
    rw [e]; clear e
    go_enter Tryz.func60, Tryz.ntmps60
    go_wp2
    go_ret3
    exact ⟨rfl, rfl⟩
  by_cases a2 : c < 194
  · have e : Utf.spanI c = (0, 0, 0) := by unfold Utf.spanI; rw [if_neg a1, if_pos a2]
    rw [e]; clear e
    go_enter Tryz.func60, Tryz.ntmps60
    go_wp2
    go_ret3
    exact ⟨rfl, rfl⟩
  by_cases a3 : 244 < c
  · have e : Utf.spanI c = (0, 0, 0) := by unfold Utf.spanI; rw [if_neg a1, if_neg a2, if_pos a3]
    rw [e]; clear e
    go_enter Tryz.func60, Tryz.ntmps60
    go_wp2
    go_ret3
    exact ⟨rfl, rfl⟩
  have d2 : decide (c < 194) = false := by simpa using a2
  have d3 : decide (244 < c) = false := by simpa using a3
  have e0 : Utf.spanI c = if c < 224 then (2, 128, 191) else if c = 224 then (3, 160, 191) else if c = 237 then (3, 128, 159) else if c < 240 then (3, 128, 191) else if c = 240 then (4, 144, 191) else if c = 244 then (4, 128, 143) else (4, 128, 191) := by
    unfold Utf.spanI; rw [if_neg a1, if_neg a2, if_neg a3]
  by_cases a4 : c < 224
  · rw [if_pos a4] at e0
    rw [e0]; clear e0
    go_enter Tryz.func60, Tryz.ntmps60
    go_wp2
    go_ret3
    exact ⟨rfl, rfl⟩
  rw [if_neg a4] at e0
  by_cases a5 : c = 224
  · rw [if_pos a5] at e0
    rw [e0]; clear e0
    subst a5
    go_enter Tryz.func60, Tryz.ntmps60
    go_wp2
    go_ret3
    exact ⟨rfl, rfl⟩
  rw [if_neg a5] at e0
  have d5 : (c == 224) = false := by simpa using a5
  by_cases a6 : c = 237
  · rw [if_pos a6] at e0
    rw [e0]; clear e0
    subst a6
    go_enter Tryz.func60, Tryz.ntmps60
    go_wp2
    go_ret3
    exact ⟨rfl, rfl⟩
  rw [if_neg a6] at e0
  have d6 : (c == 237) = false := by simpa using a6
  by_cases a7 : c < 240
  · rw [if_pos a7] at e0
    rw [e0]; clear e0
    go_enter Tryz.func60, Tryz.ntmps60
    go_wp2
    go_ret3
    exact ⟨rfl, rfl⟩
  rw [if_neg a7] at e0
  by_cases a8 : c = 240
  · rw [if_pos a8] at e0
    rw [e0]; clear e0
    subst a8
    go_enter Tryz.func60, Tryz.ntmps60
    go_wp2
    go_ret3
    exact ⟨rfl, rfl⟩
  rw [if_neg a8] at e0
  have d8 : (c == 240) = false := by simpa using a8
  by_cases a9 : c = 244
  · rw [if_pos a9] at e0
    rw [e0]; clear e0
    subst a9
    go_enter Tryz.func60, Tryz.ntmps60
    go_wp2
    go_ret3
    exact ⟨rfl, rfl⟩
  rw [if_neg a9] at e0
  have d9 : (c == 244) = false := by simpa using a9
  rw [e0]; clear e0
  go_enter Tryz.func60, Tryz.ntmps60
  go_wp2
  go_ret3
  exact ⟨rfl, rfl⟩

theorem upto_one (c : UInt8) (cs : List UInt8) (bs : List (Int × Int)) : Utf.Upto (((c.toNat : Int), (c.toNat : Int)) :: bs) (c :: cs) 1 :=
  Utf.upto_yes (Utf.upto_zero _ _) rfl rfl (Utf.inR_true (Int.le_refl _) (Int.le_refl _))
theorem spanB_at (c : Int) (k : Nat) (h1 : 1 ≤ k) (h : (k : Int) < (Utf.spanI c).1) : (Utf.spanB c)[k]? = some (if k = 1 then (Utf.spanI c).2 else (128, 191)) := by
  have := Utf.spanI_range c
  have hk : k = 1 ∨ k = 2 ∨ k = 3 := by omega
  unfold Utf.spanB
  rcases hk with rfl | rfl | rfl <;> simp [List.getElem?_take] <;> omega

set_option maxRecDepth 100000 in
set_option maxHeartbeats 1000000 in
theorem front_ref (s : ByteArray) (at' : Nat) (w : World) (hat : at' < s.size) (hs : s.size ≤ maxLen) :
    Calls Tryz.prog 42 #[.string s, .int .i64 at'] w fun e w' =>
      e = .returned (.tuple #[.int .i64 (Utf.front (s.data.toList.drop at')).1, .bool (Utf.front (s.data.toList.drop at')).2]) ∧ w = w' := by
  have hs' := hs
  unfold maxLen at hs'
  have hsl := Utf.size_len s
  have hat' : (at' : Int) < (s.size : Int) := by omega
  have hd : s.data.toList.drop at' = s[at'] :: s.data.toList.drop (at' + 1) := by
    obtain ⟨hl, e⟩ := List.getElem?_eq_some_iff.1 (Utf.byte_at s at' hat)
    rw [List.drop_eq_getElem_cons hl, e]
  have hfr := Utf.front_span s[at'] (s.data.toList.drop (at' + 1))
  have hup := upto_one s[at'] (s.data.toList.drop (at' + 1)) ((Utf.spanB s[at'].toNat).drop 1)
  rw [← hd] at hfr hup
  have hb0 : (Utf.spanB s[at'].toNat) = (((s[at'].toNat : Int), (s[at'].toNat : Int)) :: (Utf.spanB s[at'].toNat).drop 1) := rfl
  rw [← hb0] at hup
  have hr := Utf.spanI_range s[at'].toNat
  have hc := UInt8.toNat_lt s[at']
  by_cases hn0 : (Utf.spanI s[at'].toNat).1 = 0
  · rw [hn0] at hfr
    have sp := span_calls s[at'].toNat w (by omega) (by omega)
    rw [hn0] at sp
    rw [if_pos rfl] at hfr
    rw [hfr]
    have Sp := Lib.hid sp
    clear sp hfr hup hb0 hr hn0 hd hsl
    go_enter Tryz.func42, Tryz.ntmps42
    go_wp2_with (go_at_call 60; refine Sp.out.mono ?_; rintro e w1 ⟨rfl, rfl⟩)
    go_ret2
    exact ⟨rfl, rfl⟩
  · rw [if_neg hn0] at hfr
    have hlen := Utf.spanB_len _ hn0
    have hbat := fun k => spanB_at (s[at'].toNat : Int) k
    have sp := span_calls s[at'].toNat w (by omega) (by omega)
    rw [hfr]
    obtain ⟨n, lo, hi, hsp⟩ : ∃ n lo hi, Utf.spanI s[at'].toNat = (n, lo, hi) := ⟨_, _, _, rfl⟩
    rw [hsp] at sp hn0 hr hlen hbat
    simp only at sp hn0 hr hlen hbat
    generalize Utf.spanB s[at'].toNat = bs at *
    have hnn : (n == 0) = false := by simpa using hn0
    have Sp := Lib.hid sp
    have Hup := Lib.hid hup
    have Hlen := Lib.hid hlen
    have Hbat := Lib.hid hbat
    have Hsl := Lib.hid hsl
    obtain ⟨hr0, hr4, hrl, hrl5, hrh, hrh5⟩ := hr
    clear sp hfr hup hlen hb0 hn0 hbat hd hsl hsp
    go_enter Tryz.func42, Tryz.ntmps42
    go_wp2_with (go_at_call 60; refine Sp.out.mono ?_; rintro e w1 ⟨rfl, rfl⟩)
    go_loop [7, 8, 9] (fun vl vh vk => ∃ (k : Nat) (l h : Int), 1 ≤ k ∧ Utf.Upto bs (s.data.toList.drop at') k ∧ vk = .int .i64 k ∧ vl = .int .u8 l ∧ vh = .int .u8 h ∧ (l, h) = (if k = 1 then (lo, hi) else (128, 191))) (fun _ _ vk => (4 - intOf vk).toNat)
    case atStart => exact ⟨1, lo, hi, by omega, Hup.out, rfl, rfl, rfl, rfl⟩
    case round =>
      obtain ⟨k, l, h, hk1, hu, rfl, rfl, rfl, hlh⟩ := hrel
      have hin := hu.inL
      have hkb := hu.inB
      rw [Hlen.out] at hkb
      rw [List.length_drop, Hsl.out] at hin
      have Hu := Lib.hid hu
      have Hlh := Lib.hid hlh
      clear hu hlh
      by_cases hkn : (k : Int) < n
      · have dkn : decide ((k : Int) < n) = true := by simpa using hkn
        have Hb := Lib.hid (Hbat.out k hk1 hkn)
        by_cases hks : at' + k < s.size
        · have dks : decide ((at' : Int) + (k : Int) < (s.size : Int)) = true := by simp; omega
          have hks' : (at' : Int) + (k : Int) < (s.size : Int) := by omega
          have hby := Lib.hid (show (s.data.toList.drop at')[k]? = some s[at' + k] by rw [List.getElem?_drop]; exact Utf.byte_at s (at' + k) hks)
          have hc2 := UInt8.toNat_lt s[at' + k]
          cases hx : Utf.inR l h (s[at' + k].toNat : Int)
          · have hx' : (s[at' + k].toNat : Int) < l ∨ (¬ (s[at' + k].toNat : Int) < l ∧ h < (s[at' + k].toNat : Int)) := by
              simp only [Utf.inR, Bool.and_eq_false_iff, decide_eq_false_iff_not] at hx
              omega
            have Hres := Lib.hid (Utf.upto_no Hu.out (by rw [Hb.out, ← Hlh.out]) hby.out hx)
            clear hx
            rcases hx' with hx' | ⟨hx1, hx2⟩
            · go_wp2
              go_ret2
              exact ⟨by rw [Hres.out]; rfl, rfl⟩
            · go_wp2
              go_ret2
              exact ⟨by rw [Hres.out]; rfl, rfl⟩
          · have hx' := Utf.inR_le hx
            obtain ⟨hx1, hx2⟩ := hx'
            have dx1 : decide ((s[at' + k].toNat : Int) < l) = false := by simp; omega
            have dx2 : decide (h < (s[at' + k].toNat : Int)) = false := by simp; omega
            have Hyes := Lib.hid (Utf.upto_yes Hu.out (by rw [Hb.out, ← Hlh.out]) hby.out hx)
            clear hx
            go_wp2
            go_round
            case rel => exact ⟨k + 1, 128, 191, by omega, Hyes.out, by go_num, rfl, rfl, by rw [if_neg (by omega)]⟩
            case measure => simp [intOf]; omega
        · have dks : decide ((at' : Int) + (k : Int) < (s.size : Int)) = false := by simp; omega
          have hne : ((k : Int) == n) = false := by rw [beq_eq_false_iff_ne]; omega
          have Hres := Lib.hid (Utf.upto_out Hu.out (by rw [Hlen.out]; omega) (by rw [List.length_drop, Hsl.out]; omega))
          go_wp2
          go_ret2
          exact ⟨by rw [Hres.out]; rfl, rfl⟩
      · have dkn : decide ((k : Int) < n) = false := by simpa using hkn
        have hne : ((k : Int) == n) = true := by rw [beq_iff_eq]; omega
        have Hres := Lib.hid (Utf.upto_end Hu.out (by rw [Hlen.out]; omega))
        go_wp2
        go_ret2
        exact ⟨by rw [Hres.out]; rfl, rfl⟩

end Go.Proofs.YtgoibhbmndpgpaaGreatDoor

/- The reference's Bad on UTF-8. -/
set_option maxRecDepth 100000
set_option linter.unusedVariables false
set_option linter.unusedSimpArgs false
namespace Go.Proofs.YtgoibhbmndpgpaaGreatDoor
open Go.RowKit

set_option maxHeartbeats 1000000 in
theorem bad_ref (s : ByteArray) (w : World) (hs : s.size ≤ maxLen) :
    Calls Tryz.prog 24 #[.string s] w fun e w' => e = .returned (.int .i64 (Utf.bad s.data.toList)) ∧ w = w' := by
  have hs' := hs
  unfold maxLen at hs'
  go_enter Tryz.func24, Tryz.ntmps24
  go_wp2_with fail
  go_loop [3] (fun v => ∃ k n : Nat, Utf.Far s.data.toList k n ∧ v = .int .i64 k) (fun v => s.size - (intOf v).toNat)
  case atStart => exact ⟨0, 0, Utf.far_zero _, rfl⟩
  case round =>
    obtain ⟨k, n, hf, rfl⟩ := hrel
    have hsl := Utf.size_len s
    have Hf := Lib.hid hf
    have hin := hf.inL
    rw [hsl] at hin
    clear hf
    by_cases h1 : k < s.size
    · have h1' : k < s.data.toList.length := by omega
      have hle := (Utf.front_le (s.data.toList.drop k)).1
      rw [List.length_drop, hsl] at hle
      have fc := front_ref s k w h1 hs
      cases hw : (Utf.front (s.data.toList.drop k)).2
      · rw [hw] at fc
        have Hb := Lib.hid (Utf.far_no Hf.out h1' hw)
        obtain ⟨m, hm⟩ : ∃ m, (Utf.front (s.data.toList.drop k)).1 = m := ⟨_, rfl⟩
        rw [hm] at fc hle
        have Hm := Lib.hid hm
        have Fc := Lib.hid fc
        clear fc hw hsl hm
        go_wp2_with (go_at_call 42; refine Fc.out.mono ?_; rintro e w1 ⟨rfl, rfl⟩)
        go_ret
        exact ⟨by rw [Hb.out.1, Hm.out]; rfl, rfl⟩
      · rw [hw] at fc
        have Hy := Lib.hid (Utf.far_yes Hf.out h1' hw)
        have hwp := Utf.front_whole hw
        obtain ⟨m, hm⟩ : ∃ m, (Utf.front (s.data.toList.drop k)).1 = m := ⟨_, rfl⟩
        rw [hm] at fc hle hwp
        have Hm := Lib.hid hm
        have Fc := Lib.hid fc
        clear fc hw hsl hm
        go_wp2_with (go_at_call 42; refine Fc.out.mono ?_; rintro e w1 ⟨rfl, rfl⟩)
        go_round
        case rel => exact ⟨k + m, n + 1, by have := Hy.out; rw [Hm.out] at this; exact this, by go_num⟩
        case measure => simp [intOf]; omega
    · have Hb := Lib.hid (Utf.far_end Hf.out (by omega))
      clear hsl
      go_wp2
      go_ret
      exact ⟨by rw [Hb.out.1]; rfl, rfl⟩

end Go.Proofs.YtgoibhbmndpgpaaGreatDoor

/- The reference's small functions on labels: text, number, Name, Value, Get. -/
set_option maxRecDepth 100000
set_option linter.unusedVariables false
set_option linter.unusedSimpArgs false
namespace Go.Proofs.YtgoibhbmndpgpaaGreatDoor
open Go.RowKit Go.Sort

set_option maxHeartbeats 1000000 in
theorem rtext_calls (a b : List UInt8) (w : World) :
    Calls Tryz.prog 90 #[.string (str a), .string (str b)] w fun e w' => e = .returned (.int .i64 (cb a b)) ∧ w = w' := by
  rcases cb_range a b with h | h | h
  · have h1 : Op.bytesLess a b = true := by rw [bl_cb, h]; rfl
    rw [h]; clear h
    go_enter Tryz.func90, Tryz.ntmps90
    go_wp2
    go_ret
    exact ⟨rfl, rfl⟩
  · have h1 : Op.bytesLess a b = false := by rw [bl_cb, h]; rfl
    have h2 : (a == b) = true := beq_iff_eq.2 (cb_eq a b h)
    rw [h]; clear h
    go_enter Tryz.func90, Tryz.ntmps90
    go_wp2
    go_ret
    exact ⟨rfl, rfl⟩
  · have h1 : Op.bytesLess a b = false := by rw [bl_cb, h]; rfl
    have h2 : (a == b) = false := beq_eq_false_iff_ne.2 (fun e => by rw [e, cb_refl] at h; exact absurd h (by decide))
    rw [h]; clear h
    go_enter Tryz.func90, Tryz.ntmps90
    go_wp2
    go_ret
    exact ⟨rfl, rfl⟩
/-- which of two numbers is less -/
def nuI (a b : Int) : Int := if a < b then -1 else if b < a then 1 else 0
set_option maxHeartbeats 1000000 in
theorem rnumber_calls (a b : Int) (w : World) :
    Calls Tryz.prog 69 #[.int .i64 a, .int .i64 b] w fun e w' => e = .returned (.int .i64 (nuI a b)) ∧ w = w' := by
  by_cases h1 : a < b
  · have e : nuI a b = -1 := if_pos h1
    rw [e]; clear e
    have d1 : decide (a < b) = true := decide_eq_true h1
    go_enter Tryz.func69, Tryz.ntmps69
    go_wp2
    go_ret
    exact ⟨rfl, rfl⟩
  · by_cases h2 : b < a
    · have e : nuI a b = 1 := by unfold nuI; rw [if_neg h1, if_pos h2]
      rw [e]; clear e
      have d1 : decide (a < b) = false := decide_eq_false h1
      have d2 : decide (b < a) = true := decide_eq_true h2
      go_enter Tryz.func69, Tryz.ntmps69
      go_wp2
      go_ret
      exact ⟨rfl, rfl⟩
    · have e : nuI a b = 0 := by unfold nuI; rw [if_neg h1, if_neg h2]
      rw [e]; clear e
      have d1 : decide (a < b) = false := decide_eq_false h1
      have d2 : decide (b < a) = false := decide_eq_false h2
      go_enter Tryz.func69, Tryz.ntmps69
      go_wp2
      go_ret
      exact ⟨rfl, rfl⟩
theorem nameOk_ctl {l : List UInt8} (h : ctl l = true) : nameOk l = false := by unfold nameOk; rw [h]; simp
theorem nameOk_no {l : List UInt8} (h : ctl l = false) : nameOk l = (decide (1 ≤ l.length) && decide (l.length ≤ 60) && decide (Utf.bad l < 0)) := by unfold nameOk; rw [h]; simp
set_option maxHeartbeats 2000000 in
theorem rname_calls (l : List UInt8) (w : World) (hl : l.length ≤ maxLen) :
    Calls Tryz.prog 43 #[.string (str l)] w fun e w' => e = .returned (.bool (nameOk l)) ∧ w = w' := by
  have hsz := str_size l
  have hb := Lib.hid (fun W => bad_ref (str l) W (by rw [hsz]; exact hl))
  unfold maxLen at hl
  go_enter Tryz.func43, Tryz.ntmps43
  go_wp2_with fail
  go_loop [3] (fun v => ∃ k : Nat, k ≤ l.length ∧ v = .int .i64 (k : Nat) ∧ Hid (ctl (l.take k) = false)) (fun v => l.length - (intOf v).toNat)
  case atStart => exact ⟨0, Nat.zero_le _, rfl, rfl⟩
  case round =>
    obtain ⟨k, hk, rfl, H⟩ := hrel
    by_cases h : k < l.length
    · have hin : k < (str l).size := by rw [hsz]; exact h
      have ht := Lib.hid (ctl_take l k hin H.out)
      by_cases h1 : ((str l)[k].toNat : Int) < 32
      · have d1 : decide (((str l)[k].toNat : Int) < 32) = true := decide_eq_true h1
        have hr := Lib.hid (nameOk_ctl (ctl_some (l := l) (k := k + 1) (by rw [ht.out, d1]; rfl)))
        go_wp2
        go_ret
        exact ⟨by rw [hr.out]; rfl, rfl⟩
      · have d1 : decide (((str l)[k].toNat : Int) < 32) = false := decide_eq_false h1
        by_cases h2 : ((str l)[k].toNat : Int) = 127
        · have d2 : decide (((str l)[k].toNat : Int) = 127) = true := decide_eq_true h2
          have hr := Lib.hid (nameOk_ctl (ctl_some (l := l) (k := k + 1) (by rw [ht.out, d2]; simp)))
          go_wp2
          go_ret
          exact ⟨by rw [hr.out]; rfl, rfl⟩
        · have d2 : decide (((str l)[k].toNat : Int) = 127) = false := decide_eq_false h2
          have hn := Lib.hid (show ctl (l.take (k + 1)) = false by rw [ht.out, d1, d2]; rfl)
          go_wp2
          go_round
          case rel => exact ⟨k + 1, h, by go_num, hn.out⟩
          case measure => simp [intOf]; omega
    · have hr := Lib.hid (nameOk_no (show ctl l = false by have := H.out; rwa [List.take_of_length_le (by omega)] at this))
      clear H
      by_cases h1 : 1 ≤ l.length
      · have d1 : decide ((1 : Int) ≤ (l.length : Int)) = true := by simp; omega
        by_cases h2 : l.length ≤ 60
        · have d2 : decide ((l.length : Int) ≤ 60) = true := by simp; omega
          have hr2 := Lib.hid (show nameOk l = decide (Utf.bad l < 0) by rw [hr.out, decide_eq_true h1, decide_eq_true h2]; rfl)
          clear hr
          generalize Utf.bad l = B at *
          go_wp2_with fail
          refine (hb.out _).mono ?_; rintro e w1 ⟨rfl, rfl⟩
          go_wp2
          go_ret
          exact ⟨by rw [hr2.out]; rfl, rfl⟩
        · have d2 : decide ((l.length : Int) ≤ 60) = false := by simp; omega
          have hr2 := Lib.hid (show nameOk l = false by rw [hr.out, decide_eq_false h2]; simp)
          clear hr
          go_wp2
          go_ret
          exact ⟨by rw [hr2.out]; rfl, rfl⟩
      · have d1 : decide ((1 : Int) ≤ (l.length : Int)) = false := by simp; omega
        have hr2 := Lib.hid (show nameOk l = false by rw [hr.out, decide_eq_false h1]; simp)
        clear hr
        go_wp2
        go_ret
        exact ⟨by rw [hr2.out]; rfl, rfl⟩
set_option maxHeartbeats 2000000 in
theorem rvalue_calls (l : List UInt8) (w : World) (hl : l.length ≤ maxLen) :
    Calls Tryz.prog 23 #[.string (str l)] w fun e w' => e = .returned (.bool (valueOk l)) ∧ w = w' := by
  have hsz := str_size l
  have hb := Lib.hid (bad_ref (str l) w (by rw [hsz]; exact hl))
  unfold maxLen at hl
  by_cases h2 : l.length ≤ 60
  · have d2 : decide ((l.length : Int) ≤ 60) = true := by simp; omega
    have e : valueOk l = decide (Utf.bad l < 0) := by unfold valueOk; rw [decide_eq_true h2]; rfl
    rw [e]; clear e
    generalize Utf.bad l = B at *
    go_enter Tryz.func23, Tryz.ntmps23
    go_wp2_with fail
    refine hb.out.mono ?_; rintro e w1 ⟨rfl, rfl⟩
    go_wp2
    go_ret
    exact ⟨rfl, rfl⟩
  · have d2 : decide ((l.length : Int) ≤ 60) = false := by simp; omega
    have e : valueOk l = false := by unfold valueOk; rw [decide_eq_false h2]; simp
    rw [e]; clear e
    go_enter Tryz.func23, Tryz.ntmps23
    go_wp2
    go_ret
    exact ⟨rfl, rfl⟩
set_option maxHeartbeats 4000000 in
theorem rget_calls (l : List Lb) (v : Value) (n : List UInt8) (w : World) (hv : LbRow w v l) :
    Calls Tryz.prog 66 #[v, .string (str n)] w fun e w' => e = .returned (.tuple #[.string (str (getL l n).1), .bool (getL l n).2]) ∧ w = w' := by
  obtain ⟨A, cap, rfl, hlc, hcm, hnil, hrow⟩ := hv
  unfold maxLen at hcm
  have HR := Lib.hid hrow
  clear hrow hnil
  go_enter Tryz.func66, Tryz.ntmps66
  go_wp2_with fail
  go_loop [6] (fun v => ∃ k : Nat, k ≤ l.length ∧ v = .int .i64 (k : Nat) ∧ Hid (getL l n = getL (l.drop k) n)) (fun v => l.length - (intOf v).toNat)
  case atStart => exact ⟨0, Nat.zero_le _, rfl, rfl⟩
  case round =>
    obtain ⟨k, hk, rfl, H⟩ := hrel
    by_cases hkl : k < l.length
    · obtain ⟨b, off, rfl, hbs, hc⟩ := HR.out (by omega)
      obtain ⟨c0, c1⟩ := hc k (lbAt l k) (at_get hkl)
      have ha := Lib.hid (getL_at hkl H.out)
      generalize lbAt l k = X at *
      obtain ⟨X1, X2⟩ := X
      simp only at c0 c1 ha
      clear hc
      by_cases hx : X1 = n
      · have hr := Lib.hid (ha.out.1 hx)
        have heq : (X1 == n) = true := beq_iff_eq.2 hx
        clear hx ha
        go_wp2
        go_ret2
        exact ⟨by rw [hr.out]; rfl, rfl⟩
      · have hr := Lib.hid (ha.out.2 hx)
        have heq : (X1 == n) = false := beq_eq_false_iff_ne.2 hx
        clear hx ha
        go_wp2
        go_round
        case rel => exact ⟨k + 1, hkl, by go_num, hr.out⟩
        case measure => simp [intOf]; omega
    · have hr := Lib.hid (getL_end (by omega) H.out)
      go_wp2
      go_ret2
      exact ⟨by rw [hr.out]; rfl, rfl⟩

end Go.Proofs.YtgoibhbmndpgpaaGreatDoor

/- The reference's CompareLabels, SameLabels, Labels. -/
set_option maxRecDepth 100000
set_option linter.unusedVariables false
set_option linter.unusedSimpArgs false
namespace Go.Proofs.YtgoibhbmndpgpaaGreatDoor
open Go.RowKit Go.Sort
attribute [local go_sem ↓] Go.wp_at_zero Go.wp_at_succ

theorem lbc_first {x y : Lb} (h : cb x.1 y.1 ≠ 0) : lbc x y = cb x.1 y.1 := if_neg h
theorem lbc_second {x y : Lb} (h : cb x.1 y.1 = 0) : lbc x y = cb x.2 y.2 := if_pos h
theorem nuI_len (a b : List Lb) (k : Nat) (ha : k = a.length ∨ k = b.length) (hka : k ≤ a.length) (hkb : k ≤ b.length) (H : cmpL a b = cmpL (a.drop k) (b.drop k)) : nuI (a.length : Nat) (b.length : Nat) = cmpL a b := by
  unfold nuI
  by_cases h1 : a.length < b.length
  · rw [if_pos (by omega), (cmpL_end H).1 (by omega) (by omega)]
  · rw [if_neg (by omega)]
    by_cases h2 : b.length < a.length
    · rw [if_pos (by omega), (cmpL_end H).2.1 (by omega) (by omega)]
    · rw [if_neg (by omega), (cmpL_end H).2.2 (by omega) (by omega)]
set_option maxHeartbeats 4000000 in
theorem rlcompare_calls (a b : List Lb) (v u : Value) (w : World) (hv : LbRow w v a) (hu : LbRow w u b) :
    Calls Tryz.prog 67 #[v, u] w fun e w' => e = .returned (.int .i64 (cmpL a b)) ∧ Below w.heap.size w w' := by
  obtain ⟨A, cap, rfl, hlc, hcm, hnil, hrow⟩ := hv
  obtain ⟨A', cap', rfl, hlc', hcm', hnil', hrow'⟩ := hu
  unfold maxLen at hcm hcm'
  have HR := Lib.hid hrow
  have HR' := Lib.hid hrow'
  clear hrow hnil hrow' hnil'
  go_enter Tryz.func67, Tryz.ntmps67
  go_wp2_with fail
  go_loopw [5] (fun v wr => ∃ k : Nat, k ≤ a.length ∧ k ≤ b.length ∧ v = .int .i64 (k : Nat) ∧ Hid (cmpL a b = cmpL (a.drop k) (b.drop k)) ∧ Below w.heap.size w wr) (fun v _ => a.length - (intOf v).toNat)
  case atStart => exact ⟨0, Nat.zero_le _, Nat.zero_le _, rfl, rfl, Below.refl _ _⟩
  case round =>
    obtain ⟨k, hka, hkb, rfl, H, hb⟩ := hrel
    by_cases h1 : k < a.length
    · have d1 : decide ((k : Int) < (a.length : Int)) = true := by simp; omega
      have d1' : decide (k < a.length) = true := by simp; omega
      by_cases h2 : k < b.length
      · have d2 : decide ((k : Int) < (b.length : Int)) = true := by simp; omega
        have d2' : decide (k < b.length) = true := by simp; omega
        obtain ⟨b1, off1, rfl, hbs, hc⟩ := HR.out (by omega)
        obtain ⟨c0, c1⟩ := hc k (lbAt a k) (at_get h1)
        have c0 := (hb.cell (p := ⟨b1, off1 + k * 2, none⟩) hbs).trans c0
        have c1 := (hb.cell (p := ⟨b1, off1 + k * 2 + 1, none⟩) hbs).trans c1
        clear hc
        obtain ⟨b2, off2, rfl, hbs2, hc2⟩ := HR'.out (by omega)
        obtain ⟨e0, e1⟩ := hc2 k (lbAt b k) (at_get h2)
        have e0 := (hb.cell (p := ⟨b2, off2 + k * 2, none⟩) hbs2).trans e0
        have e1 := (hb.cell (p := ⟨b2, off2 + k * 2 + 1, none⟩) hbs2).trans e1
        clear hc2
        have hs := cmpL_at h1 h2 H.out
        rw [show a[k] = lbAt a k from (lbAt_of h1).symm, show b[k] = lbAt b k from (lbAt_of h2).symm] at hs
        have HS := Lib.hid hs
        clear hs
        generalize lbAt a k = X at *
        generalize lbAt b k = Y at *
        obtain ⟨X1, X2⟩ := X
        obtain ⟨Y1, Y2⟩ := Y
        simp only at c0 c1 e0 e1
        have HT1 := Lib.hid (fun W => rtext_calls X1 Y1 W)
        have HT2 := Lib.hid (fun W => rtext_calls X2 Y2 W)
        have hk0 : (0 : Int) ≤ (k : Int) := by omega
        have HB := Lib.hid hb
        clear hb
        by_cases hC : cb X1 Y1 = 0
        · have hl := Lib.hid (lbc_second (x := (X1, X2)) (y := (Y1, Y2)) hC)
          rw [hC] at HT1
          by_cases hD : cb X2 Y2 = 0
          · have hr := Lib.hid (HS.out.1 (by rw [hl.out]; exact hD))
            rw [hD] at HT2
            clear HS hC hD hl
            go_wp2_with fail
            go_quiet ((go_at_call 90; exact Calls.quiet_of_same ((HT1.out _).mono fun _ _ h => ⟨h.1, h.2.symm⟩)))
            have hB1 := below_drewN HB.out nq
            have c1 : (wr.drewN nq).cell? ⟨b1, off1 + k * 2 + 1, none⟩ = some (.string (str X2)) := c1
            have e1 : (wr.drewN nq).cell? ⟨b2, off2 + k * 2 + 1, none⟩ = some (.string (str Y2)) := e1
            clear c0 e0 HB
            generalize wr.drewN nq = W1 at *
            have HB := Lib.hid hB1
            clear hB1
            go_wp2_with fail
            go_quiet ((go_at_call 90; exact Calls.quiet_of_same ((HT2.out _).mono fun _ _ h => ⟨h.1, h.2.symm⟩)))
            go_wp2_with fail
            go_roundw
            case rel => exact ⟨k + 1, h1, h2, by go_num, hr.out, below_drewN HB.out _⟩
            case measure => simp [intOf]; omega
          · have hr := Lib.hid (HS.out.2 (by rw [hl.out]; exact hD))
            have hr2 := Lib.hid (hr.out.trans hl.out)
            have dD : (cb X2 Y2 == 0) = false := by simpa using hD
            simp only at hr2
            generalize cb X2 Y2 = C at *
            clear HS hC hl hr
            go_wp2_with fail
            go_quiet ((go_at_call 90; exact Calls.quiet_of_same ((HT1.out _).mono fun _ _ h => ⟨h.1, h.2.symm⟩)))
            have hB1 := below_drewN HB.out nq
            have c1 : (wr.drewN nq).cell? ⟨b1, off1 + k * 2 + 1, none⟩ = some (.string (str X2)) := c1
            have e1 : (wr.drewN nq).cell? ⟨b2, off2 + k * 2 + 1, none⟩ = some (.string (str Y2)) := e1
            clear c0 e0 HB
            generalize wr.drewN nq = W1 at *
            have HB := Lib.hid hB1
            clear hB1
            go_wp2_with fail
            go_quiet ((go_at_call 90; exact Calls.quiet_of_same ((HT2.out _).mono fun _ _ h => ⟨h.1, h.2.symm⟩)))
            go_wp2_with fail
            go_ret
            exact ⟨by rw [hr2.out]; rfl, below_drewN HB.out _⟩
        · have hl := Lib.hid (lbc_first (x := (X1, X2)) (y := (Y1, Y2)) hC)
          have hr := Lib.hid (HS.out.2 (by rw [hl.out]; exact hC))
          have hr2 := Lib.hid (hr.out.trans hl.out)
          have dC : (cb X1 Y1 == 0) = false := by simpa using hC
          simp only at hr2
          generalize cb X1 Y1 = C at *
          clear HS hl hr
          go_wp2_with fail
          go_quiet ((go_at_call 90; exact Calls.quiet_of_same ((HT1.out _).mono fun _ _ h => ⟨h.1, h.2.symm⟩)))
          go_wp2_with fail
          go_ret
          exact ⟨by rw [hr2.out]; rfl, by exact below_drewN HB.out _⟩
      · have d2 : decide ((k : Int) < (b.length : Int)) = false := by simp; omega
        have d2' : decide (k < b.length) = false := by simp; omega
        have hr := Lib.hid (nuI_len a b k (by omega) hka hkb H.out)
        have hn := Lib.hid (fun W => rnumber_calls (a.length : Nat) (b.length : Nat) W)
        generalize nuI (a.length : Nat) (b.length : Nat) = C at *
        go_wp2_with fail
        refine (hn.out _).mono ?_; rintro e w1 ⟨rfl, rfl⟩
        go_wp2
        go_ret
        exact ⟨by rw [← hr.out]; rfl, hb⟩
    · have d1 : decide ((k : Int) < (a.length : Int)) = false := by simp; omega
      have d1' : decide (k < a.length) = false := by simp; omega
      have hr := Lib.hid (nuI_len a b k (by omega) hka hkb H.out)
      have hn := Lib.hid (fun W => rnumber_calls (a.length : Nat) (b.length : Nat) W)
      generalize nuI (a.length : Nat) (b.length : Nat) = C at *
      go_wp2_with fail
      refine (hn.out _).mono ?_; rintro e w1 ⟨rfl, rfl⟩
      go_wp2
      go_ret
      exact ⟨by rw [← hr.out]; rfl, hb⟩
end Go.Proofs.YtgoibhbmndpgpaaGreatDoor

/- The reference's Labels. -/
set_option maxRecDepth 100000
set_option linter.unusedVariables false
set_option linter.unusedSimpArgs false
namespace Go.Proofs.YtgoibhbmndpgpaaGreatDoor
open Go.RowKit Go.Sort
attribute [local go_sem ↓] Go.wp_at_zero Go.wp_at_succ

set_option maxHeartbeats 8000000 in
theorem rlabels_calls (l : List Lb) (v : Value) (w : World) (hv : LbRow w v l) (hf : Fit l) :
    Calls Tryz.prog 62 #[v] w fun e w' => e = .returned (.bool (goodL l)) ∧ Below w.heap.size w w' := by
  obtain ⟨A, cap, rfl, hlc, hcm, hnil, hrow⟩ := hv
  unfold maxLen at hcm
  by_cases h8 : l.length ≤ 8
  · have d8 : decide ((8 : Int) < (l.length : Int)) = false := by simp; omega
    have HR := Lib.hid hrow
    have HF := Lib.hid hf
    clear hrow hf hnil
    have HN := Lib.hid (fun (s : List UInt8) (hs : s.length ≤ maxLen) (W : World) => rname_calls s W hs)
    have HV := Lib.hid (fun (s : List UInt8) (hs : s.length ≤ maxLen) (W : World) => rvalue_calls s W hs)
    go_enter Tryz.func62, Tryz.ntmps62
    go_wp2_with fail
    go_loopw [3] (fun v wr => ∃ k : Nat, k ≤ l.length ∧ v = .int .i64 (k : Nat) ∧ Hid (goodTo l k = true) ∧ Below w.heap.size w wr) (fun v _ => l.length - (intOf v).toNat)
    case atStart => exact ⟨0, Nat.zero_le _, rfl, rfl, Below.refl _ _⟩
    case round =>
      obtain ⟨k, hk, rfl, H, hb⟩ := hrel
      by_cases hkl : k < l.length
      · obtain ⟨b, off, rfl, hbs, hc⟩ := HR.out (by omega)
        obtain ⟨c0, c1⟩ := hc k (lbAt l k) (at_get hkl)
        have c0 := (hb.cell (p := ⟨b, off + k * 2, none⟩) hbs).trans c0
        have c1 := (hb.cell (p := ⟨b, off + k * 2 + 1, none⟩) hbs).trans c1
        obtain ⟨f0, f1⟩ := HF.out (lbAt l k) (at_mem hkl)
        have hnc := Lib.hid (HN.out _ f0)
        have hvc := Lib.hid (HV.out _ f1)
        have gn := Lib.hid (fun h => goodL_no hkl (goodAt_name (l := l) (k := k) h))
        have gv := Lib.hid (fun h => goodL_no hkl (goodAt_value (l := l) (k := k) h))
        have gz := Lib.hid (fun (h : k = 0) (h1 : nameOk (lbAt l k).1 = true) (h2 : valueOk (lbAt l k).2 = true) => show goodTo l (k + 1) = true by rw [goodTo_succ H.out]; subst h; exact goodAt_zero h1 h2)
        have gl := Lib.hid (fun (j : Nat) (h : k = j + 1) (h1 : nameOk (lbAt l k).1 = true) (h2 : valueOk (lbAt l k).2 = true) => show goodAt l k = decide (cb (lbAt l j).1 (lbAt l k).1 < 0) by subst h; exact goodAt_less h1 h2)
        have gs := Lib.hid (goodTo_succ H.out)
        have gno := Lib.hid (fun h => goodL_no (l := l) (k := k) hkl h)
        have hcp := Lib.hid (fun (j : Nat) (h : k = j + 1) => hc j (lbAt l j) (at_get (by omega)))
        generalize lbAt l k = X at *
        obtain ⟨X1, X2⟩ := X
        simp only at c0 c1 hnc hvc gn gv gz gl
        have HB := Lib.hid hb
        have hk0 : (0 : Int) ≤ (k : Int) := by omega
        have hkb : (k : Int) < (l.length : Int) := by omega
        clear hc f0 f1
        cases hN : nameOk X1
        · rw [hN] at hnc
          clear hcp gl hb
          go_wp2_with fail
          go_quiet ((first | (go_at_call 43; exact Calls.quiet_of_same ((hnc.out _).mono fun _ _ h => ⟨h.1, h.2.symm⟩)) | (go_at_call 23; exact Calls.quiet_of_same ((hvc.out _).mono fun _ _ h => ⟨h.1, h.2.symm⟩))))
          go_wp2_with fail
          go_ret
          exact ⟨by rw [gn.out hN]; rfl, below_drewN HB.out _⟩
        · rw [hN] at hnc
          cases hV : valueOk X2
          · rw [hV] at hvc
            clear hcp gl hb
            go_wp2_with fail
            go_quiet ((first | (go_at_call 43; exact Calls.quiet_of_same ((hnc.out _).mono fun _ _ h => ⟨h.1, h.2.symm⟩)) | (go_at_call 23; exact Calls.quiet_of_same ((hvc.out _).mono fun _ _ h => ⟨h.1, h.2.symm⟩))))
            go_wp2_with fail
            go_ret
            exact ⟨by rw [gv.out hV]; rfl, below_drewN HB.out _⟩
          · rw [hV] at hvc
            have hNN := Lib.hid hN
            have hVV := Lib.hid hV
            clear hN hV
            by_cases k0 : k = 0
            · have hg := Lib.hid (gz.out k0 hNN.out hVV.out)
              clear hcp gl gs gno hb
              obtain rfl := k0
              simp only [Nat.zero_mul, Nat.add_zero] at c0 c1
              rw [show ((0 : Nat) : Int) = 0 from rfl]
              go_wp2_with fail
              go_quiet ((first | (go_at_call 43; exact Calls.quiet_of_same ((hnc.out _).mono fun _ _ h => ⟨h.1, h.2.symm⟩)) | (go_at_call 23; exact Calls.quiet_of_same ((hvc.out _).mono fun _ _ h => ⟨h.1, h.2.symm⟩))))
              go_wp2_with fail
              go_roundw
              case rel => exact ⟨1, hkl, by go_num, hg.out, below_drewN HB.out _⟩
              case measure => simp [intOf]; omega
            · obtain ⟨j, hj⟩ : ∃ j, k = j + 1 := ⟨k - 1, by omega⟩
              have hgl := Lib.hid (gl.out j hj hNN.out hVV.out)
              obtain ⟨e0, e1⟩ := hcp.out j hj
              have e0 := (hb.cell (p := ⟨b, off + j * 2, none⟩) hbs).trans e0
              have hbl := bl_cb (lbAt l j).1 X1
              generalize lbAt l j = Y at *
              obtain ⟨Y1, Y2⟩ := Y
              simp only at e0 e1 hbl hgl
              have dk : decide ((0 : Int) < (k : Int)) = true := by simp; omega
              have dk2 : decide (0 < k) = true := by simp; omega
              have hkj : (k : Int) - 1 = (j : Int) := by omega
              have hw1 : IntKind.i64.wrap (j : Int) = (j : Int) := IntWalk.i64_in _ (by omega)
              have hj0 : (0 : Int) ≤ (j : Int) := by omega
              have hj1 : (j : Int) < (l.length : Int) := by omega
              have hjl : j < l.length := by omega
              clear hcp gl gz gn gv hj hb e1
              by_cases hC : cb Y1 X1 < 0
              · rw [decide_eq_true hC] at hbl hgl
                have hg := Lib.hid (show goodTo l (k + 1) = true by rw [gs.out, hgl.out])
                go_wp2_with fail
                go_quiet ((first | (go_at_call 43; exact Calls.quiet_of_same ((hnc.out _).mono fun _ _ h => ⟨h.1, h.2.symm⟩)) | (go_at_call 23; exact Calls.quiet_of_same ((hvc.out _).mono fun _ _ h => ⟨h.1, h.2.symm⟩))))
                go_wp2_with fail
                go_roundw
                case rel => exact ⟨k + 1, hkl, by go_num, hg.out, below_drewN HB.out _⟩
                case measure => simp [intOf]; omega
              · rw [decide_eq_false hC] at hbl hgl
                have hr := Lib.hid (gno.out hgl.out)
                go_wp2_with fail
                go_quiet ((first | (go_at_call 43; exact Calls.quiet_of_same ((hnc.out _).mono fun _ _ h => ⟨h.1, h.2.symm⟩)) | (go_at_call 23; exact Calls.quiet_of_same ((hvc.out _).mono fun _ _ h => ⟨h.1, h.2.symm⟩))))
                go_wp2_with fail
                go_ret
                exact ⟨by rw [hr.out]; rfl, below_drewN HB.out _⟩
      · have hr := Lib.hid (show goodL l = true by
          have h := H.out
          rw [show k = l.length by omega] at h
          exact goodL_yes h8 h)
        go_wp2
        go_ret
        exact ⟨by rw [hr.out]; rfl, hb⟩
  · have d8 : decide ((8 : Int) < (l.length : Int)) = true := by simp; omega
    have hr := Lib.hid (goodL_long (l := l) (by omega))
    go_enter Tryz.func62, Tryz.ntmps62
    go_wp2
    go_ret
    exact ⟨by rw [hr.out]; rfl, Below.refl _ _⟩

end Go.Proofs.YtgoibhbmndpgpaaGreatDoor

/- The walks of the reference's rows of digits: trim, digits, compare. -/
set_option linter.unusedVariables false
set_option linter.unusedSimpArgs false
namespace Go.Proofs.YtgoibhbmndpgpaaGreatDoor
open Go.RowKit Dc

/-- a slice of bytes that holds these numbers -/
def DR (w : World) (v : Value) (l : List Nat) : Prop :=
  ∃ A cap, v = .slice A l.length cap ∧ l.length ≤ cap ∧ cap ≤ maxLen ∧ (0 < l.length → ∃ b off, A = some ⟨b, off, none⟩ ∧ b < w.heap.size ∧ ∀ j d, l[j]? = some d → w.cell? ⟨b, off + j, none⟩ = some (.int .u8 (d : Nat)))
theorem DR.below {w w' : World} {v : Value} {l : List Nat} (h : DR w v l) (hb : Below w.heap.size w w') : DR w' v l := by
  obtain ⟨A, cap, rfl, h1, h2, h3⟩ := h
  refine ⟨A, cap, rfl, h1, h2, fun h0 => ?_⟩
  obtain ⟨b, off, rfl, hlt, hc⟩ := h3 h0
  exact ⟨b, off, rfl, Nat.lt_of_lt_of_le hlt hb.size, fun j d hj => (hb.cell (p := ⟨b, off + j, none⟩) hlt).trans (hc j d hj)⟩
theorem DR.nil (w : World) : DR w (.slice none 0 0) [] := ⟨none, 0, rfl, Nat.le_refl _, by unfold maxLen; omega, fun h => absurd h (by simp)⟩
def ints (l : List Nat) : List Value := l.map fun d => .int .u8 (d : Nat)
theorem ints_at {l : List Nat} {j : Nat} {d : Nat} (h : l[j]? = some d) : (ints l)[j]? = some (.int .u8 (d : Nat)) := by unfold ints; rw [List.getElem?_map, h]; rfl
theorem ints_len (l : List Nat) : (ints l).length = l.length := List.length_map _
theorem ints_app (a b : List Nat) : ints (a ++ b) = ints a ++ ints b := List.map_append
theorem DR.own {w : World} {base n : Nat} {v : Value} {l : List Nat} (h : w.ownsRow base 5 1 v n (ints l)) : DR w v l := by
  have hn : n = l.length := by have := h.1; rw [ints_len] at this; omega
  subst hn
  rcases h.2 with ⟨rfl, h0⟩ | ⟨g, cap, cur, rfl, hg, hc, h1, h2, h3, h4⟩
  · obtain rfl := List.eq_nil_of_length_eq_zero h0
    exact DR.nil w
  · refine ⟨_, cap, rfl, h1, h2, fun _ => ⟨g, 0, rfl, (Array.getElem?_eq_some_iff.1 hc).1, fun j d hj => ?_⟩⟩
    have hcell := h.cells (g := g) rfl j _ (ints_at hj)
    rw [show ((⟨g, 0, none⟩ : Addr).add j) = ⟨g, j, none⟩ by unfold Addr.add; split <;> simp_all] at hcell
    rw [Nat.zero_add]
    exact hcell
/-- its cells, as what is appended -/
theorem DR.news {w : World} {b off : Nat} {l : List Nat} (hc : ∀ j d, l[j]? = some d → w.cell? ⟨b, off + j, none⟩ = some (.int .u8 (d : Nat))) : ∀ j u, (ints l)[j]? = some u → w.cell? ((⟨b, off, none⟩ : Addr).add j) = some u := by
  intro j u hu
  unfold ints at hu
  rw [List.getElem?_map] at hu
  cases hj : l[j]? with
  | none => rw [hj] at hu; cases hu
  | some d =>
    rw [hj] at hu
    cases hu
    rw [show ((⟨b, off, none⟩ : Addr).add j) = ⟨b, off + j, none⟩ by unfold Addr.add; split <;> simp_all]
    exact hc j d hj
theorem ints_one (l : List Nat) : ∀ u ∈ ints l, u.oneCell' = true := by
  intro u hu
  obtain ⟨d, _, rfl⟩ := List.mem_map.1 hu
  rfl
end Go.Proofs.YtgoibhbmndpgpaaGreatDoor

/- The walks of the reference's digits of a number, and of what compares two rows of them. -/
set_option linter.unusedVariables false
set_option linter.unusedSimpArgs false
namespace Go.Proofs.YtgoibhbmndpgpaaGreatDoor
open Go.RowKit Dc

theorem own_one' (w : World) (B d : Nat) (z : Int) (hz : z = (d : Nat)) (hB : B ≤ w.heap.size) : (w.alloc (.cells #[.int .u8 z] 5)).ownsRow B 5 1 (.slice (some ⟨w.heap.size, 0, none⟩) 1 1) 1 (ints [d]) :=
  by subst hz; exact ⟨rfl, .inr ⟨w.heap.size, 1, #[.int .u8 (d : Nat)], rfl, hB, heap_alloc_new w _, Nat.le_refl _, by unfold maxLen; omega, rfl, rfl⟩⟩

set_option maxHeartbeats 2000000 in
theorem rdigits_calls (n : Nat) (w : World) (hn : n < 18446744073709551616) :
    Calls Tryz.prog 104 #[.int .u64 (n : Nat)] w fun e w' => ∃ v, e = .returned v ∧ DR w' v (digs n) ∧ Below w.heap.size w w' := by
  obtain ⟨i0, hi, hz0, hz1, hz2⟩ := info_parts (P := Tryz.prog) (t := 5) (z := .int .u8 0) (n := 1) (m := 1) (by kernel_rfl)
  have hlen : (digs n).length ≤ 20 := digs_len_le (by omega)
  have Hlen := Lib.hid hlen
  have Hi := Lib.hid hi
  have Hz0 := Lib.hid hz0
  have Hz1 := Lib.hid hz1
  have Hz2 := Lib.hid hz2
  clear hlen hi hz0 hz1 hz2
  go_enter Tryz.func104, Tryz.ntmps104
  go_wp2
  go_loopw [0, 3] (fun s0 s3 wr => ∃ (q : Nat) (l : List Nat), q ≤ n ∧ s0 = .int .u64 (q : Nat) ∧ Hid (digs q ++ l = digs n ∧ Below w.heap.size w wr) ∧ ((l = [] ∧ s3 = .slice none 0 0) ∨ ∃ g cap, 0 < l.length ∧ s3 = .slice (some ⟨g, 0, none⟩) l.length cap ∧ Hid (wr.ownsRow w.heap.size 5 1 (.slice (some ⟨g, 0, none⟩) l.length cap) l.length (ints l)))) (fun s0 _ _ => (intOf s0).toNat)
  case atStart => exact ⟨n, [], Nat.le_refl _, rfl, ⟨by simp, Below.refl _ _⟩, Or.inl ⟨rfl, rfl⟩⟩
  case round =>
    obtain ⟨q, l, hq, rfl, H, hl⟩ := hrel
    by_cases h0 : q = 0
    · subst h0
      rcases hl with ⟨rfl, rfl⟩ | ⟨g, cap, hl0, rfl, Ho⟩
      · go_wp2
        go_ret
        have h := H.out.1
        rw [digs_zero] at h
        exact ⟨_, rfl, by rw [← h]; exact DR.nil _, H.out.2⟩
      · go_wp2
        go_ret
        have h := H.out.1
        rw [digs_zero] at h
        exact ⟨_, rfl, by rw [← h]; exact DR.own Ho.out, H.out.2⟩
    · have hstep : Hid (digs (q / 10) ++ (q % 10 :: l) = digs n) := by
        have h := H.out.1
        rw [digs_pos h0, List.append_assoc] at h
        exact h
      have E1 := Lib.hid (show ((q : Int) % 10) = ((q % 10 : Nat) : Int) by omega)
      have E2 := Lib.hid (show ((q : Int) / 10) = ((q / 10 : Nat) : Int) by omega)
      have hB := Lib.hid H.out.2
      have hbs := H.out.2.size
      have hq0 : 0 < q := by omega
      have hll : l.length ≤ 20 := by
        have h := congrArg List.length H.out.1
        have := Hlen.out
        rw [List.length_append] at h; omega
      clear H
      rcases hl with ⟨rfl, rfl⟩ | ⟨g, cap, hl0, rfl, Ho⟩
      · go_wp2_with (at_builtin; refine wpList_append_own_none rfl _ _ _ (by rfl) w.heap.size 5 i0 1 Tryz.underlying108 Hi.out _ 1 (ints [q % 10]) (by rfl) (own_one' _ _ (q % 10) ((q : Int) % 10) E1.out hbs) (by rfl) ?_)
        go_roundw
        case rel =>
          rw [E2.out]
          exact ⟨q / 10, [q % 10], by omega, rfl, ⟨hstep.out, kb_alloc hB.out (Nat.le_refl _) _⟩, Or.inr ⟨_, 1, by simp, rfl, own_one' _ _ (q % 10) ((q : Int) % 10) E1.out hbs⟩⟩
        case measure => simp [intOf]; omega
      · have hown := own_alloc Ho.out (.cells #[.int .u8 ((q : Int) % 10)] 5)
        have hnews : ∀ j u, (ints l)[j]? = some u → (wr.alloc (.cells #[.int .u8 ((q : Int) % 10)] 5)).cell? ((⟨g, 0, none⟩ : Addr).add j) = some u := hown.cells (g := g) rfl
        have Hnews := Lib.hid hnews
        clear hown hnews
        go_wp2_with (at_builtin; refine wpList_append_lies _ rfl _ _ _ (by rfl) w.heap.size 5 i0 _ 1 1 Tryz.underlying108 Hi.out Hz0.out Hz1.out Hz2.out rfl (by omega) _ 1 (ints [q % 10]) (by rfl) (own_one' _ _ (q % 10) ((q : Int) % 10) E1.out hbs) ⟨g, 0, none⟩ l.length cap (ints l) (by rfl) (by rw [ints_len]; omega) Hnews.out (ints_one l) hl0 (by unfold maxLen; omega) (by omega) (by simp; omega) _ rfl ?_)
        intro g2 cap2 w3 hown3 hgrow hat hlt
        have Hown3 := Lib.hid hown3
        have hB3 := Lib.hid ((kb_alloc hB.out (Nat.le_refl _) (.cells #[.int .u8 ((q : Int) % 10)] 5)).grown hgrow (by simp; omega) (fun k hk => by cases hk; exact hbs))
        clear hown3 hgrow hat hlt
        go_wp2
        go_roundw
        case rel =>
          rw [E2.out]
          refine ⟨q / 10, q % 10 :: l, by omega, rfl, ⟨hstep.out, hB3.out⟩, Or.inr ⟨g2, cap2, by simp, by rw [List.length_cons, Nat.add_comm], ?_⟩⟩
          have h := Hown3.out
          rw [← ints_app, Nat.add_comm 1] at h
          exact h
        case measure => simp [intOf]; omega

set_option maxHeartbeats 2000000 in
theorem rcompare_calls (l r : List Nat) (v u : Value) (w : World) (hv : DR w v l) (hu : DR w u r) :
    Calls Tryz.prog 89 #[v, u] w fun e w' => e = .returned (.int .i64 (cmpN l r)) ∧ Below w.heap.size w w' := by
  obtain ⟨A, cap, rfl, h1, h2, h3⟩ := hv
  obtain ⟨A', cap', rfl, h1', h2', h3'⟩ := hu
  have Hl := Lib.hid h3
  have Hr := Lib.hid h3'
  unfold maxLen at h2 h2'
  clear h3 h3'
  by_cases hne : l.length = r.length
  · have Hne := Lib.hid hne
    have hcmp : Hid (cmpN l r = lexN l r) := by show _ = _; unfold cmpN; rw [if_neg (by simpa using hne)]
    have hneb : ((l.length : Int) != (r.length : Int)) = false := by rw [hne]; simp
    clear hne
    go_enter Tryz.func89, Tryz.ntmps89
    go_wp2
    go_loopw [5] (fun s5 wr => ∃ i : Nat, i ≤ l.length ∧ s5 = .int .i64 (i : Nat) ∧ Hid (lexN (l.drop i) (r.drop i) = lexN l r ∧ Below w.heap.size w wr)) (fun s5 _ => l.length - (intOf s5).toNat)
    case atStart => exact ⟨0, by omega, rfl, rfl, Below.refl _ _⟩
    case round =>
      obtain ⟨i, hi, rfl, H⟩ := hrel
      obtain ⟨hlex, hB⟩ := H.out
      by_cases hil : i < l.length
      · obtain ⟨b, off, rfl, hlt, hc⟩ := Hl.out (by omega)
        have hir : i < r.length := by have := Hne.out; omega
        obtain ⟨b', off', rfl, hlt', hc'⟩ := Hr.out (by omega)
        have c1 := (hB.cell (p := ⟨b, off + i, none⟩) hlt).trans (hc i l[i] (List.getElem?_eq_getElem hil))
        have c2 := (hB.cell (p := ⟨b', off' + i, none⟩) hlt').trans (hc' i r[i] (List.getElem?_eq_getElem hir))
        rw [List.drop_eq_getElem_cons hil, List.drop_eq_getElem_cons hir, lexN] at hlex
        have Hlex := Lib.hid hlex
        have HB := Lib.hid hB
        clear hc hc' hlex hB H
        generalize l[i] = x at *
        generalize r[i] = y at *
        have hxy : x < y ∨ y < x ∨ x = y := by omega
        rcases hxy with hx | hx | hx
        · have d1 : decide ((x : Int) < (y : Int)) = true := by simp; omega
          have d2 : decide (x < y) = true := by simp; omega
          have Hx := Lib.hid hx
          clear hx
          go_wp2
          go_quiet (fail)
          go_wp2
          go_ret
          have h := Hlex.out
          rw [if_pos Hx.out] at h
          exact ⟨by rw [hcmp.out, ← h]; rfl, below_drewN HB.out nq⟩
        · have d1 : decide ((x : Int) < (y : Int)) = false := by simp; omega
          have d2 : decide (x < y) = false := by simp; omega
          have d3 : decide ((y : Int) < (x : Int)) = true := by simp; omega
          have d4 : decide (y < x) = true := by simp; omega
          have Hx := Lib.hid hx
          clear hx
          go_wp2
          go_quiet (fail)
          go_wp2
          go_quiet (fail)
          go_wp2
          go_ret
          have h := Hlex.out
          rw [if_neg (by have := Hx.out; omega), if_pos Hx.out] at h
          exact ⟨by rw [hcmp.out, ← h]; rfl, (by repeat (first | exact HB.out | refine below_drewN ?_ _))⟩
        · subst hx
          have d1 : decide ((x : Int) < (x : Int)) = false := by simp
          have d2 : decide (x < x) = false := by simp
          go_wp2
          go_quiet (fail)
          go_wp2
          go_quiet (fail)
          go_wp2
          go_roundw
          case rel =>
            have h := Hlex.out
            rw [if_neg (by omega), if_neg (by omega)] at h
            exact ⟨i + 1, hil, by go_num, h, (by repeat (first | exact HB.out | refine below_drewN ?_ _))⟩
          case measure => simp [intOf]; omega
      · have hend : lexN l r = 0 := by
          rw [← hlex, List.drop_eq_nil_of_le (by omega)]; rfl
        have HB := Lib.hid hB
        have Hend := Lib.hid hend
        clear hend hlex hB H
        go_wp2
        go_ret
        exact ⟨by rw [hcmp.out, Hend.out]; rfl, HB.out⟩
  · have hneb : ((l.length : Int) != (r.length : Int)) = true := by simpa using (by omega : ¬ (l.length : Int) = (r.length : Int))
    have hcmp : cmpN l r = if l.length < r.length then -1 else 1 := by unfold cmpN; rw [if_pos hne]
    by_cases hlt : l.length < r.length
    · rw [if_pos hlt] at hcmp
      have Hc := Lib.hid hcmp
      clear hcmp hne
      go_enter Tryz.func89, Tryz.ntmps89
      go_wp2
      go_ret
      exact ⟨by rw [Hc.out]; rfl, Below.refl _ _⟩
    · rw [if_neg hlt] at hcmp
      have Hc := Lib.hid hcmp
      clear hcmp hne
      go_enter Tryz.func89, Tryz.ntmps89
      go_wp2
      go_ret
      exact ⟨by rw [Hc.out]; rfl, Below.refl _ _⟩

end Go.Proofs.YtgoibhbmndpgpaaGreatDoor

/- The walks of the reference's amount, within, decimal, Norm. -/
set_option linter.unusedVariables false
set_option linter.unusedSimpArgs false
namespace Go.Proofs.YtgoibhbmndpgpaaGreatDoor
open Go.RowKit Dc

set_option maxHeartbeats 1000000 in
theorem ramount_calls (m : Int) (w : World) (h1 : -9223372036854775808 ≤ m) (h2 : m ≤ 9223372036854775807) :
    Calls Tryz.prog 88 #[.int .i64 m] w fun e w' => ∃ v, e = .returned v ∧ DR w' v (digs m.natAbs) ∧ Below w.heap.size w w' := by
  have hc := rdigits_calls m.natAbs w (by omega)
  by_cases h0 : m < 0
  · have hc' : Calls Tryz.prog 104 #[.int .u64 (-(m + 1) + 1)] w fun e w' => ∃ v, e = .returned v ∧ DR w' v (digs m.natAbs) ∧ Below w.heap.size w w' := by
      rwa [show ((m.natAbs : Nat) : Int) = -(m + 1) + 1 by omega] at hc
    have Hc := Lib.hid hc'
    clear hc hc'
    go_enter Tryz.func88, Tryz.ntmps88
    go_wp2_with fail
    refine Hc.out.mono ?_; rintro e w1 ⟨v, rfl, d1, b1⟩
    go_wp2
    go_ret
    exact ⟨v, rfl, d1, b1⟩
  · have hc' : Calls Tryz.prog 104 #[.int .u64 m] w fun e w' => ∃ v, e = .returned v ∧ DR w' v (digs m.natAbs) ∧ Below w.heap.size w w' := by
      rwa [show ((m.natAbs : Nat) : Int) = m by omega] at hc
    have Hc := Lib.hid hc'
    clear hc hc'
    go_enter Tryz.func88, Tryz.ntmps88
    go_wp2_with fail
    refine Hc.out.mono ?_; rintro e w1 ⟨v, rfl, d1, b1⟩
    go_wp2
    go_ret
    exact ⟨v, rfl, d1, b1⟩

end Go.Proofs.YtgoibhbmndpgpaaGreatDoor

/- The walks of the reference's Norm, Good (RefDecE's first two, where the seat holds no isDigit). -/
set_option linter.unusedVariables false
set_option linter.unusedSimpArgs false
namespace Go.Proofs.YtgoibhbmndpgpaaGreatDoor
open Go.RowKit Dc

set_option maxHeartbeats 1000000 in
theorem rgood_calls (m s : Int) (w : World) :
    Calls Tryz.prog 63 #[.agg #[.int .i64 m, .int .i64 s]] w fun e w' => e = .returned (.bool (goodD m s)) ∧ Below w.heap.size w w' := by
  have b0 := (Below.refl w.heap.size w).alloc (Nat.le_refl _) (.cells #[.int .i64 m, .int .i64 s] 44)
  have B0 := Lib.hid b0
  clear b0
  by_cases h1 : s < 0
  · have e : goodD m s = false := by unfold goodD; simp; omega
    rw [e]; clear e
    go_enter Tryz.func63, Tryz.ntmps63
    go_wp2
    go_ret
    exact ⟨rfl, B0.out⟩
  by_cases h2 : s > 18
  · have e : goodD m s = false := by unfold goodD; simp; omega
    rw [e]; clear e
    go_enter Tryz.func63, Tryz.ntmps63
    go_wp2
    go_ret
    exact ⟨rfl, B0.out⟩
  by_cases h3 : m = -9223372036854775808
  · have e : goodD m s = false := by unfold goodD; simp; omega
    rw [e]; clear e
    subst h3
    go_enter Tryz.func63, Tryz.ntmps63
    go_wp2
    go_ret
    exact ⟨rfl, B0.out⟩
  have h3b : (m != -9223372036854775808) = true := by simpa using h3
  by_cases h4 : s = 0
  · have e : goodD m s = true := (goodD_iff m s).2 ⟨by omega, by omega, h3, Or.inl h4⟩
    rw [e]; clear e
    subst h4
    go_enter Tryz.func63, Tryz.ntmps63
    go_wp2
    go_ret
    exact ⟨rfl, B0.out⟩
  have h4b : (s == 0) = false := by simpa using h4
  by_cases h5 : m.tmod 10 = 0
  · have e : goodD m s = false := by unfold goodD; simp; omega
    rw [e]; clear e
    go_enter Tryz.func63, Tryz.ntmps63
    go_wp2
    go_ret
    exact ⟨rfl, B0.out⟩
  · have e : goodD m s = true := (goodD_iff m s).2 ⟨by omega, by omega, h3, Or.inr h5⟩
    rw [e]; clear e
    have h5b : (m.tmod 10 != 0) = true := by simpa using h5
    go_enter Tryz.func63, Tryz.ntmps63
    go_wp2
    go_ret
    exact ⟨rfl, B0.out⟩

theorem DR.drew {w : World} {v : Value} {l : List Nat} (h : DR w v l) : DR w.drew v l := h
end Go.Proofs.YtgoibhbmndpgpaaGreatDoor
