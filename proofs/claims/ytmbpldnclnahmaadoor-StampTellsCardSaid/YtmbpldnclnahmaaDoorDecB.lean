/- The walks of package dec's skip, and of strings.HasPrefix, TrimLeft, TrimRight at one byte. -/
import Derived.Test.YtmbpldnclnahmaaDoorDecA
import Derived.Test.YtmbpldnclnahmaaDoorStr
set_option linter.unusedVariables false
set_option linter.unusedSimpArgs false
namespace Go.Proofs.YtmbpldnclnahmaaDoor
open Go.RowKit Dc

theorem drop_at (s : ByteArray) (k : Nat) (h : k < s.size) : s.data.toList.drop k = s[k] :: s.data.toList.drop (k + 1) := by
  have hl : k < s.data.toList.length := by rw [← Lib.size_eq]; exact h
  rw [List.drop_eq_getElem_cons hl]; rfl
theorem byte_lt (c : UInt8) : (c.toNat : Int) ≤ 255 := by have := UInt8.toNat_lt c; omega

set_option maxHeartbeats 1000000 in
theorem skip_calls (s : ByteArray) (i : Nat) (w : World) (hi : i ≤ s.size) (hs : s.size ≤ maxLen) :
    Calls Tryd.prog 55 #[.string s, .int .i64 i] w fun e w' => e = .returned (.int .i64 ((i + dgN (s.data.toList.drop i) : Nat) : Int)) ∧ w = w' := by
  have hs' := hs
  unfold maxLen at hs'
  go_enter Tryd.func55, Tryd.ntmps55
  go_wp2
  go_loop [1] (fun v => ∃ k : Nat, k ≤ s.size ∧ v = .int .i64 (k : Int) ∧ Hid (i + dgN (s.data.toList.drop i) = k + dgN (s.data.toList.drop k))) (fun v => s.size - (intOf v).toNat)
  case atStart => exact ⟨i, hi, rfl, rfl⟩
  case round =>
    obtain ⟨k, hk, rfl, H⟩ := hrel
    by_cases hks : k < s.size
    · have hd := Lib.hid (drop_at s k hks)
      have hb := byte_lt s[k]
      by_cases h1 : 48 ≤ (s[k].toNat : Int)
      · by_cases h2 : (s[k].toNat : Int) ≤ 57
        · have hg : dg s[k] = true := (dg_iff _).2 ⟨by omega, by omega⟩
          have Hg := Lib.hid hg
          clear hg
          go_wp2
          go_round
          case rel => exact ⟨k + 1, hks, by go_num, by have h := H.out; rw [hd.out, dgN_cons, if_pos Hg.out] at h; show _ = _; omega⟩
          case measure => simp [intOf]; omega
        · have hg : dg s[k] = false := by unfold dg; simp; omega
          have Hg := Lib.hid hg
          clear hg
          go_wp2
          go_ret
          have h := H.out
          rw [hd.out, dgN_cons, if_neg (by rw [Hg.out]; simp)] at h
          exact ⟨ret_int (by omega), rfl⟩
      · have hg : dg s[k] = false := by unfold dg; simp; omega
        have Hg := Lib.hid hg
        clear hg
        go_wp2
        go_ret
        have h := H.out
        rw [hd.out, dgN_cons, if_neg (by rw [Hg.out]; simp)] at h
        exact ⟨ret_int (by omega), rfl⟩
    · obtain rfl : k = s.size := by omega
      go_wp2
      go_ret
      have h := H.out
      rw [List.drop_eq_nil_of_le (show s.data.toList.length ≤ s.size by rw [← Lib.size_eq]; exact Nat.le_refl _)] at h
      exact ⟨ret_int (by rw [show dgN [] = 0 from rfl] at h; omega), rfl⟩

theorem tl (b : ByteArray) : b.toList = b.data.toList := by cases b; exact ByteArray.toList_mk _
theorem sg_ne (c : UInt8) (l : List UInt8) (h : c ≠ 45) : sg (c :: l) = 0 := by
  rcases sg_cases (c :: l) with ⟨r, e, _⟩ | ⟨h1, _⟩
  · injection e with e1 e2; exact absurd e1 h
  · exact h1
theorem pre_bool (s : ByteArray) (h : 1 ≤ s.size) : ((s.extract 0 1).toList == [45]) = decide (sg s.data.toList = 1) := by
  rw [tl, ext_list, List.drop_zero]
  have hd := drop_at s 0 h
  rw [List.drop_zero] at hd
  rw [hd, List.take_succ_cons, List.take_zero]
  by_cases hc : s[0] = 45
  · rw [hc]; rfl
  · rw [sg_ne _ _ hc]
    simpa using hc
set_option maxHeartbeats 1000000 in
theorem pre_calls (s : ByteArray) (w : World) :
    Calls Tryd.prog 61 #[.string s, .string ⟨#[45]⟩] w fun e w' => e = .returned (.bool (decide (sg s.data.toList = 1))) ∧ w = w' := by
  by_cases h : 1 ≤ s.size
  · have hb := Lib.hid (pre_bool s h)
    go_enter Tryd.func61, Tryd.ntmps61
    go_wp2
    go_ret
    exact ⟨ret_bool hb.out, rfl⟩
  · obtain rfl : s = ByteArray.empty := ByteArray.ext (by
      have : s.data.size = 0 := by show s.size = 0; omega
      rw [Array.eq_empty_of_size_eq_zero this]; rfl)
    go_enter Tryd.func61, Tryd.ntmps61
    go_wp2
    go_ret
    exact ⟨rfl, rfl⟩

set_option maxHeartbeats 1000000 in
theorem prefix_calls (s : ByteArray) (w : World) :
    Calls Tryd.prog 54 #[.string s, .string ⟨#[45]⟩] w fun e w' => e = .returned (.bool (decide (sg s.data.toList = 1))) ∧ w = w' := by
  go_enter Tryd.func54, Tryd.ntmps54
  go_wp2_with fail
  refine (pre_calls s _).mono ?_; rintro e w' ⟨rfl, rfl⟩
  go_wp2
  go_ret
  exact ⟨rfl, rfl⟩

set_option maxHeartbeats 1000000 in
theorem tlb_calls (l : List UInt8) (c : UInt8) (w : World) (hs : l.length ≤ 140737488351232) :
    Calls Tryd.prog 62 #[.string (str l), .int .u8 c.toNat] w fun e w' => e = .returned (.string (str (trimL c l))) ∧ w = w' := by
  go_enter Tryd.func62, Tryd.ntmps62
  go_wp2
  go_loop [0] (fun v => ∃ r : List UInt8, r.length ≤ l.length ∧ v = .string (str r) ∧ Hid (trimL c l = trimL c r)) (fun v => match v with | .string b => b.size | _ => 0)
  case atStart => exact ⟨l, Nat.le_refl _, rfl, rfl⟩
  case round =>
    obtain ⟨r, hr, rfl, H⟩ := hrel
    cases r with
    | nil =>
      go_wp2
      go_ret
      have h := H.out
      exact ⟨by rw [h]; rfl, rfl⟩
    | cons x r =>
      have hz := str_size (x :: r)
      rw [List.length_cons] at hz hr
      have hx := str_head x r (by rw [hz]; omega)
      have ht := str_tail x r
      by_cases hc : x = c
      · subst hc
        go_wp2
        go_round
        case rel => exact ⟨r, by omega, rfl, by have h := H.out; rw [trimL, if_pos rfl] at h; exact h⟩
        case measure => show (str r).size < (str (x :: r)).size; rw [str_size, str_size]; simp
      · have d := byte_ne hc
        go_wp2
        go_ret
        have h := H.out
        rw [trimL, if_neg hc] at h
        exact ⟨by rw [h]; rfl, rfl⟩

set_option maxHeartbeats 1000000 in
theorem trb_calls (l : List UInt8) (c : UInt8) (w : World) (hs : l.length ≤ 140737488351232) :
    Calls Tryd.prog 66 #[.string (str l), .int .u8 c.toNat] w fun e w' => e = .returned (.string (str (trimR c l))) ∧ w = w' := by
  go_enter Tryd.func66, Tryd.ntmps66
  go_wp2
  go_loop [0] (fun v => ∃ r : List UInt8, r.length ≤ l.length ∧ v = .string (str r) ∧ Hid (trimR c l = trimR c r)) (fun v => match v with | .string b => b.size | _ => 0)
  case atStart => exact ⟨l, Nat.le_refl _, rfl, rfl⟩
  case round =>
    obtain ⟨r, hr, rfl, H⟩ := hrel
    rcases List.eq_nil_or_concat r with rfl | ⟨i, x, hx⟩
    · go_wp2
      go_ret
      have h := H.out
      exact ⟨by rw [h]; rfl, rfl⟩
    · obtain rfl : r = i ++ [x] := by simpa using hx
      obtain ⟨S, n, hS, hz, ⟨hlt, hx⟩, ht⟩ : ∃ (S : ByteArray) (n : Nat), Hid (S = str (i ++ [x]) ∧ n = i.length) ∧ S.size = n + 1 ∧ (∃ h : n < S.size, S[n] = x) ∧ S.extract 0 n = str i := by
        have hz := str_size (i ++ [x])
        rw [List.length_append, List.length_singleton] at hz
        exact ⟨_, _, ⟨rfl, rfl⟩, hz, ⟨by omega, str_last i x (by omega)⟩, str_init i x⟩
      rw [← hS.out.1]
      have e1 : ((n + 1 : Nat) : Int) - 1 = (n : Int) := by omega
      have hil : i.length ≤ l.length := by rw [List.length_append] at hr; omega
      have hnl : n + 1 ≤ l.length := by rw [List.length_append, List.length_singleton] at hr; have := hS.out.2; omega
      by_cases hc : x = c
      · subst hc
        go_wp2
        go_round
        case rel => exact ⟨i, hil, rfl, by have h := H.out; rw [trimR_snoc] at h; exact h⟩
        case measure => show (str i).size < S.size; rw [str_size, hz, hS.out.2]; omega
      · have d := byte_ne hc
        go_wp2
        go_ret
        have h := H.out
        rw [trimR_stop c x i hc] at h
        exact ⟨by rw [h, ← hS.out.1]; rfl, rfl⟩

theorem str_nil_bool (l : List UInt8) (h : l ≠ []) : l.isEmpty = false := by
  cases l with
  | nil => exact absurd rfl h
  | cons x l => rfl
set_option maxRecDepth 100000 in
set_option maxHeartbeats 1000000 in
theorem tleft_calls (l : List UInt8) (w : World) (hs : l.length ≤ 140737488351232) :
    Calls Tryd.prog 56 #[.string (str l), .string ⟨#[48]⟩] w fun e w' => e = .returned (.string (str (trimL 48 l))) ∧ w = w' := by
  by_cases h : l = []
  · subst h
    go_enter Tryd.func56, Tryd.ntmps56
    go_wp2
    go_ret
    exact ⟨rfl, rfl⟩
  · have hb := str_nil_bool l h
    have h48 : ∀ W, Calls Tryd.prog 62 #[.string (str l), .int .u8 48] W fun e w' => e = .returned (.string (str (trimL 48 l))) ∧ W = w' := fun W => tlb_calls l 48 W hs
    go_enter Tryd.func56, Tryd.ntmps56
    go_wp2_with fail
    refine (h48 _).mono ?_; rintro e w' ⟨rfl, rfl⟩
    go_wp2
    go_ret
    exact ⟨rfl, rfl⟩
set_option maxRecDepth 100000 in
set_option maxHeartbeats 1000000 in
theorem tright_calls (l : List UInt8) (w : World) (hs : l.length ≤ 140737488351232) :
    Calls Tryd.prog 57 #[.string (str l), .string ⟨#[48]⟩] w fun e w' => e = .returned (.string (str (trimR 48 l))) ∧ w = w' := by
  by_cases h : l = []
  · subst h
    go_enter Tryd.func57, Tryd.ntmps57
    go_wp2
    go_ret
    exact ⟨rfl, rfl⟩
  · have hb := str_nil_bool l h
    have h48 : ∀ W, Calls Tryd.prog 66 #[.string (str l), .int .u8 48] W fun e w' => e = .returned (.string (str (trimR 48 l))) ∧ W = w' := fun W => trb_calls l 48 W hs
    go_enter Tryd.func57, Tryd.ntmps57
    go_wp2_with fail
    refine (h48 _).mono ?_; rintro e w' ⟨rfl, rfl⟩
    go_wp2
    go_ret
    exact ⟨rfl, rfl⟩

end Go.Proofs.YtmbpldnclnahmaaDoor
