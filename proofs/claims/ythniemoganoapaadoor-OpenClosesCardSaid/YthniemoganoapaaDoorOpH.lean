/- The walk of the cursor's sample of package openword (layer 17). -/
import Derived.Test.YthniemoganoapaaDoorOpG
set_option maxRecDepth 100000
set_option linter.unusedVariables false
set_option linter.unusedSimpArgs false
namespace Go.Proofs.YthniemoganoapaaDoor
open Go.RowKit
attribute [local go_sem ↓] Go.wp_at_zero Go.wp_at_succ

set_option maxHeartbeats 16000000 in
theorem osample_calls (b br k : Nat) (s : List UInt8) (w : World) (nm : List UInt8) (off : Nat) (h : SmAt w w b br s k ⟨0, nm, off, [], [], 0, false, [], 0⟩ (.slice none 0 0) []) (hs : s.length ≤ 1900) :
    Calls Tryd.prog 53 #[.pointer (some ⟨b, 0, none⟩), .pointer (some ⟨br, 0, none⟩)] w fun e w' => SmP w b br s k (Ow.body0 s.length off nm (s.drop k)) e w' := by
  have hm : s.length ≤ maxLen := by unfold maxLen; omega
  have HT := Lib.hid (fun (t : UInt8) j W (hW : Cur W b s j) => take_calls t b j s W hW hm)
  have HN := Lib.hid (fun j W (hW : Cur W b s j) => onumber_calls b j s W hW hm)
  have HTg := Lib.hid (otags_calls b k s w h.C hs)
  obtain ⟨o, ho⟩ : ∃ o, o = Ow.body0 s.length off nm (s.drop k) := ⟨_, rfl⟩
  rw [← ho]
  have HO := Lib.hid (show o = (Ow.tagsO s.length (s.drop k)).bind fun tg r2 => (Ow.lit [32] r2).bind fun _ r3 => (Ow.num false r3).bind fun tx r4 =>
    if r4.head? = some 32 then (Ow.num false r4.tail).bind fun tm r5 => .ok ⟨0, nm, off, tg, tx, s.length - r3.length, true, tm, s.length - r4.tail.length⟩ r5
    else .ok ⟨0, nm, off, tg, tx, s.length - r3.length, false, [], 0⟩ r4 from ho)
  have S := Lib.hid h
  have HK := Lib.hid (fun j (hj : j ≤ s.length) => show s.length - (s.drop j).length = j by rw [List.length_drop]; omega)
  clear ho hm h
  go_enter Tryd.func53, Tryd.ntmps53
  go_wp2_with fail
  refine HTg.out.mono ?_; rintro e w1 ⟨⟨A, n, cap, M, rfl, hW, hx⟩, g1, j, hkj, hj, H1⟩
  have S1 := Lib.hid (S.out.tags g1 H1 hW)
  obtain ⟨z0, z1, z2, z3, z4, z5, z6, z7, z8, z9, zf, zl⟩ := (S.out.call g1 H1).R
  clear g1 H1 hW HTg S
  cases hP : Ow.tagsO s.length (s.drop k) with
  | fell r =>
    rw [hP] at hj HO
    obtain rfl : r = s.drop j := hj
    have hr := Lib.hid (show o = .fell (s.drop j) from HO.out)
    clear HO hP
    go_wp2
    go_ret
    exact ⟨_, _, _, _, _, false, rfl, ⟨j, hkj, by rw [hr.out]; rfl, S1.out⟩, fun R r e => (by rw [hr.out] at e; cases e), fun r e ht => (by cases ht)⟩
  | ok tg r =>
    rw [hP] at hj HO
    obtain rfl : r = s.drop j := hj
    obtain rfl : M = tg := hx _ _ hP
    have HO2 := Lib.hid (show o = (Ow.lit [32] (s.drop j)).bind fun _ r3 => (Ow.num false r3).bind fun tx r4 =>
      if r4.head? = some 32 then (Ow.num false r4.tail).bind fun tm r5 => .ok ⟨0, nm, off, M, tx, s.length - r3.length, true, tm, s.length - r4.tail.length⟩ r5
      else .ok ⟨0, nm, off, M, tx, s.length - r3.length, false, [], 0⟩ r4 from HO.out)
    clear HO hP hx
    go_wp2_with fail
    clear z0 z1 z2 z3 z4 z5 z6 z7 z8 z9 zf zl
    refine (HT.out 32 j _ S1.out.C).mono ?_; rintro e w2 ⟨rfl, g2, j2, hj2, hd2, H2⟩
    have S2 := Lib.hid (S1.out.call g2 H2)
    clear g2 H2 S1
    cases hP : Ow.lit [32] (s.drop j) with
    | fell r =>
      rw [hP] at hd2 HO2
      obtain rfl : r = s.drop j2 := hd2
      have hr := Lib.hid (show o = .fell (s.drop j2) from HO2.out)
      clear HO2 hP
      go_wp2
      go_ret
      exact ⟨_, _, _, _, _, false, rfl, ⟨j2, by omega, by rw [hr.out]; rfl, S2.out⟩, fun R r e => (by rw [hr.out] at e; cases e), fun r e ht => (by cases ht)⟩
    | ok u r =>
      rw [hP] at hd2 HO2
      obtain rfl : r = s.drop j2 := hd2
      have HO3 := Lib.hid (show o = (Ow.num false (s.drop j2)).bind fun tx r4 =>
        if r4.head? = some 32 then (Ow.num false r4.tail).bind fun tm r5 => .ok ⟨0, nm, off, M, tx, s.length - (s.drop j2).length, true, tm, s.length - r4.tail.length⟩ r5
        else .ok ⟨0, nm, off, M, tx, s.length - (s.drop j2).length, false, [], 0⟩ r4 from HO2.out)
      rw [HK.out j2 S2.out.C.le] at HO3
      have S3 := Lib.hid (S2.out.sto (S2.out.R.set6 j2))
      obtain ⟨c0, c1, cf, cl, -, -⟩ := S2.out.C
      obtain ⟨z0, z1, z2, z3, z4, z5, z6, z7, z8, z9, zf, zl⟩ := S2.out.R
      clear HO2 hP S2
      go_wp2_with fail
      clear z0 z1 z2 z3 z4 z5 z6 z7 z8 z9 zf zl c0 c1 cf cl
      refine (HN.out j2 _ S3.out.C).mono ?_; rintro e w4 ⟨⟨x, rfl, hx⟩, g4, j4, hj4, hd4, H4⟩
      obtain ⟨tx, rfl⟩ := text_is x
      have S4 := Lib.hid (S3.out.call g4 H4)
      have S5 := Lib.hid (S4.out.sto (S4.out.R.set5 tx))
      obtain ⟨z0, z1, z2, z3, z4, z5, z6, z7, z8, z9, zf, zl⟩ := S4.out.R
      clear g4 H4 S3 S4
      cases hP : Ow.num false (s.drop j2) with
      | fell r =>
        rw [hP] at hd4 HO3
        obtain rfl : r = s.drop j4 := hd4
        have hr := Lib.hid (show o = .fell (s.drop j4) from HO3.out)
        clear HO3 hP
        go_wp2
        go_ret
        exact ⟨_, _, _, _, _, false, rfl, ⟨j4, by omega, by rw [hr.out]; rfl, S5.out⟩, fun R r e => (by rw [hr.out] at e; cases e), fun r e ht => (by cases ht)⟩
      | ok tx2 r =>
        rw [hP] at hd4 HO3
        obtain rfl : r = s.drop j4 := hd4
        obtain rfl := str_inj (hx _ _ hP)
        have HO4 := Lib.hid (show o = if (s.drop j4).head? = some 32 then (Ow.num false (s.drop j4).tail).bind fun tm r5 => .ok ⟨0, nm, off, M, tx, j2, true, tm, s.length - (s.drop j4).tail.length⟩ r5
          else .ok ⟨0, nm, off, M, tx, j2, false, [], 0⟩ (s.drop j4) from HO3.out)
        clear HO3 hP hx
        go_wp2_with fail
        clear z0 z1 z2 z3 z4 z5 z6 z7 z8 z9 zf zl
        refine (HT.out 32 j4 _ S5.out.C).mono ?_; rintro e w6 ⟨rfl, g6, j6, hj6, hd6, H6⟩
        rw [Ow.lit1_rest] at hd6
        rw [Ow.lit1_okB]
        have S6 := Lib.hid (S5.out.call g6 H6)
        have le6 := H6.le
        have le5 := S5.out.C.le
        clear g6 H6 S5
        by_cases q : (s.drop j4).head? = some 32
        rotate_left
        · rw [if_neg q] at hd6 HO4
          rw [decide_eq_false q]
          have hr := Lib.hid (show o = .ok ⟨0, nm, off, M, tx, j2, false, [], 0⟩ (s.drop j6) by rw [HO4.out, hd6])
          clear q hd6 HO4
          go_wp2
          go_ret
          exact ⟨_, _, _, _, _, _, rfl, ⟨j6, by omega, by rw [hr.out]; rfl, S6.out⟩, fun R r e => (by rw [hr.out] at e; injection e with e1 e2; exact ⟨rfl, e1, by rw [← e1]⟩), fun r e ht => (by rw [hr.out] at e; cases e)⟩
        rw [if_pos q] at hd6 HO4
        rw [decide_eq_true q]
        rw [hd6] at HO4
        rw [HK.out j6 le6] at HO4
        clear q hd6
        have S7 := Lib.hid (S6.out.sto (S6.out.R.set7 true))
        have S8 := Lib.hid (S7.out.sto (S7.out.R.set9 j6))
        obtain ⟨c0, c1, cf, cl, -, -⟩ := S6.out.C
        obtain ⟨z0, z1, z2, z3, z4, z5, z6, z7, z8, z9, zf, zl⟩ := S6.out.R
        clear S6 S7
        go_wp2_with fail
        clear z0 z1 z2 z3 z4 z5 z6 z7 z8 z9 zf zl c0 c1 cf cl
        refine (HN.out j6 _ S8.out.C).mono ?_; rintro e w9 ⟨⟨x, rfl, hx⟩, g9, j9, hj9, hd9, H9⟩
        obtain ⟨tm, rfl⟩ := text_is x
        have S9 := Lib.hid (S8.out.call g9 H9)
        have SA := Lib.hid (S9.out.sto (S9.out.R.set8 tm))
        obtain ⟨z0, z1, z2, z3, z4, z5, z6, z7, z8, z9, zf, zl⟩ := S9.out.R
        clear g9 H9 S8 S9
        go_wp2
        go_ret
        refine ⟨_, _, _, _, _, _, rfl, ⟨j9, by omega, ?_, SA.out⟩, fun R r e => ?_, fun r e ht => ?_⟩
        · rw [HO4.out, ← hd9]; cases Ow.num false (s.drop j6) <;> rfl
        · rw [HO4.out] at e
          cases hq : Ow.num false (s.drop j6) with
          | fell r => rw [hq] at e; cases e
          | ok v r =>
            rw [hq] at e
            obtain rfl := str_inj (hx v r hq)
            injection e with e1 e2
            exact ⟨rfl, e1, by rw [← e1]⟩
        · rw [HO4.out] at e
          cases hq : Ow.num false (s.drop j6) with
          | fell r => rw [hq] at ht; cases ht
          | ok v r => rw [hq] at e; cases e

end Go.Proofs.YthniemoganoapaaDoor
