/- The walk of Scan's Str (layer 17, the reference). -/
import Derived.Test.YthniemoganoapaaDoorRefOwE
set_option maxRecDepth 100000
set_option linter.unusedVariables false
set_option linter.unusedSimpArgs false
namespace Go.Proofs.YthniemoganoapaaDoor
open Go.RowKit
attribute [local go_sem ↓] Go.wp_at_zero Go.wp_at_succ

theorem ScA.belowB {w w' : World} {b B : Nat} {s : List UInt8} {k : Nat} {f : Bool} (h : ScA w b s k f) (hb : Below B w w') (hlt : b < B) : ScA w' b s k f :=
  ⟨(hb.cell (p := ⟨b, 0, none⟩) hlt).trans h.c0, (hb.cell (p := ⟨b, 1, none⟩) hlt).trans h.c1, (hb.cell (p := ⟨b, 2, none⟩) hlt).trans h.c2, fun o => (hb.frozen (p := ⟨b, o, none⟩) hlt).trans (h.fr o), Nat.lt_of_lt_of_le h.lt hb.size⟩

set_option maxHeartbeats 16000000 in
theorem scstr_calls {α : Type} (o : Ow.Out α) (e : UInt8) (bad marks : List UInt8) (n : UInt8) (b : Nat) (s : List UInt8) (w : World) (h : ScO w b s o) (he : (92 : UInt8) ≠ e) (hb : bad.length ≤ maxLen) (hm : marks.length ≤ maxLen) (hs : s.length ≤ 10000) :
    Calls Tryd.prog 31 #[.pointer (some ⟨b, 0, none⟩), .int .u8 (e.toNat : Int), .string (str bad), .string (str marks), .int .u8 (n.toNat : Int)] w fun en w' =>
      (∃ x, en = .returned (.string x) ∧ ∀ v r, (o.bind fun _ r => Ow.str e bad marks n r) = .ok v r → x = str v) ∧ w.grownBy w' (some b) ∧ ScO w' b s (o.bind fun _ r => Ow.str e bad marks n r) := by
  have hss := str_size s
  obtain ⟨i0, hi, hz0, hz1, hz2⟩ := info_parts (P := Tryd.prog) (t := 5) (z := .int .u8 0) (n := 1) (m := 1) (by kernel_rfl)
  have Hi := Lib.hid (And.intro hi (And.intro hz0 (And.intro hz1 hz2)))
  clear hi hz0 hz1 hz2
  obtain ⟨P, hP⟩ : ∃ P, P = o.bind fun _ r => Ow.str e bad marks n r := ⟨_, rfl⟩
  rw [← hP]
  obtain ⟨hsuf, hn⟩ := h
  have hd0 := Ow.suf_at hsuf
  have hkl : s.length - o.rest.length ≤ s.length := Nat.sub_le _ _
  have hP0 : P = if Ow.fellB o = true then .fell (s.drop (s.length - o.rest.length)) else (Ow.str e bad marks n (s.drop (s.length - o.rest.length))).map (([] : List UInt8) ++ ·) := by
    rw [hP, hd0]
    cases o with
    | fell r => rfl
    | ok v r =>
      show Ow.str e bad marks n r = _
      show _ = (Ow.str e bad marks n r).map (([] : List UInt8) ++ ·)
      cases Ow.str e bad marks n r <;> rfl
  clear hP hsuf hd0
  generalize s.length - o.rest.length = j at *
  generalize Ow.fellB o = f at *
  have HI := Lib.hid (show StI w w b s j f (.slice none 0 0) [] from ⟨hn, sc_below (Below.refl _ _) _, World.ownsRow_nil w w.heap.size 5 1, hn.lt⟩)
  have HP := Lib.hid hP0
  have HB := Lib.hid (fun (c : UInt8) W => has_calls bad c W hb)
  have HM := Lib.hid (fun (c : UInt8) W => has_calls marks c W hm)
  have HE := Lib.hid he
  clear hP0 hn hb hm he
  go_enter Tryd.func31, Tryd.ntmps31
  go_wp2_with fail
  go_loopg [11] (2 * (s.length - j) + 1) (fun g v11 wr => ∃ (k : Nat) (f : Bool) (out : List UInt8) (vo : Value), v11 = vo ∧ Hid (2 * (s.length - k) + (if f = true then 0 else 1) ≤ g) ∧ k ≤ s.length ∧ out.length ≤ k ∧ Hid (StI w wr b s k f vo out) ∧ Hid (P = if f = true then .fell (s.drop k) else (Ow.str e bad marks n (s.drop k)).map (out ++ ·)))
  case atStart => exact ⟨j, f, [], _, rfl, Lib.hid (by cases f <;> simp), hkl, Nat.zero_le _, HI, HP⟩
  case round =>
    clear HI HP hkl
    obtain ⟨k, f, out, vo, hv11, HGk, hk, hol, HI, HP⟩ := hrel
    obtain rfl := hv11.symm
    obtain ⟨c0, c1, c2, fr, lt⟩ := HI.out.sc
    cases f with
    | true =>
      have hr : Hid (P = .fell (s.drop k)) := HP
      clear HP
      go_upto_region 2 with fail
      go_quiet (fail)
      by_cases hks : k < s.length
      · have d1 : decide ((s.length : Int) ≤ (k : Int)) = false := decide_eq_false (by omega)
        have hconv : ∀ m, (convert 72 9 vo).run Tryd.prog (wr.drewN m) = .ok (.string (str out)) (wr.drewN m) := fun m => econv_own (HI.out.drewN m).own
        go_upto_region 19 with fail
        go_quiet (fail)
        go_wp2
        go_ret
        exact ⟨⟨_, rfl, fun v r q => by rw [hr.out] at q; cases q⟩, (HI.out.drewN _).gr, (HI.out.drewN _).sc.toO hk (by rw [hr.out]; rfl) (by rw [hr.out]; rfl)⟩
      · have d1 : decide ((s.length : Int) ≤ (k : Int)) = true := decide_eq_true (by omega)
        have hconv : ∀ m, (convert 72 9 vo).run Tryd.prog ((wr.drewN m).setCell ⟨b, 2, none⟩ (.bool true)) = .ok (.string (str out)) ((wr.drewN m).setCell ⟨b, 2, none⟩ (.bool true)) := fun m => econv_own ((HI.out.drewN m).setF true).own
        go_upto_region 19 with fail
        go_quiet (fail)
        go_wp2
        go_ret
        exact ⟨⟨_, rfl, fun v r q => by rw [hr.out] at q; cases q⟩, ((HI.out.drewN _).setF true).gr, ((HI.out.drewN _).setF true).sc.toO hk (by rw [hr.out]; rfl) (by rw [hr.out]; rfl)⟩
    | false =>
      have hP1 : P = (Ow.str e bad marks n (s.drop k)).map (out ++ ·) := HP.out
      by_cases hks : k < s.length
      rotate_left
      · have d0 : decide ((k : Int) < (s.length : Int)) = false := decide_eq_false (by omega)
        have d1 : decide ((s.length : Int) ≤ (k : Int)) = true := decide_eq_true (by omega)
        have hr : Hid (P = .fell (s.drop k)) := Lib.hid (by rw [hP1, List.drop_of_length_le (show s.length ≤ k by omega), Ow.str_nil]; rfl)
        have hconv : ∀ m, (convert 72 9 vo).run Tryd.prog ((wr.drewN m).setCell ⟨b, 2, none⟩ (.bool true)) = .ok (.string (str out)) ((wr.drewN m).setCell ⟨b, 2, none⟩ (.bool true)) := fun m => econv_own ((HI.out.drewN m).setF true).own
        clear HP hP1
        go_upto_region 2 with fail
        go_quiet (fail)
        go_upto_region 19 with fail
        go_quiet (fail)
        go_wp2
        go_ret
        exact ⟨⟨_, rfl, fun v r q => by rw [hr.out] at q; cases q⟩, ((HI.out.drewN _).setF true).gr, ((HI.out.drewN _).setF true).sc.toO hk (by rw [hr.out]; rfl) (by rw [hr.out]; rfl)⟩
      have d0 : decide ((k : Int) < (s.length : Int)) = true := decide_eq_true (by omega)
      have d1 : decide ((s.length : Int) ≤ (k : Int)) = false := decide_eq_false (by omega)
      have hin : k < (str s).size := by rw [hss]; exact hks
      have hd : s.drop k = (str s)[k]'hin :: s.drop (k + 1) := List.drop_eq_getElem_cons hks
      by_cases x1 : ((str s)[k].toNat : Int) = (e.toNat : Int)
      · have e1 : (((str s)[k].toNat : Int) != (e.toNat : Int)) = false := by simp [x1]
        have hce : (str s)[k]'hin = e := UInt8.toNat_inj.1 (by omega)
        have hr : Hid (P = .ok out (s.drop k)) := Lib.hid (by rw [hP1, hd, hce, Ow.str_end]; show Ow.Out.ok (out ++ []) _ = _; rw [List.append_nil])
        have hconv : ∀ m, (convert 72 9 vo).run Tryd.prog (wr.drewN m) = .ok (.string (str out)) (wr.drewN m) := fun m => econv_own (HI.out.drewN m).own
        clear HP hP1 hd hce x1
        go_upto_region 2 with fail
        go_quiet (fail)
        go_upto_region 19 with fail
        go_quiet (fail)
        go_wp2
        go_ret
        exact ⟨⟨_, rfl, fun v r q => by rw [hr.out] at q; injection q with q1 q2; rw [q1]⟩, (HI.out.drewN _).gr, (HI.out.drewN _).sc.toO hk (by rw [hr.out]; rfl) (by rw [hr.out]; rfl)⟩
      have e1 : (((str s)[k].toNat : Int) != (e.toNat : Int)) = true := by simp [x1]
      have hne : ¬ (str s)[k]'hin = e := fun q => x1 (by rw [q])
      clear HP
      go_upto_region 2 with fail
      go_quiet (fail)
      have HI00 : StI w (wr.drewN nq) b s _ _ _ _ := HI.out.drewN nq
      obtain ⟨W0, hW0⟩ : ∃ X, X = wr.drewN nq := ⟨_, rfl⟩
      rw [← hW0] at HI00 ⊢
      have HI0 := Lib.hid HI00
      clear hW0 HI00 HI c0 c1 c2 fr lt
      obtain ⟨c0, c1, c2, fr, lt⟩ := HI0.out.sc

      go_upto_region 3 with fail
      go_quiet (fail)
      have HI10 : StI w (W0.drewN nq) b s _ _ _ _ := HI0.out.drewN nq
      obtain ⟨W1, hW1⟩ : ∃ X, X = W0.drewN nq := ⟨_, rfl⟩
      rw [← hW1] at HI10 ⊢
      have HI1 := Lib.hid HI10
      clear hW1 HI10 HI0 c0 c1 c2 fr lt
      obtain ⟨c0, c1, c2, fr, lt⟩ := HI1.out.sc

      by_cases x2 : ((str s)[k].toNat : Int) = 92
      · have b2 : (((str s)[k].toNat : Int) == 92) = true := beq_iff_eq.2 x2
        have hc92 : (str s)[k]'hin = 92 := UInt8.toNat_inj.1 (by show _ = 92; omega)
        have hwk : IntKind.i64.wrap ((k : Int) + 1) = ((k + 1 : Nat) : Int) := by rw [show (k : Int) + 1 = ((k + 1 : Nat) : Int) by omega]; exact IntWalk.i64_in _ (by omega)
        rw [hd, hc92] at hP1
        have HP2 := Lib.hid hP1
        clear hP1 hd hc92 x1 x2 d0 d1 hne
        go_upto_region 6 with fail
        have HI20 : StI w (W1.setCell ⟨b, 1, none⟩ (.int .i64 ((k : Int) + 1))) b s _ _ _ _ := HI1.out.move (k + 1)
        obtain ⟨W2, hW2⟩ : ∃ X, X = W1.setCell ⟨b, 1, none⟩ (.int .i64 ((k : Int) + 1)) := ⟨_, rfl⟩
        rw [← hW2] at HI20 ⊢
        have HI2 := Lib.hid HI20
        clear hW2 HI20 HI1 hwk c0 c1 c2 fr lt
        obtain ⟨c0, c1, c2, fr, lt⟩ := HI2.out.sc

        obtain ⟨k1, hk1e⟩ : ∃ k1, k1 = k + 1 := ⟨_, rfl⟩
        have HP3 : Hid (P = (Ow.str e bad marks n (92 :: s.drop k1)).map (out ++ ·)) := Lib.hid (by rw [hk1e]; exact HP2.out)
        have HI3 : Hid (StI w W2 b s k1 false vo out) := Lib.hid (by rw [hk1e]; exact HI2.out)
        have hkk1 : k1 ≤ k + 1 := by omega
        have hkk2 : k + 1 ≤ k1 := by omega
        clear HP2 HI2 hk1e c0 c1 c2 fr lt
        have HP2 := HP3
        have HI2 := HI3
        clear HP3 HI3
        obtain ⟨c0, c1, c2, fr, lt⟩ := HI2.out.sc
        by_cases hk1 : k1 < s.length
        rotate_left
        · have d2 : decide ((s.length : Int) ≤ ((k1 : Nat) : Int)) = true := decide_eq_true (by omega)
          have d2' : decide ((s.length : Int) ≤ (k1 : Int)) = true := decide_eq_true (by omega)
          have hr : Hid (P = .fell (s.drop (k1))) := Lib.hid (by rw [HP2.out, List.drop_of_length_le (show s.length ≤ k1 by omega), Ow.str_esc0 HE.out]; rfl)
          clear HP2
          go_quiet (fail)
          go_upto_region 19 with fail
          have HI90 : StI w ((W2.drewN nq).setCell ⟨b, 2, none⟩ (.bool true)) b s _ _ _ _ := (HI2.out.drewN nq).setF true
          obtain ⟨W9, hW9⟩ : ∃ X, X = (W2.drewN nq).setCell ⟨b, 2, none⟩ (.bool true) := ⟨_, rfl⟩
          rw [← hW9] at HI90 ⊢
          have HI9 := Lib.hid HI90
          clear hW9 HI90 HI2 c0 c1 c2 fr lt
          obtain ⟨c0, c1, c2, fr, lt⟩ := HI9.out.sc
          have hconv : ∀ m, (convert 72 9 vo).run Tryd.prog ((W9.drewN m).setCell ⟨b, 2, none⟩ (.bool true)) = .ok (.string (str out)) ((W9.drewN m).setCell ⟨b, 2, none⟩ (.bool true)) := fun m => econv_own ((HI9.out.drewN m).setF true).own
          go_upto_region 19 with fail
          go_quiet (fail)
          go_wp2
          go_ret
          exact ⟨⟨_, rfl, fun v r q => by rw [hr.out] at q; cases q⟩, ((HI9.out.drewN _).setF true).gr, ((HI9.out.drewN _).setF true).sc.toO (by omega) (by rw [hr.out]; rfl) (by rw [hr.out]; rfl)⟩

        have d2 : decide ((s.length : Int) ≤ ((k1 : Nat) : Int)) = false := decide_eq_false (by omega)
        have d2' : decide ((s.length : Int) ≤ (k1 : Int)) = false := decide_eq_false (by omega)
        have hin2 : k1 < (str s).size := by rw [hss]; exact hk1
        have hd2 : s.drop (k1) = (str s)[k1]'hin2 :: s.drop (k1 + 1) := List.drop_eq_getElem_cons hk1
        have hPe := HP2.out
        rw [hd2, Ow.str_esc HE.out] at hPe
        have hmk := Lib.hid (fun W => HM.out ((str s)[k1]'hin2) W)
        cases hM : marks.contains ((str s)[k1]'hin2)
        · rw [hM] at hmk
          have hr : Hid (P = .fell (s.drop (k1))) := Lib.hid (by rw [hPe, hM, hd2]; rfl)
          clear HP2 hd2 hPe hM
          go_quiet ((go_at_call 46; exact Calls.quiet_of_same ((hmk.out _).mono fun _ _ h => ⟨h.1, h.2.symm⟩)))
          go_upto_region 19 with fail
          have HI90 : StI w ((W2.drewN nq).setCell ⟨b, 2, none⟩ (.bool true)) b s _ _ _ _ := (HI2.out.drewN nq).setF true
          obtain ⟨W9, hW9⟩ : ∃ X, X = (W2.drewN nq).setCell ⟨b, 2, none⟩ (.bool true) := ⟨_, rfl⟩
          rw [← hW9] at HI90 ⊢
          have HI9 := Lib.hid HI90
          clear hW9 HI90 HI2 c0 c1 c2 fr lt
          obtain ⟨c0, c1, c2, fr, lt⟩ := HI9.out.sc
          have hconv : ∀ m, (convert 72 9 vo).run Tryd.prog (W9.drewN m) = .ok (.string (str out)) (W9.drewN m) := fun m => econv_own (HI9.out.drewN m).own
          go_upto_region 19 with fail
          go_quiet (fail)
          go_wp2
          go_ret
          exact ⟨⟨_, rfl, fun v r q => by rw [hr.out] at q; cases q⟩, (HI9.out.drewN _).gr, (HI9.out.drewN _).sc.toO (by omega) (by rw [hr.out]; rfl) (by rw [hr.out]; rfl)⟩

        · rw [hM] at hmk
          rw [hM, if_pos rfl] at hPe
          have HPe := Lib.hid hPe
          clear HP2 hd2 hPe hM
          go_quiet ((go_at_call 46; exact Calls.quiet_of_same ((hmk.out _).mono fun _ _ h => ⟨h.1, h.2.symm⟩)))
          have HI30 : StI w (W2.drewN nq) b s _ _ _ _ := HI2.out.drewN nq
          obtain ⟨W3, hW3⟩ : ∃ X, X = W2.drewN nq := ⟨_, rfl⟩
          rw [← hW3] at HI30 ⊢
          have HI3 := Lib.hid HI30
          clear hW3 HI30 HI2 hmk c0 c1 c2 fr lt
          obtain ⟨c0, c1, c2, fr, lt⟩ := HI3.out.sc

          go_upto_region 8 with fail
          go_quiet (fail)
          have HI40 : StI w (W3.drewN nq) b s _ _ _ _ := HI3.out.drewN nq
          obtain ⟨W4, hW4⟩ : ∃ X, X = W3.drewN nq := ⟨_, rfl⟩
          rw [← hW4] at HI40 ⊢
          have HI4 := Lib.hid HI40
          clear hW4 HI40 HI3 c0 c1 c2 fr lt
          obtain ⟨c0, c1, c2, fr, lt⟩ := HI4.out.sc

          have hwk2 : IntKind.i64.wrap (((k1 : Nat) : Int) + 1) = ((k1 + 1 : Nat) : Int) := by rw [show ((k1 : Nat) : Int) + 1 = ((k1 + 1 : Nat) : Int) by omega]; exact IntWalk.i64_in _ (by omega)
          by_cases x3 : ((str s)[k1].toNat : Int) = (n.toNat : Int)
          · have b3 : (((str s)[k1].toNat : Int) == (n.toNat : Int)) = true := beq_iff_eq.2 x3
            have hdn : (str s)[k1]'hin2 = n := UInt8.toNat_inj.1 (by omega)
            have hr : Hid (P = if false = true then .fell (s.drop (k1 + 1)) else (Ow.str e bad marks n (s.drop (k1 + 1))).map ((out ++ [10]) ++ ·)) := Lib.hid (by
              rw [if_neg (by decide), HPe.out, if_pos hdn]
              cases Ow.str e bad marks n (s.drop (k1 + 1)) with
              | fell r => rfl
              | ok v r => show Ow.Out.ok (out ++ (10 :: v)) r = Ow.Out.ok ((out ++ [10]) ++ v) r; rw [List.append_assoc]; rfl)
            clear HPe hdn x3
            go_wp2_with (first
              | (at_builtin
                 refine wpList_append_lies _ rfl _ _ _ (by rfl) w.heap.size 5 i0 _ 1 1 Tryd.underlying72 Hi.out.1 Hi.out.2.1 Hi.out.2.2.1 Hi.out.2.2.2 rfl (by omega) _ out.length _ (by rfl) (own_alloc HI4.out.own _) _ 1 1 [.int .u8 (10 : Int)] (by rfl) rfl (World.news_of_block (heap_new _ _)) (by intro u hu; simp at hu; subst hu; rfl) (by omega) (by unfold maxLen; omega) (by omega) (by have := HI4.out.gr.size; simp; omega) _ rfl ?_
                 intro g cap w5 hown hgrow hat hlt5
                 have HI5 : Hid (StI w w5 b s k1 false (.slice (some ⟨g, 0, none⟩) (out.length + 1) cap) (out ++ [10])) := Lib.hid ((HI4.out.alloc _).app (by
                   have e5 : (out ++ [10]).length = out.length + 1 := by simp
                   rw [e5]; exact own_put (c := 10) hown) hgrow)
                 clear hown hgrow hat hlt5 HI4 c0 c1 c2 fr lt
                 obtain ⟨c0, c1, c2, fr, lt⟩ := HI5.out.sc)
              | fail)
            go_roundg (gk - 1)
            case measure => have := HGk.out; rw [if_neg (by decide)] at this; omega
            case rel => exact ⟨k1 + 1, false, out ++ [10], _, rfl, Lib.hid (by have := HGk.out; rw [if_neg (by decide)] at this ⊢; omega), by omega, by simp; omega, Lib.hid (HI5.out.move (k1 + 1)), hr⟩

          · have b3 : (((str s)[k1].toNat : Int) == (n.toNat : Int)) = false := beq_eq_false_iff_ne.2 x3
            have hdn : ¬ (str s)[k1]'hin2 = n := fun q => x3 (by rw [q])
            have hr : Hid (P = if false = true then .fell (s.drop (k1 + 1)) else (Ow.str e bad marks n (s.drop (k1 + 1))).map ((out ++ [(str s)[k1]'hin2]) ++ ·)) := Lib.hid (by
              rw [if_neg (by decide), HPe.out, if_neg hdn]
              cases Ow.str e bad marks n (s.drop (k1 + 1)) with
              | fell r => rfl
              | ok v r => show Ow.Out.ok (out ++ ((str s)[k1] :: v)) r = Ow.Out.ok ((out ++ [(str s)[k1]]) ++ v) r; rw [List.append_assoc]; rfl)
            clear HPe hdn x3
            go_wp2_with (first
              | (at_builtin
                 refine wpList_append_lies _ rfl _ _ _ (by rfl) w.heap.size 5 i0 _ 1 1 Tryd.underlying72 Hi.out.1 Hi.out.2.1 Hi.out.2.2.1 Hi.out.2.2.2 rfl (by omega) _ out.length _ (by rfl) (own_alloc HI4.out.own _) _ 1 1 [.int .u8 (((str s)[k1]'hin2).toNat : Int)] (by rfl) rfl (World.news_of_block (heap_new _ _)) (by intro u hu; simp at hu; subst hu; rfl) (by omega) (by unfold maxLen; omega) (by omega) (by have := HI4.out.gr.size; simp; omega) _ rfl ?_
                 intro g cap w5 hown hgrow hat hlt5
                 have HI5 : Hid (StI w w5 b s k1 false (.slice (some ⟨g, 0, none⟩) (out.length + 1) cap) (out ++ [(str s)[k1]'hin2])) := Lib.hid ((HI4.out.alloc _).app (by
                   have e5 : (out ++ [(str s)[k1]'hin2]).length = out.length + 1 := by simp
                   rw [e5]; exact own_put (c := (str s)[k1]'hin2) hown) hgrow)
                 clear hown hgrow hat hlt5 HI4 c0 c1 c2 fr lt
                 obtain ⟨c0, c1, c2, fr, lt⟩ := HI5.out.sc)
              | fail)
            go_roundg (gk - 1)
            case measure => have := HGk.out; rw [if_neg (by decide)] at this; omega
            case rel => exact ⟨k1 + 1, false, out ++ [(str s)[k1]'hin2], _, rfl, Lib.hid (by have := HGk.out; rw [if_neg (by decide)] at this ⊢; omega), by omega, by simp; omega, Lib.hid (HI5.out.move (k1 + 1)), hr⟩

      have b2 : (((str s)[k].toNat : Int) == 92) = false := beq_eq_false_iff_ne.2 x2
      have hn92 : ¬ (str s)[k]'hin = 92 := fun q => x2 (by rw [q]; rfl)
      have hbd := Lib.hid (fun W => HB.out ((str s)[k]'hin) W)
      cases hBd : bad.contains ((str s)[k]'hin)
      rotate_left
      · rw [hBd] at hbd
        have hr : Hid (P = .fell (s.drop k)) := Lib.hid (by rw [hP1, hd, Ow.str_bad hne hn92 hBd]; rfl)
        clear hP1 hd hBd hn92 hne x1 x2
        go_wp2_with fail
        refine (hbd.out _).mono ?_; rintro en w4 ⟨rfl, rfl⟩
        go_upto_region 19 with fail
        have HI90 : StI w (W1.setCell ⟨b, 2, none⟩ (.bool true)) b s _ _ _ _ := HI1.out.setF true
        obtain ⟨W9, hW9⟩ : ∃ X, X = W1.setCell ⟨b, 2, none⟩ (.bool true) := ⟨_, rfl⟩
        rw [← hW9] at HI90 ⊢
        have HI9 := Lib.hid HI90
        clear hW9 HI90 HI1 c0 c1 c2 fr lt
        obtain ⟨c0, c1, c2, fr, lt⟩ := HI9.out.sc
        have hconv : ∀ m, (convert 72 9 vo).run Tryd.prog (W9.drewN m) = .ok (.string (str out)) (W9.drewN m) := fun m => econv_own (HI9.out.drewN m).own
        go_upto_region 19 with fail
        go_quiet (fail)
        go_wp2
        go_ret
        exact ⟨⟨_, rfl, fun v r q => by rw [hr.out] at q; cases q⟩, (HI9.out.drewN _).gr, (HI9.out.drewN _).sc.toO hk (by rw [hr.out]; rfl) (by rw [hr.out]; rfl)⟩

      rw [hBd] at hbd
      obtain ⟨m, hmD⟩ : ∃ m, m = (Utf.front (s.drop k)).1 := ⟨_, rfl⟩
      obtain ⟨wh, hwD⟩ : ∃ wh, wh = (Utf.front (s.drop k)).2 := ⟨_, rfl⟩
      have hF0 : ∀ W, Calls Tryd.prog 28 #[.string (str s), .int .i64 (k : Nat)] W fun en w' => en = .returned (.tuple #[.int .i64 (m : Nat), .bool wh]) ∧ W = w' := fun W => by
        have := front_ref (str s) k W hin (by rw [hss]; unfold maxLen; omega)
        rw [show (str s).data.toList = s by simp [str]] at this
        rw [hmD, hwD]; exact this
      have hF := Lib.hid hF0
      have hmk : m ≤ s.length - k := by have := (Utf.front_le (s.drop k)).1; rw [List.length_drop, ← hmD] at this; exact this
      have HW := Lib.hid (fun (q : wh = true) => show 1 ≤ m from by rw [hmD]; exact Utf.front_whole (by rw [← hwD]; exact q))
      have hrt : wh = true → P = (Ow.str e bad marks n (s.drop (k + m))).map ((out ++ (s.drop k).take m) ++ ·) := fun q => by
        rw [hP1, hd, Ow.str_yes hne hn92 hBd (by rw [← hd, ← hwD]; exact q), ← hd, ← hmD, List.drop_drop]
        cases Ow.str e bad marks n (s.drop (k + m)) with
        | fell r => rfl
        | ok v r => show Ow.Out.ok (out ++ ((s.drop k).take m ++ v)) r = Ow.Out.ok ((out ++ (s.drop k).take m) ++ v) r; rw [List.append_assoc]
      have hrf : wh = false → P = .fell (s.drop (k + m)) := fun q => by
        rw [hP1, hd, Ow.str_no hne hn92 hBd (by rw [← hd, ← hwD, q]; decide), ← hd, ← hmD, List.drop_drop]; rfl
      have HT := Lib.hid hrt
      have HFl := Lib.hid hrf
      have hwa : IntKind.i64.wrap ((k : Int) + (m : Int)) = (k : Int) + (m : Int) := IntWalk.i64_in _ (by omega)
      have hcm : ∀ W, (Instr.slice 9 (.string (str s)) (some (.int .i64 (k : Nat))) (some (.int .i64 ((k : Int) + (m : Int)))) none).run Tryd.prog W = .ok (.string (str ((s.drop k).take m))) W := fun W => by
        have := cut_mid s k (k + m) (by omega) (by omega) W
        rwa [show ((k + m : Nat) : Int) = (k : Int) + (m : Int) by omega, show k + m - k = m by omega] at this
      have htl : ((s.drop k).take m).length = m := by rw [List.length_take, List.length_drop]; omega
      clear hP1 hd hBd hn92 hne x1 x2 hF0 hmD hwD hrt hrf
      generalize (s.drop k).take m = T at *
      go_wp2_with fail
      refine (hbd.out _).mono ?_; rintro en w4 ⟨rfl, rfl⟩
      go_upto_region 15 with fail
      go_quiet ((go_at_call 28; exact Calls.quiet_of_same ((hF.out _).mono fun _ _ h => ⟨h.1, h.2.symm⟩)))
      have HI50 : StI w (W1.drewN nq) b s _ _ _ _ := HI1.out.drewN nq
      obtain ⟨W5, hW5⟩ : ∃ X, X = W1.drewN nq := ⟨_, rfl⟩
      rw [← hW5] at HI50 ⊢
      have HI5 := Lib.hid HI50
      clear hW5 HI50 HI1 hbd hF c0 c1 c2 fr lt
      obtain ⟨c0, c1, c2, fr, lt⟩ := HI5.out.sc

      go_upto_region 16 with fail
      clear c0 c1 c2 fr lt
      refine wp_region_noPanic ?_
      refine wp_region_held_drew (S := fun X => Below w.heap.size W5 X) (by kernel_rfl) ?_ (fun hHeld => ?_)
      · exact Below.drew (Below.refl _ _)
      have kB : Below w.heap.size W5 W5.drew := Below.drew (Below.refl _ _)
      clear hHeld
      refine tk9 0 kB ?_
      refine tk9 1 kB ?_
      refine tk9 2 kB ?_
      refine tk9 3 kB ?_
      refine tk9 4 kB ?_ (hy := Or.inl ⟨by rfl, by intro x hSw; (try dsimp only at hSw); obtain ⟨q0, q1, q2, qf, ql⟩ := HI5.out.sc.belowB hSw HI5.out.lt; first | (go_simp; done) | (go_simp; with_reducible rfl)⟩)
      refine tk9 5 kB ?_
      refine tk9 6 kB ?_
      refine tk9 7 kB ?_
      refine tk9 8 kB ?_ (hy := Or.inl ⟨by rfl, by intro x hSw; (try dsimp only at hSw); obtain ⟨q0, q1, q2, qf, ql⟩ := HI5.out.sc.belowB hSw HI5.out.lt; first | (go_simp; done) | (go_simp; with_reducible rfl)⟩)
      refine tk9 9 kB ?_
      refine tk9 10 kB ?_
      refine tk9 11 kB ?_
      refine tk9 12 kB ?_ (hy := Or.inl ⟨by rfl, by intro x hSw; (try dsimp only at hSw); obtain ⟨q0, q1, q2, qf, ql⟩ := HI5.out.sc.belowB hSw HI5.out.lt; first | (go_simp; done) | (go_simp; with_reducible rfl)⟩)
      refine tk9 13 kB ?_
      refine tk9 14 kB ?_
      refine tk9 15 kB ?_
      refine wpAnyH_ready (rs := [16]) (by kernel_rfl) (by simp) ?_
      refine AllReadyH.cons (by simp only [List.getElem?_toArray, List.getElem?_cons_succ, List.getElem?_cons_zero]; rfl) (fun K hK => ?_) AllReadyH.nil
      refine step_append_str (by rfl) _ _ 72 9 (by rfl) w.heap.size 5 i0 Tryd.underlying72 Tryd.underlying9 Hi.out.1 Hi.out.2.1 Hi.out.2.2.1 Hi.out.2.2.2 _ out.length _ (by rfl) (HI5.out.drewN 1).own (str T) (by rfl) (by rw [str_size, htl]; unfold maxLen; omega) (by rw [str_size, htl]; omega) (HI5.out.drewN 1).gr.size ?_
      intro v6 w6 o6 g6
      have HI6 : Hid (StI w w6 b s k false v6 (out ++ T)) := Lib.hid ((HI5.out.drewN 1).app (by rw [List.length_append, show Lib.byteCells (out ++ T) = Lib.byteCells out ++ Lib.strCells (str T) by rw [str_cells]; simp [Lib.byteCells]]; rw [str_size] at o6; exact o6) g6)
      replace kB := Below.grown kB g6 (HI5.out.drewN 1).gr.size (own_ge HI5.out.own)
      clear o6 g6
      refine hK.out _ _ kB (fun hHeld => ?_)
      clear hK K hHeld
      (try simp only [Act.put, List.setIfInBounds_toArray, List.set_cons_zero, List.set_cons_succ])
      refine tk9 17 kB ?_
      refine wpAnyH_done (by kernel_rfl) ?_ _
      refine NoPanic.normal ?_
      clear kB HI5 hcm
      obtain ⟨c0, c1, c2, fr, lt⟩ := HI6.out.sc
      cases wh with
      | true =>
        have hm1 := HW.out rfl
        have hr : Hid (P = if false = true then .fell (s.drop (k + m)) else (Ow.str e bad marks n (s.drop (k + m))).map ((out ++ T) ++ ·)) := Lib.hid (by rw [if_neg (by decide)]; exact HT.out rfl)
        clear HW HT HFl
        go_wp2_with fail
        go_roundg (gk - 1)
        case measure => have := HGk.out; rw [if_neg (by decide)] at this; omega
        case rel => exact ⟨k + m, false, out ++ T, _, rfl, Lib.hid (by have := HGk.out; rw [if_neg (by decide)] at this ⊢; omega), by omega, by rw [List.length_append, htl]; omega, Lib.hid ((HI6.out.move (k + m)).setF false), hr⟩
      | false =>
        have hr : Hid (P = if true = true then .fell (s.drop (k + m)) else (Ow.str e bad marks n (s.drop (k + m))).map ((out ++ T) ++ ·)) := Lib.hid (by rw [if_pos rfl]; exact HFl.out rfl)
        clear HW HT HFl
        go_wp2_with fail
        go_roundg (gk - 1)
        case measure => have := HGk.out; rw [if_neg (by decide)] at this; omega
        case rel => exact ⟨k + m, true, out ++ T, _, rfl, Lib.hid (by have := HGk.out; rw [if_neg (by decide)] at this; rw [if_pos rfl]; omega), by omega, by rw [List.length_append, htl]; omega, Lib.hid ((HI6.out.move (k + m)).setF true), hr⟩

end Go.Proofs.YthniemoganoapaaDoor
