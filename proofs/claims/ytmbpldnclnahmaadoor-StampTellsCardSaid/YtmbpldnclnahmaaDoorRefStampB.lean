/- The reference's Uint, Int. -/
import Derived.Test.YtmbpldnclnahmaaDoorStampA
import Derived.Test.YtmbpldnclnahmaaDoorRefDecF
import Derived.Test.YtmbpldnclnahmaaDoorRefDecE
import Derived.Laws.Strings3
import Derived.OwnWalk
set_option maxRecDepth 100000
set_option linter.unusedVariables false
set_option linter.unusedSimpArgs false
namespace Go.Proofs.YtmbpldnclnahmaaDoor
open Go.RowKit Dc

theorem vals_take_step (l : List UInt8) (i : Nat) (h : i < l.length) : vals (l.take (i + 1)) = vals (l.take i) ++ [dv l[i]] := by
  rw [List.take_add_one, List.getElem?_eq_getElem h, Option.toList_some, vals_app]; rfl
theorem all_of {l : List UInt8} (h : dgN l = l.length) : allDg l := by
  have e := dgN_all h
  rw [← e]; exact takeWhile_dg l

set_option maxHeartbeats 4000000 in
theorem ruint_calls (l : List UInt8) (w : World) (hl : l.length ≤ 1000000) :
    Calls Tryd.prog 11 #[.string (str l)] w fun e w' => e = .returned (intV (uintO l)) ∧ Below w.heap.size w w' := by
  obtain ⟨i0, hi, hz0, hz1, hz2⟩ := info_parts (P := Tryd.prog) (t := 5) (z := .int .u8 0) (n := 1) (m := 1) (by kernel_rfl)
  have Hi := Lib.hid hi
  have Hz0 := Lib.hid hz0
  have Hz1 := Lib.hid hz1
  have Hz2 := Lib.hid hz2
  clear hi hz0 hz1 hz2
  have hsz := str_size l
  have b0 := Lib.hid (Below.refl w.heap.size w)
  have hle := dgN_le l
  have hr : Hid (∀ W, Calls Tryd.prog 24 #[.string (str l), .int .i64 0] W fun e w' => e = .returned (.int .i64 ((dgN l : Nat) : Int)) ∧ W = w') := fun W => by
    have h := rrun_calls (str l) 0 W (Nat.zero_le _) (by rw [hsz]; unfold maxLen; omega)
    rwa [Nat.zero_add, List.drop_zero] at h
  go_enter Tryd.func11, Tryd.ntmps11
  go_wp2_with fail
  refine (hr.out _).mono ?_; rintro e w1 ⟨rfl, rfl⟩
  clear hr
  by_cases h0 : dgN l = 0
  · have hres := Lib.hid (uint_bad (l := l) (Or.inl h0))
    have hb0 : ((dgN l : Int) == 0) = true := by rw [h0]; rfl
    clear h0
    go_wp2_with fail
    go_ret3
    exact ⟨by rw [hres.out]; rfl, b0.out⟩
  have hb0 : ((dgN l : Int) == 0) = false := by simpa using (by omega : ¬ (dgN l : Int) = 0)
  by_cases h1 : dgN l < l.length
  · have hres := Lib.hid (uint_bad (l := l) (Or.inr h1))
    clear h0
    go_wp2_with fail
    go_ret3
    exact ⟨by rw [hres.out]; rfl, b0.out⟩
  have hd : dgN l = l.length := by omega
  have had := all_of hd
  have Had := Lib.hid had
  have hok := Lib.hid (fun h => uint_ok (l := l) h0 h1 h)
  have hfar := Lib.hid (fun h => uint_far (l := l) h0 h1 h)
  have h1i : ¬ (dgN l : Int) < (l.length : Int) := by omega
  clear h0 had hd
  go_wp2_with fail
  go_loopw [6, 7] (fun s6 s7 wr => ∃ i : Nat, i ≤ l.length ∧ s7 = .int .i64 (i : Nat) ∧ Hid (Below w.heap.size w wr ∧ wr.ownsRow w.heap.size 5 1 s6 i (ints (vals (l.take i))))) (fun _ s7 _ => l.length - (intOf s7).toNat)
  case atStart => exact ⟨0, Nat.zero_le _, rfl, Below.refl _ _, by rw [List.take_zero]; exact World.ownsRow_nil _ _ _ _⟩
  case round =>
    obtain ⟨i, hil, rfl, H⟩ := hrel
    clear h1 h1i hb0
    by_cases hlt : i < l.length
    · obtain ⟨hB, hO⟩ := H.out
      have hix := str_at l i (by omega)
      have hB255 := UInt8.toNat_lt l[i]
      have hdgn := (dg_iff _).1 (Had.out l[i] (List.getElem_mem hlt))
      have Hacc := Lib.hid (vals_take_step l i hlt)
      have HB := Lib.hid hB
      have HO := Lib.hid hO
      have hbs := hB.size
      have hdv : Hid (((l[i].toNat : Int) - 48) = ((dv l[i] : Nat) : Int)) := by show _ = _; unfold dv; omega
      have hnews : ∀ W : World, ∀ j u, (ints [dv l[i]])[j]? = some u → (W.alloc (.cells #[.int .u8 ((l[i].toNat : Int) - 48)] 5)).cell? ((⟨W.heap.size, 0, none⟩ : Addr).add j) = some u := fun W j u hu => by
        rw [hdv.out]
        exact World.news_of_block (heap_new W (.cells #[.int .u8 ((dv l[i] : Nat) : Int)] 5)) j u hu
      have Hnews := Lib.hid hnews
      clear hB hO H hnews
      go_wp2_with (at_builtin; refine wpList_append_lies _ rfl _ _ _ (by rfl) w.heap.size 5 i0 _ 1 1 Tryd.underlying45 Hi.out Hz0.out Hz1.out Hz2.out rfl (by omega) _ i _ (by rfl) (own_alloc HO.out _) ⟨wr.heap.size, 0, none⟩ 1 1 (ints [dv l[i]]) (by rfl) rfl (Hnews.out wr) (ints_one _) (by omega) (by unfold maxLen; omega) (by omega) (by simp at hbs ⊢; omega) _ rfl ?_)
      intro g2 cap2 w3 hown3 hgrow hat hlt2
      have Hown3 := Lib.hid hown3
      have hB3 := Lib.hid ((kb_alloc HB.out (Nat.le_refl _) (.cells #[.int .u8 ((l[i].toNat : Int) - 48)] 5)).grown hgrow (by simp at hbs ⊢; omega) (own_ge HO.out))
      clear hown3 hgrow hat hlt2 HB HO Hnews
      go_wp2_with fail
      go_roundw
      case rel =>
        refine ⟨i + 1, hlt, by go_num, hB3.out, ?_⟩
        rw [Hacc.out, ints_app]
        exact Hown3.out
      case measure => simp [intOf]; omega
    · obtain rfl : i = l.length := by omega
      have hq := H.out.2
      have kB := H.out.1
      rw [List.take_length] at hq
      have hdr := DR.own hq
      have h9 := vals_le Had.out
      have ht := Lib.hid (rtrim_calls (vals l) _ wr hdr (fun d hd => by have := h9 d hd; omega))
      have hwi := Lib.hid (fun v' (hv : DR wr v' (trimN (vals l))) => rwithin_calls (trimN (vals l)) v' wr hv (fun d hd => h9 d (trimN_sub _ d hd)) (trimN_head _))
      rw [trimN_val] at hwi
      clear hq hdr H h9
      go_wp2_with fail
      refine ht.out.mono ?_; rintro e w5 ⟨v', rfl, hv', rfl⟩
      have hc := Lib.hid (hwi.out v' hv')
      clear ht hwi hv'
      go_wp2_with fail
      refine hc.out.mono ?_; rintro e w6 ⟨rfl, b6⟩
      replace kB := kB.trans (b6.mono kB.size)
      clear hc b6
      by_cases hb : valN (vals l) ≤ big
      · have hr := Lib.hid (hok.out hb)
        rw [show withinV (valN (vals l)) = .tuple #[.int .i64 ((valN (vals l) : Nat) : Int), .bool true] by unfold withinV; rw [if_pos hb]]
        clear hok hfar hb
        generalize ((valN (vals l) : Nat) : Int) = z at *
        go_wp2_with fail
        go_ret3
        exact ⟨by rw [hr.out]; rfl, kB⟩
      · have hr := Lib.hid (hfar.out hb)
        rw [show withinV (valN (vals l)) = .tuple #[.int .i64 0, .bool false] by unfold withinV; rw [if_neg hb]]
        clear hok hfar hb
        go_wp2_with fail
        go_ret3
        exact ⟨by rw [hr.out]; rfl, kB⟩

theorem uint_ways (l : List UInt8) : ∃ n c o, uintO l = (n, c, o) ∧ 0 ≤ n ∧ n ≤ 9223372036854775807 ∧ 0 ≤ o ∧ o ≤ l.length ∧ (c = 0 ∨ c = 11 ∨ c = 12) := by
  have := dgN_le l
  unfold uintO
  split
  · exact ⟨_, _, _, rfl, by omega, by omega, by omega, by omega, by omega⟩
  · split
    · rename_i hb; unfold big at hb; exact ⟨_, _, _, rfl, by omega, by omega, by omega, by omega, by omega⟩
    · exact ⟨_, _, _, rfl, by omega, by omega, by omega, by omega, by omega⟩
theorem int_of {l : List UInt8} {n c o : Int} (h : uintO (l.drop (sg l)) = (n, c, o)) : intO l = if c = 11 then (0, 11, o + (sg l : Nat)) else ((if sg l = 1 then -n else n), c, 0) := by
  unfold intO; rw [h]

set_option maxHeartbeats 4000000 in
theorem rint_calls (l : List UInt8) (w : World) (hl : l.length ≤ 1000000) :
    Calls Tryd.prog 9 #[.string (str l)] w fun e w' => e = .returned (intV (intO l)) ∧ Below w.heap.size w w' := by
  have hsz := str_size l
  obtain ⟨n, c, o, hu, hn0, hn1, ho0, ho1, hc3⟩ := uint_ways (l.drop (sg l))
  have hio := Lib.hid (int_of hu)
  have hcall := Lib.hid (fun W => ruint_calls (l.drop (sg l)) W (by rw [List.length_drop]; omega))
  rw [hu, show intV (n, c, o) = .tuple #[.int .i64 n, .int .i64 c, .int .i64 o] from rfl] at hcall
  clear hu
  have hol : o ≤ 1000000 := by rw [List.length_drop] at ho1; omega
  clear ho1
  rcases sg_cases l with ⟨r, hr, hs⟩ | ⟨hs, hr⟩
  · have hsl := fun W => cut_from l 1 1 rfl (by rw [hr]; simp) W
    rw [hs] at hio hcall
    rw [if_pos (rfl : (1 : Nat) = 1)] at hio
    generalize l.drop 1 = q at *
    subst hr
    have h0 : 0 < (str (45 :: r)).size := by rw [hsz]; simp
    have hlp : 0 < (45 :: r).length := by simp
    have hat := str_head 45 r h0
    have hn : ((str (45 :: r))[0]).toNat = 45 := by rw [hat]; rfl
    clear hat hs
    have hwo : IntKind.i64.wrap (o + 1) = o + 1 := IntWalk.i64_in _ (by omega)
    have hwn : IntKind.i64.wrap (-n) = -n := IntWalk.i64_in _ (by omega)
    go_enter Tryd.func9, Tryd.ntmps9
    go_wp2_with fail
    refine (hcall.out _).mono ?_; rintro e w1 ⟨rfl, kB⟩
    clear hcall hsl
    by_cases hc : c = 11
    · subst hc
      have hr : Hid (intO (45 :: r) = (0, 11, o + 1)) := hio.out
      clear hc3 hio
      go_wp2_with fail
      go_ret3
      exact ⟨by rw [hr.out]; rfl, kB⟩
    · have hcb : (c == 11) = false := by simpa using hc
      have hr : Hid (intO (45 :: r) = (-n, c, 0)) := by have h := hio.out; rw [if_neg hc] at h; exact h
      clear hc3 hio hc
      go_wp2_with fail
      go_ret3
      exact ⟨by rw [hr.out]; rfl, kB⟩
  · have hsl := fun W => cut_from l 0 0 rfl (Nat.zero_le _) W
    rw [hs] at hio hcall
    rw [List.drop_zero] at hsl hcall
    rw [if_neg (show ¬ (0 : Nat) = 1 by omega)] at hio
    have hr2 : Hid ((c = 11 → intO l = (0, 11, o)) ∧ (¬ c = 11 → intO l = (n, c, 0))) := ⟨fun h => by have e := hio.out; rw [if_pos h] at e; rw [e]; simp, fun h => by have e := hio.out; rw [if_neg h] at e; exact e⟩
    clear hio
    have hwo : IntKind.i64.wrap (o + 0) = o := by rw [Int.add_zero]; exact IntWalk.i64_in _ (by omega)
    have hor : (∃ c0 t, l = c0 :: t ∧ ¬ c0.toNat = 45) ∨ l = [] := by
      cases l with
      | nil => exact Or.inr rfl
      | cons c0 t => exact Or.inl ⟨c0, t, rfl, fun e => hr t (by rw [show c0 = 45 from UInt8.toNat_inj.1 e])⟩
    clear hr hs
    by_cases hc : c = 11
    · subst hc
      have hr := Lib.hid (hr2.out.1 rfl)
      clear hr2 hc3
      rcases hor with ⟨c0, t, rfl, hne⟩ | rfl
      · have h0 : 0 < (str (c0 :: t)).size := by rw [hsz]; simp
        have hlp : 0 < (c0 :: t).length := by simp
        have hat := str_head c0 t h0
        have hn : ¬ ((str (c0 :: t))[0]).toNat = 45 := by rw [hat]; exact hne
        have hnI : ¬ (((str (c0 :: t))[0]).toNat : Int) = 45 := by omega
        have hnb : ((((str (c0 :: t))[0]).toNat : Int) == 45) = false := by simpa using hnI
        clear hat hne
        go_enter Tryd.func9, Tryd.ntmps9
        go_wp2_with fail
        refine (hcall.out _).mono ?_; rintro e w1 ⟨rfl, kB⟩
        clear hcall hsl
        go_wp2_with fail
        go_ret3
        exact ⟨by rw [hr.out]; rfl, kB⟩
      · go_enter Tryd.func9, Tryd.ntmps9
        go_wp2_with fail
        refine (hcall.out _).mono ?_; rintro e w1 ⟨rfl, kB⟩
        clear hcall hsl
        go_wp2_with fail
        go_ret3
        exact ⟨by rw [hr.out]; rfl, kB⟩
    · have hcb : (c == 11) = false := by simpa using hc
      have hr := Lib.hid (hr2.out.2 hc)
      clear hr2 hc3 hc
      rcases hor with ⟨c0, t, rfl, hne⟩ | rfl
      · have h0 : 0 < (str (c0 :: t)).size := by rw [hsz]; simp
        have hlp : 0 < (c0 :: t).length := by simp
        have hat := str_head c0 t h0
        have hn : ¬ ((str (c0 :: t))[0]).toNat = 45 := by rw [hat]; exact hne
        have hnI : ¬ (((str (c0 :: t))[0]).toNat : Int) = 45 := by omega
        have hnb : ((((str (c0 :: t))[0]).toNat : Int) == 45) = false := by simpa using hnI
        clear hat hne
        go_enter Tryd.func9, Tryd.ntmps9
        go_wp2_with fail
        refine (hcall.out _).mono ?_; rintro e w1 ⟨rfl, kB⟩
        clear hcall hsl
        go_wp2_with fail
        go_ret3
        exact ⟨by rw [hr.out]; rfl, kB⟩
      · go_enter Tryd.func9, Tryd.ntmps9
        go_wp2_with fail
        refine (hcall.out _).mono ?_; rintro e w1 ⟨rfl, kB⟩
        clear hcall hsl
        go_wp2_with fail
        go_ret3
        exact ⟨by rw [hr.out]; rfl, kB⟩

end Go.Proofs.YtmbpldnclnahmaaDoor
