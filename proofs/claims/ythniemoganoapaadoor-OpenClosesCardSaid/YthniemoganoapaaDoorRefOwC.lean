/- The walk of Scan's Run (layer 17, the reference). -/
import Derived.Test.YthniemoganoapaaDoorRefOwB
import Derived.Laws.DeepStrings4
import Derived.Deep.QuietTactic
import Derived.Deep.LoopGhost
set_option maxRecDepth 100000
set_option linter.unusedVariables false
set_option linter.unusedSimpArgs false
namespace Go.Proofs.YthniemoganoapaaDoor
open Go.RowKit
attribute [local go_sem ↓] Go.wp_at_zero Go.wp_at_succ

theorem cut_mid (l : List UInt8) (i j : Nat) (h : i ≤ j) (h2 : j ≤ l.length) (W : World) : (Instr.slice 9 (.string (str l)) (some (.int .i64 (i : Nat))) (some (.int .i64 (j : Nat))) none).run Tryd.prog W = .ok (.string (str ((l.drop i).take (j - i)))) W := by
  rw [run_slice_string_if W _ _ _ _ _ _ Tryd.underlying9, if_pos ⟨by omega, by rw [str_size]; omega⟩, if_pos ⟨by omega, by omega⟩]
  congr 2
  refine str_ext ?_
  rw [ext_list]
  simp [List.drop_take]
namespace Ow
/-- so far: all stand, and a first byte was none that may not be it -/
structure RunAt (K : Int) (but : List UInt8) (first : Bool) (l : List UInt8) (n : Nat) : Prop where
  le : n ≤ l.length
  all : ∀ y ∈ l.take n, stay K but y = true
  one : 0 < n → (first && num1 l) = false
theorem RunAt.zero (K : Int) (but : List UInt8) (first : Bool) (l : List UInt8) : RunAt K but first l 0 := ⟨Nat.zero_le _, by simp, fun h => absurd h (by omega)⟩
theorem RunAt.next {K : Int} {but : List UInt8} {first : Bool} {l : List UInt8} {n : Nat} {c : UInt8} (h : RunAt K but first l n) (hc : l[n]? = some c) (hs : stay K but c = true) (h1 : n = 0 → (first && digit c) = false) : RunAt K but first l (n + 1) := by
  obtain ⟨hi, rfl⟩ := List.getElem?_eq_some_iff.1 hc
  refine ⟨hi, fun y hy => ?_, fun _ => ?_⟩
  · rw [List.take_succ_eq_append_getElem hi, List.mem_append, List.mem_singleton] at hy
    rcases hy with hy | rfl
    · exact h.all y hy
    · exact hs
  · by_cases e : n = 0
    · subst e
      have := h1 rfl
      cases l with
      | nil => cases hc
      | cons d l => exact this
    · exact h.one (by omega)
theorem take_while {p : UInt8 → Bool} : ∀ (l : List UInt8) (n : Nat), n ≤ l.length → (∀ y ∈ l.take n, p y = true) → (∀ c, l[n]? = some c → p c = false) → l.takeWhile p = l.take n ∧ l.dropWhile p = l.drop n
  | l, 0, _, _, h => by
    cases l with
    | nil => exact ⟨rfl, rfl⟩
    | cons c l =>
      have := h c rfl
      exact ⟨List.takeWhile_cons_of_neg (by rw [this]; decide), List.dropWhile_cons_of_neg (by rw [this]; decide)⟩
  | [], n + 1, hn, _, _ => by simp at hn
  | c :: l, n + 1, hn, ha, h => by
    have hc := ha c (by simp)
    obtain ⟨h1, h2⟩ := take_while l n (by simpa using hn) (fun y hy => ha y (by simp [hy])) (fun d hd => h d (by simpa using hd))
    rw [List.takeWhile_cons_of_pos hc, List.dropWhile_cons_of_pos hc, h1, h2]
    exact ⟨rfl, rfl⟩
/-- it stops: at the end, at a byte that may not stand, or at the first one -/
theorem RunAt.stop {K : Int} {but : List UInt8} {first : Bool} {l : List UInt8} {n : Nat} (h : RunAt K but first l n) (hx : (∀ c, l[n]? = some c → stay K but c = false) ∨ (n = 0 ∧ (first && num1 l) = true)) :
    run K but first l = if n = 0 then .fell l else .ok (l.take n) (l.drop n) := by
  unfold run
  rcases hx with hx | ⟨h0, hx⟩
  · obtain ⟨h1, h2⟩ := take_while l n h.le h.all hx
    rw [h1, h2]
    by_cases e : n = 0
    · subst e
      rw [if_pos rfl, if_pos (by simp)]
    · rw [if_neg e, if_neg]
      rw [h.one (by omega)]
      cases l with
      | nil => have := h.le; simp at this; omega
      | cons c l =>
        obtain ⟨m, rfl⟩ : ∃ m, n = m + 1 := ⟨n - 1, by omega⟩
        simp
  · rw [if_pos h0, hx, Bool.true_or, if_pos rfl]
theorem RunAt.fell {K : Int} {but : List UInt8} {first : Bool} {s : List UInt8} {j n : Nat} {P : Out (List UInt8)} (h : RunAt K but first (s.drop j) n) (hP : P = run K but first (s.drop j)) (hx : (∀ c, s[j + n]? = some c → stay K but c = false) ∨ (n = 0 ∧ (first && num1 (s.drop j)) = true)) :
    P = if n = 0 then .fell (s.drop j) else .ok ((s.drop j).take n) (s.drop (j + n)) := by
  rw [hP, h.stop (hx.imp (fun h c hc => h c (by rw [List.getElem?_drop] at hc; exact hc)) id), List.drop_drop]
/-- does it go on? -/
def contC (K : Int) (but : List UInt8) (first : Bool) (s : List UInt8) (j k : Nat) : Bool := match s[k]? with | none => false | some c => (inC K c && !but.contains c) && !(first && decide (k = j) && digit c)
theorem contC_end {K : Int} {but : List UInt8} {first : Bool} {s : List UInt8} {j k : Nat} (h : s.length ≤ k) : contC K but first s j k = false := by unfold contC; rw [List.getElem?_eq_none h]
theorem contC_at {K : Int} {but : List UInt8} {first : Bool} {s : List UInt8} {j k : Nat} (h : k < s.length) : contC K but first s j k = ((inC K s[k] && !but.contains s[k]) && !(first && decide (k = j) && digit s[k])) := by unfold contC; rw [List.getElem?_eq_getElem h]
theorem contC_yes {K : Int} {but : List UInt8} {first : Bool} {s : List UInt8} {j k : Nat} (h : RunAt K but first (s.drop j) (k - j)) (hj : j ≤ k) (hc : contC K but first s j k = true) : k < s.length ∧ RunAt K but first (s.drop j) (k + 1 - j) := by
  by_cases hk : k < s.length
  · refine ⟨hk, ?_⟩
    rw [contC_at hk, Bool.and_eq_true] at hc
    rw [show k + 1 - j = k - j + 1 by omega]
    refine h.next (c := s[k]) (by rw [List.getElem?_drop, show j + (k - j) = k by omega]; exact List.getElem?_eq_getElem hk) hc.1 (fun h0 => ?_)
    have := hc.2
    rw [decide_eq_true (show k = j by omega), Bool.and_true] at this
    cases e : (first && digit s[k]) with
    | false => rfl
    | true => rw [e] at this; cases this
  · rw [contC_end (by omega)] at hc; cases hc
theorem contC_no {K : Int} {but : List UInt8} {first : Bool} {s : List UInt8} {j k : Nat} {P : Out (List UInt8)} (h : RunAt K but first (s.drop j) (k - j)) (hP : P = run K but first (s.drop j)) (hj : j ≤ k) (hc : contC K but first s j k = false) :
    P = if k - j = 0 then .fell (s.drop j) else .ok ((s.drop j).take (k - j)) (s.drop k) := by
  have := h.fell hP
  rw [show j + (k - j) = k by omega] at this
  refine this ?_
  by_cases hk : k < s.length
  · rw [contC_at hk] at hc
    rw [List.getElem?_eq_getElem hk]
    cases e : (inC K s[k] && !but.contains s[k]) with
    | false => exact Or.inl (fun c hc => by rw [← Option.some.inj hc]; exact e)
    | true =>
      rw [e, Bool.true_and] at hc
      have hc : (first && decide (k = j) && digit s[k]) = true := by simpa using hc
      rw [Bool.and_eq_true, Bool.and_eq_true, decide_eq_true_eq] at hc
      obtain ⟨⟨h1, h2⟩, h3⟩ := hc
      refine Or.inr ⟨by omega, ?_⟩
      subst h2
      rw [h1, Bool.true_and, List.drop_eq_getElem_cons hk]; exact h3
  · exact Or.inl (fun c hc => by rw [List.getElem?_eq_none (by omega)] at hc; cases hc)
end Ow

set_option maxHeartbeats 16000000 in
theorem run_calls {α : Type} (o : Ow.Out α) (K : Int) (but : List UInt8) (first : Bool) (b : Nat) (s : List UInt8) (w : World) (h : ScO w b s o) (hb : but.length ≤ maxLen) (hs : s.length ≤ maxLen) :
    Calls Tryd.prog 30 #[.pointer (some ⟨b, 0, none⟩), .int .i64 K, .string (str but), .bool first] w fun e w' =>
      (∃ x, e = .returned (.string x) ∧ ∀ v r, (o.bind fun _ r => Ow.run K but first r) = .ok v r → x = str v) ∧ w.grownBy w' (some b) ∧ ScO w' b s (o.bind fun _ r => Ow.run K but first r) := by
  have hss := str_size s
  obtain ⟨P, hP⟩ : ∃ P, P = o.bind fun _ r => Ow.run K but first r := ⟨_, rfl⟩
  rw [← hP]
  obtain ⟨hsuf, hn⟩ := h
  have hd0 := Ow.suf_at hsuf
  have hkl : s.length - o.rest.length ≤ s.length := Nat.sub_le _ _
  have hP0 : P = if Ow.fellB o = true then .fell (s.drop (s.length - o.rest.length)) else Ow.run K but first (s.drop (s.length - o.rest.length)) := by
    rw [hP, hd0]
    cases o <;> rfl
  clear hP hsuf hd0
  generalize s.length - o.rest.length = j at *
  generalize Ow.fellB o = f at *
  have HA := Lib.hid hn
  have HP := Lib.hid hP0
  have HB := Lib.hid (fun (c : UInt8) W => has_calls but c W hb)
  clear hP0 hn hb
  unfold maxLen at hs
  have HG := Lib.hid (sc_below (Below.refl w.heap.size w) (some b))
  obtain ⟨c0, c1, c2, fr, lt⟩ := HA.out
  have hcut := Lib.hid (fun (k : Nat) (h1 : j ≤ k) (h2 : k ≤ s.length) => cut_mid s j k h1 h2)
  cases f with
  | true =>
    have hr : Hid (P = .fell (s.drop j)) := HP
    clear HP HB
    go_enter Tryd.func30, Tryd.ntmps30
    go_wp2_with fail
    clear c0 c1 c2 fr lt
    go_loopg [81] 0 (fun g _ wr => Hid (ScA wr b s j true) ∧ Hid (w.grownBy wr (some b)))
    case atStart => exact ⟨HA, HG⟩
    case round =>
      obtain ⟨HA2, HG2⟩ := hrel
      obtain ⟨c0, c1, c2, fr, lt⟩ := HA2.out
      have e1 : ((j : Int) == (j : Int)) = true := beq_iff_eq.2 rfl
      have hc := hcut.out j (Nat.le_refl _) hkl
      simp only [Nat.sub_self, List.take_zero] at hc
      go_upto_region 2 with fail
      simp only [List.append_eq, List.cons_append, List.nil_append]
      go_quiet (fail)
      go_upto_region 6 with fail
      go_quiet (fail)
      go_wp2
      go_ret
      refine ⟨⟨_, rfl, fun v r e => by rw [hr.out] at e; cases e⟩, ?_, ?_⟩
      · exact sc_drewN (sc_set (sc_drewN HG2.out _)) _
      · exact ((HA2.out.drewN _).fall.drewN _).toO hkl (by rw [hr.out]; rfl) (by rw [hr.out]; rfl)
  | false =>
    have HP1 : Hid (P = Ow.run K but first (s.drop j)) := HP
    clear HP
    go_enter Tryd.func30, Tryd.ntmps30
    go_wp2_with fail
    clear c0 c1 c2 fr lt
    go_loopg [81] (s.length - j) (fun g _ wr => ∃ k : Nat, g = s.length - k ∧ j ≤ k ∧ k ≤ s.length ∧ Hid (ScA wr b s k false) ∧ Hid (w.grownBy wr (some b)) ∧ Hid (Ow.RunAt K but first (s.drop j) (k - j)))
    case atStart => exact ⟨j, rfl, Nat.le_refl _, hkl, HA, HG, Lib.hid (by rw [Nat.sub_self]; exact Ow.RunAt.zero _ _ _ _)⟩
    case round =>
      clear HA HG
      obtain ⟨k, hg, hjk, hk, HA2, HG2, HR⟩ := hrel
      obtain ⟨c0, c1, c2, fr, lt⟩ := HA2.out
      have hc := hcut.out k hjk hk
      obtain ⟨C, hC⟩ : ∃ C, C = Ow.contC K but first s j k := ⟨_, rfl⟩
      have HCy := Lib.hid (fun (e : C = true) => Ow.contC_yes HR.out hjk (hC.symm.trans e))
      have HCn := Lib.hid (fun (e : C = false) => Ow.contC_no HR.out HP1.out hjk (hC.symm.trans e))
      have HCe := Lib.hid (fun (e : s.length ≤ k) => hC.trans (Ow.contC_end e))
      have HCa := Lib.hid (fun (e : k < s.length) => hC.trans (Ow.contC_at e))
      have HG0 := Lib.hid hg
      clear hC HR hg
      go_upto_region 2 with fail
      go_cut [81] (fun s81 wx => s81 = .bool C ∧ Hid (∃ m, wx = wr.drewN m))
      case first =>
        clear HCy HCn
        by_cases hks : k < s.length
        rotate_left
        · have d1 : decide ((k : Int) < (s.length : Int)) = false := decide_eq_false (by omega)
          have hr := Lib.hid (HCe.out (by omega))
          clear HCe HCa
          simp only [List.append_eq, List.cons_append, List.nil_append]
          go_quiet (first | (go_at_call 45; first | with_reducible exact Calls.quiet_of_same ((hI.out _).mono fun _ _ h => ⟨h.1, h.2.symm⟩) | with_reducible exact Calls.quiet_of_same ((hD.out _).mono fun _ _ h => ⟨h.1, h.2.symm⟩)) | (go_at_call 46; exact Calls.quiet_of_same ((hB.out _).mono fun _ _ h => ⟨h.1, h.2.symm⟩)))
          go_wp2_with fail
          go_meet
          exact ⟨by rw [hr.out], Lib.hid ⟨_, rfl⟩⟩
        have d1 : decide ((k : Int) < (s.length : Int)) = true := decide_eq_true (by omega)
        have hins : k < (str s).size := by rw [hss]; exact hks
        have hr0 := Lib.hid (show C = ((Ow.inC K ((str s)[k]'hins) && !but.contains ((str s)[k]'hins)) && !(first && decide (k = j) && Ow.digit ((str s)[k]'hins))) from HCa.out hks)
        have hI := Lib.hid (fun W => in_calls ((str s)[k]'hins) K W)
        have hB := Lib.hid (fun W => HB.out ((str s)[k]'hins) W)
        have hD := Lib.hid (fun W => in_calls ((str s)[k]'hins) 0 W)
        rw [show Ow.inC 0 ((str s)[k]'hins) = Ow.digit ((str s)[k]'hins) from rfl] at hD
        clear HCe HCa HB
        cases i1 : Ow.inC K ((str s)[k]'hins)
        · rw [i1] at hI
          have hr := Lib.hid (show C = false by rw [hr0.out, i1]; rfl)
          clear hr0 i1 hB hD
          simp only [List.append_eq, List.cons_append, List.nil_append]
          go_quiet (first | (go_at_call 45; first | with_reducible exact Calls.quiet_of_same ((hI.out _).mono fun _ _ h => ⟨h.1, h.2.symm⟩) | with_reducible exact Calls.quiet_of_same ((hD.out _).mono fun _ _ h => ⟨h.1, h.2.symm⟩)) | (go_at_call 46; exact Calls.quiet_of_same ((hB.out _).mono fun _ _ h => ⟨h.1, h.2.symm⟩)))
          go_wp2_with fail
          go_meet
          exact ⟨by rw [hr.out], Lib.hid ⟨_, rfl⟩⟩
        rw [i1] at hI
        cases i2 : but.contains ((str s)[k]'hins)
        rotate_left
        · rw [i2] at hB
          have hr := Lib.hid (show C = false by rw [hr0.out, i1, i2]; rfl)
          clear hr0 i1 i2 hD
          simp only [List.append_eq, List.cons_append, List.nil_append]
          go_quiet (first | (go_at_call 45; first | with_reducible exact Calls.quiet_of_same ((hI.out _).mono fun _ _ h => ⟨h.1, h.2.symm⟩) | with_reducible exact Calls.quiet_of_same ((hD.out _).mono fun _ _ h => ⟨h.1, h.2.symm⟩)) | (go_at_call 46; exact Calls.quiet_of_same ((hB.out _).mono fun _ _ h => ⟨h.1, h.2.symm⟩)))
          go_wp2_with fail
          go_meet
          exact ⟨by rw [hr.out], Lib.hid ⟨_, rfl⟩⟩
        rw [i2] at hB
        cases first with
        | false =>
          have hr := Lib.hid (show C = true by rw [hr0.out, i1, i2]; rfl)
          clear hr0 i1 i2 hD
          simp only [List.append_eq, List.cons_append, List.nil_append]
          go_quiet (first | (go_at_call 45; first | with_reducible exact Calls.quiet_of_same ((hI.out _).mono fun _ _ h => ⟨h.1, h.2.symm⟩) | with_reducible exact Calls.quiet_of_same ((hD.out _).mono fun _ _ h => ⟨h.1, h.2.symm⟩)) | (go_at_call 46; exact Calls.quiet_of_same ((hB.out _).mono fun _ _ h => ⟨h.1, h.2.symm⟩)))
          go_wp2_with fail
          go_meet
          exact ⟨by rw [hr.out], Lib.hid ⟨_, rfl⟩⟩
        | true =>
          by_cases hkj : k = j
          rotate_left
          · have e1 : ((k : Int) == (j : Int)) = false := beq_eq_false_iff_ne.2 (by omega)
            have hr := Lib.hid (show C = true by rw [hr0.out, i1, i2, decide_eq_false hkj]; rfl)
            clear hr0 i1 i2 hD hkj
            simp only [List.append_eq, List.cons_append, List.nil_append]
            go_quiet (first | (go_at_call 45; first | with_reducible exact Calls.quiet_of_same ((hI.out _).mono fun _ _ h => ⟨h.1, h.2.symm⟩) | with_reducible exact Calls.quiet_of_same ((hD.out _).mono fun _ _ h => ⟨h.1, h.2.symm⟩)) | (go_at_call 46; exact Calls.quiet_of_same ((hB.out _).mono fun _ _ h => ⟨h.1, h.2.symm⟩)))
            go_wp2_with fail
            go_meet
            exact ⟨by rw [hr.out], Lib.hid ⟨_, rfl⟩⟩
          have e1 : ((k : Int) == (j : Int)) = true := beq_iff_eq.2 (by omega)
          cases i3 : Ow.digit ((str s)[k]'hins)
          · rw [i3] at hD
            have hr := Lib.hid (show C = true by rw [hr0.out, i1, i2, i3]; simp)
            clear hr0 i1 i2 i3 hkj
            simp only [List.append_eq, List.cons_append, List.nil_append]
            go_quiet (first | (go_at_call 45; first | with_reducible exact Calls.quiet_of_same ((hI.out _).mono fun _ _ h => ⟨h.1, h.2.symm⟩) | with_reducible exact Calls.quiet_of_same ((hD.out _).mono fun _ _ h => ⟨h.1, h.2.symm⟩)) | (go_at_call 46; exact Calls.quiet_of_same ((hB.out _).mono fun _ _ h => ⟨h.1, h.2.symm⟩)))
            go_wp2_with fail
            go_meet
            exact ⟨by rw [hr.out], Lib.hid ⟨_, rfl⟩⟩
          · rw [i3] at hD
            have hr := Lib.hid (show C = false by rw [hr0.out, i1, i2, i3, decide_eq_true hkj]; rfl)
            clear hr0 i1 i2 i3 hkj
            simp only [List.append_eq, List.cons_append, List.nil_append]
            go_quiet (first | (go_at_call 45; first | with_reducible exact Calls.quiet_of_same ((hI.out _).mono fun _ _ h => ⟨h.1, h.2.symm⟩) | with_reducible exact Calls.quiet_of_same ((hD.out _).mono fun _ _ h => ⟨h.1, h.2.symm⟩)) | (go_at_call 46; exact Calls.quiet_of_same ((hB.out _).mono fun _ _ h => ⟨h.1, h.2.symm⟩)))
            go_wp2_with fail
            go_meet
            exact ⟨by rw [hr.out], Lib.hid ⟨_, rfl⟩⟩
      case rest =>
        obtain ⟨rfl, HM⟩ := hcut
        obtain ⟨m, hm⟩ := HM.out
        clear HCe HCa HM
        have HA3 := Lib.hid (show ScA wc b s k false by rw [hm]; exact HA2.out.drewN m)
        have HG3 := Lib.hid (show w.grownBy wc (some b) by rw [hm]; exact sc_drewN HG2.out m)
        clear hm HA2 HG2 c0 c1 c2 fr lt
        obtain ⟨c0, c1, c2, fr, lt⟩ := HA3.out
        cases C with
        | true =>
          obtain ⟨hks, hr⟩ := HCy.out rfl
          have hw : IntKind.i64.wrap ((k : Int) + 1) = ((k + 1 : Nat) : Int) := by rw [show (k : Int) + 1 = ((k + 1 : Nat) : Int) by omega]; exact IntWalk.i64_in _ (by omega)
          have HR2 := Lib.hid hr
          clear hr HCy HCn
          go_wp2
          go_roundg (s.length - (k + 1))
          case measure => have := HG0.out; omega
          case rel => exact ⟨k + 1, rfl, by omega, hks, Lib.hid (HA3.out.move (k + 1)), Lib.hid (sc_set HG3.out), HR2⟩
        | false =>
          have hr := Lib.hid (HCn.out rfl)
          clear HCy HCn
          by_cases hkj : k = j
          · have e1 : ((k : Int) == (j : Int)) = true := beq_iff_eq.2 (by omega)
            have hr2 := Lib.hid (show P = .fell (s.drop j) by have := hr.out; rwa [if_pos (by omega)] at this)
            have hdr : s.drop k = s.drop j := by rw [hkj]
            have hdr2 := Lib.hid hdr
            clear hr hkj hdr
            go_upto_region 6 with fail
            go_quiet (fail)
            go_wp2
            go_ret
            refine ⟨⟨_, rfl, fun v r e => by rw [hr2.out] at e; cases e⟩, ?_, ?_⟩
            · exact sc_drewN (sc_set HG3.out) _
            · exact (HA3.out.fall.drewN _).toO hk (by rw [hr2.out, hdr2.out]; rfl) (by rw [hr2.out]; rfl)
          · have e1 : ((k : Int) == (j : Int)) = false := beq_eq_false_iff_ne.2 (by omega)
            have hr2 := Lib.hid (show P = .ok ((s.drop j).take (k - j)) (s.drop k) by have := hr.out; rwa [if_neg (by omega)] at this)
            clear hr hkj
            go_upto_region 6 with fail
            go_quiet (fail)
            go_wp2
            go_ret
            refine ⟨⟨_, rfl, fun v r e => by rw [hr2.out] at e; injection e with e1 e2; rw [e1]⟩, ?_, ?_⟩
            · exact sc_drewN HG3.out _
            · exact (HA3.out.drewN _).toO hk (by rw [hr2.out]; rfl) (by rw [hr2.out]; rfl)

end Go.Proofs.YthniemoganoapaaDoor
