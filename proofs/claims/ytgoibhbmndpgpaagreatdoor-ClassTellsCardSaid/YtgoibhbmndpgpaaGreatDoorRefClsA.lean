/- The walks of the reference's Value, Kinds, unit (layer 16). -/
import Derived.Test.YtgoibhbmndpgpaaGreatDoorClsPlain
import Derived.Test.YtgoibhbmndpgpaaGreatDoorRefProto
import Derived.Test.YtgoibhbmndpgpaaGreatDoorRefChW
import Derived.Test.YtgoibhbmndpgpaaGreatDoorRfA
import Derived.Test.YtgoibhbmndpgpaaGreatDoorPointW
import Derived.Deep.RegionHeld3
import Derived.Deep.DrawnRows
set_option maxRecDepth 100000
set_option linter.unusedVariables false
set_option linter.unusedSimpArgs false
namespace Go.Proofs.YtgoibhbmndpgpaaGreatDoor
open Go.RowKit Go.Sort Dc
attribute [local go_sem ↓] Go.wp_at_zero Go.wp_at_succ

theorem NoRow.made {w : World} {b : Nat} {T : TypeId} {a : Array Value} (l : List Int) (h : w.heap[b]? = some (.cells a T (0, 0))) (ha : a = (l.map (Value.int .i64)).toArray) (hn : l.length ≤ 100) : NoRow w (.slice (some ⟨b, 0, none⟩) l.length l.length) l := by
  refine ⟨_, l.length, rfl, Nat.le_refl _, by unfold maxLen; omega, fun h0 => ⟨b, 0, rfl, (Array.getElem?_eq_some_iff.1 h).1, fun i x hx => ?_⟩⟩
  rw [cell_of_row w b (0 + i) a T (0, 0) h, ha]
  simp [hx]

set_option maxHeartbeats 8000000 in
theorem rkinds_calls (p : Int) (w : World) :
    Calls Tryz.prog 10 #[.int .i64 p] w fun e w' => (∃ v, e = .returned v ∧ NoRow w' v (Kl.kinds p)) ∧ Below w.heap.size w w' := by
  have b0 := Below.refl w.heap.size w
  by_cases h1 : p = 1
  · subst h1
    go_enter Tryz.func10, Tryz.ntmps10
    go_wp2
    go_ret
    exact ⟨⟨_, rfl, NoRow.made [0, 1, 2, 3, 4] (heap_alloc_new _ _) rfl (by simp)⟩, kp_alloc b0 _⟩
  by_cases h2 : p = 2
  · subst h2
    go_enter Tryz.func10, Tryz.ntmps10
    go_wp2
    go_ret
    exact ⟨⟨_, rfl, NoRow.made [0, 1, 2] (heap_alloc_new _ _) rfl (by simp)⟩, kp_alloc b0 _⟩
  by_cases h3 : p = 3
  · subst h3
    go_enter Tryz.func10, Tryz.ntmps10
    go_wp2
    go_ret
    exact ⟨⟨_, rfl, NoRow.made [0] (heap_alloc_new _ _) rfl (by simp)⟩, kp_alloc b0 _⟩
  by_cases h4 : p = 4
  · subst h4
    go_enter Tryz.func10, Tryz.ntmps10
    go_wp2
    go_ret
    exact ⟨⟨_, rfl, NoRow.made [1, 2] (heap_alloc_new _ _) rfl (by simp)⟩, kp_alloc b0 _⟩
  have d1 : (p == 1) = false := by simpa using h1
  have d2 : (p == 2) = false := by simpa using h2
  have d3 : (p == 3) = false := by simpa using h3
  have d4 : (p == 4) = false := by simpa using h4
  have hr := Lib.hid (show Kl.kinds p = [] by unfold Kl.kinds; simp [h1, h2, h3, h4])
  clear h1 h2 h3 h4
  go_enter Tryz.func10, Tryz.ntmps10
  go_wp2
  go_ret
  exact ⟨⟨_, rfl, by rw [hr.out]; exact NoRow.nil w⟩, b0⟩

set_option maxHeartbeats 16000000 in
theorem rval16_calls (p : Int) (l : List UInt8) (w : World) (hl : l.length ≤ maxLen) :
    Calls Tryz.prog 14 #[.int .i64 p, .string (str l)] w fun e w' => e = .returned (.bool (Kl.val p l)) ∧ w = w' := by
  have hsz := str_size l
  by_cases h1 : p = 1
  · subst h1
    have hb := Lib.hid (rvalue_calls l w hl)
    rw [show Kl.val 1 l = valueOk l from rfl]
    generalize valueOk l = V at *
    go_enter Tryz.func14, Tryz.ntmps14
    go_wp2_with fail
    refine hb.out.mono ?_; rintro e w1 ⟨rfl, rfl⟩
    go_wp2
    go_ret
    exact ⟨rfl, rfl⟩
  by_cases h2 : 1 ≤ p ∧ p ≤ 4
  rotate_left
  · have hP := Lib.hid (riproto_calls p w)
    have hp0 : protoOk p = false := by unfold protoOk; rw [← Bool.decide_and]; exact decide_eq_false h2
    rw [hp0] at hP
    have hr := Lib.hid (show Kl.val p l = false by unfold Kl.val; rw [if_neg h1, decide_eq_false h2]; rfl)
    have d1 : (p == 1) = false := by simpa using h1
    clear h1 h2 hp0
    go_enter Tryz.func14, Tryz.ntmps14
    go_wp2_with fail
    refine hP.out.mono ?_; rintro e w1 ⟨rfl, rfl⟩
    go_wp2
    go_ret
    exact ⟨by rw [hr.out]; rfl, rfl⟩
  rcases (show p = 2 ∨ p = 3 ∨ p = 4 by omega) with rfl | rfl | rfl
  · clear h1 h2
    have hP := Lib.hid (riproto_calls 2 w)
    rw [show protoOk 2 = true from rfl] at hP
    have hv := Lib.hid (show Kl.val 2 l = (decide (1 ≤ l.length) && decide (l.length ≤ 60) && l.all (Kl.vb 2) && decide (Utf.bad l < 0)) from rfl)
    by_cases g1 : 1 ≤ l.length
    rotate_left
    · have e1 : decide ((l.length : Int) < 1) = true := by simp; omega
      have hr := Lib.hid (show Kl.val 2 l = false by rw [hv.out, decide_eq_false g1]; rfl)
      go_enter Tryz.func14, Tryz.ntmps14
      go_wp2_with fail
      refine hP.out.mono ?_; rintro e w1 ⟨rfl, rfl⟩
      go_wp2
      go_ret
      exact ⟨by rw [hr.out]; rfl, rfl⟩
    have e1 : decide ((l.length : Int) < 1) = false := by simp; omega
    by_cases g2 : l.length ≤ 60
    rotate_left
    · have e2 : decide ((60 : Int) < (l.length : Int)) = true := by simp; omega
      have hr := Lib.hid (show Kl.val 2 l = false by rw [hv.out, decide_eq_false g2]; simp)
      go_enter Tryz.func14, Tryz.ntmps14
      go_wp2_with fail
      refine hP.out.mono ?_; rintro e w1 ⟨rfl, rfl⟩
      go_wp2
      go_ret
      exact ⟨by rw [hr.out]; rfl, rfl⟩
    have e2 : decide ((60 : Int) < (l.length : Int)) = false := by simp; omega
    have hb := Lib.hid (fun W => bad_ref (str l) W (by rw [hsz]; exact hl))
    have hv2 := Lib.hid (show Kl.val 2 l = (l.all (Kl.vb 2) && decide (Utf.bad l < 0)) by rw [hv.out, decide_eq_true g1, decide_eq_true g2]; rfl)
    clear hv
    unfold maxLen at hl
    go_enter Tryz.func14, Tryz.ntmps14
    go_wp2_with fail
    refine hP.out.mono ?_; rintro e w1 ⟨rfl, rfl⟩
    clear hP
    go_wp2_with fail
    go_loop [5] (fun v => ∃ k : Nat, k ≤ l.length ∧ v = .int .i64 (k : Nat) ∧ Hid (∀ y ∈ l.take k, Kl.vb 2 y = true)) (fun v => l.length - (intOf v).toNat)
    case atStart => exact ⟨0, Nat.zero_le _, rfl, Lib.hid (fun y hy => by cases hy)⟩
    case round =>
      obtain ⟨k, hk, rfl, H⟩ := hrel
      by_cases h : k < l.length
      · have hin : k < (str l).size := by rw [hsz]; exact h
        have hno := Lib.hid (fun (e : Kl.vbn 2 ((str l)[k]'hin).toNat = false) => show Kl.val 2 l = false from by rw [hv2.out, Lg.all_no (List.getElem_mem h) (show Kl.vb 2 l[k] = false from e)]; rfl)
        have hyes := Lib.hid (fun (e : Kl.vbn 2 ((str l)[k]'hin).toNat = true) => Lg.all_take (P := fun y => Kl.vb 2 y = true) H.out (List.getElem?_eq_getElem h) (show Kl.vb 2 l[k] = true from e))
        by_cases a0 : ((str l)[k].toNat : Int) < 32
        · have d0 : decide (((str l)[k].toNat : Int) < 32) = true := decide_eq_true a0
          have hr := Lib.hid (hno.out (by generalize ((str l)[k]'hin).toNat = n at *; unfold Kl.vbn; simp; omega))
          clear hno hyes
          skip
          go_wp2
          go_ret
          exact ⟨by rw [hr.out]; rfl, rfl⟩
        have d0 : decide (((str l)[k].toNat : Int) < 32) = false := decide_eq_false a0
        by_cases a1 : ((str l)[k].toNat : Int) = 127
        · have d1 : decide (((str l)[k].toNat : Int) = 127) = true := decide_eq_true a1
          have hr := Lib.hid (hno.out (by generalize ((str l)[k]'hin).toNat = n at *; unfold Kl.vbn; simp; omega))
          clear hno hyes
          have b1 : (((str l)[k].toNat : Int) == 127) = true := beq_iff_eq.2 a1
          go_wp2
          go_ret
          exact ⟨by rw [hr.out]; rfl, rfl⟩
        have d1 : decide (((str l)[k].toNat : Int) = 127) = false := decide_eq_false a1
        have b1 : (((str l)[k].toNat : Int) == 127) = false := beq_eq_false_iff_ne.2 a1
        by_cases a2 : ((str l)[k].toNat : Int) = 92
        · have d2 : decide (((str l)[k].toNat : Int) = 92) = true := decide_eq_true a2
          have hr := Lib.hid (hno.out (by generalize ((str l)[k]'hin).toNat = n at *; unfold Kl.vbn; simp; omega))
          clear hno hyes
          have b2 : (((str l)[k].toNat : Int) == 92) = true := beq_iff_eq.2 a2
          go_wp2
          go_ret
          exact ⟨by rw [hr.out]; rfl, rfl⟩
        have d2 : decide (((str l)[k].toNat : Int) = 92) = false := decide_eq_false a2
        have b2 : (((str l)[k].toNat : Int) == 92) = false := beq_eq_false_iff_ne.2 a2
        have hn := Lib.hid (hyes.out (by generalize ((str l)[k]'hin).toNat = n at *; unfold Kl.vbn; simp; omega))
        clear hno hyes
        go_wp2
        go_round
        case rel => exact ⟨k + 1, h, by go_num, hn.out⟩
        case measure => simp [intOf]; omega
      · have hr := Lib.hid (show Kl.val 2 l = decide (Utf.bad l < 0) by rw [hv2.out, Lg.all_yes (Lg.all_full H.out (by omega))]; rfl)
        clear H hv2
        generalize Utf.bad l = B at *
        go_wp2_with fail
        refine (hb.out _).mono ?_; rintro e w1 ⟨rfl, rfl⟩
        go_wp2
        go_ret
        exact ⟨by rw [hr.out]; rfl, rfl⟩
  · clear h1 h2
    have hP := Lib.hid (riproto_calls 3 w)
    rw [show protoOk 3 = true from rfl] at hP
    have hv := Lib.hid (show Kl.val 3 l = (decide (1 ≤ l.length) && decide (l.length ≤ 60) && l.all (Kl.vb 3) && decide (Utf.bad l < 0)) from rfl)
    by_cases g1 : 1 ≤ l.length
    rotate_left
    · have e1 : decide ((l.length : Int) < 1) = true := by simp; omega
      have hr := Lib.hid (show Kl.val 3 l = false by rw [hv.out, decide_eq_false g1]; rfl)
      go_enter Tryz.func14, Tryz.ntmps14
      go_wp2_with fail
      refine hP.out.mono ?_; rintro e w1 ⟨rfl, rfl⟩
      go_wp2
      go_ret
      exact ⟨by rw [hr.out]; rfl, rfl⟩
    have e1 : decide ((l.length : Int) < 1) = false := by simp; omega
    by_cases g2 : l.length ≤ 60
    rotate_left
    · have e2 : decide ((60 : Int) < (l.length : Int)) = true := by simp; omega
      have hr := Lib.hid (show Kl.val 3 l = false by rw [hv.out, decide_eq_false g2]; simp)
      go_enter Tryz.func14, Tryz.ntmps14
      go_wp2_with fail
      refine hP.out.mono ?_; rintro e w1 ⟨rfl, rfl⟩
      go_wp2
      go_ret
      exact ⟨by rw [hr.out]; rfl, rfl⟩
    have e2 : decide ((60 : Int) < (l.length : Int)) = false := by simp; omega
    have hb := Lib.hid (fun W => bad_ref (str l) W (by rw [hsz]; exact hl))
    have hv2 := Lib.hid (show Kl.val 3 l = (l.all (Kl.vb 3) && decide (Utf.bad l < 0)) by rw [hv.out, decide_eq_true g1, decide_eq_true g2]; rfl)
    clear hv
    unfold maxLen at hl
    go_enter Tryz.func14, Tryz.ntmps14
    go_wp2_with fail
    refine hP.out.mono ?_; rintro e w1 ⟨rfl, rfl⟩
    clear hP
    go_wp2_with fail
    go_loop [5] (fun v => ∃ k : Nat, k ≤ l.length ∧ v = .int .i64 (k : Nat) ∧ Hid (∀ y ∈ l.take k, Kl.vb 3 y = true)) (fun v => l.length - (intOf v).toNat)
    case atStart => exact ⟨0, Nat.zero_le _, rfl, Lib.hid (fun y hy => by cases hy)⟩
    case round =>
      obtain ⟨k, hk, rfl, H⟩ := hrel
      by_cases h : k < l.length
      · have hin : k < (str l).size := by rw [hsz]; exact h
        have hno := Lib.hid (fun (e : Kl.vbn 3 ((str l)[k]'hin).toNat = false) => show Kl.val 3 l = false from by rw [hv2.out, Lg.all_no (List.getElem_mem h) (show Kl.vb 3 l[k] = false from e)]; rfl)
        have hyes := Lib.hid (fun (e : Kl.vbn 3 ((str l)[k]'hin).toNat = true) => Lg.all_take (P := fun y => Kl.vb 3 y = true) H.out (List.getElem?_eq_getElem h) (show Kl.vb 3 l[k] = true from e))
        by_cases a0 : ((str l)[k].toNat : Int) < 33
        · have d0 : decide (((str l)[k].toNat : Int) < 33) = true := decide_eq_true a0
          have hr := Lib.hid (hno.out (by generalize ((str l)[k]'hin).toNat = n at *; unfold Kl.vbn; simp; omega))
          clear hno hyes
          skip
          go_wp2
          go_ret
          exact ⟨by rw [hr.out]; rfl, rfl⟩
        have d0 : decide (((str l)[k].toNat : Int) < 33) = false := decide_eq_false a0
        by_cases a1 : 126 < ((str l)[k].toNat : Int)
        · have d1 : decide ((126 : Int) < ((str l)[k].toNat : Int)) = true := decide_eq_true a1
          have hr := Lib.hid (hno.out (by generalize ((str l)[k]'hin).toNat = n at *; unfold Kl.vbn; simp; omega))
          clear hno hyes
          skip
          go_wp2
          go_ret
          exact ⟨by rw [hr.out]; rfl, rfl⟩
        have d1 : decide ((126 : Int) < ((str l)[k].toNat : Int)) = false := decide_eq_false a1
        by_cases a2 : ((str l)[k].toNat : Int) = 59
        · have d2 : decide (((str l)[k].toNat : Int) = 59) = true := decide_eq_true a2
          have hr := Lib.hid (hno.out (by generalize ((str l)[k]'hin).toNat = n at *; unfold Kl.vbn; simp; omega))
          clear hno hyes
          have b2 : (((str l)[k].toNat : Int) == 59) = true := beq_iff_eq.2 a2
          go_wp2
          go_ret
          exact ⟨by rw [hr.out]; rfl, rfl⟩
        have d2 : decide (((str l)[k].toNat : Int) = 59) = false := decide_eq_false a2
        have b2 : (((str l)[k].toNat : Int) == 59) = false := beq_eq_false_iff_ne.2 a2
        have hn := Lib.hid (hyes.out (by generalize ((str l)[k]'hin).toNat = n at *; unfold Kl.vbn; simp; omega))
        clear hno hyes
        go_wp2
        go_round
        case rel => exact ⟨k + 1, h, by go_num, hn.out⟩
        case measure => simp [intOf]; omega
      · have hr := Lib.hid (show Kl.val 3 l = decide (Utf.bad l < 0) by rw [hv2.out, Lg.all_yes (Lg.all_full H.out (by omega))]; rfl)
        clear H hv2
        generalize Utf.bad l = B at *
        go_wp2_with fail
        refine (hb.out _).mono ?_; rintro e w1 ⟨rfl, rfl⟩
        go_wp2
        go_ret
        exact ⟨by rw [hr.out]; rfl, rfl⟩
  · clear h1 h2
    have hP := Lib.hid (riproto_calls 4 w)
    rw [show protoOk 4 = true from rfl] at hP
    have hv := Lib.hid (show Kl.val 4 l = (decide (1 ≤ l.length) && decide (l.length ≤ 60) && l.all (Kl.vb 4) && decide (Utf.bad l < 0)) from rfl)
    by_cases g1 : 1 ≤ l.length
    rotate_left
    · have e1 : decide ((l.length : Int) < 1) = true := by simp; omega
      have hr := Lib.hid (show Kl.val 4 l = false by rw [hv.out, decide_eq_false g1]; rfl)
      go_enter Tryz.func14, Tryz.ntmps14
      go_wp2_with fail
      refine hP.out.mono ?_; rintro e w1 ⟨rfl, rfl⟩
      go_wp2
      go_ret
      exact ⟨by rw [hr.out]; rfl, rfl⟩
    have e1 : decide ((l.length : Int) < 1) = false := by simp; omega
    by_cases g2 : l.length ≤ 60
    rotate_left
    · have e2 : decide ((60 : Int) < (l.length : Int)) = true := by simp; omega
      have hr := Lib.hid (show Kl.val 4 l = false by rw [hv.out, decide_eq_false g2]; simp)
      go_enter Tryz.func14, Tryz.ntmps14
      go_wp2_with fail
      refine hP.out.mono ?_; rintro e w1 ⟨rfl, rfl⟩
      go_wp2
      go_ret
      exact ⟨by rw [hr.out]; rfl, rfl⟩
    have e2 : decide ((60 : Int) < (l.length : Int)) = false := by simp; omega
    have hb := Lib.hid (fun W => bad_ref (str l) W (by rw [hsz]; exact hl))
    have hv2 := Lib.hid (show Kl.val 4 l = (l.all (Kl.vb 4) && decide (Utf.bad l < 0)) by rw [hv.out, decide_eq_true g1, decide_eq_true g2]; rfl)
    clear hv
    unfold maxLen at hl
    go_enter Tryz.func14, Tryz.ntmps14
    go_wp2_with fail
    refine hP.out.mono ?_; rintro e w1 ⟨rfl, rfl⟩
    clear hP
    go_wp2_with fail
    go_loop [5] (fun v => ∃ k : Nat, k ≤ l.length ∧ v = .int .i64 (k : Nat) ∧ Hid (∀ y ∈ l.take k, Kl.vb 4 y = true)) (fun v => l.length - (intOf v).toNat)
    case atStart => exact ⟨0, Nat.zero_le _, rfl, Lib.hid (fun y hy => by cases hy)⟩
    case round =>
      obtain ⟨k, hk, rfl, H⟩ := hrel
      by_cases h : k < l.length
      · have hin : k < (str l).size := by rw [hsz]; exact h
        have hno := Lib.hid (fun (e : Kl.vbn 4 ((str l)[k]'hin).toNat = false) => show Kl.val 4 l = false from by rw [hv2.out, Lg.all_no (List.getElem_mem h) (show Kl.vb 4 l[k] = false from e)]; rfl)
        have hyes := Lib.hid (fun (e : Kl.vbn 4 ((str l)[k]'hin).toNat = true) => Lg.all_take (P := fun y => Kl.vb 4 y = true) H.out (List.getElem?_eq_getElem h) (show Kl.vb 4 l[k] = true from e))
        by_cases a0 : ((str l)[k].toNat : Int) < 33
        · have d0 : decide (((str l)[k].toNat : Int) < 33) = true := decide_eq_true a0
          have hr := Lib.hid (hno.out (by generalize ((str l)[k]'hin).toNat = n at *; unfold Kl.vbn; simp; omega))
          clear hno hyes
          skip
          go_wp2
          go_ret
          exact ⟨by rw [hr.out]; rfl, rfl⟩
        have d0 : decide (((str l)[k].toNat : Int) < 33) = false := decide_eq_false a0
        by_cases a1 : 126 < ((str l)[k].toNat : Int)
        · have d1 : decide ((126 : Int) < ((str l)[k].toNat : Int)) = true := decide_eq_true a1
          have hr := Lib.hid (hno.out (by generalize ((str l)[k]'hin).toNat = n at *; unfold Kl.vbn; simp; omega))
          clear hno hyes
          skip
          go_wp2
          go_ret
          exact ⟨by rw [hr.out]; rfl, rfl⟩
        have d1 : decide ((126 : Int) < ((str l)[k].toNat : Int)) = false := decide_eq_false a1
        by_cases a2 : ((str l)[k].toNat : Int) = 44
        · have d2 : decide (((str l)[k].toNat : Int) = 44) = true := decide_eq_true a2
          have hr := Lib.hid (hno.out (by generalize ((str l)[k]'hin).toNat = n at *; unfold Kl.vbn; simp; omega))
          clear hno hyes
          have b2 : (((str l)[k].toNat : Int) == 44) = true := beq_iff_eq.2 a2
          go_wp2
          go_ret
          exact ⟨by rw [hr.out]; rfl, rfl⟩
        have d2 : decide (((str l)[k].toNat : Int) = 44) = false := decide_eq_false a2
        have b2 : (((str l)[k].toNat : Int) == 44) = false := beq_eq_false_iff_ne.2 a2
        by_cases a3 : ((str l)[k].toNat : Int) = 124
        · have d3 : decide (((str l)[k].toNat : Int) = 124) = true := decide_eq_true a3
          have hr := Lib.hid (hno.out (by generalize ((str l)[k]'hin).toNat = n at *; unfold Kl.vbn; simp; omega))
          clear hno hyes
          have b3 : (((str l)[k].toNat : Int) == 124) = true := beq_iff_eq.2 a3
          go_wp2
          go_ret
          exact ⟨by rw [hr.out]; rfl, rfl⟩
        have d3 : decide (((str l)[k].toNat : Int) = 124) = false := decide_eq_false a3
        have b3 : (((str l)[k].toNat : Int) == 124) = false := beq_eq_false_iff_ne.2 a3
        have hn := Lib.hid (hyes.out (by generalize ((str l)[k]'hin).toNat = n at *; unfold Kl.vbn; simp; omega))
        clear hno hyes
        go_wp2
        go_round
        case rel => exact ⟨k + 1, h, by go_num, hn.out⟩
        case measure => simp [intOf]; omega
      · have hr := Lib.hid (show Kl.val 4 l = decide (Utf.bad l < 0) by rw [hv2.out, Lg.all_yes (Lg.all_full H.out (by omega))]; rfl)
        clear H hv2
        generalize Utf.bad l = B at *
        go_wp2_with fail
        refine (hb.out _).mono ?_; rintro e w1 ⟨rfl, rfl⟩
        go_wp2
        go_ret
        exact ⟨by rw [hr.out]; rfl, rfl⟩

end Go.Proofs.YtgoibhbmndpgpaaGreatDoor
