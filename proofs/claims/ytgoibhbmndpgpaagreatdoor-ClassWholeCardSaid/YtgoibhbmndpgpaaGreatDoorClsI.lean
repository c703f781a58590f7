/- The walks of class's isGraphic, takesByte, takes, Value, Kinds (layer 16). -/
import Derived.Test.YtgoibhbmndpgpaaGreatDoorClsQ
import Derived.Test.YtgoibhbmndpgpaaGreatDoorUlW
import Derived.Test.YtgoibhbmndpgpaaGreatDoorPointW
import Derived.Deep.RegionHeld3
import Derived.Deep.DrawnRows
import Derived.Deep.DeepCutAuto
import Derived.BigQuiet
set_option maxRecDepth 100000
set_option linter.unusedVariables false
set_option linter.unusedSimpArgs false
namespace Go.Proofs.YtgoibhbmndpgpaaGreatDoor
open Go.RowKit Go.Sort Dc
attribute [local go_sem ↓] Go.wp_at_zero Go.wp_at_succ

theorem NoRow.made16 {w : World} {b : Nat} {T : TypeId} {a : Array Value} (l : List Int) (h : w.heap[b]? = some (.cells a T (0, 0))) (ha : a = (l.map (Value.int .i64)).toArray) (hn : l.length ≤ 100) : NoRow w (.slice (some ⟨b, 0, none⟩) l.length l.length) l := by
  refine ⟨_, l.length, rfl, Nat.le_refl _, by unfold maxLen; omega, fun h0 => ⟨b, 0, rfl, (Array.getElem?_eq_some_iff.1 h).1, fun i x hx => ?_⟩⟩
  rw [cell_of_row w b (0 + i) a T (0, 0) h, ha]
  simp [hx]

set_option maxHeartbeats 8000000 in
theorem ckinds_calls (p : Int) (w : World) :
    Calls Tryz.prog 9 #[.int .i64 p] w fun e w' => (∃ v, e = .returned v ∧ NoRow w' v (Kl.kinds p)) ∧ Below w.heap.size w w' := by
  have b0 := Below.refl w.heap.size w
  by_cases h1 : p = 1
  · subst h1
    go_enter Tryz.func9, Tryz.ntmps9
    go_wp2
    go_ret
    exact ⟨⟨_, rfl, NoRow.made16 [0, 1, 2, 3, 4] (heap_alloc_new _ _) rfl (by simp)⟩, kp_alloc b0 _⟩
  by_cases h2 : p = 2
  · subst h2
    go_enter Tryz.func9, Tryz.ntmps9
    go_wp2
    go_ret
    exact ⟨⟨_, rfl, NoRow.made16 [0, 1, 2] (heap_alloc_new _ _) rfl (by simp)⟩, kp_alloc b0 _⟩
  by_cases h3 : p = 3
  · subst h3
    go_enter Tryz.func9, Tryz.ntmps9
    go_wp2
    go_ret
    exact ⟨⟨_, rfl, NoRow.made16 [0] (heap_alloc_new _ _) rfl (by simp)⟩, kp_alloc b0 _⟩
  by_cases h4 : p = 4
  · subst h4
    go_enter Tryz.func9, Tryz.ntmps9
    go_wp2
    go_ret
    exact ⟨⟨_, rfl, NoRow.made16 [1, 2] (heap_alloc_new _ _) rfl (by simp)⟩, kp_alloc b0 _⟩
  have d1 : (p == 1) = false := by simpa using h1
  have d2 : (p == 2) = false := by simpa using h2
  have d3 : (p == 3) = false := by simpa using h3
  have d4 : (p == 4) = false := by simpa using h4
  have hr := Lib.hid (show Kl.kinds p = [] by unfold Kl.kinds; simp [h1, h2, h3, h4])
  clear h1 h2 h3 h4
  go_enter Tryz.func9, Tryz.ntmps9
  go_wp2
  go_ret
  exact ⟨⟨_, rfl, by rw [hr.out]; exact NoRow.nil w⟩, b0⟩

def graph (n : Nat) : Bool := decide (33 ≤ n) && decide (n ≤ 126)
set_option maxHeartbeats 2000000 in
theorem graphic_calls (c : UInt8) (w : World) : Calls Tryz.prog 59 #[.int .u8 (c.toNat : Int)] w fun e w' => e = .returned (.bool (graph c.toNat)) ∧ w = w' := by
  have hr := Lib.hid (show graph c.toNat = (decide (33 ≤ c.toNat) && decide (c.toNat ≤ 126)) from rfl)
  generalize c.toNat = n at *
  generalize graph n = R at *
  by_cases a : (33 : Int) ≤ (n : Int)
  · have d1 : decide ((33 : Int) ≤ (n : Int)) = true := decide_eq_true a
    have e1 : decide (33 ≤ n) = true := decide_eq_true (by omega)
    by_cases b : (n : Int) ≤ 126
    · have d2 : decide ((n : Int) ≤ 126) = true := decide_eq_true b
      have e2 : decide (n ≤ 126) = true := decide_eq_true (by omega)
      have hR := Lib.hid (show R = true by rw [hr.out, e1, e2]; rfl)
      clear hr a b
      go_enter Tryz.func59, Tryz.ntmps59
      go_wp2
      go_ret
      exact ⟨by rw [hR.out]; rfl, rfl⟩
    · have d2 : decide ((n : Int) ≤ 126) = false := decide_eq_false b
      have e2 : decide (n ≤ 126) = false := decide_eq_false (by omega)
      have hR := Lib.hid (show R = false by rw [hr.out, e2, Bool.and_false])
      clear hr a b
      go_enter Tryz.func59, Tryz.ntmps59
      go_wp2
      go_ret
      exact ⟨by rw [hR.out]; rfl, rfl⟩
  · have d1 : decide ((33 : Int) ≤ (n : Int)) = false := decide_eq_false a
    have e1 : decide (33 ≤ n) = false := decide_eq_false (by omega)
    have hR := Lib.hid (show R = false by rw [hr.out, e1]; rfl)
    clear hr a
    go_enter Tryz.func59, Tryz.ntmps59
    go_wp2
    go_ret
    exact ⟨by rw [hR.out]; rfl, rfl⟩

theorem ne_int {n : Nat} {k : Nat} (b : Bool) (h : decide (n = k) = !b) : (((n : Nat) : Int) != ((k : Nat) : Int)) = b := by
  cases b with
  | true => simp at h; simp; omega
  | false => simp at h; simp; omega

theorem tb_2 (c : UInt8) : Kl.tb 2 c = (decide (32 ≤ c.toNat) && !decide (c.toNat = 127) && !decide (c.toNat = 92)) := by
  unfold Kl.tb Kl.vb Kl.vbn
  generalize c.toNat = n
  rw [decide_eq_true (show (2 : Int) ≤ 2 ∧ (2 : Int) ≤ 4 by omega), if_pos rfl, Bool.true_and, show decide (32 ≤ n) = !decide (n < 32) by by_cases h : n < 32 <;> simp [h]; omega]
  cases decide (n < 32) <;> cases decide (n = 127) <;> cases decide (n = 92) <;> rfl
theorem tb_3 (c : UInt8) : Kl.tb 3 c = (graph c.toNat && !decide (c.toNat = 59)) := by
  unfold Kl.tb Kl.vb Kl.vbn graph
  generalize c.toNat = n
  rw [decide_eq_true (show (2 : Int) ≤ 3 ∧ (3 : Int) ≤ 4 by omega), if_neg (by omega), Bool.true_and, show decide (33 ≤ n) = !decide (n < 33) by by_cases h : n < 33 <;> simp [h]; omega, show decide (n ≤ 126) = !decide (126 < n) by by_cases h : 126 < n <;> simp [h]; omega]
  cases decide (n < 33) <;> cases decide (126 < n) <;> cases decide (n = 59) <;> rfl
theorem tb_4 (c : UInt8) : Kl.tb 4 c = (graph c.toNat && !decide (c.toNat = 44) && !decide (c.toNat = 124)) := by
  unfold Kl.tb Kl.vb Kl.vbn graph
  generalize c.toNat = n
  rw [decide_eq_true (show (2 : Int) ≤ 4 ∧ (4 : Int) ≤ 4 by omega), if_neg (by omega), Bool.true_and, show decide (33 ≤ n) = !decide (n < 33) by by_cases h : n < 33 <;> simp [h]; omega, show decide (n ≤ 126) = !decide (126 < n) by by_cases h : 126 < n <;> simp [h]; omega]
  cases decide (n < 33) <;> cases decide (126 < n) <;> cases decide (n = 44) <;> cases decide (n = 124) <;> rfl

set_option maxHeartbeats 8000000 in
theorem tbyte_calls (p : Int) (c : UInt8) (w : World) : Calls Tryz.prog 41 #[.int .i64 p, .int .u8 (c.toNat : Int)] w fun e w' => e = .returned (.bool (Kl.tb p c)) ∧ w = w' := by
  have hg := Lib.hid (fun W => graphic_calls c W)
  by_cases h2 : p = 2
  · subst h2
    have hr := Lib.hid (tb_2 c)
    generalize Kl.tb 2 c = R at *
    generalize c.toNat = n at *
    clear hg
    by_cases a : 32 ≤ n
    rotate_left
    · have d1 : decide ((32 : Int) ≤ (n : Int)) = false := decide_eq_false (by omega)
      have hR := Lib.hid (show R = false by rw [hr.out, decide_eq_false a]; rfl)
      clear hr a
      go_enter Tryz.func41, Tryz.ntmps41
      go_wp2
      go_ret
      exact ⟨by rw [hR.out]; rfl, rfl⟩
    have d1 : decide ((32 : Int) ≤ (n : Int)) = true := decide_eq_true (by omega)
    by_cases b : n = 127
    · have d2 : ((n : Int) != 127) = false := by simp; omega
      have hR := Lib.hid (show R = false by rw [hr.out, decide_eq_true b]; simp)
      clear hr a b
      go_enter Tryz.func41, Tryz.ntmps41
      go_wp2
      go_ret
      exact ⟨by rw [hR.out]; rfl, rfl⟩
    have d2 : ((n : Int) != 127) = true := by simp; omega
    by_cases b2 : n = 92
    · have d3 : ((n : Int) != 92) = false := by simp; omega
      have hR := Lib.hid (show R = false by rw [hr.out, decide_eq_true b2]; simp)
      clear hr a b b2
      go_enter Tryz.func41, Tryz.ntmps41
      go_wp2
      go_ret
      exact ⟨by rw [hR.out]; rfl, rfl⟩
    have d3 : ((n : Int) != 92) = true := by simp; omega
    have hR := Lib.hid (show R = true by rw [hr.out, decide_eq_true a, decide_eq_false b, decide_eq_false b2]; rfl)
    clear hr a b b2
    go_enter Tryz.func41, Tryz.ntmps41
    go_wp2
    go_ret
    exact ⟨by rw [hR.out]; rfl, rfl⟩
  by_cases h3 : p = 3
  · subst h3
    clear h2
    have hr := Lib.hid (tb_3 c)
    generalize Kl.tb 3 c = R at *
    generalize c.toNat = n at *
    cases hG : graph n
    · rw [hG] at hg
      have hR := Lib.hid (show R = false by rw [hr.out, hG]; rfl)
      clear hr hG
      go_enter Tryz.func41, Tryz.ntmps41
      go_wp2_with fail
      refine (hg.out _).mono ?_; rintro e w1 ⟨rfl, rfl⟩
      go_wp2
      go_ret
      exact ⟨by rw [hR.out]; rfl, rfl⟩
    rw [hG] at hg
    by_cases b : n = 59
    · have d2 : ((n : Int) != 59) = false := by simp; omega
      have hR := Lib.hid (show R = false by rw [hr.out, decide_eq_true b]; simp)
      clear hr b hG
      go_enter Tryz.func41, Tryz.ntmps41
      go_wp2_with fail
      refine (hg.out _).mono ?_; rintro e w1 ⟨rfl, rfl⟩
      go_wp2
      go_ret
      exact ⟨by rw [hR.out]; rfl, rfl⟩
    have d2 : ((n : Int) != 59) = true := by simp; omega
    have hR := Lib.hid (show R = true by rw [hr.out, hG, decide_eq_false b]; rfl)
    clear hr b hG
    go_enter Tryz.func41, Tryz.ntmps41
    go_wp2_with fail
    refine (hg.out _).mono ?_; rintro e w1 ⟨rfl, rfl⟩
    go_wp2
    go_ret
    exact ⟨by rw [hR.out]; rfl, rfl⟩
  by_cases h4 : p = 4
  · subst h4
    clear h2 h3
    have hr := Lib.hid (tb_4 c)
    generalize Kl.tb 4 c = R at *
    generalize c.toNat = n at *
    cases hG : graph n
    · rw [hG] at hg
      have hR := Lib.hid (show R = false by rw [hr.out, hG]; rfl)
      clear hr hG
      go_enter Tryz.func41, Tryz.ntmps41
      go_wp2_with fail
      refine (hg.out _).mono ?_; rintro e w1 ⟨rfl, rfl⟩
      go_wp2
      go_ret
      exact ⟨by rw [hR.out]; rfl, rfl⟩
    rw [hG] at hg
    by_cases b : n = 44
    · have d2 : ((n : Int) != 44) = false := by simp; omega
      have hR := Lib.hid (show R = false by rw [hr.out, decide_eq_true b]; simp)
      clear hr b hG
      go_enter Tryz.func41, Tryz.ntmps41
      go_wp2_with fail
      refine (hg.out _).mono ?_; rintro e w1 ⟨rfl, rfl⟩
      go_wp2
      go_ret
      exact ⟨by rw [hR.out]; rfl, rfl⟩
    have d2 : ((n : Int) != 44) = true := by simp; omega
    by_cases b2 : n = 124
    · have d3 : ((n : Int) != 124) = false := by simp; omega
      have hR := Lib.hid (show R = false by rw [hr.out, decide_eq_true b2]; simp)
      clear hr b b2 hG
      go_enter Tryz.func41, Tryz.ntmps41
      go_wp2_with fail
      refine (hg.out _).mono ?_; rintro e w1 ⟨rfl, rfl⟩
      go_wp2
      go_ret
      exact ⟨by rw [hR.out]; rfl, rfl⟩
    have d3 : ((n : Int) != 124) = true := by simp; omega
    have hR := Lib.hid (show R = true by rw [hr.out, hG, decide_eq_false b, decide_eq_false b2]; rfl)
    clear hr b b2 hG
    go_enter Tryz.func41, Tryz.ntmps41
    go_wp2_with fail
    refine (hg.out _).mono ?_; rintro e w1 ⟨rfl, rfl⟩
    go_wp2
    go_ret
    exact ⟨by rw [hR.out]; rfl, rfl⟩
  have d2 : (p == 2) = false := by simpa using h2
  have d3 : (p == 3) = false := by simpa using h3
  have d4 : (p == 4) = false := by simpa using h4
  have hR := Lib.hid (Kl.tb_out (p := p) (by omega) c)
  generalize c.toNat = n at *
  clear h2 h3 h4 hg
  go_enter Tryz.func41, Tryz.ntmps41
  go_wp2
  go_ret
  exact ⟨by rw [hR.out]; rfl, rfl⟩

set_option maxHeartbeats 4000000 in
theorem takes_calls (p : Int) (l : List UInt8) (w : World) (hl : l.length ≤ maxLen) :
    Calls Tryz.prog 22 #[.int .i64 p, .string (str l)] w fun e w' => e = .returned (.bool (l.all (Kl.tb p))) ∧ w = w' := by
  have hsz := str_size l
  have hb := Lib.hid (fun (c : UInt8) W => tbyte_calls p c W)
  unfold maxLen at hl
  go_enter Tryz.func22, Tryz.ntmps22
  go_wp2_with fail
  go_loop [8] (fun v => ∃ k : Nat, k ≤ l.length ∧ v = .int .i64 (k : Nat) ∧ Hid (∀ y ∈ l.take k, Kl.tb p y = true)) (fun v => l.length - (intOf v).toNat)
  case atStart => exact ⟨0, Nat.zero_le _, rfl, Lib.hid (fun y hy => by cases hy)⟩
  case round =>
    obtain ⟨k, hk, rfl, H⟩ := hrel
    by_cases h : k < l.length
    · have hin : k < (str l).size := by rw [hsz]; exact h
      have hno := Lib.hid (fun (e : Kl.tb p ((str l)[k]'hin) = false) => show l.all (Kl.tb p) = false from Lg.all_no (List.getElem_mem h) (show Kl.tb p l[k] = false from e))
      have hyes := Lib.hid (fun (e : Kl.tb p ((str l)[k]'hin) = true) => Lg.all_take (P := fun y => Kl.tb p y = true) H.out (List.getElem?_eq_getElem h) (show Kl.tb p l[k] = true from e))
      have hc := Lib.hid (hb.out ((str l)[k]'hin))
      cases hv : Kl.tb p ((str l)[k]'hin)
      · rw [hv] at hc
        have hr := Lib.hid (hno.out hv)
        clear hno hyes hv
        go_wp2_with fail
        refine (hc.out _).mono ?_; rintro e w1 ⟨rfl, rfl⟩
        go_wp2
        go_ret
        exact ⟨by rw [hr.out]; rfl, rfl⟩
      · rw [hv] at hc
        have hr := Lib.hid (hyes.out hv)
        clear hno hyes hv
        go_wp2_with fail
        refine (hc.out _).mono ?_; rintro e w1 ⟨rfl, rfl⟩
        go_wp2
        go_round
        case rel => exact ⟨k + 1, h, by go_num, hr.out⟩
        case measure => simp [intOf]; omega
    · have hr := Lib.hid (show l.all (Kl.tb p) = true from Lg.all_yes (Lg.all_full H.out (by omega)))
      clear H
      go_wp2
      go_ret
      exact ⟨by rw [hr.out]; rfl, rfl⟩

set_option maxHeartbeats 4000000 in
theorem val16_calls (p : Int) (l : List UInt8) (w : World) (hl : l.length ≤ maxLen) (hT : ShapesIn w) :
    Calls Tryz.prog 13 #[.int .i64 p, .string (str l)] w fun e w' => e = .returned (.bool (Kl.val p l)) ∧ Below w.heap.size w w' := by
  have hv := Lib.hid (value_calls l w hl hT)
  have ht := Lib.hid (fun W => takes_calls p l W hl)
  by_cases h1 : p = 1
  · subst h1
    rw [Kl.val_open]
    generalize valueOk l = V at *
    clear ht hT
    go_enter Tryz.func13, Tryz.ntmps13
    go_wp2_with fail
    refine hv.out.mono ?_; rintro e w1 ⟨rfl, b1⟩
    go_wp2
    go_ret
    exact ⟨rfl, b1⟩
  have d1 : (p == 1) = false := by simpa using h1
  have hr := Lib.hid (Kl.val_code (l := l) h1)
  generalize Kl.val p l = R at *
  clear h1 hT
  by_cases he : l = []
  · have hR := Lib.hid (show R = false by rw [hr.out, decide_eq_true he]; rfl)
    clear hr hv ht
    subst he
    go_enter Tryz.func13, Tryz.ntmps13
    go_wp2
    go_ret
    exact ⟨by rw [hR.out]; rfl, Below.refl _ _⟩
  have hr2 := Lib.hid (show R = (valueOk l && l.all (Kl.tb p)) by rw [hr.out, decide_eq_false he]; rfl)
  have hie : l.isEmpty = false := by cases l with
    | nil => exact absurd rfl he
    | cons _ _ => rfl
  clear hr
  cases hV : valueOk l
  · rw [hV] at hv
    have hR := Lib.hid (show R = false by rw [hr2.out, hV]; rfl)
    clear hr2 ht hV
    go_enter Tryz.func13, Tryz.ntmps13
    go_wp2_with fail
    refine hv.out.mono ?_; rintro e w1 ⟨rfl, b1⟩
    go_wp2
    go_ret
    exact ⟨by rw [hR.out]; rfl, b1⟩
  · rw [hV] at hv
    have hR := Lib.hid (show R = l.all (Kl.tb p) by rw [hr2.out, hV]; rfl)
    generalize l.all (Kl.tb p) = T at *
    clear hr2 hV
    go_enter Tryz.func13, Tryz.ntmps13
    go_wp2_with fail
    refine hv.out.mono ?_; rintro e w1 ⟨rfl, b1⟩
    go_wp2_with fail
    refine (ht.out _).mono ?_; rintro e w2 ⟨rfl, rfl⟩
    go_wp2
    go_ret
    exact ⟨by rw [hR.out]; rfl, b1⟩

end Go.Proofs.YtgoibhbmndpgpaaGreatDoor
