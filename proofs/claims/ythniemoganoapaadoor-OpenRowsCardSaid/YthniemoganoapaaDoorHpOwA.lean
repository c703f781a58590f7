/- The walk of polyglothelp.Stands (layer 17). -/
import Derived.Test.YthniemoganoapaaDoorRefOwC
import Derived.Test.YthniemoganoapaaDoorOwRows
set_option maxRecDepth 100000
set_option linter.unusedVariables false
set_option linter.unusedSimpArgs false
namespace Go.Proofs.YthniemoganoapaaDoor
open Go.RowKit
attribute [local go_sem ↓] Go.wp_at_zero Go.wp_at_succ

/-- does t stand in s at the byte k -/
def stB (s : List UInt8) (k : Nat) (t : List UInt8) : Bool := decide (k ≤ s.length) && (decide (t.length ≤ s.length - k) && ((s.drop k).take t.length == t))
theorem stB_yes {s t : List UInt8} {k : Nat} (h : Ow.Std s k t) : stB s k t = true := by
  obtain ⟨h1, h2⟩ := h
  have h3 := h2.length_le
  rw [List.length_drop] at h3
  unfold stB
  rw [decide_eq_true h1, decide_eq_true h3, ← List.prefix_iff_eq_take.1 h2]
  simp

set_option maxHeartbeats 4000000 in
theorem stands_calls (s t : List UInt8) (k : Nat) (w : World) (hs : s.length ≤ 1000000) (ht : t.length ≤ maxLen) (hk : k ≤ 1000000) :
    Calls Tryd.prog 18 #[.string (str s), .int .i64 (k : Nat), .string (str t)] w fun e w' => e = .returned (.bool (stB s k t)) ∧ w = w' := by
  have hss := str_size s
  have hst := str_size t
  have hr0 := Lib.hid (show stB s k t = (decide (k ≤ s.length) && (decide (t.length ≤ s.length - k) && ((s.drop k).take t.length == t))) from rfl)
  generalize stB s k t = R at *
  unfold maxLen at ht
  have d0 : decide ((0 : Int) ≤ (k : Int)) = true := decide_eq_true (by omega)
  by_cases h1 : k ≤ s.length
  rotate_left
  · have d1 : decide ((k : Int) ≤ (s.length : Int)) = false := decide_eq_false (by omega)
    have d1' : decide (k ≤ s.length) = false := decide_eq_false h1
    have hr := Lib.hid (show R = false by rw [hr0.out, decide_eq_false h1]; rfl)
    clear hr0
    go_enter Tryd.func18, Tryd.ntmps18
    go_wp2
    go_ret
    exact ⟨by rw [hr.out]; rfl, rfl⟩
  have d1 : decide ((k : Int) ≤ (s.length : Int)) = true := decide_eq_true (by omega)
  have d1' : decide (k ≤ s.length) = true := decide_eq_true h1
  obtain ⟨j, hj⟩ : ∃ j : Nat, s.length = k + j := ⟨s.length - k, by omega⟩
  have t1 : IntKind.i64.wrap ((s.length : Int) - (k : Int)) = (j : Int) := by rw [show (s.length : Int) - (k : Int) = (j : Int) by omega]; exact IntWalk.i64_in _ (by omega)
  have t2 : (s.length : Int) - (k : Int) = (j : Int) := by omega
  have t3 : IntKind.i64.wrap (j : Int) = (j : Int) := IntWalk.i64_in _ (by omega)
  by_cases h2 : t.length ≤ j
  rotate_left
  · have d2 : decide ((t.length : Int) ≤ (j : Int)) = false := decide_eq_false (by omega)
    have d2' : decide (t.length ≤ j) = false := decide_eq_false h2
    have d2'' : decide ((t.length : Int) ≤ (s.length : Int) - (k : Int)) = false := decide_eq_false (by omega)
    have hr := Lib.hid (show R = false by rw [hr0.out, decide_eq_false (show ¬ t.length ≤ s.length - k by omega)]; simp)
    clear hr0 hj
    go_enter Tryd.func18, Tryd.ntmps18
    go_wp2
    go_ret
    exact ⟨by rw [hr.out]; rfl, rfl⟩
  have d2 : decide ((t.length : Int) ≤ (j : Int)) = true := decide_eq_true (by omega)
  have d2' : decide (t.length ≤ j) = true := decide_eq_true h2
  have d2'' : decide ((t.length : Int) ≤ (s.length : Int) - (k : Int)) = true := decide_eq_true (by omega)
  have t4 : IntKind.i64.wrap ((k : Int) + (t.length : Int)) = (k : Int) + (t.length : Int) := IntWalk.i64_in _ (by omega)
  have hex : ((str s).extract k (k + t.length)).toList = (s.drop k).take t.length := by
    rw [show (str s).extract k (k + t.length) = str ((s.drop k).take t.length) from str_ext (by rw [ext_list]; simp [List.drop_take])]
    exact ByteArray.toList_mk _
  have hr := Lib.hid (show R = (((str s).extract k (k + t.length)).toList == t) by rw [hr0.out, decide_eq_true h1, decide_eq_true (show t.length ≤ s.length - k by omega), hex]; rfl)
  clear hr0 hj hex
  go_enter Tryd.func18, Tryd.ntmps18
  go_wp2
  go_ret
  exact ⟨by rw [hr.out]; rfl, rfl⟩

end Go.Proofs.YthniemoganoapaaDoor
