/- The walks of strings.Compare, byName, hasControl, Name, Value. -/
import Derived.Test.YtaloimbffijalaaDoorLabelRow
import Derived.Test.YtaloimbffijalaaDoorUtfBd
import Derived.Sort.Grow
import Derived.OwnWalk
import Derived.Lib.Bytealg
set_option maxRecDepth 100000
set_option linter.unusedVariables false
set_option linter.unusedSimpArgs false
namespace Go.Proofs.YtaloimbffijalaaDoor
open Go.RowKit Go.Sort

set_option maxHeartbeats 1000000 in
theorem cmpstr_calls (a b : List UInt8) (w : World) :
    Calls Tryd.prog 52 #[.string (str a), .string (str b)] w fun e w' => e = .returned (.int .i64 (cb a b)) ∧ w' = w := by
  go_enter Tryd.func52, Tryd.ntmps52
  go_wp2
  rw [run_callFunc_extern Tryd.func61 (by kernel_rfl) (by kernel_rfl) (by kernel_rfl) (e := Extern.BytealgCompare.compare) (by kernel_rfl), Lib.run_compareString]
  simp only [Result.andThen]
  rw [Oper.upon_value]
  go_wp2
  go_ret
  exact ⟨rfl, rfl⟩
set_option maxHeartbeats 1000000 in
theorem strcmp_calls (a b : List UInt8) (w : World) :
    Calls Tryd.prog 37 #[.string (str a), .string (str b)] w fun e w' => e = .returned (.int .i64 (cb a b)) ∧ w' = w := by
  go_enter Tryd.func37, Tryd.ntmps37
  go_wp2_with (go_at_call 52; refine (cmpstr_calls _ _ _).mono ?_; rintro e w' ⟨rfl, rfl⟩)
  go_ret
  exact ⟨rfl, rfl⟩
/-- a label as a value -/
abbrev lv (x : Lb) : Value := .agg #[.string (str x.1), .string (str x.2)]
set_option maxHeartbeats 1000000 in
theorem byname_grow (x y : Lb) (w : World) :
    Calls Tryd.prog 26 #[lv x, lv y] w fun e w' => e = .returned (.int .i64 (cb x.1 y.1)) ∧ ∃ q os', w' = grow (w.drewN q) os' := by
  have hc := fun W => strcmp_calls x.1 y.1 W
  generalize cb x.1 y.1 = r at *
  go_enter Tryd.func26, Tryd.ntmps26
  go_wp2_with (go_at_call 37; refine (hc _).mono ?_; rintro e w' ⟨rfl, rfl⟩)
  go_ret
  exact ⟨rfl, 0, _, by rw [alloc_eq_grow, alloc_eq_grow, grow_grow]; rfl⟩
theorem below_grow {B : Nat} {a w : World} (h : Below B a w) (hB : B ≤ a.heap.size) (os : Array Obj) : Below B a (grow w os) := by
  refine ⟨h.os, h.tape, h.output, ?_, fun b hb => ?_⟩
  · have := h.size; unfold grow; simp; omega
  · have := h.size
    rw [← h.block b hb]; unfold grow; simp only; rw [Array.getElem?_append_left (by omega)]
theorem byname_calls (x y : Lb) (w : World) :
    Calls Tryd.prog 26 #[lv x, lv y] w fun e w' => e = .returned (.int .i64 (cb x.1 y.1)) ∧ Below w.heap.size w w' := by
  refine (byname_grow x y w).mono ?_
  rintro e w' ⟨rfl, q, os, rfl⟩
  exact ⟨rfl, below_grow (below_drewN (Below.refl _ _) q) (Nat.le_refl _) os⟩

theorem ctl_take (l : List UInt8) (k : Nat) (h : k < (str l).size) (h0 : ctl (l.take k) = false) :
    ctl (l.take (k + 1)) = (decide (((str l)[k].toNat : Int) < 32) || decide (((str l)[k].toNat : Int) = 127)) := by
  have hl : k < l.length := by rw [str_size] at h; exact h
  unfold ctl at h0 ⊢
  rw [List.take_succ_eq_append_getElem hl, List.any_append, h0, str_at l k h]
  simp only [List.any_cons, List.any_nil, Bool.or_false, Bool.false_or]
  congr 1
  · rw [decide_eq_decide, UInt8.lt_iff_toNat_lt]; simp; omega
  · rw [decide_eq_decide]
    constructor
    · intro e; rw [e]; rfl
    · intro e; apply UInt8.toNat_inj.1; simp; omega
theorem ctl_some {l : List UInt8} {k : Nat} (h : ctl (l.take k) = true) : ctl l = true := by
  unfold ctl at h ⊢
  rw [List.any_eq_true] at h ⊢
  obtain ⟨c, hc, h⟩ := h
  exact ⟨c, List.mem_of_mem_take hc, h⟩
set_option maxHeartbeats 2000000 in
theorem control_calls (l : List UInt8) (w : World) (hl : l.length ≤ maxLen) :
    Calls Tryd.prog 33 #[.string (str l)] w fun e w' => e = .returned (.bool (ctl l)) ∧ w = w' := by
  unfold maxLen at hl
  have hsz := str_size l
  go_enter Tryd.func33, Tryd.ntmps33
  go_wp2_with fail
  go_loop [6] (fun v => ∃ k : Nat, k ≤ l.length ∧ v = .int .i64 (k : Nat) ∧ Hid (ctl (l.take k) = false)) (fun v => l.length - (intOf v).toNat)
  case atStart => exact ⟨0, Nat.zero_le _, rfl, rfl⟩
  case round =>
    obtain ⟨k, hk, rfl, H⟩ := hrel
    by_cases h : k < l.length
    · have hin : k < (str l).size := by rw [hsz]; exact h
      have ht := Lib.hid (ctl_take l k hin H.out)
      by_cases h1 : ((str l)[k].toNat : Int) < 32
      · have d1 : decide (((str l)[k].toNat : Int) < 32) = true := decide_eq_true h1
        have hr := Lib.hid (ctl_some (l := l) (k := k + 1) (by rw [ht.out, d1]; rfl))
        go_wp2
        go_ret
        exact ⟨by rw [hr.out]; rfl, rfl⟩
      · have d1 : decide (((str l)[k].toNat : Int) < 32) = false := decide_eq_false h1
        by_cases h2 : ((str l)[k].toNat : Int) = 127
        · have d2 : decide (((str l)[k].toNat : Int) = 127) = true := decide_eq_true h2
          have hr := Lib.hid (ctl_some (l := l) (k := k + 1) (by rw [ht.out, d2]; simp))
          go_wp2
          go_ret
          exact ⟨by rw [hr.out]; rfl, rfl⟩
        · have d2 : decide (((str l)[k].toNat : Int) = 127) = false := decide_eq_false h2
          have hn := Lib.hid (show ctl (l.take (k + 1)) = false by rw [ht.out, d1, d2]; rfl)
          go_wp2
          go_round
          case rel => exact ⟨k + 1, h, by go_num, hn.out⟩
          case measure => simp [intOf]; omega
    · have hr := Lib.hid (show ctl l = false by have := H.out; rwa [List.take_of_length_le (by omega)] at this)
      go_wp2
      go_ret
      exact ⟨by rw [hr.out]; rfl, rfl⟩
set_option maxHeartbeats 2000000 in
theorem name_calls (l : List UInt8) (w : World) (hl : l.length ≤ maxLen) (hT : ShapesIn w) :
    Calls Tryd.prog 20 #[.string (str l)] w fun e w' => e = .returned (.bool (nameOk l)) ∧ Below w.heap.size w w' := by
  have hsz := str_size l
  have hb := Lib.hid (bad_calls (str l) w (by rw [hsz]; exact hl) hT)
  have hc := Lib.hid (fun W => control_calls l W hl)
  unfold maxLen at hl
  by_cases h1 : 1 ≤ l.length
  · have d1 : decide ((1 : Int) ≤ (l.length : Int)) = true := by simp; omega
    by_cases h2 : l.length ≤ 60
    · have d2 : decide ((l.length : Int) ≤ 60) = true := by simp; omega
      by_cases h3 : Utf.bad l < 0
      · have e : nameOk l = !ctl l := by unfold nameOk; rw [decide_eq_true h1, decide_eq_true h2, decide_eq_true h3]; rfl
        have d3 : decide (Utf.bad l < 0) = true := decide_eq_true h3
        rw [e]
        generalize Utf.bad l = B at *
        generalize ctl l = C at *
        have E := Lib.hid e
        clear e
        go_enter Tryd.func20, Tryd.ntmps20
        go_wp2_with fail
        refine hb.out.mono ?_; rintro e w1 ⟨rfl, b1⟩
        go_wp2_with fail
        refine (hc.out _).mono ?_; rintro e w2 ⟨rfl, rfl⟩
        go_wp2
        go_ret
        exact ⟨rfl, b1⟩
      · have e : nameOk l = false := by unfold nameOk; rw [decide_eq_false h3]; simp
        have d3 : decide (Utf.bad l < 0) = false := decide_eq_false h3
        rw [e]; clear e
        generalize Utf.bad l = B at *
        go_enter Tryd.func20, Tryd.ntmps20
        go_wp2_with fail
        refine hb.out.mono ?_; rintro e w1 ⟨rfl, b1⟩
        go_wp2
        go_ret
        exact ⟨rfl, b1⟩
    · have d2 : decide ((l.length : Int) ≤ 60) = false := by simp; omega
      have e : nameOk l = false := by unfold nameOk; rw [decide_eq_false h2]; simp
      rw [e]; clear e
      go_enter Tryd.func20, Tryd.ntmps20
      go_wp2
      go_ret
      exact ⟨rfl, Below.refl _ _⟩
  · have d1 : decide ((1 : Int) ≤ (l.length : Int)) = false := by simp; omega
    have e : nameOk l = false := by unfold nameOk; rw [decide_eq_false h1]; simp
    rw [e]; clear e
    go_enter Tryd.func20, Tryd.ntmps20
    go_wp2
    go_ret
    exact ⟨rfl, Below.refl _ _⟩
set_option maxHeartbeats 2000000 in
theorem value_calls (l : List UInt8) (w : World) (hl : l.length ≤ maxLen) (hT : ShapesIn w) :
    Calls Tryd.prog 22 #[.string (str l)] w fun e w' => e = .returned (.bool (valueOk l)) ∧ Below w.heap.size w w' := by
  have hsz := str_size l
  have hb := Lib.hid (bad_calls (str l) w (by rw [hsz]; exact hl) hT)
  unfold maxLen at hl
  by_cases h2 : l.length ≤ 60
  · have d2 : decide ((l.length : Int) ≤ 60) = true := by simp; omega
    have e : valueOk l = decide (Utf.bad l < 0) := by unfold valueOk; rw [decide_eq_true h2]; rfl
    rw [e]; clear e
    generalize Utf.bad l = B at *
    go_enter Tryd.func22, Tryd.ntmps22
    go_wp2_with fail
    refine hb.out.mono ?_; rintro e w1 ⟨rfl, b1⟩
    go_wp2
    go_ret
    exact ⟨rfl, b1⟩
  · have d2 : decide ((l.length : Int) ≤ 60) = false := by simp; omega
    have e : valueOk l = false := by unfold valueOk; rw [decide_eq_false h2]; simp
    rw [e]; clear e
    go_enter Tryd.func22, Tryd.ntmps22
    go_wp2
    go_ret
    exact ⟨rfl, Below.refl _ _⟩

end Go.Proofs.YtaloimbffijalaaDoor
