/- The walks of strings.HasPrefix at "_x", of package escape's escaped. -/
import Derived.Test.YtaiolkeiabhcpaaDoorChB
import Derived.Test.YtaiolkeiabhcpaaDoorEscPlain
import Derived.Test.YtaiolkeiabhcpaaDoorGrd
import Derived.Laws.BytesArg
set_option maxRecDepth 100000
set_option linter.unusedVariables false
set_option linter.unusedSimpArgs false
namespace Go.Proofs.YtaiolkeiabhcpaaDoor
open Go.RowKit

namespace Ch
/-- does a text begin with _x -/
def isX (l : List UInt8) : Bool := decide (l.take 2 = [95, 120])
theorem isX_cons (c : UInt8) (r : List UInt8) : isX (c :: r) = isUx c r := by
  unfold isX isUx
  cases r with
  | nil => simp
  | cons d r =>
    simp only [List.take_succ_cons, List.take_zero, List.head?_cons, List.cons.injEq, and_true, Option.some.injEq]
    by_cases h : c = 95 <;> by_cases k : d = 120 <;> simp [h, k]
end Ch
theorem epre_bool (l : List UInt8) (h : 2 ≤ l.length) : (((str l).extract 0 2).toList == [95, 120]) = Ch.isX l := by
  have e : ((str l).extract 0 2).toList = l.take 2 := by
    rw [show (str l).extract 0 2 = str (l.take 2) from str_ext (by rw [ext_list]; simp)]
    exact ByteArray.toList_mk _
  rw [e]
  unfold Ch.isX
  by_cases hh : l.take 2 = [95, 120]
  · rw [hh]; rfl
  · rw [decide_eq_false hh]; simp [hh]

set_option maxHeartbeats 1000000 in
theorem epre0_calls (l : List UInt8) (w : World) :
    Calls Tryd.prog 29 #[.string (str l), .string ⟨#[95, 120]⟩] w fun e w' => e = .returned (.bool (Ch.isX l)) ∧ w = w' := by
  have hsz := str_size l
  by_cases h : 2 ≤ l.length
  · have hb := Lib.hid (epre_bool l h)
    have d1 : decide ((2 : Int) ≤ (l.length : Int)) = true := by simp; omega
    have d1' : decide (2 ≤ l.length) = true := decide_eq_true h
    go_enter Tryd.func29, Tryd.ntmps29
    go_wp2
    go_ret
    exact ⟨ret_bool hb.out, rfl⟩
  · have d1 : decide ((2 : Int) ≤ (l.length : Int)) = false := by simp; omega
    have d1' : decide (2 ≤ l.length) = false := decide_eq_false h
    have hb := Lib.hid (show Ch.isX l = false by
      unfold Ch.isX
      refine decide_eq_false fun e => ?_
      have := congrArg List.length e
      simp at this; omega)
    go_enter Tryd.func29, Tryd.ntmps29
    go_wp2
    go_ret
    exact ⟨ret_bool hb.out.symm, rfl⟩

set_option maxHeartbeats 1000000 in
theorem epre_calls (l : List UInt8) (w : World) :
    Calls Tryd.prog 17 #[.string (str l), .string ⟨#[95, 120]⟩] w fun e w' => e = .returned (.bool (Ch.isX l)) ∧ w = w' := by
  go_enter Tryd.func17, Tryd.ntmps17
  go_wp2_with fail
  refine (epre0_calls l _).mono ?_; rintro e w' ⟨rfl, rfl⟩
  go_wp2
  go_ret
  exact ⟨rfl, rfl⟩

/-- the digits -/
def hexS : ByteArray := ⟨#[48, 49, 50, 51, 52, 53, 54, 55, 56, 57, 97, 98, 99, 100, 101, 102]⟩
theorem econv2 {W : World} {b : Nat} {x y : Int} (h0 : W.cell? ⟨b, 0, none⟩ = some (.int .u8 x)) (h1 : W.cell? ⟨b, 1, none⟩ = some (.int .u8 y)) :
    (convert 35 9 (.slice (some ⟨b, 0, none⟩) 2 2)).run Tryd.prog W = .ok (.string (strOfNums [x, y])) W := by
  refine run_convert_bytes_arg _ 35 5 Tryd.underlying35 Tryd.underlying5 _ 0 2 2 _ rfl (fun i hi => ?_) 9 Tryd.underlying9
  match i, hi with
  | 0, _ => exact h0
  | 1, _ => exact h1
theorem hex_at : ∀ (k : Nat) (h : k < 16) (W : World), (Instr.index 9 (.string ⟨#[48, 49, 50, 51, 52, 53, 54, 55, 56, 57, 97, 98, 99, 100, 101, 102]⟩) (.int .u8 (k : Int))).run Tryd.prog W = .ok (.int .u8 ((Ch.hexD k).toNat : Int)) W
  | 0, _ => fun _ => by kernel_rfl
  | 1, _ => fun _ => by kernel_rfl
  | 2, _ => fun _ => by kernel_rfl
  | 3, _ => fun _ => by kernel_rfl
  | 4, _ => fun _ => by kernel_rfl
  | 5, _ => fun _ => by kernel_rfl
  | 6, _ => fun _ => by kernel_rfl
  | 7, _ => fun _ => by kernel_rfl
  | 8, _ => fun _ => by kernel_rfl
  | 9, _ => fun _ => by kernel_rfl
  | 10, _ => fun _ => by kernel_rfl
  | 11, _ => fun _ => by kernel_rfl
  | 12, _ => fun _ => by kernel_rfl
  | 13, _ => fun _ => by kernel_rfl
  | 14, _ => fun _ => by kernel_rfl
  | 15, _ => fun _ => by kernel_rfl
  | k + 16, h => absurd h (by omega)
theorem two_str (a b : UInt8) : strOfNums [(a.toNat : Int), (b.toNat : Int)] = str [a, b] := str_ext (by simp [strOfNums])
set_option maxHeartbeats 1000000 in
theorem escaped_calls (c : UInt8) (w : World) :
    Calls Tryd.prog 20 #[.int .u8 (c.toNat : Int)] w fun e w' => e = .returned (.string (str (Ch.code c))) ∧ Below w.heap.size w w' := by
  have hc : c.toNat < 256 := c.toNat_lt
  have h1 := fun W => hex_at (c.toNat / 16) (by omega) W
  have h2 := fun W => hex_at (c.toNat % 16) (by omega) W
  have r2 := fun (W : World) (b : Nat) (h0 : W.cell? ⟨b, 0, none⟩ = some (.int .u8 ((Ch.hexD (c.toNat / 16)).toNat : Int))) (h1 : W.cell? ⟨b, 1, none⟩ = some (.int .u8 ((Ch.hexD (c.toNat % 16)).toNat : Int))) => econv2 h0 h1
  rw [two_str] at r2
  have ha := fun W => add_str [95, 120] [Ch.hexD (c.toNat / 16), Ch.hexD (c.toNat % 16)] (by simp) W
  have hcode := Lib.hid (show Ch.code c = [95, 120] ++ [Ch.hexD (c.toNat / 16), Ch.hexD (c.toNat % 16)] from rfl)
  generalize Ch.code c = cc at *
  generalize Ch.hexD (c.toNat / 16) = x at *
  generalize Ch.hexD (c.toNat % 16) = y at *
  generalize c.toNat = n at *
  rw [show ((n / 16 : Nat) : Int) = (n : Int) / 16 by omega] at h1
  rw [show ((n % 16 : Nat) : Int) = (n : Int) % 16 by omega] at h2
  rw [← hcode.out] at ha
  go_enter Tryd.func20, Tryd.ntmps20
  go_wp2
  go_region
  all_goals (go_wp2; go_ret; exact ⟨rfl, (Below.drew (Below.refl _ _)).alloc (Nat.le_refl _) _⟩)

end Go.Proofs.YtaiolkeiabhcpaaDoor
