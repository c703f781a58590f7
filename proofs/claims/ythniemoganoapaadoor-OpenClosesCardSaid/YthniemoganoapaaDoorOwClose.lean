/- Each state of the open format's machine has an end, of those that the law tries (layer 17). -/
import Derived.Test.YthniemoganoapaaDoorOwDfaC
set_option linter.unusedVariables false
set_option linter.unusedSimpArgs false
set_option maxRecDepth 100000
namespace Go.Proofs.YthniemoganoapaaDoor
namespace Ow
open Utf

def ctl : List Nat := [0, 1, 2, 3, 4, 8, 9, 10, 11, 12, 13, 14, 15, 16, 17, 30, 31, 32, 33, 34, 35, 36, 37, 50, 51, 52, 53, 54, 55, 56, 57, 20, 21, 22, 23, 24, 25, 26, 27, 28, 40, 41, 42, 43, 44, 45, 46, 47, 48, 49]
def pnd : List (List (Int × Int)) := [[(128, 191)], [(160, 191), (128, 191)], [(128, 191), (128, 191)], [(128, 159), (128, 191)], [(144, 191), (128, 191), (128, 191)], [(128, 191), (128, 191), (128, 191)], [(128, 143), (128, 191), (128, 191)]]
def allS : List Sta := ctl.map (fun q => (q, [])) ++ pnd.map (fun p => (24, p)) ++ pnd.map (fun p => (56, p))
def stOk (s : Sta) (n : Fin 256) : Bool := match st s (UInt8.ofNat n.val) with | none => true | some s' => allS.contains s'
theorem st_dec : ∀ s ∈ allS, ∀ n : Fin 256, stOk s n = true := by decide +kernel
theorem st_all {s s' : Sta} {c : UInt8} (h : s ∈ allS) (e : st s c = some s') : s' ∈ allS := by
  have h1 := st_dec s h ⟨c.toNat, c.toNat_lt⟩
  unfold stOk at h1
  rw [show UInt8.ofNat (⟨c.toNat, c.toNat_lt⟩ : Fin 256).val = c by simp, e] at h1
  exact List.contains_iff_mem.1 h1
theorem rn_all : ∀ (a : List UInt8) {s s' : Sta}, s ∈ allS → rn s a = some s' → s' ∈ allS
  | [], s, s', h, e => by injection e with e; rw [← e]; exact h
  | c :: a, s, s', h, e => by
    unfold rn at e
    cases e1 : st s c with
    | none => rw [e1] at e; cases e
    | some s1 => rw [e1] at e; exact rn_all a (st_all h e1) e

def ends : List (List UInt8) := [[97, 123, 97, 61, 34, 110, 34, 125, 32, 49, 46, 49, 32, 49, 46, 49, 10, 35, 32, 69, 79, 70], [35, 32, 84, 89, 80, 69, 32, 97, 32, 97, 10, 35, 32, 69, 79, 70], [35, 32, 85, 78, 73, 84, 32, 97, 32, 97, 10, 35, 32, 69, 79, 70], [35, 32, 72, 69, 76, 80, 32, 97, 32, 110, 10, 35, 32, 69, 79, 70]]
def rests : List (List UInt8) := [[], [128], [160], [144], [128, 128], [160, 128], [144, 128], [128, 128, 128], [144, 128, 128]]
def shut (s : Sta) : Bool := (List.range 9).any fun r => (List.range 4).any fun i => (List.range ((ends.getD i []).length + 1)).any fun j => (dr s (rests.getD r [] ++ (ends.getD i []).drop j)).isNone
theorem shut_dec : ∀ s ∈ allS, shut s = true := by decide +kernel
theorem zero_all : ((0, []) : Sta) ∈ allS := by decide +kernel
theorem close_some {s : List UInt8} {k : Nat} (h : bad s < 0 ∧ k ≤ s.length ∨ bad s = (k : Int)) :
    ∃ r i j : Nat, r < 9 ∧ i < 4 ∧ j ≤ (ends.getD i []).length ∧ bad (s.take k ++ (rests.getD r [] ++ (ends.getD i []).drop j)) = -1 := by
  obtain ⟨x, hx⟩ := viable h
  have h1 := shut_dec x (rn_all _ zero_all hx)
  unfold shut at h1
  rw [List.any_eq_true] at h1
  obtain ⟨r, hr, h1⟩ := h1
  rw [List.any_eq_true] at h1
  obtain ⟨i, hi, h1⟩ := h1
  rw [List.any_eq_true] at h1
  obtain ⟨j, hj, h1⟩ := h1
  rw [List.mem_range] at hr hi hj
  refine ⟨r, i, j, hr, hi, by omega, ?_⟩
  rw [bad_dr, rn_dr _ _ _ _ hx]
  cases e : dr x (rests.getD r [] ++ (ends.getD i []).drop j) with
  | none => rfl
  | some y => rw [e] at h1; cases h1

end Ow
end Go.Proofs.YthniemoganoapaaDoor
