/- What the laws' walks of package sum have in common. -/
import Derived.Test.YtjeefgamkoeiaaaGreatDoorSumK
import Derived.Deep.DeepCutAuto
set_option linter.unusedVariables false
set_option linter.unusedSimpArgs false
namespace Go.Proofs.YtjeefgamkoeiaaaGreatDoor
open Go.RowKit Dc
attribute [local go_sem ↓] Go.wp_at_zero Go.wp_at_succ

theorem dotO_good (m s : Int) : goodD (dotO m s).1 (dotO m s).2 = true ∧ (dotO m s).1.natAbs ≤ big := by
  unfold dotO
  cases h : decOf (decide (m < 0)) m.natAbs s with
  | none => exact ⟨by decide, by decide⟩
  | some r =>
    obtain ⟨a, k⟩ := r
    obtain ⟨h1, h2, _⟩ := decOf_is h
    exact ⟨h1, h2⟩
/-- a decimal that is valid -/
structure Gd (p i : Int) : Prop where
  good : goodD p i = true
  small : p.natAbs ≤ big
theorem Gd.lo {p i : Int} (h : Gd p i) : -9223372036854775808 ≤ p := by have := h.small; unfold big at this; omega
theorem Gd.hi {p i : Int} (h : Gd p i) : p ≤ 9223372036854775807 := by have := h.small; unfold big at this; omega
theorem Gd.s0 {p i : Int} (h : Gd p i) : 0 ≤ i := ((goodD_iff p i).1 h.good).1
theorem Gd.s1 {p i : Int} (h : Gd p i) : i ≤ 18 := ((goodD_iff p i).1 h.good).2.1
theorem Gd.dot (m s : Int) : Gd (dotO m s).1 (dotO m s).2 := ⟨(dotO_good m s).1, (dotO_good m s).2⟩
theorem Gd.zero : Gd 0 0 := ⟨by decide, by decide⟩
theorem Gd.one : Gd 1 0 := ⟨by decide, by decide⟩
theorem Gd.neg {p i : Int} (h : Gd p i) : Gd (-p) i := by
  have hs := h.small
  obtain ⟨a, b, c, d⟩ := (goodD_iff p i).1 h.good
  refine ⟨(goodD_iff _ _).2 ⟨a, b, by unfold big at hs; omega, d.imp id (fun e e2 => e ?_)⟩, by omega⟩
  rw [tmod_abs] at e2 ⊢
  rwa [Int.natAbs_neg] at e2
theorem Gd.decI {p i : Int} (h : Gd p i) : decI (zv p i) = some (p, i.toNat) := decI_good h.small h.good
theorem Gd.inj {p i q j : Int} (h : Gd p i) (k : Gd q j) (e : zv p i = zv q j) : p = q ∧ i = j := good_inj h.good k.good h.small k.small e
theorem row2 (w : World) (p i q j : Int) : DcRow (w.alloc (.cells #[.int .i64 p, .int .i64 i, .int .i64 q, .int .i64 j] 51)) (.slice (some ⟨w.heap.size, 0, none⟩) 2 2) [(p, i), (q, j)] := by
  refine ⟨_, 2, rfl, Nat.le_refl _, by unfold maxLen; omega, fun _ => ⟨_, 0, rfl, by simp, fun i p hp => ?_⟩⟩
  match i, hp with
  | 0, hp => simp at hp; subst hp; exact ⟨by simp [go_sem], by simp [go_sem]⟩
  | 1, hp => simp at hp; subst hp; exact ⟨by simp [go_sem], by simp [go_sem]⟩
  | i + 2, hp => simp at hp
theorem DcRow.alloc {w : World} {v : Value} {l : List (Int × Int)} (h : DcRow w v l) (o : Obj) : DcRow (w.alloc o) v l := h.below ((Below.refl _ _).alloc (Nat.le_refl _) o)
end Go.Proofs.YtjeefgamkoeiaaaGreatDoor
