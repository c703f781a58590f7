/- A decimal in a block of its own; equality of decimals as one step. -/
import Derived.Test.YtmbpldnclnahmaaDoorDecA
import Derived.Deep.WholeRow
set_option linter.unusedVariables false
set_option linter.unusedSimpArgs false
namespace Go.Proofs.YtmbpldnclnahmaaDoor
open Go.RowKit Dc

/-- a decimal lies in block b, where it may be written -/
structure DecAt (w : World) (b : Nat) (m s : Int) : Prop where
  c0 : w.cell? ⟨b, 0, none⟩ = some (.int .i64 m)
  c1 : w.cell? ⟨b, 1, none⟩ = some (.int .i64 s)
  f0 : w.frozen? ⟨b, 0, none⟩ = false
  f1 : w.frozen? ⟨b, 1, none⟩ = false
  lt : b < w.heap.size
theorem DecAt.below {w w' : World} {b : Nat} {m s : Int} (h : DecAt w b m s) (hb : Below w.heap.size w w') : DecAt w' b m s :=
  ⟨(hb.cell (p := ⟨b, 0, none⟩) h.lt).trans h.c0, (hb.cell (p := ⟨b, 1, none⟩) h.lt).trans h.c1, (hb.frozen (p := ⟨b, 0, none⟩) h.lt).trans h.f0, (hb.frozen (p := ⟨b, 1, none⟩) h.lt).trans h.f1, Nat.lt_of_lt_of_le h.lt hb.size⟩
theorem DecAt.new (w : World) (m s : Int) : DecAt (w.alloc (.cells #[.int .i64 m, .int .i64 s] 23)) w.heap.size m s :=
  ⟨by simp [go_sem], by simp [go_sem], by simp [go_sem], by simp [go_sem], by simp⟩
theorem DecAt.alloc {w : World} {b : Nat} {m s : Int} (h : DecAt w b m s) (o : Obj) : DecAt (w.alloc o) b m s := h.below ((Below.refl _ _).alloc (Nat.le_refl _) o)
theorem DecAt.drew {w : World} {b : Nat} {m s : Int} (h : DecAt w b m s) : DecAt w.drew b m s := ⟨h.c0, h.c1, h.f0, h.f1, h.lt⟩
theorem DecAt.row {w : World} {b g : Nat} {m s : Int} (h : DecAt w b m s) (c : Array Value) (hne : b ≠ g) : DecAt (w.setRow g c) b m s := by
  have e : (w.setRow g c).heap[b]? = w.heap[b]? := setRow_other w g b c (by omega)
  have hc : ∀ i, (w.setRow g c).cell? ⟨b, i, none⟩ = w.cell? ⟨b, i, none⟩ := fun i => by unfold World.cell?; rw [e]
  have hf : ∀ i, (w.setRow g c).frozen? ⟨b, i, none⟩ = w.frozen? ⟨b, i, none⟩ := fun i => by unfold World.frozen?; rw [e]
  exact ⟨(hc 0).trans h.c0, (hc 1).trans h.c1, (hf 0).trans h.f0, (hf 1).trans h.f1, by show b < (Array.modify _ _ _).size; rw [Array.size_modify]; exact h.lt⟩

theorem eql_dec (a b c d : Int) (W : World) : (binOp .eql 23 (dv2 a b) (dv2 c d)).run Tryd.prog W = .ok (.bool (decide (a = c ∧ b = d))) W := by
  by_cases h1 : a = c
  · subst h1
    by_cases h2 : b = d
    · subst h2
      go_simp
    · have h2b : (b == d) = false := by simpa using h2
      go_simp
  · have h1b : (a == c) = false := by simpa using h1
    go_simp

end Go.Proofs.YtmbpldnclnahmaaDoor
