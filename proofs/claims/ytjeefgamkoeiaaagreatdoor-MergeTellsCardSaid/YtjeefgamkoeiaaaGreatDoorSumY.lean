/- The walks of package sum's Add over a row of decimals; of the laws' dot. -/
import Derived.Test.YtjeefgamkoeiaaaGreatDoorSumJ
import Derived.Test.YtjeefgamkoeiaaaGreatDoorRefDecW
set_option linter.unusedVariables false
set_option linter.unusedSimpArgs false
namespace Go.Proofs.YtjeefgamkoeiaaaGreatDoor
open Go.RowKit Dc

/-- a slice of decimals -/
def DcRow (w : World) (v : Value) (l : List (Int × Int)) : Prop :=
  ∃ A cap, v = .slice A l.length cap ∧ l.length ≤ cap ∧ cap ≤ maxLen ∧ (0 < l.length → ∃ b off, A = some ⟨b, off, none⟩ ∧ b < w.heap.size ∧ ∀ i p, l[i]? = some p → w.cell? ⟨b, off + i * 2, none⟩ = some (.int .i64 p.1) ∧ w.cell? ⟨b, off + i * 2 + 1, none⟩ = some (.int .i64 p.2))
theorem DcRow.below {w w' : World} {v : Value} {l : List (Int × Int)} (h : DcRow w v l) (hb : Below w.heap.size w w') : DcRow w' v l := by
  obtain ⟨A, cap, rfl, h1, h2, h3⟩ := h
  refine ⟨A, cap, rfl, h1, h2, fun h0 => ?_⟩
  obtain ⟨b, off, rfl, hlt, hc⟩ := h3 h0
  exact ⟨b, off, rfl, Nat.lt_of_lt_of_le hlt hb.size, fun i p hp => ⟨(hb.cell (p := ⟨b, off + i * 2, none⟩) hlt).trans (hc i p hp).1, (hb.cell (p := ⟨b, off + i * 2 + 1, none⟩) hlt).trans (hc i p hp).2⟩⟩
/-- the decimal of a number, its digits behind the point; 0 if there is none -/
def dotO (m s : Int) : Int × Int := match decOf (decide (m < 0)) m.natAbs s with | none => (0, 0) | some (a, k) => (a, k)
end Go.Proofs.YtjeefgamkoeiaaaGreatDoor
