/- What the code's map holds between two rounds, and what was found so far. -/
import Derived.Test.YtgdhfmcipaoapaaDoorCollPlain
import Derived.Test.YtgdhfmcipaoapaaDoorGrd
import Derived.Maps.OwnIn
set_option maxRecDepth 100000
set_option linter.unusedVariables false
set_option linter.unusedSimpArgs false
namespace Go.Proofs.YtgdhfmcipaoapaaDoor
namespace Co
open Go.Maps

/-- the place of the first name ahead that becomes nm: of those that came (pre, the last one at the end) -/
def lastIx (f : Bs → Bs) (S : List Bs) (pre : List Nat) (nm : Bs) : Option Nat := pre.reverse.find? (fun i => decide (f (S.getD i []) = nm))
theorem lastIx_snoc (f : Bs → Bs) (S : List Bs) (pre : List Nat) (i : Nat) (nm : Bs) : lastIx f S (pre ++ [i]) nm = if f (S.getD i []) = nm then some i else lastIx f S pre nm := by
  unfold lastIx
  rw [List.reverse_append]
  show List.find? _ (i :: pre.reverse) = _
  rw [List.find?_cons]
  by_cases h : f (S.getD i []) = nm
  · rw [decide_eq_true h, if_pos h]
  · rw [decide_eq_false h, if_neg h]
theorem lastIx_lt {f : Bs → Bs} {S : List Bs} {pre : List Nat} {nm : Bs} {j n : Nat} (h : lastIx f S pre nm = some j) (hp : ∀ i ∈ pre, i < n) : j < n :=
  hp j (List.mem_reverse.1 (List.mem_of_find?_eq_some h))
variable {H : Type}
def mapD (f : Bs → Bs) (S : List Bs) (pre : List Nat) : DataW H := pre.foldl (fun D i => D.put (.string (f (S.getD i []))) (.lit (.int .i64 (i : Int)))) (.map [])
theorem mapD_snoc (f : Bs → Bs) (S : List Bs) (pre : List Nat) (i : Nat) : mapD (H := H) f S (pre ++ [i]) = (mapD f S pre).put (.string (f (S.getD i []))) (.lit (.int .i64 (i : Int))) := by simp [mapD]
theorem mapD_isMap (f : Bs → Bs) (S : List Bs) : ∀ (pre : List Nat) (D : DataW H), IsMap D → IsMap (pre.foldl (fun D i => D.put (.string (f (S.getD i []))) (.lit (.int .i64 (i : Int)))) D)
  | [], D, h => h
  | i :: pre, D, h => mapD_isMap f S pre _ (h.put _ _)
theorem mapD_has (f : Bs → Bs) (S : List Bs) (nm : Bs) : ∀ (r : List Nat), has (mapD (H := H) f S r.reverse) (.string nm) = (lastIx f S r.reverse nm).isSome ∧ (∀ j, lastIx f S r.reverse nm = some j → ∀ z, (mapD (H := H) f S r.reverse).atKey (.string nm) z = .lit (.int .i64 (j : Int)))
  | [] => ⟨rfl, fun j h => by simp [lastIx] at h⟩
  | i :: r => by
    obtain ⟨h1, h2⟩ := mapD_has f S nm r
    rw [List.reverse_cons, mapD_snoc, lastIx_snoc]
    have hm : IsMap (mapD (H := H) f S r.reverse) := mapD_isMap f S _ _ isMap_empty
    by_cases e : f (S.getD i []) = nm
    · rw [if_pos e, e]
      refine ⟨has_put_same (k := .string nm) hm trivial _, fun j hj z => ?_⟩
      obtain rfl : i = j := by simpa using hj
      exact atKey_put_same (k := .string nm) hm trivial _ _
    · rw [if_neg e]
      have hne : (Lit.string nm) ≠ .string (f (S.getD i [])) := fun k => e (by injection k with k; exact k.symm)
      refine ⟨by rw [has_put_other hne]; exact h1, fun j hj z => by rw [atKey_put_other hne]; exact h2 j hj z⟩
theorem mapD_has' (f : Bs → Bs) (S : List Bs) (nm : Bs) (pre : List Nat) : has (mapD (H := H) f S pre) (.string nm) = (lastIx f S pre nm).isSome ∧ (∀ j, lastIx f S pre nm = some j → ∀ z, (mapD (H := H) f S pre).atKey (.string nm) z = .lit (.int .i64 (j : Int))) := by
  have := mapD_has (H := H) f S nm pre.reverse
  rw [List.reverse_reverse] at this
  exact this
/-- what was found so far -/
def foundR (f : Bs → Bs) (S : List Bs) : List Nat → Option (Bs × Bs)
  | [] => none
  | i :: r => match r.find? (fun j => decide (f (S.getD j []) = f (S.getD i []))) with | some j => some (S.getD i [], S.getD j []) | none => foundR f S r
def found (f : Bs → Bs) (S : List Bs) (pre : List Nat) : Option (Bs × Bs) := foundR f S pre.reverse
theorem found_snoc (f : Bs → Bs) (S : List Bs) (pre : List Nat) (i : Nat) : found f S (pre ++ [i]) = match lastIx f S pre (f (S.getD i [])) with | some j => some (S.getD i [], S.getD j []) | none => found f S pre := by
  unfold found lastIx
  rw [List.reverse_append]
  rfl
theorem foundR_back (f : Bs → Bs) (S : List Bs) : ∀ r : List Nat, foundR f S r = back f (r.map (fun i => S.getD i []))
  | [] => rfl
  | i :: r => by
    show (match r.find? (fun j => decide (f (S.getD j []) = f (S.getD i []))) with | some j => some (S.getD i [], S.getD j []) | none => foundR f S r) = _
    rw [List.map_cons]
    show _ = (match (r.map (fun i => S.getD i [])).find? (fun t => decide (f t = f (S.getD i []))) with | some t => some (S.getD i [], t) | none => back f (r.map (fun i => S.getD i [])))
    rw [List.find?_map, ← foundR_back f S r]
    have e : ((fun t => decide (f t = f (S.getD i []))) ∘ fun i => S.getD i []) = (fun j => decide (f (S.getD j []) = f (S.getD i []))) := rfl
    rw [e]
    cases r.find? (fun j => decide (f (S.getD j []) = f (S.getD i []))) <;> rfl
/-- the places from the end on -/
def down (n : Nat) : List Nat := (List.range n).map (fun j => n - 1 - j)
theorem down_rev (n : Nat) : (down n).reverse = List.range n := by
  apply List.ext_getElem
  · simp [down]
  · intro i h1 h2
    simp [down] at h1 ⊢
    omega
theorem found_down (f : Bs → Bs) (S : List Bs) : found f S (down S.length) = back f S := by
  unfold found
  rw [down_rev, foundR_back]
  congr 1
  apply List.ext_getElem
  · simp
  · intro i h1 h2
    simp [List.getD_eq_getElem?_getD, h2]

end Co
end Go.Proofs.YtgdhfmcipaoapaaDoor
