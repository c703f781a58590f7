/- Which families a format can say, in plain words, as the code asks it (layer 16). -/
import Derived.Test.YtgoibhbmndpgpaaGreatDoorClsPlain
set_option maxRecDepth 100000
set_option linter.unusedVariables false
set_option linter.unusedSimpArgs false
namespace Go.Proofs.YtgoibhbmndpgpaaGreatDoor
open Dc
namespace Kl

/-- may a byte stand in a label's value: none where every text may -/
def tb (p : Int) (c : UInt8) : Bool := decide (2 ≤ p ∧ p ≤ 4) && vb p c
/-- does the name end with a line and the unit -/
def suf (n u : List UInt8) : Bool := decide (u.length + 1 ≤ n.length) && decide (n.drop (n.length - u.length - 1) = 95 :: u)
/-- what is asked of a head beside its name and kind -/
def head (p : Int) (h : Hd) (k : Nat) : Bool := if p = 1 then decide (h.u = []) || suf h.n h.u else decide (h.u = []) && decide (h.h = []) && !decide (k = 0)
/-- what is asked of a point beside its labels -/
def ptT (p : Int) (q : Pt) : Bool := !(decide (p = 3) && (!q.td || !decide (q.ti.tmod 1000 = 0))) && !(decide (p = 4) && (q.td || decide (q.m < 0)))
theorem pt_parts (p : Int) (q : Pt) : pt p q = (labs p q.l && ptT p q) := by unfold pt ptT; rw [Bool.and_assoc]

theorem tb_in {p : Int} (h : 2 ≤ p ∧ p ≤ 4) : tb p = vb p := by funext c; unfold tb; rw [decide_eq_true h]; rfl
theorem tb_out {p : Int} (h : ¬ (2 ≤ p ∧ p ≤ 4)) (c : UInt8) : tb p c = false := by unfold tb; rw [decide_eq_false h]; rfl
theorem val_code {p : Int} {l : List UInt8} (h1 : p ≠ 1) : val p l = (!decide (l = []) && (valueOk l && l.all (tb p))) := by
  unfold val
  rw [if_neg h1]
  have hl : decide (1 ≤ l.length) = !decide (l = []) := by cases l <;> simp
  by_cases h : 2 ≤ p ∧ p ≤ 4
  · rw [tb_in h, decide_eq_true (show 1 ≤ p ∧ p ≤ 4 by omega), hl]
    unfold valueOk
    cases decide (l = []) <;> cases decide (l.length ≤ 60) <;> cases l.all (vb p) <;> cases decide (Utf.bad l < 0) <;> rfl
  · rw [decide_eq_false (show ¬ (1 ≤ p ∧ p ≤ 4) by omega)]
    cases l with
    | nil => rfl
    | cons c l =>
      rw [show (c :: l).all (tb p) = (tb p c && l.all (tb p)) from rfl, tb_out h]; simp
theorem val_open (l : List UInt8) : val 1 l = valueOk l := rfl

theorem name_ub {n : List UInt8} (h : Ch.isName 1 0 n = true) {c : UInt8} (hc : c ∈ n) : ub c = true := by
  unfold Ch.isName at h
  rw [Bool.and_eq_true] at h
  obtain ⟨j, hj, rfl⟩ := List.getElem_of_mem hc
  have h2 := Ch.bad_neg.1 (of_decide_eq_true h.2) j hj
  rw [Ch.leg_at hj] at h2
  generalize n[j] = c at *
  generalize decide (0 < j) = b at *
  generalize Ch.mid n j = q at *
  unfold Ch.legC at h2
  unfold ub
  rw [if_pos rfl] at h2
  revert h2
  cases Ch.letter c <;> cases Ch.digit c <;> cases decide (c.toNat = 95) <;> cases decide (c.toNat = 58) <;> cases b <;> decide
theorem unit_name {n u : List UInt8} (h : Ch.isName 1 0 n = true) : unit n u = (decide (u = []) || suf n u) := by
  by_cases hu : u = []
  · subst hu; simp [unit]
  · cases hs : suf n u with
    | false =>
      unfold unit
      rw [show (decide (u.length + 1 ≤ n.length) && decide (n.drop (n.length - u.length - 1) = 95 :: u)) = false from hs, decide_eq_false hu]; simp
    | true =>
      have ha : u.all ub = true := by
        rw [List.all_eq_true]
        intro c hc
        have h2 := (Bool.and_eq_true _ _ ▸ hs : _ ∧ _).2
        have h3 := of_decide_eq_true h2
        exact name_ub h (List.mem_of_mem_drop (i := n.length - u.length - 1) (by rw [h3]; exact List.mem_cons_of_mem _ hc))
      unfold unit
      rw [show (decide (u.length + 1 ≤ n.length) && decide (n.drop (n.length - u.length - 1) = 95 :: u)) = true from hs, ha]; simp
theorem hd_code (p : Int) (h : Hd) (k : Nat) : hd p h k = ((kinds p).contains h.k && Ch.isName p 0 h.n && head p h k) := by
  unfold hd head
  by_cases h1 : p = 1
  · subst h1
    rw [if_pos rfl, if_pos rfl]
    cases hn : Ch.isName 1 0 h.n with
    | false => simp
    | true => rw [unit_name hn]
  · rw [if_neg h1, if_neg h1]
theorem mem_contains (l : List Int) (k : Int) : memI l k = l.contains k := by
  induction l with
  | nil => rfl
  | cons x l ih =>
    rw [memI, ih, List.contains_cons, Bool.eq_iff_iff]
    simp only [Bool.or_eq_true, decide_eq_true_eq, beq_iff_eq]
    exact ⟨fun h => h.imp (fun e => e.symm) id, fun h => h.imp (fun e => e.symm) id⟩
theorem of_whole {k : Int} {q : Pt} (h : ptOk k q = true) (ht : q.td = true) : ofO q.ti 0 = if q.ti.tmod 1000 = 0 then some (q.ti.tdiv 1000) else none := by
  have h1 : timOk q = true := by
    unfold ptOk at h
    simp only [Bool.and_eq_true] at h
    exact h.1.2
  unfold timOk at h1
  rw [if_pos ht] at h1
  rw [← ofO_ref]
  unfold rofO
  rw [if_pos h1]; rfl
theorem cmp_zero {k : Int} {q : Pt} (h : ptOk k q = true) : decide (0 ≤ cmpO q.m q.s 0 0) = !decide (q.m < 0) := by
  have h1 : goodD q.m q.s = true := by
    unfold ptOk valOk at h
    simp only [Bool.and_eq_true] at h
    exact h.1.1.2.1
  rw [← cmpO_zero h1]
  by_cases e : cmpO q.m q.s 0 0 < 0
  · rw [decide_eq_true e, decide_eq_false (by omega)]; rfl
  · rw [decide_eq_false e, decide_eq_true (by omega)]; rfl
end Kl

end Go.Proofs.YtgoibhbmndpgpaaGreatDoor
