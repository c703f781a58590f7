/- Which batches a format can say, in plain words (layer 16). -/
import Derived.Test.YtgoibhbmndpgpaaGreatDoorLegP
set_option maxRecDepth 100000
set_option linter.unusedVariables false
set_option linter.unusedSimpArgs false
namespace Go.Proofs.YtgoibhbmndpgpaaGreatDoor
open Dc
namespace Kl

/-- the kinds that a format can say -/
def kinds (p : Int) : List Int := if p = 1 then [0, 1, 2, 3, 4] else if p = 2 then [0, 1, 2] else if p = 3 then [0] else if p = 4 then [1, 2] else []
/-- may a byte stand in a label's value: another format's than Open -/
def vbn (p : Int) (n : Nat) : Bool :=
  if p = 2 then !(decide (n < 32) || decide (n = 127) || decide (n = 92))
  else !(decide (n < 33) || decide (126 < n)) && !(decide (p = 3) && decide (n = 59)) && !(decide (p = 4) && (decide (n = 44) || decide (n = 124)))
def vb (p : Int) (c : UInt8) : Bool := vbn p c.toNat
/-- may a text be a label's value -/
def val (p : Int) (l : List UInt8) : Bool :=
  if p = 1 then valueOk l else decide (1 ≤ p ∧ p ≤ 4) && decide (1 ≤ l.length) && decide (l.length ≤ 60) && l.all (vb p) && decide (Utf.bad l < 0)
def ub (c : UInt8) : Bool := Ch.letter c || Ch.digit c || decide (c.toNat = 95) || decide (c.toNat = 58)
/-- may a unit be: it is empty, or the name's end, behind a line -/
def unit (n u : List UInt8) : Bool := u.all ub && (decide (u = []) || (decide (u.length + 1 ≤ n.length) && decide (n.drop (n.length - u.length - 1) = 95 :: u)))
def lab (p : Int) (y : Lb) : Bool := Ch.isName p 1 y.1 && val p y.2
def labs (p : Int) (l : List Lb) : Bool := l.all (lab p)
def pt (p : Int) (q : Pt) : Bool := labs p q.l && !(decide (p = 3) && (!q.td || !decide (q.ti.tmod 1000 = 0))) && !(decide (p = 4) && (q.td || decide (q.m < 0)))
/-- may a family's head be, with so many points -/
def hd (p : Int) (h : Hd) (k : Nat) : Bool := (kinds p).contains h.k && Ch.isName p 0 h.n && (if p = 1 then unit h.n h.u else decide (h.u = []) && decide (h.h = []) && !decide (k = 0))
def fam (p : Int) (x : Fp) : Bool := hd p x.1 x.2.length && x.2.all (pt p)
/-- the first family that can't be said; and whether all is well -/
def whyF (p : Int) : List Fp → List UInt8 × Bool
  | [] => ([], true)
  | x :: F => if fam p x = true then whyF p F else (x.1.n, false)
def why (p : Int) (t : List UInt8) (F : List Fp) : List UInt8 × Bool := if chk t F = 0 ∧ 1 ≤ p ∧ p ≤ 4 then whyF p F else ([], false)

theorem whyF_take {p : Int} {F : List Fp} {i : Nat} (h : ∀ x ∈ F.take i, fam p x = true) : whyF p F = whyF p (F.drop i) := by
  induction F generalizing i with
  | nil => simp
  | cons x F ih =>
    cases i with
    | zero => rfl
    | succ i =>
      rw [List.take_succ_cons, List.forall_mem_cons] at h
      rw [List.drop_succ_cons, whyF, if_pos h.1]
      exact ih h.2
theorem whyF_at {p : Int} {F : List Fp} {i : Nat} {x : Fp} (h : ∀ y ∈ F.take i, fam p y = true) (hx : F[i]? = some x) (hn : fam p x = false) : whyF p F = (x.1.n, false) := by
  rw [whyF_take h]
  obtain ⟨hi, rfl⟩ := List.getElem?_eq_some_iff.1 hx
  rw [List.drop_eq_getElem_cons hi, whyF, if_neg (by rw [hn]; decide)]
theorem whyF_all {p : Int} {F : List Fp} {i : Nat} (h : ∀ y ∈ F.take i, fam p y = true) (hi : F.length ≤ i) : whyF p F = ([], true) := by
  rw [whyF_take h, List.drop_eq_nil_of_le hi]; rfl
theorem why_bad {p : Int} {t : List UInt8} {F : List Fp} (h : ¬ chk t F = 0) : why p t F = ([], false) := if_neg (fun k => h k.1)
theorem why_no {p : Int} {t : List UInt8} {F : List Fp} (h : ¬ (1 ≤ p ∧ p ≤ 4)) : why p t F = ([], false) := if_neg (fun k => h k.2)
theorem why_yes {p : Int} {t : List UInt8} {F : List Fp} (h : chk t F = 0) (hp : 1 ≤ p ∧ p ≤ 4) : why p t F = whyF p F := if_pos ⟨h, hp⟩

/-- one family of a batch is a batch -/
theorem chk_one {t : List UInt8} {F : List Fp} (h : chk t F = 0) {x : Fp} (hx : x ∈ F) : chk t [x] = 0 := by
  obtain ⟨h1, h2, h3⟩ := chk_zero h
  obtain ⟨b1, b2, b3⟩ := batOk_iff.1 h1
  refine chk_is (batOk_iff.2 ⟨b1, fun y hy => ?_, by unfold StrictT; simp⟩) (by simp) ?_
  · rw [List.mem_singleton.1 hy]; exact b2 x hx
  · have : ∀ (G : List Fp), x ∈ G → x.2.length ≤ nPts G := by
      intro G
      induction G with
      | nil => intro h; cases h
      | cons y G ih =>
        intro hm
        have e : nPts (y :: G) = y.2.length + nPts G := by unfold nPts; simp
        rcases List.mem_cons.1 hm with rfl | hm
        · omega
        · have := ih hm; omega
    have h4 := this F hx
    have e : nPts [x] = x.2.length := by unfold nPts; simp
    omega
/-- a batch of one family: by that alone -/
theorem why_one {p : Int} {t : List UInt8} {F : List Fp} (h : chk t F = 0) (hp : 1 ≤ p ∧ p ≤ 4) {x : Fp} (hx : x ∈ F) : (why p t [x]).2 = fam p x := by
  rw [why_yes (chk_one h hx) hp]
  unfold whyF
  cases e : fam p x with
  | true => simp [whyF]
  | false => simp
end Kl
theorem Kl.contains_take {l : List Int} {i : Nat} {x k : Int} (hx : l[i]? = some x) : (l.take (i + 1)).contains k = ((l.take i).contains k || (x == k)) := by
  obtain ⟨hi, rfl⟩ := List.getElem?_eq_some_iff.1 hx
  rw [List.take_succ_eq_append_getElem hi]
  rw [Bool.eq_iff_iff]
  simp only [List.contains_iff_mem, List.mem_append, List.mem_singleton, Bool.or_eq_true, beq_iff_eq]
  exact ⟨fun h => h.imp id (fun e => e.symm), fun h => h.imp id (fun e => e.symm)⟩

end Go.Proofs.YtgoibhbmndpgpaaGreatDoor
