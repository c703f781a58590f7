/- The texts MrgPL, one behind the other. -/
import Derived.Test.YtgoibhbmndpgpaaGreatDoorMrgP

/- Points that are looked up, in plain words. -/
set_option maxRecDepth 100000
set_option linter.unusedVariables false
set_option linter.unusedSimpArgs false
namespace Go.Proofs.YtgoibhbmndpgpaaGreatDoor
open Dc

/-- the first point like p in the families of that name -/
def ptLook (F : List Fp) (n : List UInt8) (p : Pt) : Option Pt := F.findSome? fun x => if x.1.n = n then look cmpP x.2 p else none
theorem ptLook_cons (x : Fp) (F : List Fp) (n : List UInt8) (p : Pt) : ptLook (x :: F) n p = (if x.1.n = n then look cmpP x.2 p else none).or (ptLook F n p) := by
  unfold ptLook
  rw [List.findSome?_cons]
  cases (if x.1.n = n then look cmpP x.2 p else none) <;> rfl
theorem ptLook_no {F : List Fp} {n : List UInt8} {p : Pt} (h : ∀ x ∈ F, x.1.n ≠ n) : ptLook F n p = none := by
  induction F with
  | nil => rfl
  | cons x F ih =>
    rw [ptLook_cons, if_neg (h x List.mem_cons_self), ih fun y hy => h y (List.mem_cons_of_mem _ hy)]; rfl
theorem ptLook_at {F : List Fp} (hs : StrictT cmpF F) {x : Fp} (hx : x ∈ F) (p : Pt) : ptLook F x.1.n p = look cmpP x.2 p := by
  induction F with
  | nil => cases hx
  | cons y F ih =>
    have h1 := (List.pairwise_cons.1 hs).1
    rw [ptLook_cons]
    rcases List.mem_cons.1 hx with rfl | hx
    · rw [if_pos rfl, ptLook_no (fun z hz e => by have := h1 z hz; have h2 : cmpF x z = 0 := cmpF_zero.2 e.symm; omega)]
      simp
    · rw [if_neg (fun e => by have := h1 x hx; have h2 : cmpF y x = 0 := cmpF_zero.2 e; omega), ih (List.pairwise_cons.1 hs).2 hx]
      simp
/-- in a rising row: by the family of that name -/
theorem ptLook_look {F : List Fp} (hs : StrictT cmpF F) (x : Fp) (p : Pt) : ptLook F x.1.n p = (look cmpF F x).bind fun y => look cmpP y.2 p := by
  cases h : look cmpF F x with
  | none => exact ptLook_no fun y hy e => look_none.1 h y hy (cmpF_zero.2 e)
  | some y =>
    have hy := look_some h
    have e := cmpF_zero.1 hy.2
    rw [← e]
    exact ptLook_at hs hy.1 p
/-- what is looked up in what both are together: in the later one, else in the other one -/
theorem ptLook_mrg {A B : List Fp} (hA : StrictT cmpF A) (hB : StrictT cmpF B) (pA : ∀ x ∈ A, StrictP x.2) (pB : ∀ x ∈ B, StrictP x.2) (n : List UInt8) (p : Pt) :
    ptLook (mrgF A B) n p = (ptLook B n p).or (ptLook A n p) := by
  have hx : n = (⟨⟨n, 0, [], []⟩, []⟩ : Fp).1.n := rfl
  rw [hx, ptLook_look (mrgF_strict hA B), ptLook_look hA, ptLook_look hB, mrgF, mrg_look tp_cmpF put_hg _ hA (strictT_nd hB)]
  cases hb : look cmpF B (⟨n, 0, [], []⟩, []) with
  | none => cases look cmpF A (⟨n, 0, [], []⟩, []) <;> simp [comb]
  | some y =>
    cases ha : look cmpF A (⟨n, 0, [], []⟩, []) with
    | none => simp [comb]
    | some x =>
      show look cmpP (putP x y).2 p = _
      have h1 := mrg_look tp_cmpP snd_hg p (pA x (look_some ha).1) (strictT_nd (pB y (look_some hb).1))
      show look cmpP (mrgP x.2 y.2) p = (look cmpP y.2 p).or (look cmpP x.2 p)
      rw [mrgP, h1]
      cases look cmpP x.2 p <;> cases look cmpP y.2 p <;> rfl
/-- a point of a family is found as itself -/
theorem ptLook_self {F : List Fp} (hs : StrictT cmpF F) (hp : ∀ x ∈ F, StrictP x.2) {x : Fp} (hx : x ∈ F) {p : Pt} (h : p ∈ x.2) : ptLook F x.1.n p = some p := by
  rw [ptLook_at hs hx]
  exact look_mem tp_cmpP (strictT_nd (hp x hx)) h (tp_cmpP.refl p)

/-- batches that were put together -/
structure AllOk (L : List Bp) : Prop where
  c : ∀ b ∈ L, chk b.1 b.2 = 0
  ag : agreeF (flat L)
theorem AllOk.of {L : List Bp} (h : mRef L = 0) : AllOk L := ⟨(mRef_zero.1 h).1, (mRef_zero.1 h).2.2⟩
theorem AllOk.strict {L : List Bp} (h : AllOk L) (k : Nat) : ∀ x ∈ allF (flat (L.take k)), StrictP x.2 := fun x hx => fam_strict (mrg_famOk (fun y hy => by
  obtain ⟨b, hb, hyb⟩ := flat_mem.1 (by simpa using hy)
  exact (chk_parts (h.c b (List.mem_of_mem_take hb))).2.1 y hyb) (agree_sub (fun y hy => by
    obtain ⟨b, hb, hyb⟩ := flat_mem.1 (by simpa using hy)
    exact flat_mem.2 ⟨b, List.mem_of_mem_take hb, hyb⟩) h.ag) x hx)
theorem flat_take' {l : List Bp} {k : Nat} {x : Bp} (h : l[k]? = some x) : flat (l.take (k + 1)) = flat (l.take k) ++ x.2 := by
  obtain ⟨hk, rfl⟩ := List.getElem?_eq_some_iff.1 h
  rw [List.take_succ_eq_append_getElem hk, flat_append, flat_cons]; simp [flat]
theorem AllOk.step {L : List Bp} (h : AllOk L) {k : Nat} {b : Bp} (hb : L[k]? = some b) (n : List UInt8) (p : Pt) :
    ptLook (allF (flat (L.take (k + 1)))) n p = (ptLook b.2 n p).or (ptLook (allF (flat (L.take k))) n p) := by
  have hm := List.mem_of_getElem? hb
  have hc := h.c b hm
  rw [flat_take' hb, allF, mrgF, mrg_append]
  exact ptLook_mrg (allF_strict _) (chk_parts hc).1 (h.strict k) (chk_ps hc) n p
/-- each point of each batch is there -/
theorem AllOk.there {L : List Bp} (h : AllOk L) {n : List UInt8} {p : Pt} : ∀ (k j : Nat) {b : Bp}, k < j → j ≤ L.length → L[k]? = some b → (ptLook b.2 n p).isSome = true → (ptLook (allF (flat (L.take j))) n p).isSome = true
  | k, 0, b, hkj, _, _, _ => by omega
  | k, j + 1, b, hkj, hj, hb, hs => by
    rw [h.step (List.getElem?_eq_getElem (show j < L.length by omega))]
    by_cases e : k = j
    · subst e
      obtain ⟨hk, rfl⟩ := List.getElem?_eq_some_iff.1 hb
      cases hx : ptLook L[k].2 n p with
      | none => rw [hx] at hs; cases hs
      | some x => rfl
    · have h1 := AllOk.there h k j (by omega) (by omega) hb hs
      cases ptLook (L[j]'(by omega)).2 n p with
      | none => simpa using h1
      | some x => rfl
end Go.Proofs.YtgoibhbmndpgpaaGreatDoor
