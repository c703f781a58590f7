/- The batches that the law BatchLimits makes, in plain words. -/
import Derived.Test.YtkmcjmpdmgdcoaaGreatDoorBatP
set_option maxRecDepth 100000
set_option linter.unusedVariables false
set_option linter.unusedSimpArgs false
namespace Go.Proofs.YtkmcjmpdmgdcoaaGreatDoor
open Dc

/-- the second byte of a name -/
def fb (j : Nat) : UInt8 := UInt8.ofNat (48 + j)
def fhd (j : Nat) : Hd := ⟨[102, fb j], 0, [], []⟩
def tpt (i : Nat) : Pt := ⟨[], 0, false, 0, 0, 0, 0, true, i⟩
/-- the points of the j-th of n families, once i points are spread -/
def tms (n j i : Nat) : List Pt := ((List.range i).filter fun t => t % n = j).map tpt
def fls (n i : Nat) : List Fp := (List.range n).map fun j => (fhd j, tms n j i)
theorem fls_len (n i : Nat) : (fls n i).length = n := by simp [fls]
theorem fls_get {n i j : Nat} (h : j < n) : (fls n i)[j]? = some (fhd j, tms n j i) := by simp [fls, h]
theorem tms_zero (n j : Nat) : tms n j 0 = [] := rfl
theorem tms_same {n j i : Nat} (h : i % n = j) : tms n j (i + 1) = tms n j i ++ [tpt i] := by
  unfold tms
  rw [List.range_succ, List.filter_append, List.map_append]
  simp [h]
theorem tms_other {n j i : Nat} (h : i % n ≠ j) : tms n j (i + 1) = tms n j i := by
  unfold tms
  rw [List.range_succ, List.filter_append, List.map_append]
  simp [h]
theorem tms_mem {n j i : Nat} {p : Pt} (h : p ∈ tms n j i) : ∃ t, t < i ∧ p = tpt t := by
  obtain ⟨t, ht, rfl⟩ := List.mem_map.1 h
  exact ⟨t, List.mem_range.1 (List.mem_filter.1 ht).1, rfl⟩
theorem tms_len (n j i : Nat) : (tms n j i).length ≤ i := by
  unfold tms
  rw [List.length_map]
  exact Nat.le_trans (List.length_filter_le _ _) (by simp)
theorem cmp_tpt {a b : Nat} (h : a < b) : cmpP (tpt a) (tpt b) < 0 := by
  rw [cmpP_lex]
  have e : ord3 (a : Int) (b : Int) = -1 := ord3_lt (by omega)
  unfold lex
  rw [if_pos (show cmpL (tpt a).l (tpt b).l = 0 from rfl), if_pos (show ffI (tpt a).td (tpt b).td = 0 from rfl), if_neg (show ¬ ord3 (tpt a).ti (tpt b).ti = 0 by show ¬ ord3 (a : Int) (b : Int) = 0; rw [e]; decide)]
  show ord3 (a : Int) (b : Int) < 0
  rw [e]; decide
theorem tms_strict (n j i : Nat) : StrictP (tms n j i) := by
  unfold tms StrictP
  rw [List.pairwise_map]
  exact (List.pairwise_lt_range.filter _).imp fun h => cmp_tpt h
theorem tpt_ok {t : Nat} (h : t < 124) : ptOk 0 (tpt t) = true := by
  have e : timOk (tpt t) = true := by
    show isT (t : Int) = true
    unfold isT
    have h1 : (t : Int) < 124 := by omega
    have h0 : (0 : Int) ≤ (t : Int) := by omega
    generalize (t : Int) = z at *
    simp
    omega
  unfold ptOk
  rw [e]
  rfl
theorem fhd_name : ∀ j, j < 34 → nameOk (fhd j).n = true := by decide
theorem fhd_less : ∀ a, a < 34 → ∀ b, b < 34 → a < b → cb (fhd a).n (fhd b).n < 0 := by decide
theorem fls_fam {n j i : Nat} (hj : j < 34) (hi : i ≤ 124) : famOk (fhd j) (tms n j i) = true := by
  unfold famOk
  rw [fhd_name j hj, decide_eq_true (tms_strict n j i), List.all_eq_true.2 (fun p hp => by
    obtain ⟨t, ht, rfl⟩ := tms_mem hp
    exact tpt_ok (by omega))]
  rfl
theorem fls_strict {n i : Nat} (hn : n ≤ 34) : StrictT cmpF (fls n i) := by
  unfold fls StrictT
  rw [List.pairwise_map, List.pairwise_iff_getElem]
  intro a b ha hb hab
  simp only [List.length_range] at ha hb
  simp only [List.getElem_range]
  exact fhd_less a (by omega) b (by omega) hab
theorem nPts_set : ∀ {l : List Fp} {k : Nat} {h : Hd} {L : List Pt} {p : Pt}, l[k]? = some (h, L) → nPts (l.set k (h, L ++ [p])) = nPts l + 1
  | [], _, _, _, _, e => by simp at e
  | x :: l, 0, h, L, p, e => by
    obtain rfl : x = (h, L) := by simpa using e
    unfold nPts; simp; omega
  | x :: l, k + 1, h, L, p, e => by
    have ih := nPts_set (l := l) (k := k) (h := h) (L := L) (p := p) (by simpa using e)
    unfold nPts at *
    rw [List.set_cons_succ, List.map_cons, List.map_cons, List.sum_cons, List.sum_cons, ih]; omega
theorem fls_step {n i : Nat} (hn : 0 < n) : fls n (i + 1) = (fls n i).set (i % n) (fhd (i % n), tms n (i % n) i ++ [tpt i]) := by
  apply List.ext_getElem?
  intro j
  rw [List.getElem?_set, fls_len]
  by_cases hj : j < n
  · rw [fls_get hj]
    split
    · rename_i e
      subst e
      rw [if_pos (Nat.mod_lt _ hn), tms_same rfl]
    · rename_i e
      rw [fls_get hj, tms_other e]
  · rw [List.getElem?_eq_none (by rw [fls_len]; omega)]
    split
    · rename_i e
      have := Nat.mod_lt i hn
      omega
    · rw [List.getElem?_eq_none (by rw [fls_len]; omega)]
theorem fls_pts {n : Nat} (hn : 0 < n) : ∀ i, nPts (fls n i) = i
  | 0 => by
    unfold fls nPts
    rw [List.map_map]
    have : ((fun x : Fp => x.2.length) ∘ fun j => (fhd j, tms n j 0)) = fun _ => 0 := by funext j; rfl
    rw [this]
    clear this
    induction n with
    | zero => rfl
    | succ n ih =>
      rw [List.range_succ, List.map_append, List.sum_append]
      rcases Nat.eq_zero_or_pos n with h | h
      · subst h; rfl
      · rw [ih h]; rfl
  | i + 1 => by rw [fls_step hn, nPts_set (fls_get (Nat.mod_lt i hn)), fls_pts hn i]
theorem fls_bat {n i : Nat} (hn : n ≤ 34) (hi : i ≤ 124) : batOk [116] (fls n i) = true := batOk_iff.2 ⟨rfl, fun x hx => by
    unfold fls at hx
    obtain ⟨j, hj, rfl⟩ := List.mem_map.1 hx
    exact fls_fam (by have := List.mem_range.1 hj; omega) hi, fls_strict hn⟩
/-- what Check tells of it -/
theorem fls_chk {n i : Nat} (h0 : 0 < n) (hn : n ≤ 34) (hi : i ≤ 124) : chk [116] (fls n i) = if 30 < n ∨ 120 < i then 14 else 0 := by
  unfold chk
  rw [if_pos (fls_bat hn hi), fls_len, fls_pts h0]
/-- the last one named as the first one is -/
theorem fls_spoil {n i : Nat} (h1 : 1 < n) (h : Hd) (L : List Pt) (hh : h.n = [102, 48]) : chk [116] ((fls n i).set (n - 1) (h, L)) = 19 := by
  cases e : batOk [116] ((fls n i).set (n - 1) (h, L)) with
  | false => unfold chk; rw [e]; rfl
  | true =>
    exfalso
    have hs := (batOk_iff.1 e).2.2
    unfold StrictT at hs
    rw [List.pairwise_iff_getElem] at hs
    have hl : ((fls n i).set (n - 1) (h, L)).length = n := by rw [List.length_set, fls_len]
    have := hs 0 (n - 1) (by omega) (by omega) (by omega)
    rw [List.getElem_set, List.getElem_set, if_pos rfl, if_neg (by omega)] at this
    have h0 : (fls n i)[0]'(by rw [fls_len]; omega) = (fhd 0, tms n 0 i) := by simp [fls]
    rw [h0] at this
    unfold cmpF at this
    rw [hh] at this
    have h2 : ¬ cb [102, 48] [102, 48] < 0 := by decide
    exact h2 this
theorem nPts_head : ∀ {l : List Fp} {k : Nat} {x : Fp} {h : Hd}, l[k]? = some x → nPts (l.set k (h, x.2)) = nPts l
  | [], _, _, _, e => by simp at e
  | y :: l, 0, x, h, e => by
    obtain rfl : y = x := by simpa using e
    unfold nPts; simp
  | y :: l, k + 1, x, h, e => by
    have ih := nPts_head (l := l) (k := k) (x := x) (h := h) (by simpa using e)
    unfold nPts at *
    rw [List.set_cons_succ, List.map_cons, List.map_cons, List.sum_cons, List.sum_cons, ih]

end Go.Proofs.YtkmcjmpdmgdcoaaGreatDoor
