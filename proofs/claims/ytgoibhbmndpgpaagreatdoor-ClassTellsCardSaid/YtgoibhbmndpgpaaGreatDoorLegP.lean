/- The texts LegPlain, LegPlainB, LegPlainC, one behind the other. -/
import Derived.Test.YtgoibhbmndpgpaaGreatDoorMrgKV
import Derived.Test.YtgoibhbmndpgpaaGreatDoorChP

/- All names of a batch, in plain words: labels, points, families whose names are turned into others; they come back. -/
set_option maxRecDepth 100000
set_option linter.unusedVariables false
set_option linter.unusedSimpArgs false
namespace Go.Proofs.YtgoibhbmndpgpaaGreatDoor
open Dc
namespace Lg

abbrev Nm := List UInt8 → List UInt8

/-- a row that may be a point's labels -/
theorem goodL_iff {l : List Lb} : goodL l = true ↔ l.length ≤ 8 ∧ (∀ x ∈ l, nameOk x.1 = true ∧ valueOk x.2 = true) ∧ StrictS l := by
  unfold goodL goodTo goodAt
  simp only [Bool.and_eq_true, decide_eq_true_eq, List.all_eq_true, List.mem_range, Bool.or_eq_true]
  constructor
  · rintro ⟨h1, h2⟩
    refine ⟨h1, fun x hx => ?_, ?_⟩
    · obtain ⟨i, hi, rfl⟩ := List.mem_iff_getElem.1 hx
      have := (h2 i hi).1
      rw [lbAt_of hi] at this
      exact this
    · unfold StrictS
      have hadj : ∀ i (h : i + 1 < l.length), cb (l[i]'(by omega)).1 l[i + 1].1 < 0 := fun i h => by
        rcases (h2 (i + 1) h).2 with e | e
        · omega
        · rw [lbAt_of h, show i + 1 - 1 = i from rfl, lbAt_of (show i < l.length by omega)] at e
          exact e
      rw [List.pairwise_iff_getElem]
      intro i j hi hj hij
      obtain ⟨d, rfl⟩ : ∃ d, j = i + 1 + d := ⟨j - i - 1, by omega⟩
      induction d with
      | zero => exact hadj i hj
      | succ d ih => exact cb_trans _ _ _ (ih (by omega) (by omega)) (hadj (i + 1 + d) hj)
  · rintro ⟨h1, h2, h3⟩
    refine ⟨h1, fun i hi => ⟨?_, ?_⟩⟩
    · rw [lbAt_of hi]
      exact h2 _ (List.getElem_mem hi)
    · by_cases e : i = 0
      · exact Or.inl e
      · rw [lbAt_of hi, lbAt_of (show i - 1 < l.length by omega)]
        exact Or.inr (List.pairwise_iff_getElem.1 h3 (i - 1) i (by omega) hi (by omega))
theorem getL_has : ∀ {l : List Lb} {n : List UInt8}, (getL l n).2 = true ↔ n ∈ l.map (·.1)
  | [], n => by simp [getL]
  | x :: l, n => by
    rw [getL, List.map_cons, List.mem_cons]
    split
    · rename_i h; simp [h]
    · rename_i h
      rw [getL_has]
      constructor
      · exact Or.inr
      · rintro (e | e)
        · exact absurd e.symm h
        · exact e

/-- labels of other names -/
def renL (g : Nm) (l : List Lb) : List Lb := l.map fun x => (g x.1, x.2)
/-- sorted, if it can be -/
def srtK (l : List Lb) : List Lb := (srt l).getD l
/-- a point with other labels -/
def Pt.with (p : Pt) (l : List Lb) : Pt := ⟨l, p.ro, p.inf, p.bm, p.bs, p.m, p.s, p.td, p.ti⟩
def renP (g : Nm) (p : Pt) : Pt := Pt.with p (srtK (renL g p.l))
def renF (f g : Nm) (x : Fp) : Fp := (⟨f x.1.n, x.1.k, x.1.u, x.1.h⟩, x.2.map (renP g))
def renB (f g : Nm) (F : List Fp) : List Fp := F.map (renF f g)
/-- the names of a batch's families, of its labels -/
def famN (F : List Fp) : List (List UInt8) := F.map fun x => x.1.n
def labL (l : List Lb) : List (List UInt8) := l.map fun x => x.1
def labP (P : List Pt) : List (List UInt8) := P.flatMap fun p => labL p.l
def labN (F : List Fp) : List (List UInt8) := F.flatMap fun x => labP x.2
theorem mem_famN {F : List Fp} {n : List UInt8} : n ∈ famN F ↔ ∃ x ∈ F, n = x.1.n := by
  unfold famN; rw [List.mem_map]
  exact ⟨fun ⟨x, h, e⟩ => ⟨x, h, e.symm⟩, fun ⟨x, h, e⟩ => ⟨x, h, e.symm⟩⟩
theorem mem_labL {l : List Lb} {n : List UInt8} : n ∈ labL l ↔ ∃ x ∈ l, n = x.1 := by
  unfold labL; rw [List.mem_map]
  exact ⟨fun ⟨x, h, e⟩ => ⟨x, h, e.symm⟩, fun ⟨x, h, e⟩ => ⟨x, h, e.symm⟩⟩
theorem mem_labP {P : List Pt} {n : List UInt8} : n ∈ labP P ↔ ∃ p ∈ P, n ∈ labL p.l := by
  unfold labP; rw [List.mem_flatMap]
theorem mem_labN {F : List Fp} {n : List UInt8} : n ∈ labN F ↔ ∃ x ∈ F, ∃ p ∈ x.2, n ∈ labL p.l := by
  unfold labN; rw [List.mem_flatMap]
  exact ⟨fun ⟨x, h, k⟩ => ⟨x, h, mem_labP.1 k⟩, fun ⟨x, h, k⟩ => ⟨x, h, mem_labP.2 k⟩⟩
/-- k turns back what g made of these names -/
def LInv (k g : Nm) (S : List (List UInt8)) : Prop := ∀ a ∈ S, k (g a) = a

theorem srtK_perm (l : List Lb) : (srtK l).Perm l := by
  unfold srtK
  by_cases h : Nd l
  · obtain ⟨d, e, hp, _⟩ := srt_yes h
    rw [e]; exact hp
  · rw [srt_no h]; exact List.Perm.refl _
theorem srtK_of {l : List Lb} (h : Nd l) : StrictS (srtK l) ∧ srt l = some (srtK l) := by
  unfold srtK
  obtain ⟨d, e, _, hs⟩ := srt_yes h
  rw [e]; exact ⟨hs, rfl⟩
theorem srtK_is {l d : List Lb} (hp : d.Perm l) (hs : StrictS d) : srtK l = d := by unfold srtK; rw [srt_is hp hs]; rfl
theorem renL_back {k g : Nm} {l : List Lb} (h : LInv k g (labL l)) : renL k (renL g l) = l := by
  unfold renL
  rw [List.map_map]
  conv => rhs; rw [← List.map_id l]
  apply List.map_congr_left
  intro x hx
  show (k (g x.1), x.2) = x
  rw [h x.1 (mem_labL.2 ⟨x, hx, rfl⟩)]
theorem nd_of_ren {k : Nm} {l : List Lb} (h : Nd (renL k l)) : Nd l := by
  unfold Nd renL at *
  rw [List.map_map, List.nodup_iff_pairwise_ne, List.pairwise_map] at h
  rw [List.nodup_iff_pairwise_ne, List.pairwise_map]
  exact h.imp fun {a b} hne e => hne (by show k a.1 = k b.1; rw [e])
theorem ren_nd {k g : Nm} {l : List Lb} (h : LInv k g (labL l)) (hn : Nd l) : Nd (renL g l) := nd_of_ren (k := k) (by rw [renL_back h]; exact hn)
theorem renP_l (g : Nm) (p : Pt) : (renP g p).l = srtK (renL g p.l) := rfl
theorem mem_ren {g : Nm} {p : Pt} {n : List UInt8} : n ∈ labL (renP g p).l ↔ ∃ a ∈ labL p.l, n = g a := by
  rw [renP_l, mem_labL]
  constructor
  · rintro ⟨x, hx, rfl⟩
    have := (srtK_perm _).mem_iff.1 hx
    unfold renL at this
    obtain ⟨y, hy, rfl⟩ := List.mem_map.1 this
    exact ⟨y.1, mem_labL.2 ⟨y, hy, rfl⟩, rfl⟩
  · rintro ⟨a, ha, rfl⟩
    obtain ⟨y, hy, rfl⟩ := mem_labL.1 ha
    exact ⟨(g y.1, y.2), (srtK_perm _).mem_iff.2 (List.mem_map.2 ⟨y, hy, rfl⟩), rfl⟩
theorem renP_strict {k g : Nm} {p : Pt} (h : LInv k g (labL p.l)) (hs : StrictS p.l) : StrictS (renP g p).l := (srtK_of (ren_nd h (strict_nd hs))).1
/-- ████ a point comes back -/
theorem renP_back {k g : Nm} {p : Pt} (h : LInv k g (labL p.l)) (hs : StrictS p.l) : renP k (renP g p) = p := by
  have e : srtK (renL k (renP g p).l) = p.l := by
    refine srtK_is ?_ hs
    have h1 : (renL k (renP g p).l).Perm (renL k (renL g p.l)) := (srtK_perm _).map _
    rw [renL_back h] at h1
    exact h1.symm
  unfold renP at e ⊢
  unfold Pt.with at e ⊢
  simp only at e ⊢
  rw [e]
/-- all but the labels -/
def cmpR (p q : Pt) : Int := orL [ffI p.td q.td, ord3 p.ti q.ti, ord3 p.ro q.ro, ffI p.inf q.inf, cmpO p.bm p.bs q.bm q.bs]
theorem cmpP_zero {p q : Pt} : cmpP p q = 0 ↔ p.l = q.l ∧ cmpR p q = 0 := by
  show (if cmpL p.l q.l = 0 then cmpR p q else cmpL p.l q.l) = 0 ↔ _
  by_cases h : cmpL p.l q.l = 0
  · rw [if_pos h]
    exact ⟨fun e => ⟨cmpL_eq _ _ h, e⟩, fun e => e.2⟩
  · rw [if_neg h]
    exact ⟨fun e => absurd e h, fun e => absurd (by rw [e.1]; exact cmpL_refl _) h⟩
theorem renP_zero {k g : Nm} {p q : Pt} (hp : LInv k g (labL p.l)) (hq : LInv k g (labL q.l)) (sp : StrictS p.l) (sq : StrictS q.l) (h : cmpP (renP g p) (renP g q) = 0) : cmpP p q = 0 := by
  obtain ⟨h1, h2⟩ := cmpP_zero.1 h
  refine cmpP_zero.2 ⟨?_, h2⟩
  have e1 : srtK (renL k (renP g p).l) = p.l := congrArg Pt.l (renP_back hp sp)
  have e2 : srtK (renL k (renP g q).l) = q.l := congrArg Pt.l (renP_back hq sq)
  rw [← e1, ← e2, h1]
theorem ndP_ren {k g : Nm} {P : List Pt} (h : LInv k g (labP P)) (hs : ∀ p ∈ P, StrictS p.l) (hn : NdP P) : NdP (P.map (renP g)) := by
  unfold NdP
  rw [List.pairwise_map]
  refine List.Pairwise.imp_of_mem ?_ hn
  intro p q hp hq hne e
  exact hne (renP_zero (fun a ha => h a (mem_labP.2 ⟨p, hp, ha⟩)) (fun a ha => h a (mem_labP.2 ⟨q, hq, ha⟩)) (hs p hp) (hs q hq) e)

/-- a row of which no two are one can be sorted -/
theorem sorts {α : Type} {f : α → α → Int} (hf : TP f) {l : List α} (hn : NdT f l) : ∃ d : List α, d.Perm l ∧ StrictT f d := by
  have hp := List.mergeSort_perm l (fun x y => decide (f x y ≤ 0))
  have hs := List.pairwise_mergeSort (le := fun x y => decide (f x y ≤ 0)) (fun a b c h k => by simp only [decide_eq_true_eq] at *; exact hf.le a b c h k)
    (fun a b => by simp only [Bool.or_eq_true, decide_eq_true_eq]; have := hf.neg a b; omega) l
  refine ⟨_, hp, strictT_of hf ?_ ((ndT_perm hf hp).2 hn)⟩
  refine hs.imp fun {a b} h => ?_
  have h1 : f a b ≤ 0 := of_decide_eq_true h
  have := hf.neg a b
  omega
theorem psorts {P : List Pt} (hn : NdP P) : ∃ d : List Pt, psrt P = some d ∧ d.Perm P ∧ StrictP d := by
  obtain ⟨d, hp, hs⟩ := sorts tp_cmpP hn
  exact ⟨d, psrt_is hp hs, hp, hs⟩
/-- a family with its points sorted -/
noncomputable def srtG (x : Fp) : Fp := (x.1, (psrt x.2).getD [])
/-- a batch's families, each sorted, sorted -/
noncomputable def srtB (F : List Fp) : Option (List Fp) := if (F.all fun x => (psrt x.2).isSome) = true then gsrt cmpF (F.map srtG) else none
theorem srtB_yes {F : List Fp} (h : ∀ x ∈ F, (psrt x.2).isSome = true) : srtB F = gsrt cmpF (F.map srtG) := by
  unfold srtB
  rw [if_pos (List.all_eq_true.2 h)]
end Lg
end Go.Proofs.YtgoibhbmndpgpaaGreatDoor

/- All names of a batch, in plain words: a batch whose names are turned into others is a batch, and comes back. -/
set_option maxRecDepth 100000
set_option linter.unusedVariables false
set_option linter.unusedSimpArgs false
namespace Go.Proofs.YtgoibhbmndpgpaaGreatDoor
open Dc
namespace Lg

theorem ptOk_iff {k : Int} {p : Pt} : ptOk k p = true ↔ memI (rolesL k) p.ro = true ∧ goodL p.l = true ∧ infOk p = true ∧ bndOk p = true ∧ valOk k p = true ∧ timOk p = true ∧ hasB p = false := by
  unfold ptOk
  simp only [Bool.and_eq_true, Bool.not_eq_true', and_assoc]

/-- a batch, what turns its names into others, and back -/
structure Ren (kf kg f g : Nm) (t : List UInt8) (F : List Fp) : Prop where
  c : chk t F = 0
  fi : LInv kf f (famN F)
  gi : LInv kg g (labN F)
  fo : ∀ n ∈ famN F, nameOk (f n) = true
  go : ∀ n ∈ labN F, nameOk (g n) = true
  le : ∀ n ∈ labN F, g n = leB → n = leB
  qu : ∀ n ∈ labN F, g n = quB → n = quB
variable {kf kg f g : Nm} {t : List UInt8} {F M : List Fp}

theorem chk_fam (h : chk t F = 0) {x : Fp} (hx : x ∈ F) : famOk x.1 x.2 = true := (batOk_iff.1 (chk_zero h).1).2.1 x hx
theorem chk_pt (h : chk t F = 0) {x : Fp} (hx : x ∈ F) {p : Pt} (hp : p ∈ x.2) : ptOk x.1.k p = true := (famOk_iff.1 (chk_fam h hx)).2.2.2.2.1 p hp
theorem chk_sp (h : chk t F = 0) {x : Fp} (hx : x ∈ F) : StrictP x.2 := famOk_strict (chk_fam h hx)
theorem chk_ss (h : chk t F = 0) {x : Fp} (hx : x ∈ F) {p : Pt} (hp : p ∈ x.2) : StrictS p.l := (goodL_iff.1 (ptOk_iff.1 (chk_pt h hx hp)).2.1).2.2
theorem chk_st (h : chk t F = 0) : StrictT cmpF F := (batOk_iff.1 (chk_zero h).1).2.2
theorem lab_mem {x : Fp} (hx : x ∈ F) {p : Pt} (hp : p ∈ x.2) {a : List UInt8} (ha : a ∈ labL p.l) : a ∈ labN F := mem_labN.2 ⟨x, hx, p, hp, ha⟩

/-- a point with other names may be where it was -/
theorem ptOk_ren {k : Int} {p : Pt} (h : ptOk k p = true) (hi : LInv kg g (labL p.l)) (ho : ∀ n ∈ labL p.l, nameOk (g n) = true) (hle : ∀ n ∈ labL p.l, g n = leB → n = leB) (hqu : ∀ n ∈ labL p.l, g n = quB → n = quB) : ptOk k (renP g p) = true := by
  obtain ⟨a, b, c, d, e, e2, e3⟩ := ptOk_iff.1 h
  obtain ⟨b1, b2, b3⟩ := goodL_iff.1 b
  refine ptOk_iff.2 ⟨a, goodL_iff.2 ⟨?_, ?_, renP_strict hi b3⟩, c, d, e, e2, ?_⟩
  · rw [renP_l, (srtK_perm _).length_eq]; unfold renL; rw [List.length_map]; exact b1
  · intro x hx
    rw [renP_l] at hx
    have := (srtK_perm _).mem_iff.1 hx
    unfold renL at this
    obtain ⟨y, hy, rfl⟩ := List.mem_map.1 this
    exact ⟨ho y.1 (mem_labL.2 ⟨y, hy, rfl⟩), (b2 y hy).2⟩
  · have key : ∀ q : List UInt8, (∀ n ∈ labL p.l, g n = q → n = q) → (getL p.l q).2 = false → (getL (renP g p).l q).2 = false := by
      intro q hq h0
      cases h1 : (getL (renP g p).l q).2 with
      | false => rfl
      | true =>
        obtain ⟨n, hn, en⟩ := mem_ren.1 (show q ∈ labL (renP g p).l from getL_has.1 h1)
        have := hq n hn en.symm
        subst this
        rw [getL_has.2 (show n ∈ p.l.map (·.1) from hn)] at h0
        cases h0
    have er : (renP g p).ro = p.ro := rfl
    unfold hasB at e3 ⊢
    rw [er]
    by_cases h1 : p.ro = 1
    · rw [if_pos h1] at e3 ⊢
      exact key _ hle e3
    · rw [if_neg h1] at e3 ⊢
      by_cases h2 : p.ro = 2
      · rw [if_pos h2] at e3 ⊢
        exact key _ hqu e3
      · rw [if_neg h2]

theorem Ren.gl (h : Ren kf kg f g t F) {x : Fp} (hx : x ∈ F) {p : Pt} (hp : p ∈ x.2) : LInv kg g (labL p.l) := fun a ha => h.gi a (lab_mem hx hp ha)
theorem Ren.gp (h : Ren kf kg f g t F) {x : Fp} (hx : x ∈ F) : LInv kg g (labP x.2) := fun a ha => by
  obtain ⟨p, hp, hl⟩ := mem_labP.1 ha
  exact h.gl hx hp a hl
/-- what a family becomes -/
noncomputable def famG (f g : Nm) (x : Fp) : Fp := srtG (renF f g x)
theorem Ren.fam (h : Ren kf kg f g t F) {x : Fp} (hx : x ∈ F) : psrt (renF f g x).2 = some (famG f g x).2 ∧ (famG f g x).2.Perm (x.2.map (renP g)) ∧ StrictP (famG f g x).2 ∧ (famG f g x).1 = ⟨f x.1.n, x.1.k, x.1.u, x.1.h⟩ := by
  obtain ⟨d, e, hp, hs⟩ := psorts (ndP_ren (h.gp hx) (fun p hp => chk_ss h.c hx hp) (strictP_nd (chk_sp h.c hx)))
  have e2 : famG f g x = (⟨f x.1.n, x.1.k, x.1.u, x.1.h⟩, d) := by
    unfold famG srtG
    rw [show (renF f g x).2 = x.2.map (renP g) from rfl, e]; rfl
  rw [e2]
  exact ⟨e, hp, hs, rfl⟩
theorem Ren.n (h : Ren kf kg f g t F) {x : Fp} (hx : x ∈ F) : (famG f g x).1.n = f x.1.n := by rw [(h.fam hx).2.2.2]
/-- ████ it can be sorted -/
theorem Ren.sort (h : Ren kf kg f g t F) : ∃ M, srtB (renB f g F) = some M ∧ M.Perm (F.map (famG f g)) ∧ StrictT cmpF M := by
  have h1 : srtB (renB f g F) = gsrt cmpF (F.map (famG f g)) := by
    rw [srtB_yes]
    · unfold renB; rw [List.map_map]; rfl
    · intro y hy
      unfold renB at hy
      obtain ⟨x, hx, rfl⟩ := List.mem_map.1 hy
      rw [(h.fam hx).1]; rfl
  have hn : NdT cmpF (F.map (famG f g)) := by
    unfold NdT
    rw [List.pairwise_map]
    refine List.Pairwise.imp_of_mem ?_ (strictT_nd (chk_st h.c))
    intro x y hx hy hne e
    have e1 := cmpF_zero.1 e
    rw [h.n hx, h.n hy] at e1
    have e2 := congrArg kf e1
    rw [h.fi _ (mem_famN.2 ⟨x, hx, rfl⟩), h.fi _ (mem_famN.2 ⟨y, hy, rfl⟩)] at e2
    exact hne (cmpF_zero.2 e2)
  obtain ⟨M, hp, hs⟩ := sorts tp_cmpF hn
  exact ⟨M, by rw [h1]; exact gsrt_is tp_cmpF hp hs, hp, hs⟩
theorem Ren.mem (h : Ren kf kg f g t F) (hp : M.Perm (F.map (famG f g))) {y : Fp} (hy : y ∈ M) : ∃ x ∈ F, y = famG f g x := by
  obtain ⟨x, hx, e⟩ := List.mem_map.1 (hp.mem_iff.1 hy)
  exact ⟨x, hx, e.symm⟩
theorem Ren.pts (h : Ren kf kg f g t F) {x : Fp} (hx : x ∈ F) {q : Pt} : q ∈ (famG f g x).2 ↔ ∃ p ∈ x.2, q = renP g p := by
  rw [(h.fam hx).2.1.mem_iff, List.mem_map]
  exact ⟨fun ⟨p, a, b⟩ => ⟨p, a, b.symm⟩, fun ⟨p, a, b⟩ => ⟨p, a, b.symm⟩⟩
/-- its names -/
theorem Ren.famN (h : Ren kf kg f g t F) (hp : M.Perm (F.map (famG f g))) {n : List UInt8} : n ∈ famN M ↔ ∃ a ∈ famN F, n = f a := by
  rw [mem_famN]
  constructor
  · rintro ⟨y, hy, rfl⟩
    obtain ⟨x, hx, rfl⟩ := h.mem hp hy
    exact ⟨x.1.n, mem_famN.2 ⟨x, hx, rfl⟩, h.n hx⟩
  · rintro ⟨a, ha, rfl⟩
    obtain ⟨x, hx, rfl⟩ := mem_famN.1 ha
    exact ⟨famG f g x, hp.mem_iff.2 (List.mem_map.2 ⟨x, hx, rfl⟩), (h.n hx).symm⟩
theorem Ren.labN (h : Ren kf kg f g t F) (hp : M.Perm (F.map (famG f g))) {n : List UInt8} : n ∈ labN M ↔ ∃ a ∈ labN F, n = g a := by
  rw [mem_labN]
  constructor
  · rintro ⟨y, hy, q, hq, hn⟩
    obtain ⟨x, hx, rfl⟩ := h.mem hp hy
    obtain ⟨p, hpx, rfl⟩ := (h.pts hx).1 hq
    obtain ⟨a, ha, rfl⟩ := mem_ren.1 hn
    exact ⟨a, lab_mem hx hpx ha, rfl⟩
  · rintro ⟨a, ha, rfl⟩
    obtain ⟨x, hx, p, hpx, hl⟩ := mem_labN.1 ha
    exact ⟨famG f g x, hp.mem_iff.2 (List.mem_map.2 ⟨x, hx, rfl⟩), renP g p, (h.pts hx).2 ⟨p, hpx, rfl⟩, mem_ren.2 ⟨a, hl, rfl⟩⟩
theorem Ren.nPts (h : Ren kf kg f g t F) (hp : M.Perm (F.map (famG f g))) : nPts M = nPts F := by
  rw [nPts_perm hp]
  unfold Go.Proofs.YtgoibhbmndpgpaaGreatDoor.nPts
  rw [List.map_map]
  congr 1
  apply List.map_congr_left
  intro x hx
  show (famG f g x).2.length = x.2.length
  rw [(h.fam hx).2.1.length_eq, List.length_map]
theorem Ren.len (hp : M.Perm (F.map (famG f g))) : M.length = F.length := by rw [hp.length_eq, List.length_map]
/-- ████ it is a batch -/
theorem Ren.chk (h : Ren kf kg f g t F) (hp : M.Perm (F.map (famG f g))) (hs : StrictT cmpF M) : chk t M = 0 := by
  obtain ⟨h1, h2, h3⟩ := chk_zero h.c
  refine chk_is (batOk_iff.2 ⟨(batOk_iff.1 h1).1, ?_, hs⟩) (by rw [Ren.len hp]; exact h2) (by rw [h.nPts hp]; exact h3)
  intro y hy
  obtain ⟨x, hx, rfl⟩ := h.mem hp hy
  obtain ⟨a, b, c, d, e, e2⟩ := famOk_iff.1 (chk_fam h.c hx)
  obtain ⟨_, _, k3, k4⟩ := h.fam hx
  rw [k4]
  refine famOk_iff.2 ⟨h.fo _ (mem_famN.2 ⟨x, hx, rfl⟩), b, c, d, ?_, k3⟩
  intro q hq
  obtain ⟨p, hpx, rfl⟩ := (h.pts hx).1 hq
  exact ptOk_ren (e p hpx) (h.gl hx hpx) (fun n hn => h.go n (lab_mem hx hpx hn)) (fun n hn => h.le n (lab_mem hx hpx hn)) (fun n hn => h.qu n (lab_mem hx hpx hn))
/-- ████ it comes back -/
theorem Ren.back (h : Ren kf kg f g t F) (hp : M.Perm (F.map (famG f g))) : srtB (renB kf kg M) = some F := by
  have key : ∀ x ∈ F, ((renF kf kg (famG f g x)).2).Perm x.2 ∧ (renF kf kg (famG f g x)).1 = x.1 := by
    intro x hx
    obtain ⟨_, k2, k3, k4⟩ := h.fam hx
    constructor
    · show ((famG f g x).2.map (renP kg)).Perm x.2
      refine (k2.map _).trans ?_
      rw [List.map_map]
      have e : x.2.map (renP kg ∘ renP g) = x.2 := by
        conv => rhs; rw [← List.map_id x.2]
        apply List.map_congr_left
        intro p hpx
        exact renP_back (h.gl hx hpx) (chk_ss h.c hx hpx)
      rw [e]
    · show (⟨kf (famG f g x).1.n, (famG f g x).1.k, (famG f g x).1.u, (famG f g x).1.h⟩ : Hd) = x.1
      rw [k4]
      simp only
      rw [h.fi _ (mem_famN.2 ⟨x, hx, rfl⟩)]
  have one : ∀ x ∈ F, psrt (renF kf kg (famG f g x)).2 = some x.2 := fun x hx => psrt_is (key x hx).1.symm (chk_sp h.c hx)
  rw [srtB_yes]
  · refine gsrt_is tp_cmpF ?_ (chk_st h.c)
    unfold renB
    rw [List.map_map]
    refine List.Perm.trans ?_ (hp.map _).symm
    rw [List.map_map]
    have e : F.map ((srtG ∘ renF kf kg) ∘ famG f g) = F := by
      conv => rhs; rw [← List.map_id F]
      apply List.map_congr_left
      intro x hx
      show ((renF kf kg (famG f g x)).1, (psrt (renF kf kg (famG f g x)).2).getD []) = x
      rw [one x hx, (key x hx).2]; rfl
    rw [e]
  · intro z hz
    unfold renB at hz
    obtain ⟨y, hy, rfl⟩ := List.mem_map.1 hz
    obtain ⟨x, hx, rfl⟩ := h.mem hp hy
    rw [one x hx]; rfl
/-- each point is there, with its other name -/
theorem Ren.look (h : Ren kf kg f g t F) (hp : M.Perm (F.map (famG f g))) (hs : StrictT cmpF M) {x : Fp} (hx : x ∈ F) {p : Pt} (hpx : p ∈ x.2) : ptLook M (f x.1.n) (renP g p) = some (renP g p) := by
  rw [← h.n hx]
  refine ptLook_self hs (fun y hy => ?_) (hp.mem_iff.2 (List.mem_map.2 ⟨x, hx, rfl⟩)) ((h.pts hx).2 ⟨p, hpx, rfl⟩)
  obtain ⟨z, hz, rfl⟩ := h.mem hp hy
  exact (h.fam hz).2.2.1

end Lg
end Go.Proofs.YtgoibhbmndpgpaaGreatDoor

/- All names of a batch, in plain words: what a batch becomes (toR), what it was (fromR), whether its names are legal (isB). -/
set_option maxRecDepth 100000
set_option linter.unusedVariables false
set_option linter.unusedSimpArgs false
namespace Go.Proofs.YtgoibhbmndpgpaaGreatDoor
open Dc
namespace Lg

abbrev Bs := List UInt8
/-- a mode's names -/
def nmF (p m w : Int) : Nm := if m = 1 then Ch.loss p w else Ch.esc p w
/-- is a name too long -/
def longL (l : List Lb) : Bool := l.any fun y => decide (60 < y.1.length)
def longP (P : List Pt) : Bool := P.any fun q => longL q.l
def longF (x : Fp) : Bool := decide (60 < x.1.n.length) || longP x.2
def longB (F : List Fp) : Bool := F.any longF
/-- which names become one -/
def clB (p : Int) (F : List Fp) : Option (Bs × Bs) := (Co.collO (Ch.loss p 0) (famN F)).or (Co.collO (Ch.loss p 1) (labN F))
def argOk (p m : Int) (t : Bs) (F : List Fp) : Bool := decide (chk t F = 0) && decide (1 ≤ p) && decide (p ≤ 4) && (decide (m = 0) || decide (m = 1))
def c0 : Bs × Bs := ([], [])
/-- with their new names: sorted, if none is too long -/
noncomputable def putR (L : List Fp) : Int × (Bs × Bs) × Option (List Fp) :=
  if longB L = true then (14, c0, none)
  else match srtB L with
    | some M => (0, c0, some M)
    | none => (19, c0, none)
noncomputable def toR (p m : Int) (t : Bs) (F : List Fp) : Int × (Bs × Bs) × Option (List Fp) :=
  if argOk p m t F = true then
    match (if m = 1 then clB p F else none) with
    | some c => (16, c, none)
    | none => putR (renB (nmF p m 0) (nmF p m 1) F)
  else (19, c0, none)
noncomputable def fromR (p m : Int) (t : Bs) (F : List Fp) : Int × Option (List Fp) :=
  if argOk p m t F = true then
    if m = 1 then (0, some F)
    else match srtB (renB (Ch.back p 0) (Ch.back p 1) F) with
      | some M => if chk t M = 0 then (0, some M) else (19, none)
      | none => (19, none)
  else (19, none)
def labsOk (p : Int) (l : List Lb) : Bool := l.all fun y => Ch.isName p 1 y.1
def isP (p : Int) (P : List Pt) : Bool := P.all fun q => labsOk p q.l
def isF (p : Int) (x : Fp) : Bool := Ch.isName p 0 x.1.n && isP p x.2
def isB (p : Int) (F : List Fp) : Bool := F.all (isF p)
/-- what loops meet -/
theorem all_take {α : Type} {l : List α} {P : α → Prop} {k : Nat} {x : α} (h : ∀ y ∈ l.take k, P y) (hx : l[k]? = some x) (hp : P x) : ∀ y ∈ l.take (k + 1), P y := by
  obtain ⟨hk, rfl⟩ := List.getElem?_eq_some_iff.1 hx
  intro y hy
  rw [List.take_succ_eq_append_getElem hk] at hy
  rcases List.mem_append.1 hy with q | q
  · exact h y q
  · rw [List.mem_singleton.1 q]; exact hp
theorem all_full {α : Type} {l : List α} {P : α → Prop} {k : Nat} (h : ∀ y ∈ l.take k, P y) (hk : l.length ≤ k) : ∀ y ∈ l, P y := by rwa [List.take_of_length_le hk] at h
theorem all_yes {α : Type} {l : List α} {q : α → Bool} (h : ∀ y ∈ l, q y = true) : l.all q = true := List.all_eq_true.2 h
theorem all_no {α : Type} {l : List α} {q : α → Bool} {x : α} (hx : x ∈ l) (h : q x = false) : l.all q = false := by rw [List.all_eq_false]; exact ⟨x, hx, by rw [h]; decide⟩

variable {t : Bs} {F M : List Fp} {p : Int}
end Lg
end Go.Proofs.YtgoibhbmndpgpaaGreatDoor
