/- The texts FamPlain, PointArg, FamRow, FamB, FamKp, PointTabs, one behind the other. -/
import Derived.Test.YtgoibhbmndpgpaaGreatDoorPlA
import Derived.Test.YtgoibhbmndpgpaaGreatDoorPointW
import Derived.Test.YtgoibhbmndpgpaaGreatDoorKRow
import Derived.Test.YtgoibhbmndpgpaaGreatDoorUlW
import Derived.Maps.AppendAt
import Derived.Laws.AppendOwnNone
import Derived.Lib.SliceRun
import Derived.Test.YtgoibhbmndpgpaaGreatDoorDssW
import Derived.Test.YtgoibhbmndpgpaaGreatDoorGrd
import Derived.Test.YtgoibhbmndpgpaaGreatDoorRows
import Derived.ProofKit
import Derived.LaidMore
import Derived.MakeChecks

/- Families in plain words: points are in one order, which goes on over three; a row of points sorted; what may be a family. -/
set_option maxRecDepth 100000
set_option linter.unusedVariables false
set_option linter.unusedSimpArgs false
namespace Go.Proofs.YtgoibhbmndpgpaaGreatDoor
open Dc

/-- an order told by a number: turned round it is the number's other sign; it goes on over three -/
structure TP {α : Type} (f : α → α → Int) : Prop where
  neg : ∀ x y, f y x = - f x y
  le : ∀ x y z, f x y ≤ 0 → f y z ≤ 0 → f x z ≤ 0
theorem TP.refl {α : Type} {f : α → α → Int} (h : TP f) (x : α) : f x x = 0 := by have := h.neg x x; omega
theorem TP.lt {α : Type} {f : α → α → Int} (h : TP f) {x y z : α} (h1 : f x y < 0) (h2 : f y z ≤ 0) : f x z < 0 := by
  have h3 := h.le x y z (by omega) h2
  rcases Int.lt_or_le (f x z) 0 with k | k
  · exact k
  · have h4 := h.le y z x h2 (by rw [h.neg]; omega)
    rw [h.neg] at h4; omega
theorem TP.lt' {α : Type} {f : α → α → Int} (h : TP f) {x y z : α} (h1 : f x y ≤ 0) (h2 : f y z < 0) : f x z < 0 := by
  have h3 := h.le x y z h1 (by omega)
  rcases Int.lt_or_le (f x z) 0 with k | k
  · exact k
  · have h4 := h.le z x y (by rw [h.neg]; omega) h1
    rw [h.neg] at h4; omega
/-- first the one, then the other -/
def lex {α : Type} (f g : α → α → Int) (x y : α) : Int := if f x y = 0 then g x y else f x y
theorem TP.lex {α : Type} {f g : α → α → Int} (hf : TP f) (hg : TP g) : TP (lex f g) where
  neg x y := by
    unfold Go.Proofs.YtgoibhbmndpgpaaGreatDoor.lex
    have h1 := hf.neg x y
    have h2 := hg.neg x y
    by_cases h : f x y = 0
    · rw [if_pos h, if_pos (by omega)]; exact h2
    · rw [if_neg h, if_neg (by omega)]; exact h1
  le x y z h1 h2 := by
    unfold Go.Proofs.YtgoibhbmndpgpaaGreatDoor.lex at h1 h2 ⊢
    by_cases a : f x y = 0
    · rw [if_pos a] at h1
      by_cases b : f y z = 0
      · rw [if_pos b] at h2
        have c : f x z = 0 := by
          have c1 := hf.le x y z (by omega) (by omega)
          have c2 := hf.le z y x (by rw [hf.neg]; omega) (by rw [hf.neg]; omega)
          rw [hf.neg] at c2; omega
        rw [if_pos c]
        exact hg.le x y z h1 h2
      · rw [if_neg b] at h2
        have c := hf.lt' (x := x) (y := y) (z := z) (by omega) (by omega)
        rw [if_neg (by omega)]; omega
    · rw [if_neg a] at h1
      by_cases b : f y z = 0
      · have c := hf.lt (x := x) (y := y) (z := z) (by omega) (by omega)
        rw [if_neg (by omega)]; omega
      · rw [if_neg b] at h2
        have c := hf.lt (x := x) (y := y) (z := z) (by omega) (by omega)
        rw [if_neg (by omega)]; omega
theorem TP.comap {α β : Type} {f : β → β → Int} (h : TP f) (k : α → β) : TP fun x y => f (k x) (k y) := ⟨fun x y => h.neg _ _, fun x y z => h.le _ _ _⟩
theorem tp_zero {α : Type} : TP fun (_ _ : α) => (0 : Int) := ⟨fun _ _ => rfl, fun _ _ _ _ _ => by decide⟩
theorem tp_ord3 : TP ord3 where
  neg x y := by
    rcases ord3_cases x y with ⟨a, b⟩ | ⟨a, b⟩ | ⟨a, b⟩
    · rw [b, ord3_gt a]; rfl
    · rw [b, ord3_lt a]
    · rw [b, ord3_eq a.symm]; rfl
  le x y z h1 h2 := by
    rcases ord3_cases x y with ⟨a, b⟩ | ⟨a, b⟩ | ⟨a, b⟩ <;> rcases ord3_cases y z with ⟨a', b'⟩ | ⟨a', b'⟩ | ⟨a', b'⟩ <;> rcases ord3_cases x z with ⟨a2, b2⟩ | ⟨a2, b2⟩ | ⟨a2, b2⟩ <;> omega
theorem tp_ff : TP ffI where
  neg x y := by cases x <;> cases y <;> decide
  le x y z := by cases x <;> cases y <;> cases z <;> decide
theorem tp_cmpL : TP cmpL := ⟨fun x y => cmpL_neg x y, fun x y z => cmpL_le_trans x y z⟩
theorem cmpP_lex (p q : Pt) : cmpP p q = lex (fun p q => cmpL p.l q.l) (lex (fun p q => ffI p.td q.td) (lex (fun p q => ord3 p.ti q.ti) (lex (fun p q => ord3 p.ro q.ro) (lex (fun p q => ffI p.inf q.inf) (lex (fun p q => cmpO p.bm p.bs q.bm q.bs) (fun _ _ => 0)))))) p q := rfl
theorem tp_cmpP : TP cmpP := by
  have h : TP (lex (fun p q : Pt => cmpL p.l q.l) (lex (fun p q => ffI p.td q.td) (lex (fun p q => ord3 p.ti q.ti) (lex (fun p q => ord3 p.ro q.ro) (lex (fun p q => ffI p.inf q.inf) (lex (fun p q => cmpO p.bm p.bs q.bm q.bs) (fun _ _ => 0))))))) :=
    (tp_cmpL.comap fun p : Pt => p.l).lex ((tp_ff.comap fun p : Pt => p.td).lex ((tp_ord3.comap fun p : Pt => p.ti).lex ((tp_ord3.comap fun p : Pt => p.ro).lex ((tp_ff.comap fun p : Pt => p.inf).lex
      ((tp_ord3.comap fun p : Pt => zv (orZ p.bm p.bs).1 (orZ p.bm p.bs).2).lex tp_zero)))))
  exact ⟨fun x y => by rw [cmpP_lex, cmpP_lex]; exact h.neg x y, fun x y z h1 h2 => by rw [cmpP_lex] at h1 h2 ⊢; exact h.le x y z h1 h2⟩
/-- each point greater than the one before it -/
abbrev StrictP (l : List Pt) : Prop := l.Pairwise fun p q => cmpP p q < 0
/-- no two are one -/
abbrev NdP (l : List Pt) : Prop := l.Pairwise fun p q => cmpP p q ≠ 0
theorem strictP_nd {l : List Pt} (h : StrictP l) : NdP l := h.imp fun {a b} k => by omega
theorem strictP_unique {l m : List Pt} (h : l.Perm m) (hl : StrictP l) (hm : StrictP m) : l = m :=
  List.Perm.eq_of_pairwise (fun a b _ _ h1 h2 => by rw [tp_cmpP.neg] at h2; omega) hl hm h
theorem strictP_adj {l : List Pt} (h : ∀ (i : Nat) (p q : Pt), l[i]? = some p → l[i + 1]? = some q → cmpP p q < 0) : StrictP l := by
  unfold StrictP
  rw [List.pairwise_iff_getElem]
  intro i j hi hj hij
  obtain ⟨d, rfl⟩ : ∃ d, j = i + 1 + d := ⟨j - i - 1, by omega⟩
  induction d with
  | zero => exact h i _ _ (List.getElem?_eq_getElem hi) (List.getElem?_eq_getElem hj)
  | succ d ih =>
    have h1 := ih (by omega) (by omega)
    have h2 := h (i + 1 + d) _ _ (List.getElem?_eq_getElem (by omega)) (List.getElem?_eq_getElem (show i + 1 + d + 1 < l.length by omega))
    exact tp_cmpP.lt h1 (Int.le_of_lt h2)
theorem strictP_no {l : List Pt} {i : Nat} {p q : Pt} (h1 : l[i]? = some p) (h2 : l[i + 1]? = some q) (h : ¬ cmpP p q < 0) : ¬ StrictP l := fun hs => by
  obtain ⟨hi, rfl⟩ := List.getElem?_eq_some_iff.1 h1
  obtain ⟨hj, rfl⟩ := List.getElem?_eq_some_iff.1 h2
  exact h (List.pairwise_iff_getElem.1 hs i (i + 1) hi hj (by omega))
open Classical in
/-- the row sorted, if no two of it are one -/
noncomputable def psrt (l : List Pt) : Option (List Pt) := if h : ∃ d : List Pt, d.Perm l ∧ StrictP d then some (Classical.choose h) else none
theorem psrt_is {l d : List Pt} (hp : d.Perm l) (hs : StrictP d) : psrt l = some d := by
  have h : ∃ d : List Pt, d.Perm l ∧ StrictP d := ⟨d, hp, hs⟩
  unfold psrt
  rw [dif_pos h]
  have hc := Classical.choose_spec h
  rw [strictP_unique (hc.1.trans hp.symm) hc.2 hs]
/-- what a family is called, as plain data -/
structure Hd where
  n : List UInt8
  k : Int
  u : List UInt8
  h : List UInt8
  deriving DecidableEq
def kindOk (k : Int) : Bool := decide (0 ≤ k ∧ k < 5)
/-- may it be a family? -/
def famOk (h : Hd) (l : List Pt) : Bool := nameOk h.n && kindOk h.k && valueOk h.u && valueOk h.h && l.all (ptOk h.k) && decide (StrictP l)
end Go.Proofs.YtgoibhbmndpgpaaGreatDoor

/- A point, rows of labels in it, that came in as arguments. -/
set_option maxRecDepth 100000
set_option linter.unusedVariables false
set_option linter.unusedSimpArgs false
namespace Go.Proofs.YtgoibhbmndpgpaaGreatDoor
open Go.RowKit Go.ChangeShapes Go.WideShapes Go.ChangeAt Go.Deep

/-- a row of labels that is a field -/
theorem lbRow_trod {H : Type} {enc : TypeId × Value → H} {W : World} {base : Nat} {sp : Nat → Bool} {held : Bool} {fuel : Nat} {v : Value} {x : DataW H × List MemPlace}
    (hf : DataW.trod enc Tryz.prog W base sp held fuel 42 [v] = some x) : ∃ l, LbRow W v l ∧ Fit l := by
  rcases open_slice Tryz.underlying42 hf with ⟨hcs, _⟩ | ⟨a', len', cap', m, k, D, Pl, hcs, hb, hl, hm, hmm, _, hi⟩
  · obtain rfl : v = _ := by simpa using hcs
    exact ⟨[], LbRow.nil _, fun p hp => by cases hp⟩
  · obtain rfl : v = _ := by simpa using hcs
    have hlen : len' ≤ m := by rw [hmm]; split <;> omega
    have hC : Tryz.prog.cellsOf 48 = 2 := by kernel_rfl
    have hall : ∀ i, ∃ q : Lb, i < len' → (q.1.length ≤ maxLen ∧ q.2.length ≤ maxLen) ∧ W.cell? (a'.add (i * 2 + 0)) = some (.string (str q.1)) ∧ W.cell? (a'.add (i * 2 + 1)) = some (.string (str q.2)) := fun i => by
      by_cases hil : i < len'
      · obtain ⟨cs', hc, ht⟩ := hi i (by omega)
        obtain ⟨q, rfl, hq⟩ := trod_label ht
        rw [hC] at hc
        obtain ⟨_, _, hat⟩ := World.cells?_some hc
        refine ⟨q, fun _ => ⟨hq, ?_, ?_⟩⟩
        · rw [← Go.Deep.add_add, hat 0 (by omega)]; rfl
        · rw [← Go.Deep.add_add, hat 1 (by omega)]; rfl
      · exact ⟨([], []), fun h => absurd h hil⟩
    obtain ⟨qs, hqs⟩ := Classical.axiomOfChoice hall
    have hll : ((List.range len').map qs).length = len' := by simp
    refine ⟨(List.range len').map qs, ⟨some a', cap', by rw [hll], by rw [hll]; exact hl, hm, (by rintro ⟨⟩), fun h0 => ?_⟩, fun p hp => ?_⟩
    · rw [hll] at h0
      have h00 := (hqs 0 h0).2.1
      obtain ⟨b, off, spot⟩ := a'
      have hspot : spot = none := by simpa [Addr.add] using World.cell?_spot h00
      subst hspot
      refine ⟨b, off, rfl, ?_, fun i q hq => ?_⟩
      · have := cell_lt h00
        simpa [Addr.add] using this
      · obtain ⟨hil, rfl⟩ : i < len' ∧ qs i = q := by
          rw [List.getElem?_map] at hq
          by_cases hi2 : i < len'
          · rw [List.getElem?_range hi2] at hq
            exact ⟨hi2, by simpa using hq⟩
          · rw [List.getElem?_eq_none (by simp; omega)] at hq
            cases hq
        have g := hqs i hil
        exact ⟨by rw [← g.2.1, Go.WideShapes.add_plain, Nat.add_zero], by rw [← g.2.2, Go.WideShapes.add_plain, Nat.add_assoc]⟩
    · obtain ⟨i, hi2, rfl⟩ := List.mem_map.1 hp
      exact (hqs i (List.mem_range.1 hi2)).1

theorem dec_trod {H : Type} {enc : TypeId × Value → H} {W : World} {base : Nat} {sp : Nat → Bool} {held : Bool} {fuel : Nat} {cs : List Value} {x : DataW H × List MemPlace}
    (h : DataW.trod enc Tryz.prog W base sp held fuel 44 cs = some x) : ∃ m s : Int, cs = [.int .i64 m, .int .i64 s] ∧ (Lit.int .i64 m).wf = true ∧ (Lit.int .i64 s).wf = true := by
  obtain ⟨xs, n, rfl, _, hlen, hxs, hf⟩ := DataW.trod_struct Tryz.underlying44 h
  have hc : Tryz.prog.cellsOf 44 = 2 := by kernel_rfl
  rw [hc] at hlen
  match cs, hlen with
  | [u0, u1], _ =>
    have hs : xs.length = 2 := by rw [hxs]; rfl
    match xs, hs with
    | [x0, x1], _ =>
      have h0 := hf 0 _ rfl
      have h1 := hf 1 _ rfl
      have c0 : Tryz.prog.cellsOf 2 = 1 := by kernel_rfl
      have c1 : Tryz.prog.cellsOf 3 = 1 := by kernel_rfl
      simp only [List.getElem_toArray, List.getElem_cons_zero, List.getElem_cons_succ, c0, c1] at h0 h1
      obtain ⟨a, e0, _, wa⟩ := DataW.trod_int Tryz.underlying2 h0
      obtain ⟨b, e1, _, wb⟩ := DataW.trod_int Tryz.underlying3 h1
      have f0 : u0 = .int .i64 a := by simpa using e0
      have f1 : u1 = .int .i64 b := by simpa using e1
      exact ⟨a, b, by rw [f0, f1], wa, wb⟩
theorem pt_trod {H : Type} {enc : TypeId × Value → H} {W : World} {base : Nat} {sp : Nat → Bool} {held : Bool} {fuel : Nat} {cs : List Value} {x : DataW H × List MemPlace}
    (h : DataW.trod enc Tryz.prog W base sp held fuel 46 cs = some x) : ∃ v p, cs = (ptc v p).toList ∧ LbRow W v p.l ∧ PtIn p := by
  obtain ⟨xs, n, rfl, _, hlen, hxs, hf⟩ := DataW.trod_struct Tryz.underlying46 h
  have hc : Tryz.prog.cellsOf 46 = 9 := by kernel_rfl
  rw [hc] at hlen
  match cs, hlen with
  | [u0, u1, u2, u3, u4, u5, u6, u7, u8], _ =>
    have hs : xs.length = 7 := by rw [hxs]; rfl
    match xs, hs with
    | [x0, x1, x2, x3, x4, x5, x6], _ =>
      have h0 := hf 0 _ rfl
      have h1 := hf 1 _ rfl
      have h2 := hf 2 _ rfl
      have h3 := hf 3 _ rfl
      have h4 := hf 4 _ rfl
      have h5 := hf 5 _ rfl
      have h6 := hf 6 _ rfl
      have c0 : Tryz.prog.cellsOf 42 = 1 := by kernel_rfl
      have c1 : Tryz.prog.cellsOf 3 = 1 := by kernel_rfl
      have c2 : Tryz.prog.cellsOf 4 = 1 := by kernel_rfl
      have c3 : Tryz.prog.cellsOf 44 = 2 := by kernel_rfl
      have c4 : Tryz.prog.cellsOf 2 = 1 := by kernel_rfl
      simp only [List.getElem_toArray, List.getElem_cons_zero, List.getElem_cons_succ, c0, c1, c2, c3, c4] at h0 h1 h2 h3 h4 h5 h6
      simp only [List.drop_zero, List.drop_succ_cons, List.take_succ_cons, List.take_zero] at h0 h1 h2 h3 h4 h5 h6
      obtain ⟨l, hr, hfit⟩ := lbRow_trod h0
      obtain ⟨ro, e1, _, w1⟩ := DataW.trod_int Tryz.underlying3 h1
      obtain ⟨inf, e2, _⟩ := DataW.trod_bool Tryz.underlying4 h2
      obtain ⟨bm, bs, e3, w3, _⟩ := dec_trod h3
      obtain ⟨m, s, e4, w4, _⟩ := dec_trod h4
      obtain ⟨td, e5, _⟩ := DataW.trod_bool Tryz.underlying4 h5
      obtain ⟨ti, e6, _, w6⟩ := DataW.trod_int Tryz.underlying2 h6
      simp only [List.cons.injEq, and_true] at e1 e2 e3 e4 e5 e6
      obtain ⟨e3, e3b⟩ := e3
      obtain ⟨e4, e4b⟩ := e4
      exact ⟨u0, ⟨l, ro, inf, bm, bs, m, s, td, ti⟩, by rw [e1, e2, e3, e3b, e4, e4b, e5, e6], hr, ⟨(i64_bounds w3).1, (i64_bounds w3).2, (i64_bounds w4).1, (i64_bounds w4).2, (i64_bounds w6).1, (i64_bounds w6).2, hfit⟩⟩
end Go.Proofs.YtgoibhbmndpgpaaGreatDoor

/- Rows of points, families: as values, in blocks, as they came in. -/
set_option maxRecDepth 100000
set_option linter.unusedVariables false
set_option linter.unusedSimpArgs false
namespace Go.Proofs.YtgoibhbmndpgpaaGreatDoor
open Go.RowKit Go.ChangeShapes Go.WideShapes Go.Deep Dc

/-- a point and the slice of its labels -/
abbrev Ps := Value × Pt
def encP (x : Ps) : List Value := [x.1, .int .i64 x.2.ro, .bool x.2.inf, .int .i64 x.2.bm, .int .i64 x.2.bs, .int .i64 x.2.m, .int .i64 x.2.s, .bool x.2.td, .int .i64 x.2.ti]
theorem encP_len (x : Ps) : (encP x).length = 9 := rfl
abbrev pts (L : List Ps) : List Pt := L.map (·.2)
/-- each element's labels can be read -/
abbrev PsIn (w : World) (x : Ps) : Prop := LbRow w x.1 x.2.l ∧ PtIn x.2
theorem lb_one' {w : World} {v : Value} {l : List Lb} (h : LbRow w v l) : v.oneCell' = true := by obtain ⟨_, _, rfl, _⟩ := h; rfl
def PtRow (w : World) (v : Value) (L : List Ps) : Prop := KRow encP 9 w v L ∧ ∀ x ∈ L, PsIn w x
theorem PtRow.below {w w' : World} {v : Value} {L : List Ps} (h : PtRow w v L) (hb : Below w.heap.size w w') : PtRow w' v L := ⟨h.1.below hb, fun x hx => ⟨(h.2 x hx).1.below hb, (h.2 x hx).2⟩⟩
theorem PtRow.nil (w : World) : PtRow w (.slice none 0 0) [] := ⟨KRow.nil _ _ _, fun x hx => by cases hx⟩
abbrev PtOwn (w : World) (base : Nat) (v : Value) (L : List Ps) : Prop := KOwn encP 46 9 w base v L
/-- the cells of the i-th point -/
theorem pr_cells {w : World} {b off : Nat} {L : List Ps} (h : ∀ i x, L[i]? = some x → ∀ j u, (encP x)[j]? = some u → w.cell? ⟨b, off + i * 9 + j, none⟩ = some u) {i : Nat} {x : Ps} (hx : L[i]? = some x) :
    w.cell? ⟨b, off + i * 9, none⟩ = some x.1 ∧ w.cell? ⟨b, off + i * 9 + 1, none⟩ = some (.int .i64 x.2.ro) ∧ w.cell? ⟨b, off + i * 9 + 2, none⟩ = some (.bool x.2.inf) ∧ w.cell? ⟨b, off + i * 9 + 3, none⟩ = some (.int .i64 x.2.bm) ∧
    w.cell? ⟨b, off + i * 9 + 4, none⟩ = some (.int .i64 x.2.bs) ∧ w.cell? ⟨b, off + i * 9 + 5, none⟩ = some (.int .i64 x.2.m) ∧ w.cell? ⟨b, off + i * 9 + 6, none⟩ = some (.int .i64 x.2.s) ∧
    w.cell? ⟨b, off + i * 9 + 7, none⟩ = some (.bool x.2.td) ∧ w.cell? ⟨b, off + i * 9 + 8, none⟩ = some (.int .i64 x.2.ti) :=
  ⟨h i x hx 0 _ rfl, h i x hx 1 _ rfl, h i x hx 2 _ rfl, h i x hx 3 _ rfl, h i x hx 4 _ rfl, h i x hx 5 _ rfl, h i x hx 6 _ rfl, h i x hx 7 _ rfl, h i x hx 8 _ rfl⟩
/-- the labels' slices and the points can be chosen apart -/
theorem ps_get {L : List Ps} {i : Nat} (h : i < L.length) : ∃ x, L[i]? = some x ∧ (pts L)[i]? = some x.2 := ⟨L[i], List.getElem?_eq_getElem h, by simp [pts, List.getElem?_eq_getElem h]⟩

/-- a row of points that came in -/
theorem ptRow_of {H : Type} {enc : TypeId × Value → H} {W : World} {base : Nat} {sp : Nat → Bool} {held : Bool} {fuel : Nat} {cs : List Value} {x : DataW H × List MemPlace}
    (h : DataW.trod enc Tryz.prog W base sp held fuel 37 cs = some x) : ∃ v L, cs = [v] ∧ PtRow W v L := by
  rcases open_slice Tryz.underlying37 h with ⟨hcs, _⟩ | ⟨a', len', cap', m, k, D, Pl, hcs, hb, hl, hm, hmm, _, hi⟩
  · exact ⟨.slice none 0 0, [], hcs, PtRow.nil _⟩
  · refine ⟨.slice (some a') len' cap', ?_⟩
    have hlen : len' ≤ m := by rw [hmm]; split <;> omega
    have hC : Tryz.prog.cellsOf 46 = 9 := by kernel_rfl
    have hall : ∀ i, ∃ q : Ps, i < len' → PsIn W q ∧ ∀ j u, (encP q)[j]? = some u → W.cell? (a'.add (i * 9 + j)) = some u := fun i => by
      by_cases hil : i < len'
      · obtain ⟨cs', hc, ht⟩ := hi i (by omega)
        obtain ⟨v, p, rfl, h1, h2⟩ := pt_trod ht
        rw [hC] at hc
        obtain ⟨_, _, hat⟩ := World.cells?_some hc
        refine ⟨(v, p), fun _ => ⟨⟨h1, h2⟩, fun j u hu => ?_⟩⟩
        have hj : j < 9 := (List.getElem?_eq_some_iff.1 hu).1
        rw [← Go.Deep.add_add, hat j hj]
        exact hu
      · exact ⟨(.slice none 0 0, ⟨[], 0, false, 0, 0, 0, 0, false, 0⟩), fun h => absurd h hil⟩
    obtain ⟨qs, hqs⟩ := Classical.axiomOfChoice hall
    have hll : ((List.range len').map qs).length = len' := by simp
    refine ⟨(List.range len').map qs, hcs, ⟨some a', cap', by rw [hll], by rw [hll]; exact hl, hm, (by rintro ⟨⟩), fun h0 => ?_⟩, fun p hp => ?_⟩
    · rw [hll] at h0
      have h00 := (hqs 0 h0).2 0 _ rfl
      obtain ⟨b, off, spot⟩ := a'
      have hspot : spot = none := by simpa [Addr.add] using World.cell?_spot h00
      subst hspot
      refine ⟨b, off, rfl, ?_, fun i q hq j u hu => ?_⟩
      · have := cell_lt h00
        simpa [Addr.add] using this
      · obtain ⟨hil, rfl⟩ : i < len' ∧ qs i = q := by
          rw [List.getElem?_map] at hq
          by_cases hi2 : i < len'
          · rw [List.getElem?_range hi2] at hq
            exact ⟨hi2, by simpa using hq⟩
          · rw [List.getElem?_eq_none (by simp; omega)] at hq
            cases hq
        have g := (hqs i hil).2 j u hu
        rw [← g, Go.WideShapes.add_plain, Nat.add_assoc]
    · obtain ⟨i, hi2, rfl⟩ := List.mem_map.1 hp
      exact (hqs i (List.mem_range.1 hi2)).1

/-- a family as a value; v: the slice of its points -/
abbrev famv (h : Hd) (v : Value) : Value := .agg #[.string (str h.n), .int .i64 h.k, .string (str h.u), .string (str h.h), v]
abbrev famc (h : Hd) (v : Value) : Array Value := #[.string (str h.n), .int .i64 h.k, .string (str h.u), .string (str h.h), v]
def hd0 : Hd := ⟨[], 0, [], []⟩
/-- as many bytes in each text as a string may have, the kind a machine's number -/
structure HdIn (h : Hd) : Prop where
  ln : h.n.length ≤ maxLen
  lu : h.u.length ≤ maxLen
  lh : h.h.length ≤ maxLen
  k1 : -9223372036854775808 ≤ h.k
  k2 : h.k ≤ 9223372036854775807
/-- a family lies in block b -/
structure FamAt (w : World) (b : Nat) (h : Hd) (v : Value) : Prop where
  c0 : w.cell? ⟨b, 0, none⟩ = some (.string (str h.n))
  c1 : w.cell? ⟨b, 1, none⟩ = some (.int .i64 h.k)
  c2 : w.cell? ⟨b, 2, none⟩ = some (.string (str h.u))
  c3 : w.cell? ⟨b, 3, none⟩ = some (.string (str h.h))
  c4 : w.cell? ⟨b, 4, none⟩ = some v
  fr : ∀ o, w.frozen? ⟨b, o, none⟩ = false
  lt : b < w.heap.size
theorem FamAt.below {w w' : World} {b : Nat} {h : Hd} {v : Value} (k : FamAt w b h v) (hb : Below w.heap.size w w') : FamAt w' b h v :=
  ⟨(hb.cell k.lt).trans k.c0, (hb.cell k.lt).trans k.c1, (hb.cell k.lt).trans k.c2, (hb.cell k.lt).trans k.c3, (hb.cell k.lt).trans k.c4,
    fun o => (hb.frozen (p := ⟨b, o, none⟩) k.lt).trans (k.fr o), Nat.lt_of_lt_of_le k.lt hb.size⟩
theorem FamAt.new (w : World) (h : Hd) (v : Value) (t : TypeId) : FamAt (w.alloc (.cells (famc h v) t)) w.heap.size h v :=
  ⟨by simp, by simp, by simp, by simp, by simp, fun o => by simp, by simp⟩

end Go.Proofs.YtgoibhbmndpgpaaGreatDoor

/- The walks of slices.Clone at points, of package family's copied. -/
set_option maxRecDepth 100000
set_option linter.unusedVariables false
set_option linter.unusedSimpArgs false
namespace Go.Proofs.YtgoibhbmndpgpaaGreatDoor
open Go.RowKit Go.Sort Dc
attribute [local go_sem ↓] Go.wp_at_zero Go.wp_at_succ

/-- the labels lie behind block g -/
def FarLb (w : World) (g : Nat) (x : Ps) : Prop := LbRow w x.1 x.2.l ∧ ∀ k, x.1.ownBlock = some k → g < k
theorem FarLb.below {w w' : World} {g : Nat} {x : Ps} (h : FarLb w g x) (hb : Below w.heap.size w w') : FarLb w' g x := ⟨h.1.below hb, h.2⟩
/-- where all blocks behind g are as they were, the labels are -/
theorem FarLb.other {w X : World} {g : Nat} {x : Ps} (h : FarLb w g x) (ho : ∀ b, b < w.heap.size → g < b → X.heap[b]? = w.heap[b]?) (hz : w.heap.size ≤ X.heap.size) : FarLb X g x := by
  obtain ⟨⟨A, cap, hv, h1, h2, hn, h3⟩, hf⟩ := h
  refine ⟨⟨A, cap, hv, h1, h2, hn, fun h0 => ?_⟩, hf⟩
  obtain ⟨b, off, rfl, hlt, hc⟩ := h3 h0
  have hg : g < b := hf b (by rw [hv]; rfl)
  have e := ho b hlt hg
  exact ⟨b, off, rfl, by omega, fun i p hp => ⟨(World.cell?_of_block (a := ⟨b, off + i * 2, none⟩) e).trans (hc i p hp).1, (World.cell?_of_block (a := ⟨b, off + i * 2 + 1, none⟩) e).trans (hc i p hp).2⟩⟩
/-- points of one's own: in a row of one's own, the labels behind it -/
structure PtMine (w : World) (base : Nat) (v : Value) (L : List Ps) : Prop where
  own : PtOwn w base v L
  far : ∀ g, v.ownBlock = some g → ∀ x ∈ L, FarLb w g x
  inn : ∀ x ∈ L, PtIn x.2
theorem PtMine.row {w : World} {base : Nat} {v : Value} {L : List Ps} (h : PtMine w base v L) : PtRow w v L := by
  refine ⟨KOwn.row encP_len h.own, fun x hx => ⟨?_, h.inn x hx⟩⟩
  rcases h.own.2 with ⟨rfl, h0⟩ | ⟨g, cap, cur, rfl, _⟩
  · obtain rfl := List.eq_nil_of_length_eq_zero h0
    cases hx
  · exact (h.far g rfl x hx).1
theorem PtMine.nil (w : World) (base : Nat) : PtMine w base (.slice none 0 0) [] := ⟨KOwn.nil _ _ _ _ _, fun g hg => (by cases hg), fun x hx => by cases hx⟩
theorem PtMine.below {w w' : World} {base : Nat} {v : Value} {L : List Ps} (h : PtMine w base v L) (hb : Below w.heap.size w w') : PtMine w' base v L :=
  ⟨h.own.below hb, fun g hg x hx => (h.far g hg x hx).below hb, h.inn⟩

/-- a store into an older block -/
theorem PtMine.setOld {w : World} {base b i : Nat} {u : Value} {v : Value} {L : List Ps} (h : PtMine w base v L) (hb : b < base) : PtMine (w.setCell ⟨b, i, none⟩ u) base v L := by
  refine ⟨⟨h.own.1, ?_⟩, fun g hg x hx => (h.far g hg x hx).other (fun c _ hc => Below.heap_setCell _ _ _ _ ?_) (by simp [World.setCell]), h.inn⟩
  · rcases h.own.2 with h | ⟨g, cap, cur, rfl, hg, hc, h2⟩
    · exact Or.inl h
    · exact Or.inr ⟨g, cap, cur, rfl, hg, by rw [Below.heap_setCell _ _ _ _ (by show g ≠ b; omega)]; exact hc, h2⟩
  · have := own_ge h.own g hg
    show c ≠ b
    omega
/-- points in block g, the labels behind it -/
structure PtFar (w : World) (g : Nat) (v : Value) (L : List Ps) : Prop where
  row : KRow encP 9 w v L
  blk : v.ownBlock = some g
  far : ∀ x ∈ L, FarLb w g x
  inn : ∀ x ∈ L, PtIn x.2
theorem PtFar.pts {w : World} {g : Nat} {v : Value} {L : List Ps} (h : PtFar w g v L) : PtRow w v L := ⟨h.row, fun x hx => ⟨(h.far x hx).1, h.inn x hx⟩⟩
theorem PtFar.above {w X : World} {g : Nat} {v : Value} {L : List Ps} (h : PtFar w g v L) (ho : ∀ b, b < w.heap.size → g ≤ b → X.heap[b]? = w.heap[b]?) (hz : w.heap.size ≤ X.heap.size) : PtFar X g v L := by
  refine ⟨?_, h.blk, fun x hx => (h.far x hx).other (fun b hb hg => ho b hb (by omega)) hz, h.inn⟩
  obtain ⟨A, cap, rfl, h1, h2, hn, h3⟩ := h.row
  refine ⟨A, cap, rfl, h1, h2, hn, fun h0 => ?_⟩
  obtain ⟨b, off, rfl, hlt, hc⟩ := h3 h0
  have hbg : b = g := by have := h.blk; simpa [Value.ownBlock] using this
  subst hbg
  have e := ho b hlt (Nat.le_refl _)
  exact ⟨b, off, rfl, by omega, fun i x hx j u hu => (World.cell?_of_block (a := ⟨b, off + i * 9 + j, none⟩) e).trans (hc i x hx j u hu)⟩
theorem PtFar.setOld {w : World} {g b i : Nat} {u v : Value} {L : List Ps} (h : PtFar w g v L) (hb : b < g) : PtFar (w.setCell ⟨b, i, none⟩ u) g v L :=
  h.above (fun c _ hc => Below.heap_setCell _ _ _ _ (by show c ≠ b; omega)) (by simp [World.setCell])
theorem PtFar.below {w w' : World} {g : Nat} {v : Value} {L : List Ps} (h : PtFar w g v L) (hb : Below w.heap.size w w') : PtFar w' g v L := h.above (fun b hlt _ => hb.block b hlt) hb.size

/-- the first k with labels of their own -/
structure Cop (w wr : World) (g cap k : Nat) (L M : List Ps) : Prop where
  len : M.length = L.length
  same : pts M = pts L
  own : PtOwn wr w.heap.size (.slice (some ⟨g, 0, none⟩) M.length cap) M
  far : ∀ i x, i < k → M[i]? = some x → FarLb wr g x
  old : ∀ i, k ≤ i → M[i]? = L[i]?
  bel : Below w.heap.size w wr
theorem Cop.cell {w wr : World} {g cap k : Nat} {L M : List Ps} (h : Cop w wr g cap k L M) {x : Ps} (hk : k < L.length) (hx : L[k]? = some x) : wr.cell? ⟨g, k * 9, none⟩ = some x.1 := by
  obtain ⟨A, cap', he, _, _, _, hr⟩ := KOwn.row encP_len h.own
  cases he
  obtain ⟨b, off, he2, _, hc⟩ := hr (by rw [h.len]; omega)
  cases he2
  have := (pr_cells hc (show M[k]? = some x by rw [h.old k (Nat.le_refl _)]; exact hx)).1
  simpa using this
theorem Cop.free {w wr : World} {g cap k : Nat} {L M : List Ps} (h : Cop w wr g cap k L M) : g < wr.heap.size ∧ w.heap.size ≤ g ∧ ∀ o, wr.frozen? ⟨g, o, none⟩ = false := by
  obtain ⟨_, h⟩ := h.own
  rcases h with ⟨h, _⟩ | ⟨g', cap', cur, he, hb, hg, hn, hm, hs, ht⟩
  · cases h
  · cases he
    exact ⟨(Array.getElem?_eq_some_iff.1 hg).1, hb, fun o => by unfold World.frozen?; simp only; rw [hg]; simp⟩
theorem Cop.step {w wr w2 : World} {g cap k : Nat} {L M : List Ps} {x : Ps} {lv : Value} (h : Cop w wr g cap k L M) (hk : k < L.length) (hx : L[k]? = some x) (hb : Below wr.heap.size wr w2) (hl : LbOwn w2 wr.heap.size lv x.2.l) :
    Cop w (w2.setCell ⟨g, k * 9, none⟩ lv) g cap (k + 1) L (M.set k (lv, x.2)) := by
  obtain ⟨hg, hwg, _⟩ := h.free
  have hM : M[k]? = some x := by rw [h.old k (Nat.le_refl _)]; exact hx
  have hsz : w2.heap.size ≤ (w2.setCell ⟨g, k * 9, none⟩ lv).heap.size := by simp [World.setCell]
  have hoth : ∀ b, b < w2.heap.size → g < b → (w2.setCell ⟨g, k * 9, none⟩ lv).heap[b]? = w2.heap[b]? := fun b _ hne => Below.heap_setCell _ _ _ _ (by show b ≠ g; omega)
  have hbel : Below w.heap.size w w2 := kb_call h.bel (Nat.le_refl _) hb
  refine ⟨by rw [List.length_set]; exact h.len, ?_, ?_, ?_, ?_, hbel.setCell hwg _⟩
  · rw [← h.same]
    unfold pts
    rw [List.map_set]
    obtain ⟨hi, he⟩ := List.getElem?_eq_some_iff.1 hM
    apply List.ext_getElem?
    intro i
    rw [List.getElem?_set]
    split
    · rename_i hik
      subst hik
      rw [if_pos (by simpa using hi), List.getElem?_map, hM]
      rfl
    · rfl
  · have := KOwn.set (j := 0) (y := (lv, x.2)) (u := lv) encP_len (h.own.below hb) hM (by omega) rfl
    simpa using this
  · intro i y hi hy
    rw [List.getElem?_set] at hy
    split at hy
    · rename_i hik
      split at hy
      · obtain rfl := Option.some.inj hy
        refine FarLb.other (w := w2) ⟨LbOwn.row hl, fun j hj => ?_⟩ hoth hsz
        have := own_ge hl j hj
        omega
      · cases hy
    · exact ((h.far i y (by omega) hy).below hb).other hoth hsz
  · intro i hi
    rw [List.getElem?_set, if_neg (by omega)]
    exact h.old i (by omega)

end Go.Proofs.YtgoibhbmndpgpaaGreatDoor

/- Rows of points that no store into an older block turns. -/
set_option maxRecDepth 100000
set_option linter.unusedVariables false
set_option linter.unusedSimpArgs false
namespace Go.Proofs.YtgoibhbmndpgpaaGreatDoor
open Go.RowKit Go.Sort Dc

/-- a row of points that no store into a block ahead of base turns -/
def PtKeep (w : World) (base : Nat) (v : Value) (L : List Ps) : Prop := ∀ X : World, (∀ b, b < w.heap.size → base ≤ b → X.heap[b]? = w.heap[b]?) → w.heap.size ≤ X.heap.size → PtRow X v L
theorem PtKeep.row {w : World} {base : Nat} {v : Value} {L : List Ps} (h : PtKeep w base v L) : PtRow w v L := h w (fun _ _ _ => rfl) (Nat.le_refl _)
theorem PtKeep.below {w w' : World} {base : Nat} {v : Value} {L : List Ps} (h : PtKeep w base v L) (hb : Below w.heap.size w w') : PtKeep w' base v L := fun X h1 h2 =>
  h X (fun b hlt hg => (h1 b (Nat.lt_of_lt_of_le hlt hb.size) hg).trans (hb.block b hlt)) (Nat.le_trans hb.size h2)
theorem PtKeep.setOld {w : World} {base b i : Nat} {u v : Value} {L : List Ps} (h : PtKeep w base v L) (hb : b < base) : PtKeep (w.setCell ⟨b, i, none⟩ u) base v L := fun X h1 h2 =>
  h X (fun c hlt hg => (h1 c (by simpa [World.setCell] using hlt) hg).trans (Below.heap_setCell _ _ _ _ (by show c ≠ b; omega))) (by simpa [World.setCell] using h2)
theorem PtKeep.mono {w : World} {base base' : Nat} {v : Value} {L : List Ps} (h : PtKeep w base v L) (hb : base' ≤ base) : PtKeep w base' v L := fun X h1 h2 => h X (fun b hlt hg => h1 b hlt (by omega)) h2
theorem PtFar.keep {w : World} {g base : Nat} {v : Value} {L : List Ps} (h : PtFar w g v L) (hb : base ≤ g) : PtKeep w base v L := fun X h1 h2 => (h.above (fun b hlt hg => h1 b hlt (by omega)) h2).pts

end Go.Proofs.YtgoibhbmndpgpaaGreatDoor

/- What the rows' lists give: utf's table of shapes, the table of units. -/
set_option maxRecDepth 100000
set_option linter.unusedVariables false
set_option linter.unusedSimpArgs false
namespace Go.Proofs.YtgoibhbmndpgpaaGreatDoor
open Go.RowKit

/-- both tables lie in the world -/
def ShPl (w : World) : Prop := ShapesIn w ∧ Pl w
theorem ShPl_met {W : World} {l : List (String × DataW Unit)} (h : laidMet Tryz.prog l W) (h1 : ("polyglot/utf.shapes", Rows.laid_polyglot_utf_shapes) ∈ l) (h2 : ("polyglot/stamp.places", Rows.laid_polyglot_stamp_places) ∈ l) : ShPl W := by
  refine ⟨Plain.laid_block (k := 6) (name := "polyglot/utf.shapes") (d := Rows.laid_polyglot_utf_shapes) (g := 1) (t := 106) h h1 (by kernel_rfl) (by kernel_rfl) (by kernel_rfl), ?_⟩
  obtain ⟨u, fr, hb⟩ := Plain.laid_block (k := 4) (name := "polyglot/stamp.places") (d := Rows.laid_polyglot_stamp_places) (g := 0) (t := 95) h h2 (by kernel_rfl) (by kernel_rfl) (by kernel_rfl)
  refine ⟨fun i hi => ?_, (Array.getElem?_eq_some_iff.1 hb).1⟩
  rw [Lib.cell_of_heap hb]
  match i, hi with
  | 0, _ => rfl
  | 1, _ => rfl
  | 2, _ => rfl
  | 3, _ => rfl

end Go.Proofs.YtgoibhbmndpgpaaGreatDoor
