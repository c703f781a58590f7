/- The texts BatPlain, BatRow, BatB, BatA, one behind the other. -/
import Derived.Test.YtgoibhbmndpgpaaGreatDoorFamX
import Derived.Test.YtgoibhbmndpgpaaGreatDoorUlW

/- Batches in plain words: rows of families in the order of their names; what may be a tenant, a batch. -/
set_option maxRecDepth 100000
set_option linter.unusedVariables false
set_option linter.unusedSimpArgs false
namespace Go.Proofs.YtgoibhbmndpgpaaGreatDoor
open Dc

section
variable {α : Type} (f : α → α → Int)
/-- each greater than the one before it -/
abbrev StrictT (l : List α) : Prop := l.Pairwise fun x y => f x y < 0
/-- no two are one -/
abbrev NdT (l : List α) : Prop := l.Pairwise fun x y => f x y ≠ 0
variable {f}
theorem strictT_nd {l : List α} (h : StrictT f l) : NdT f l := h.imp fun {a b} k => by omega
theorem ndT_perm (hf : TP f) {l m : List α} (h : l.Perm m) : NdT f l ↔ NdT f m := h.pairwise_iff fun {a b} k => by rw [hf.neg]; omega
theorem strictT_unique (hf : TP f) {l m : List α} (h : l.Perm m) (hl : StrictT f l) (hm : StrictT f m) : l = m :=
  List.Perm.eq_of_pairwise (fun a b _ _ h1 h2 => by rw [hf.neg] at h2; omega) hl hm h
theorem strictT_adj (hf : TP f) {l : List α} (h : ∀ (i : Nat) (p q : α), l[i]? = some p → l[i + 1]? = some q → f p q < 0) : StrictT f l := by
  unfold StrictT
  rw [List.pairwise_iff_getElem]
  intro i j hi hj hij
  obtain ⟨d, rfl⟩ : ∃ d, j = i + 1 + d := ⟨j - i - 1, by omega⟩
  induction d with
  | zero => exact h i _ _ (List.getElem?_eq_getElem hi) (List.getElem?_eq_getElem hj)
  | succ d ih =>
    have h1 := ih (by omega) (by omega)
    have h2 := h (i + 1 + d) _ _ (List.getElem?_eq_getElem (by omega)) (List.getElem?_eq_getElem (show i + 1 + d + 1 < l.length by omega))
    exact hf.lt h1 (Int.le_of_lt h2)
theorem strictT_no {l : List α} {i : Nat} {p q : α} (h1 : l[i]? = some p) (h2 : l[i + 1]? = some q) (h : ¬ f p q < 0) : ¬ StrictT f l := fun hs => by
  obtain ⟨hi, rfl⟩ := List.getElem?_eq_some_iff.1 h1
  obtain ⟨hj, rfl⟩ := List.getElem?_eq_some_iff.1 h2
  exact h (List.pairwise_iff_getElem.1 hs i (i + 1) hi hj (by omega))
theorem strictT_of (hf : TP f) {l : List α} (h : l.Pairwise fun p q => ¬ f q p < 0) (hn : NdT f l) : StrictT f l := by
  unfold StrictT NdT at *
  rw [List.pairwise_iff_getElem] at h hn ⊢
  intro i j hi hj hij
  have h1 := h i j hi hj hij
  have h2 := hn i j hi hj hij
  rw [hf.neg] at h1; omega
variable (f) in
open Classical in
/-- the row sorted, if no two of it are one -/
noncomputable def gsrt (l : List α) : Option (List α) := if h : ∃ d : List α, d.Perm l ∧ StrictT f d then some (Classical.choose h) else none
theorem gsrt_is (hf : TP f) {l d : List α} (hp : d.Perm l) (hs : StrictT f d) : gsrt f l = some d := by
  have h : ∃ d : List α, d.Perm l ∧ StrictT f d := ⟨d, hp, hs⟩
  unfold gsrt
  rw [dif_pos h]
  have hc := Classical.choose_spec h
  rw [strictT_unique hf (hc.1.trans hp.symm) hc.2 hs]
variable {g : α → α → Bool}
end

/-- a family as plain data -/
abbrev Fp := Hd × List Pt
/-- families by their names -/
def cmpF (x y : Fp) : Int := cb x.1.n y.1.n
theorem tp_cb : TP cb := ⟨fun x y => cb_neg x y, fun x y z h k => cb_le_trans h k⟩
theorem tp_cmpF : TP cmpF := tp_cb.comap fun x : Fp => x.1.n
/-- a byte that may stand in a tenant's name -/
def tenCh (c : UInt8) : Bool := (decide (97 ≤ c) && decide (c ≤ 122)) || (decide (48 ≤ c) && decide (c ≤ 57)) || decide (c = 45)
def tenOk (s : List UInt8) : Bool := decide (1 ≤ s.length) && decide (s.length ≤ 16) && s.all tenCh
/-- how many points there are -/
def nPts (l : List Fp) : Nat := (l.map fun x => x.2.length).sum
/-- may it be a batch? its size aside -/
def batOk (t : List UInt8) (l : List Fp) : Bool := tenOk t && l.all (fun x => famOk x.1 x.2) && decide (StrictT cmpF l)
/-- Check's number -/
def chk (t : List UInt8) (l : List Fp) : Int := if batOk t l = true then (if 30 < l.length ∨ 120 < nPts l then 14 else 0) else 19
theorem chk_zero {t : List UInt8} {l : List Fp} (h : chk t l = 0) : batOk t l = true ∧ l.length ≤ 30 ∧ nPts l ≤ 120 := by
  unfold chk at h
  split at h
  · split at h
    · exact absurd h (by decide)
    · exact ⟨‹_›, by omega, by omega⟩
  · exact absurd h (by decide)
theorem chk_is {t : List UInt8} {l : List Fp} (h1 : batOk t l = true) (h2 : l.length ≤ 30) (h3 : nPts l ≤ 120) : chk t l = 0 := by
  unfold chk
  rw [if_pos h1, if_neg (by omega)]
theorem batOk_iff {t : List UInt8} {l : List Fp} : batOk t l = true ↔ tenOk t = true ∧ (∀ x ∈ l, famOk x.1 x.2 = true) ∧ StrictT cmpF l := by
  unfold batOk
  rw [Bool.and_eq_true, Bool.and_eq_true, List.all_eq_true, decide_eq_true_iff]
  exact ⟨fun ⟨⟨a, b⟩, c⟩ => ⟨a, b, c⟩, fun ⟨a, b, c⟩ => ⟨⟨a, b⟩, c⟩⟩
theorem famOk_strict {h : Hd} {l : List Pt} (k : famOk h l = true) : StrictP l := by
  unfold famOk at k
  rw [Bool.and_eq_true] at k
  exact of_decide_eq_true k.2
theorem nPts_nil : nPts [] = 0 := rfl
theorem nPts_snoc (l : List Fp) (x : Fp) : nPts (l ++ [x]) = nPts l + x.2.length := by unfold nPts; simp
theorem nPts_take {l : List Fp} {k : Nat} {x : Fp} (h : l[k]? = some x) : nPts (l.take (k + 1)) = nPts (l.take k) + x.2.length := by
  obtain ⟨hk, rfl⟩ := List.getElem?_eq_some_iff.1 h
  rw [List.take_succ_eq_append_getElem hk, nPts_snoc]
theorem sum_perm : ∀ {l m : List Nat}, l.Perm m → l.sum = m.sum := fun h => by
  induction h with
  | nil => rfl
  | cons x _ ih => simp [ih]
  | swap x y l => simp; omega
  | trans _ _ a b => rw [a, b]
theorem nPts_perm {l m : List Fp} (h : l.Perm m) : nPts l = nPts m := by
  unfold nPts
  exact sum_perm (h.map _)
theorem tenOk_none : tenOk [] = false := rfl
theorem tenOk_long {s : List UInt8} (h : ¬ s.length ≤ 16) : tenOk s = false := by unfold tenOk; rw [decide_eq_false h]; simp
theorem tenOk_bad {s : List UInt8} (h : s.all tenCh = false) : tenOk s = false := by unfold tenOk; rw [h]; simp
theorem tenOk_good {s : List UInt8} (h1 : 1 ≤ s.length) (h2 : s.length ≤ 16) (h : s.all tenCh = true) : tenOk s = true := by unfold tenOk; rw [decide_eq_true h1, decide_eq_true h2, h]; rfl

end Go.Proofs.YtgoibhbmndpgpaaGreatDoor

/- Rows of families, batches: as values, as they came in. -/
set_option maxRecDepth 100000
set_option linter.unusedVariables false
set_option linter.unusedSimpArgs false
namespace Go.Proofs.YtgoibhbmndpgpaaGreatDoor
open Go.RowKit Go.ChangeShapes Go.WideShapes Go.Deep Dc

/-- a family, the slice of its points, the points -/
structure Fs where
  hd : Hd
  v : Value
  L : List Ps
def encF (x : Fs) : List Value := [.string (str x.hd.n), .int .i64 x.hd.k, .string (str x.hd.u), .string (str x.hd.h), x.v]
theorem encF_len (x : Fs) : (encF x).length = 5 := rfl
abbrev fm (x : Fs) : Fp := (x.hd, pts x.L)
abbrev fms (F : List Fs) : List Fp := F.map fm
/-- the family's points can be read -/
abbrev FsIn (w : World) (x : Fs) : Prop := PtRow w x.v x.L ∧ HdIn x.hd
theorem FsIn.below {w w' : World} {x : Fs} (h : FsIn w x) (hb : Below w.heap.size w w') : FsIn w' x := ⟨h.1.below hb, h.2⟩
theorem pt_one {w : World} {v : Value} {L : List Ps} (h : PtRow w v L) : v.oneCell' = true := by obtain ⟨_, _, rfl, _⟩ := h.1; rfl
theorem encF_one {w : World} {x : Fs} (h : FsIn w x) : ∀ u ∈ encF x, u.oneCell' = true := by
  intro u hu
  unfold encF at hu
  simp only [List.mem_cons, List.not_mem_nil, or_false] at hu
  rcases hu with rfl | rfl | rfl | rfl | rfl
  · rfl
  · rfl
  · rfl
  · rfl
  · exact pt_one h.1
def FmRow (w : World) (v : Value) (F : List Fs) : Prop := KRow encF 5 w v F ∧ ∀ x ∈ F, FsIn w x
theorem FmRow.below {w w' : World} {v : Value} {F : List Fs} (h : FmRow w v F) (hb : Below w.heap.size w w') : FmRow w' v F := ⟨h.1.below hb, fun x hx => (h.2 x hx).below hb⟩
theorem FmRow.nil (w : World) : FmRow w (.slice none 0 0) [] := ⟨KRow.nil _ _ _, fun x hx => by cases hx⟩
abbrev FmOwn (w : World) (base : Nat) (v : Value) (F : List Fs) : Prop := KOwn encF 39 5 w base v F
/-- the cells of the i-th family -/
theorem fr_cells {w : World} {b off : Nat} {F : List Fs} (h : ∀ i x, F[i]? = some x → ∀ j u, (encF x)[j]? = some u → w.cell? ⟨b, off + i * 5 + j, none⟩ = some u) {i : Nat} {x : Fs} (hx : F[i]? = some x) :
    w.cell? ⟨b, off + i * 5, none⟩ = some (.string (str x.hd.n)) ∧ w.cell? ⟨b, off + i * 5 + 1, none⟩ = some (.int .i64 x.hd.k) ∧ w.cell? ⟨b, off + i * 5 + 2, none⟩ = some (.string (str x.hd.u)) ∧
    w.cell? ⟨b, off + i * 5 + 3, none⟩ = some (.string (str x.hd.h)) ∧ w.cell? ⟨b, off + i * 5 + 4, none⟩ = some x.v :=
  ⟨h i x hx 0 _ rfl, h i x hx 1 _ rfl, h i x hx 2 _ rfl, h i x hx 3 _ rfl, h i x hx 4 _ rfl⟩
theorem fs_get {F : List Fs} {i : Nat} (h : i < F.length) : ∃ x, F[i]? = some x ∧ (fms F)[i]? = some (fm x) := ⟨F[i], List.getElem?_eq_getElem h, by simp [fms, List.getElem?_eq_getElem h]⟩
/-- few families, points, labels -/
structure FmFew (F : List Fs) : Prop where
  n : F.length ≤ 1000
  p : ∀ x ∈ F, x.L.length ≤ 1000
  l : ∀ x ∈ F, ∀ y ∈ x.L, y.2.l.length ≤ 1000
/-- few, told of the plain families -/
structure FpFew (F : List Fp) : Prop where
  n : F.length ≤ 1000
  p : ∀ x ∈ F, x.2.length ≤ 1000
  l : ∀ x ∈ F, ∀ y ∈ x.2, y.l.length ≤ 1000
theorem FmFew.plain {F : List Fs} (h : FmFew F) : FpFew (fms F) := ⟨by rw [List.length_map]; exact h.n, fun x hx => by
    obtain ⟨y, hy, rfl⟩ := List.mem_map.1 hx
    simpa [pts] using h.p y hy, fun x hx y hy => by
    obtain ⟨z, hz, rfl⟩ := List.mem_map.1 hx
    obtain ⟨q, hq, rfl⟩ := List.mem_map.1 hy
    exact h.l z hz q hq⟩
theorem FpFew.rows {F : List Fs} (h : FpFew (fms F)) : FmFew F := ⟨by have := h.n; rwa [List.length_map] at this, fun x hx => by
    have := h.p (fm x) (List.mem_map_of_mem hx)
    simpa [pts] using this, fun x hx y hy => h.l (fm x) (List.mem_map_of_mem hx) y.2 (List.mem_map_of_mem hy)⟩
/-- a row of families that no store into a block ahead of base turns -/
def FmKeep (w : World) (base : Nat) (v : Value) (F : List Fs) : Prop := ∀ X : World, (∀ b, b < w.heap.size → base ≤ b → X.heap[b]? = w.heap[b]?) → w.heap.size ≤ X.heap.size → FmRow X v F
theorem FmKeep.row {w : World} {base : Nat} {v : Value} {F : List Fs} (h : FmKeep w base v F) : FmRow w v F := h w (fun _ _ _ => rfl) (Nat.le_refl _)
theorem FmKeep.below {w w' : World} {base : Nat} {v : Value} {F : List Fs} (h : FmKeep w base v F) (hb : Below w.heap.size w w') : FmKeep w' base v F := fun X h1 h2 =>
  h X (fun b hlt hg => (h1 b (Nat.lt_of_lt_of_le hlt hb.size) hg).trans (hb.block b hlt)) (Nat.le_trans hb.size h2)
theorem FmKeep.setOld {w : World} {base b i : Nat} {u v : Value} {F : List Fs} (h : FmKeep w base v F) (hb : b < base) : FmKeep (w.setCell ⟨b, i, none⟩ u) base v F := fun X h1 h2 =>
  h X (fun c hlt hg => (h1 c (by simpa [World.setCell] using hlt) hg).trans (Below.heap_setCell _ _ _ _ (by show c ≠ b; omega))) (by simpa [World.setCell] using h2)
theorem FmKeep.mono {w : World} {base base' : Nat} {v : Value} {F : List Fs} (h : FmKeep w base v F) (hb : base' ≤ base) : FmKeep w base' v F := fun X h1 h2 => h X (fun b hlt hg => h1 b hlt (by omega)) h2
theorem FmKeep.nil (w : World) (base : Nat) : FmKeep w base (.slice none 0 0) [] := fun X _ _ => FmRow.nil X

/-- a family that came in, cell by cell -/
theorem fam_trod {H : Type} {enc : TypeId × Value → H} {W : World} {base : Nat} {sp : Nat → Bool} {held : Bool} {fuel : Nat} {cl : List Value} {x : DataW H × List MemPlace}
    (hf : DataW.trod enc Tryz.prog W base sp held fuel 39 cl = some x) : ∃ y : Fs, cl = encF y ∧ FsIn W y := by
  obtain ⟨xs, n, rfl, _, hlen, hxs, hff⟩ := DataW.trod_struct Tryz.underlying39 hf
  have hc : Tryz.prog.cellsOf 39 = 5 := by kernel_rfl
  rw [hc] at hlen
  match cl, hlen with
  | [u0, u1, u2, u3, u4], _ =>
    have hs : xs.length = 2 := by rw [hxs]; rfl
    match xs, hs with
    | [x0, x1], _ =>
      have h0 := hff 0 _ rfl
      have h1 := hff 1 _ rfl
      have c0 : Tryz.prog.cellsOf 36 = 4 := by kernel_rfl
      have c1 : Tryz.prog.cellsOf 37 = 1 := by kernel_rfl
      simp only [List.getElem_toArray, List.getElem_cons_zero, List.getElem_cons_succ, c0, c1] at h0 h1
      simp only [List.drop_zero, List.drop_succ_cons, List.take_succ_cons, List.take_zero] at h0 h1
      obtain ⟨lv, L, e4, hrow⟩ := ptRow_of h1
      obtain ⟨ys, m, rfl, _, hlen2, hys, hg⟩ := DataW.trod_struct Tryz.underlying36 h0
      have hs2 : ys.length = 4 := by rw [hys]; rfl
      match ys, hs2 with
      | [y0, y1, y2, y3], _ =>
        have g0 := hg 0 _ rfl
        have g1 := hg 1 _ rfl
        have g2 := hg 2 _ rfl
        have g3 := hg 3 _ rfl
        have d0 : Tryz.prog.cellsOf 9 = 1 := by kernel_rfl
        have d1 : Tryz.prog.cellsOf 3 = 1 := by kernel_rfl
        simp only [List.getElem_toArray, List.getElem_cons_zero, List.getElem_cons_succ, d0, d1] at g0 g1 g2 g3
        simp only [List.drop_zero, List.drop_succ_cons, List.take_succ_cons, List.take_zero] at g0 g1 g2 g3
        obtain ⟨s0, e0, _, w0⟩ := DataW.trod_string Tryz.underlying9 g0
        obtain ⟨k1, e1, _, w1⟩ := DataW.trod_int Tryz.underlying3 g1
        obtain ⟨s2, e2, _, w2⟩ := DataW.trod_string Tryz.underlying9 g2
        obtain ⟨s3, e3, _, w3⟩ := DataW.trod_string Tryz.underlying9 g3
        simp only [List.cons.injEq, and_true] at e0 e1 e2 e3 e4
        refine ⟨⟨⟨s0.data.toList, k1, s2.data.toList, s3.data.toList⟩, lv, L⟩, ?_, hrow, ⟨w0, w2, w3, (i64_bounds w1).1, (i64_bounds w1).2⟩⟩
        rw [e0, e1, e2, e3, e4]
        rfl
/-- a row of families that came in -/
theorem fmRow_of {H : Type} {enc : TypeId × Value → H} {W : World} {base : Nat} {sp : Nat → Bool} {held : Bool} {fuel : Nat} {cs : List Value} {x : DataW H × List MemPlace}
    (h : DataW.trod enc Tryz.prog W base sp held fuel 22 cs = some x) : ∃ v F, cs = [v] ∧ FmRow W v F := by
  rcases open_slice Tryz.underlying22 h with ⟨hcs, _⟩ | ⟨a', len', cap', m, k, D, Pl, hcs, hb, hl, hm, hmm, _, hi⟩
  · exact ⟨.slice none 0 0, [], hcs, FmRow.nil _⟩
  · refine ⟨.slice (some a') len' cap', ?_⟩
    have hlen : len' ≤ m := by rw [hmm]; split <;> omega
    have hC : Tryz.prog.cellsOf 39 = 5 := by kernel_rfl
    have hall : ∀ i, ∃ q : Fs, i < len' → FsIn W q ∧ ∀ j u, (encF q)[j]? = some u → W.cell? (a'.add (i * 5 + j)) = some u := fun i => by
      by_cases hil : i < len'
      · obtain ⟨cs', hc, ht⟩ := hi i (by omega)
        obtain ⟨y, rfl, h1⟩ := fam_trod ht
        rw [hC] at hc
        obtain ⟨_, _, hat⟩ := World.cells?_some hc
        refine ⟨y, fun _ => ⟨h1, fun j u hu => ?_⟩⟩
        have hj : j < 5 := (List.getElem?_eq_some_iff.1 hu).1
        rw [← Go.Deep.add_add, hat j hj]
        exact hu
      · exact ⟨⟨hd0, .slice none 0 0, []⟩, fun h => absurd h hil⟩
    obtain ⟨qs, hqs⟩ := Classical.axiomOfChoice hall
    have hll : ((List.range len').map qs).length = len' := by simp
    refine ⟨(List.range len').map qs, hcs, ⟨some a', cap', by rw [hll], by rw [hll]; exact hl, hm, (by rintro ⟨⟩), fun h0 => ?_⟩, fun p hp => ?_⟩
    · rw [hll] at h0
      have h00 := (hqs 0 h0).2 0 _ rfl
      obtain ⟨b, off, spot⟩ := a'
      have hspot : spot = none := by simpa [Addr.add] using World.cell?_spot h00
      subst hspot
      refine ⟨b, off, rfl, ?_, fun i q hq j u hu => ?_⟩
      · have := cell_lt h00
        simpa [Addr.add] using this
      · obtain ⟨hil, rfl⟩ : i < len' ∧ qs i = q := by
          rw [List.getElem?_map] at hq
          by_cases hi2 : i < len'
          · rw [List.getElem?_range hi2] at hq
            exact ⟨hi2, by simpa using hq⟩
          · rw [List.getElem?_eq_none (by simp; omega)] at hq
            cases hq
        have g := (hqs i hil).2 j u hu
        rw [← g, Go.WideShapes.add_plain, Nat.add_assoc]
    · obtain ⟨i, hi2, rfl⟩ := List.mem_map.1 hp
      exact (hqs i (List.mem_range.1 hi2)).1
/-- a batch as a value -/
abbrev batv (t : List UInt8) (v : Value) : Value := .agg #[.string (str t), v]
/-- a batch that came in -/
theorem bat_of {H : Type} {enc : TypeId × Value → H} {W : World} {base : Nat} {sp : Nat → Bool} {held : Bool} {v : Value} {d : DataW H} {p : List MemPlace}
    (hv : Value.okWide Tryz.prog W .any 0 24 v) (h : DataW.Trod enc Tryz.prog W base sp held 24 v d p) : ∃ t fv F, v = batv t fv ∧ FmRow W fv F ∧ t.length ≤ maxLen := by
  obtain ⟨cs, rfl, _⟩ := okWide_struct Tryz.underlying24 hv
  obtain ⟨fuel, hf⟩ := h
  obtain ⟨xs, n, rfl, _, hlen, hxs, hff⟩ := DataW.trod_struct Tryz.underlying24 hf
  have hc : Tryz.prog.cellsOf 24 = 2 := by kernel_rfl
  rw [hc] at hlen
  obtain ⟨cl⟩ := cs
  simp only [Value.cells] at hlen hff
  match cl, hlen with
  | [u0, u1], _ =>
    have hs : xs.length = 2 := by rw [hxs]; rfl
    match xs, hs with
    | [x0, x1], _ =>
      have h0 := hff 0 _ rfl
      have h1 := hff 1 _ rfl
      have c0 : Tryz.prog.cellsOf 9 = 1 := by kernel_rfl
      have c1 : Tryz.prog.cellsOf 22 = 1 := by kernel_rfl
      simp only [List.getElem_toArray, List.getElem_cons_zero, List.getElem_cons_succ, c0, c1] at h0 h1
      simp only [List.drop_zero, List.drop_succ_cons, List.take_succ_cons, List.take_zero] at h0 h1
      obtain ⟨fv, F, e1, hrow⟩ := fmRow_of h1
      obtain ⟨s0, e0, _, w0⟩ := DataW.trod_string Tryz.underlying9 h0
      simp only [List.cons.injEq, and_true] at e0 e1
      refine ⟨s0.data.toList, fv, F, ?_, hrow, w0⟩
      rw [e0, e1]

end Go.Proofs.YtgoibhbmndpgpaaGreatDoor

/- The walks of slices.Clone at families, of package batch's sorted. -/
set_option maxRecDepth 100000
set_option linter.unusedVariables false
set_option linter.unusedSimpArgs false
namespace Go.Proofs.YtgoibhbmndpgpaaGreatDoor
open Go.RowKit Go.Sort Dc
attribute [local go_sem ↓] Go.wp_at_zero Go.wp_at_succ

/-- the points lie behind block g, or nothing ahead of that can turn them -/
abbrev FsFar (w : World) (g : Nat) (x : Fs) : Prop := PtKeep w (g + 1) x.v x.L ∧ HdIn x.hd
/-- families of one's own: in a row of one's own, the points behind it -/
structure FmMine (w : World) (base : Nat) (v : Value) (F : List Fs) : Prop where
  own : FmOwn w base v F
  far : ∀ g, v.ownBlock = some g → ∀ x ∈ F, FsFar w g x
theorem FmMine.row {w : World} {base : Nat} {v : Value} {F : List Fs} (h : FmMine w base v F) : FmRow w v F := by
  refine ⟨KOwn.row encF_len h.own, fun x hx => ?_⟩
  rcases h.own.2 with ⟨rfl, h0⟩ | ⟨g, cap, cur, rfl, _⟩
  · obtain rfl := List.eq_nil_of_length_eq_zero h0
    cases hx
  · exact ⟨(h.far g rfl x hx).1.row, (h.far g rfl x hx).2⟩
theorem FmMine.nil (w : World) (base : Nat) : FmMine w base (.slice none 0 0) [] := ⟨KOwn.nil _ _ _ _ _, fun g hg => (by cases hg)⟩
theorem FmMine.below {w w' : World} {base : Nat} {v : Value} {F : List Fs} (h : FmMine w base v F) (hb : Below w.heap.size w w') : FmMine w' base v F :=
  ⟨h.own.below hb, fun g hg x hx => ⟨(h.far g hg x hx).1.below hb, (h.far g hg x hx).2⟩⟩
theorem FmMine.mono {w : World} {base base' : Nat} {v : Value} {F : List Fs} (h : FmMine w base v F) (hb : base' ≤ base) : FmMine w base' v F := ⟨h.own.mono hb, h.far⟩

/-- the first k are sorted -/
structure Sor (w wr : World) (g cap k : Nat) (F M : List Fs) : Prop where
  len : M.length = F.length
  same : fms M = fms F
  own : FmOwn wr w.heap.size (.slice (some ⟨g, 0, none⟩) M.length cap) M
  far : ∀ i x, i < k → M[i]? = some x → FsFar wr g x
  old : ∀ i, k ≤ i → M[i]? = F[i]?
  bel : Below w.heap.size w wr
theorem Sor.cell {w wr : World} {g cap k : Nat} {F M : List Fs} (h : Sor w wr g cap k F M) {x : Fs} (hk : k < F.length) (hx : F[k]? = some x) :
    wr.cell? ⟨g, k * 5, none⟩ = some (.string (str x.hd.n)) ∧ wr.cell? ⟨g, k * 5 + 1, none⟩ = some (.int .i64 x.hd.k) ∧ wr.cell? ⟨g, k * 5 + 2, none⟩ = some (.string (str x.hd.u)) ∧
    wr.cell? ⟨g, k * 5 + 3, none⟩ = some (.string (str x.hd.h)) ∧ wr.cell? ⟨g, k * 5 + 4, none⟩ = some x.v := by
  obtain ⟨A, cap', he, _, _, _, hr⟩ := KOwn.row encF_len h.own
  cases he
  obtain ⟨b, off, he2, _, hc⟩ := hr (by rw [h.len]; omega)
  cases he2
  have := fr_cells hc (show M[k]? = some x by rw [h.old k (Nat.le_refl _)]; exact hx)
  simpa using this
theorem Sor.free {w wr : World} {g cap k : Nat} {F M : List Fs} (h : Sor w wr g cap k F M) : g < wr.heap.size ∧ w.heap.size ≤ g ∧ ∀ o, wr.frozen? ⟨g, o, none⟩ = false := by
  obtain ⟨_, h⟩ := h.own
  rcases h with ⟨h, _⟩ | ⟨g', cap', cur, he, hb, hg, hn, hm, hs, ht⟩
  · cases h
  · cases he
    exact ⟨(Array.getElem?_eq_some_iff.1 hg).1, hb, fun o => by unfold World.frozen?; simp only; rw [hg]; simp⟩
theorem set_self {α : Type} {l : List α} {k : Nat} {x : α} (h : l[k]? = some x) : l.set k x = l := by
  apply List.ext_getElem?
  intro i
  rw [List.getElem?_set]
  split
  · rename_i e
    subst e
    rw [if_pos (List.getElem?_eq_some_iff.1 h).1, h]
  · rfl
theorem Sor.step {w wr w2 : World} {g cap k : Nat} {F M : List Fs} {x : Fs} {lv : Value} {L' : List Ps} (h : Sor w wr g cap k F M) (hk : k < F.length) (hx : F[k]? = some x) (hin : HdIn x.hd) (hb : Below wr.heap.size wr w2) (hl : PtKeep w2 wr.heap.size lv L') (hp : pts L' = pts x.L) :
    Sor w (((((w2.setCell ⟨g, k * 5, none⟩ (.string (str x.hd.n))).setCell ⟨g, k * 5 + 1, none⟩ (.int .i64 x.hd.k)).setCell ⟨g, k * 5 + 2, none⟩ (.string (str x.hd.u))).setCell ⟨g, k * 5 + 3, none⟩ (.string (str x.hd.h))).setCell ⟨g, k * 5 + 4, none⟩ lv) g cap (k + 1) F (M.set k ⟨x.hd, lv, L'⟩) := by
  obtain ⟨hg, hwg, _⟩ := h.free
  have hM : M[k]? = some x := by rw [h.old k (Nat.le_refl _)]; exact hx
  have hbel : Below w.heap.size w w2 := kb_call h.bel (Nat.le_refl _) hb
  have o0 := KOwn.set (j := 0) (y := x) (u := .string (str x.hd.n)) encF_len (h.own.below hb) hM (by omega) rfl
  rw [set_self hM] at o0
  have o1 := KOwn.set (j := 1) (y := x) (u := .int .i64 x.hd.k) encF_len o0 hM (by omega) rfl
  rw [set_self hM] at o1
  have o2 := KOwn.set (j := 2) (y := x) (u := .string (str x.hd.u)) encF_len o1 hM (by omega) rfl
  rw [set_self hM] at o2
  have o3 := KOwn.set (j := 3) (y := x) (u := .string (str x.hd.h)) encF_len o2 hM (by omega) rfl
  rw [set_self hM] at o3
  have o4 := KOwn.set (j := 4) (y := ⟨x.hd, lv, L'⟩) (u := lv) encF_len o3 hM (by omega) rfl
  refine ⟨by rw [List.length_set]; exact h.len, ?_, by simpa using o4, ?_, ?_, ((((hbel.setCell hwg _).setCell hwg _).setCell hwg _).setCell hwg _).setCell hwg _⟩
  · rw [← h.same]
    apply List.ext_getElem?
    intro i
    unfold fms
    rw [List.getElem?_map, List.getElem?_map, List.getElem?_set]
    split
    · rename_i hik
      subst hik
      rw [if_pos (List.getElem?_eq_some_iff.1 hM).1, hM]
      simp only [Option.map_some, fm, hp]
    · rfl
  · intro i y hi hy
    rw [List.getElem?_set] at hy
    split at hy
    · rename_i hik
      split at hy
      · obtain rfl := Option.some.inj hy
        refine ⟨?_, hin⟩
        exact (((((hl.mono (base' := g + 1) (by omega)).setOld (by omega)).setOld (by omega)).setOld (by omega)).setOld (by omega)).setOld (by omega)
      · cases hy
    · have := h.far i y (by omega) hy
      exact ⟨(((((this.1.below hb).setOld (by omega)).setOld (by omega)).setOld (by omega)).setOld (by omega)).setOld (by omega), this.2⟩
  · intro i hi
    rw [List.getElem?_set, if_neg (by omega)]
    exact h.old i (by omega)
end Go.Proofs.YtgoibhbmndpgpaaGreatDoor

/- The walks of package batch's byName, inTenant, Tenant, Points; of the reference's Tenant, Points. -/
set_option maxRecDepth 100000
set_option linter.unusedVariables false
set_option linter.unusedSimpArgs false
namespace Go.Proofs.YtgoibhbmndpgpaaGreatDoor
open Go.RowKit Go.Sort Dc
attribute [local go_sem ↓] Go.wp_at_zero Go.wp_at_succ

set_option maxHeartbeats 1000000 in
theorem fbyname_calls (x y : Fs) (w : World) :
    Calls Tryz.prog 49 #[famv x.hd x.v, famv y.hd y.v] w fun e w' => e = .returned (.int .i64 (cb x.hd.n y.hd.n)) ∧ Below w.heap.size w w' := by
  have hc := fun W => strcmp_calls x.hd.n y.hd.n W
  have hk := Lib.hid (kp_alloc (kp_alloc (Below.refl w.heap.size w) (.cells (famc x.hd x.v) 39)) (.cells (famc y.hd y.v) 39))
  generalize cb x.hd.n y.hd.n = r at *
  obtain ⟨⟨n, k, u, h⟩, v, _⟩ := x
  obtain ⟨⟨n2, k2, u2, h2⟩, v2, _⟩ := y
  go_enter Tryz.func49, Tryz.ntmps49
  go_wp2_with (go_at_call 74; refine (hc _).mono ?_; rintro e w' ⟨rfl, rfl⟩)
  go_ret
  exact ⟨rfl, hk.out⟩

theorem tenCh_int (c : UInt8) : tenCh c = ((decide ((97 : Int) ≤ (c.toNat : Int)) && decide ((c.toNat : Int) ≤ 122)) || (decide ((48 : Int) ≤ (c.toNat : Int)) && decide ((c.toNat : Int) ≤ 57)) || decide ((c.toNat : Int) = 45)) := by
  unfold tenCh
  have e1 : decide (97 ≤ c) = decide ((97 : Int) ≤ (c.toNat : Int)) := by rw [decide_eq_decide, UInt8.le_iff_toNat_le]; simp; omega
  have e2 : decide (c ≤ 122) = decide ((c.toNat : Int) ≤ 122) := by rw [decide_eq_decide, UInt8.le_iff_toNat_le]; simp; omega
  have e3 : decide (48 ≤ c) = decide ((48 : Int) ≤ (c.toNat : Int)) := by rw [decide_eq_decide, UInt8.le_iff_toNat_le]; simp; omega
  have e4 : decide (c ≤ 57) = decide ((c.toNat : Int) ≤ 57) := by rw [decide_eq_decide, UInt8.le_iff_toNat_le]; simp; omega
  have e5 : decide (c = 45) = decide ((c.toNat : Int) = 45) := by
    rw [decide_eq_decide]
    constructor
    · intro e; rw [e]; rfl
    · intro e; apply UInt8.toNat_inj.1; simp; omega
  rw [e1, e2, e3, e4, e5]
/-- where such a byte lies -/
theorem ten_ways (z : Int) : (97 ≤ z ∧ z ≤ 122) ∨ (122 < z) ∨ (58 ≤ z ∧ z ≤ 96) ∨ (48 ≤ z ∧ z ≤ 57) ∨ z = 45 ∨ (z < 48 ∧ z ≠ 45) := by omega
set_option maxHeartbeats 1000000 in
theorem inten_calls (c : UInt8) (w : World) :
    Calls Tryz.prog 47 #[.int .u8 (c.toNat : Int)] w fun e w' => e = .returned (.bool (tenCh c)) ∧ w = w' := by
  rw [tenCh_int]
  generalize (c.toNat : Int) = z
  rcases ten_ways z with h | h | h | h | h | h
  · have d1 : decide ((97 : Int) ≤ z) = true := decide_eq_true (by omega)
    have d2 : decide (z ≤ (122 : Int)) = true := decide_eq_true (by omega)
    clear h
    go_enter Tryz.func47, Tryz.ntmps47
    go_wp2
    go_ret
    exact ⟨by rw [d1, d2]; rfl, rfl⟩
  · have d1 : decide ((97 : Int) ≤ z) = true := decide_eq_true (by omega)
    have d2 : decide (z ≤ (122 : Int)) = false := decide_eq_false (by omega)
    have d3 : decide ((48 : Int) ≤ z) = true := decide_eq_true (by omega)
    have d4 : decide (z ≤ (57 : Int)) = false := decide_eq_false (by omega)
    have d5 : decide (z = (45 : Int)) = false := decide_eq_false (by omega)
    have d6 : (z == (45 : Int)) = false := by rw [beq_eq_false_iff_ne]; omega
    clear h
    go_enter Tryz.func47, Tryz.ntmps47
    go_wp2
    go_ret
    exact ⟨by rw [d1, d2, d3, d4, d5]; rfl, rfl⟩
  · have d1 : decide ((97 : Int) ≤ z) = false := decide_eq_false (by omega)
    have d3 : decide ((48 : Int) ≤ z) = true := decide_eq_true (by omega)
    have d4 : decide (z ≤ (57 : Int)) = false := decide_eq_false (by omega)
    have d5 : decide (z = (45 : Int)) = false := decide_eq_false (by omega)
    have d6 : (z == (45 : Int)) = false := by rw [beq_eq_false_iff_ne]; omega
    clear h
    go_enter Tryz.func47, Tryz.ntmps47
    go_wp2
    go_ret
    exact ⟨by rw [d1, d3, d4, d5]; rfl, rfl⟩
  · have d1 : decide ((97 : Int) ≤ z) = false := decide_eq_false (by omega)
    have d3 : decide ((48 : Int) ≤ z) = true := decide_eq_true (by omega)
    have d4 : decide (z ≤ (57 : Int)) = true := decide_eq_true (by omega)
    clear h
    go_enter Tryz.func47, Tryz.ntmps47
    go_wp2
    go_ret
    exact ⟨by rw [d1, d3, d4]; rfl, rfl⟩
  · subst h
    go_enter Tryz.func47, Tryz.ntmps47
    go_wp2
    go_ret
    exact ⟨rfl, rfl⟩
  · have d1 : decide ((97 : Int) ≤ z) = false := decide_eq_false (by omega)
    have d3 : decide ((48 : Int) ≤ z) = false := decide_eq_false (by omega)
    have d5 : decide (z = (45 : Int)) = false := decide_eq_false (by omega)
    have d6 : (z == (45 : Int)) = false := by rw [beq_eq_false_iff_ne]; omega
    clear h
    go_enter Tryz.func47, Tryz.ntmps47
    go_wp2
    go_ret
    exact ⟨by rw [d1, d3, d5]; rfl, rfl⟩
theorem all_take {l : List UInt8} {k : Nat} {p : UInt8 → Bool} (h : k < (str l).size) (h0 : (l.take k).all p = true) (h1 : p (str l)[k] = true) : (l.take (k + 1)).all p = true := by
  have hl : k < l.length := by rw [str_size] at h; exact h
  rw [List.take_succ_eq_append_getElem hl, List.all_append, h0]
  rw [str_at l k h] at h1
  simp [h1]
theorem all_no {l : List UInt8} {k : Nat} {p : UInt8 → Bool} (h : k < (str l).size) (h1 : p (str l)[k] = false) : l.all p = false :=
  List.all_eq_false.2 ⟨(str l)[k], by rw [str_at l k h]; exact List.getElem_mem _, by rw [h1]; decide⟩
set_option maxHeartbeats 2000000 in
theorem ten_calls (l : List UInt8) (w : World) (hl : l.length ≤ maxLen) :
    Calls Tryz.prog 28 #[.string (str l)] w fun e w' => e = .returned (.bool (tenOk l)) ∧ w = w' := by
  unfold maxLen at hl
  have hsz := str_size l
  by_cases h0 : l = []
  · subst h0
    go_enter Tryz.func28, Tryz.ntmps28
    go_wp2
    go_ret
    exact ⟨by rw [tenOk_none]; rfl, rfl⟩
  · have d0 : l.isEmpty = false := by
      cases l with
      | nil => exact absurd rfl h0
      | cons _ _ => rfl
    have hpos : 1 ≤ l.length := by cases l with
      | nil => exact absurd rfl h0
      | cons _ _ => simp
    by_cases h1 : (16 : Int) < (l.length : Int)
    · have d1 : decide ((16 : Int) < (l.length : Int)) = true := decide_eq_true h1
      have d1' : decide (16 < l.length) = true := by simp; omega
      have hr := Lib.hid (tenOk_long (s := l) (by omega))
      clear h1 h0
      go_enter Tryz.func28, Tryz.ntmps28
      go_wp2
      go_ret
      exact ⟨by rw [hr.out]; rfl, rfl⟩
    · have d1 : decide ((16 : Int) < (l.length : Int)) = false := decide_eq_false h1
      have d1' : decide (16 < l.length) = false := by simp; omega
      have h16 := Lib.hid (show l.length ≤ 16 by omega)
      have H1 := Lib.hid hpos
      clear h1 h0 hpos
      go_enter Tryz.func28, Tryz.ntmps28
      go_wp2_with fail
      go_loop [13] (fun v => ∃ k : Nat, k ≤ l.length ∧ v = .int .i64 (k : Nat) ∧ Hid ((l.take k).all tenCh = true)) (fun v => l.length - (intOf v).toNat)
      case atStart => exact ⟨0, Nat.zero_le _, rfl, rfl⟩
      case round =>
        obtain ⟨k, hk, rfl, H⟩ := hrel
        by_cases h : k < l.length
        · have hin : k < (str l).size := by rw [hsz]; exact h
          have hc := Lib.hid (fun W => inten_calls (str l)[k] W)
          have hy := Lib.hid (fun e => all_take (p := tenCh) hin H.out e)
          have hn := Lib.hid (fun e => tenOk_bad (all_no (p := tenCh) hin e))
          cases hC : tenCh (str l)[k] with
          | true =>
            rw [hC] at hc
            have hr := Lib.hid (hy.out hC)
            clear hy hn hC
            go_wp2_with (go_at_call 47; refine (hc.out _).mono ?_; rintro e w' ⟨rfl, rfl⟩)
            go_round
            case rel => exact ⟨k + 1, h, by go_num, hr.out⟩
            case measure => simp [intOf]; omega
          | false =>
            rw [hC] at hc
            have hr := Lib.hid (hn.out hC)
            clear hy hn hC
            go_wp2_with (go_at_call 47; refine (hc.out _).mono ?_; rintro e w' ⟨rfl, rfl⟩)
            go_ret
            exact ⟨by rw [hr.out]; rfl, rfl⟩
        · have hr := Lib.hid (show tenOk l = true from tenOk_good H1.out h16.out (by have := H.out; rwa [List.take_of_length_le (by omega)] at this))
          go_wp2
          go_ret
          exact ⟨by rw [hr.out]; rfl, rfl⟩

theorem sum_below : ∀ (F : List Fp), (∀ x ∈ F, x.2.length ≤ 1000) → nPts F ≤ F.length * 1000
  | [], _ => Nat.le_refl _
  | x :: F, h => by
    have h1 := h x List.mem_cons_self
    have h2 := sum_below F (fun y hy => h y (List.mem_cons_of_mem _ hy))
    have e : nPts (x :: F) = x.2.length + nPts F := by unfold nPts; simp
    rw [e, List.length_cons, Nat.add_mul]; omega
theorem npts_take_le {F : List Fp} (k : Nat) (h : FpFew F) : nPts (F.take k) ≤ 1000000 := by
  have h1 := sum_below (F.take k) (fun x hx => h.p x (List.mem_of_mem_take hx))
  have h2 : (F.take k).length ≤ 1000 := by rw [List.length_take]; have := h.n; omega
  have h3 := Nat.mul_le_mul_right 1000 h2
  omega
set_option maxHeartbeats 4000000 in
theorem bpoints_calls (t : List UInt8) (F : List Fs) (v : Value) (w : World) (hv : FmRow w v F) (hf : FmFew F) :
    Calls Tryz.prog 31 #[batv t v] w fun e w' => e = .returned (.int .i64 (nPts (fms F) : Nat)) ∧ Below w.heap.size w w' := by
  have k0 := kp_alloc (Below.refl w.heap.size w) (.cells #[.string (str t), v] 24)
  have HP := Lib.hid hv.2
  have hn := hf.n
  obtain ⟨A, cap, rfl, hlc, hcm, hnil, hrow⟩ := hv.1
  unfold maxLen at hcm
  have HR := Lib.hid hrow
  have HF := Lib.hid hf.plain
  have K0 := Lib.hid k0
  clear hrow hnil hv k0 hf
  go_enter Tryz.func31, Tryz.ntmps31
  go_upto_region 2 with fail
  have hbz : w.heap.size ≤ w.heap.size := Nat.le_refl _
  go_wp2_with fail
  go_loopw [9, 3] (fun v u wr => ∃ k : Nat, k ≤ F.length ∧ v = .int .i64 (k : Nat) ∧ u = .int .i64 (nPts ((fms F).take k) : Nat) ∧ Below w.heap.size w wr) (fun v _ _ => F.length - (intOf v).toNat)
  case atStart => exact ⟨0, Nat.zero_le _, rfl, rfl, K0.out⟩
  case round =>
    obtain ⟨k, hk, rfl, rfl, hb⟩ := hrel
    by_cases hkl : k < F.length
    · obtain ⟨b, off, rfl, hbs, hc⟩ := HR.out (by omega)
      obtain ⟨x, hx, hxp⟩ := fs_get hkl
      have hix := HP.out x (List.mem_of_getElem? hx)
      obtain ⟨c0, c1, c2, c3, c4⟩ := fr_cells hc hx
      have hst := Lib.hid (nPts_take hxp)
      have hle := npts_take_le (F := fms F) k HF.out
      have hle2 := npts_take_le (F := fms F) (k + 1) HF.out
      rw [nPts_take hxp] at hle2
      obtain ⟨A1, cap1, hx1, _⟩ : ∃ A1 cap1, x.v = .slice A1 x.L.length cap1 ∧ True := by obtain ⟨A1, cap1, h, _⟩ := hix.1.1; exact ⟨_, _, h, trivial⟩
      have hxl : (fm x).2.length = x.L.length := by simp [pts]
      rw [hxl] at hst hle2
      obtain ⟨⟨n, kk, u, h⟩, xv, L⟩ := x
      simp only at hx1
      subst hx1
      generalize L.length = len at *
      generalize nPts ((fms F).take k) = q at *
      have hR : ∀ o u, w.cell? ⟨b, o, none⟩ = some u → wr.cell? ⟨b, o, none⟩ = some u := fun o u hu => (hb.cell (p := ⟨b, o, none⟩) hbs).trans hu
      simp only at c0 c1 c2 c3 c4
      have r0 := hR _ _ c0
      have r1 := hR _ _ c1
      have r2 := hR _ _ c2
      have r3 := hR _ _ c3
      have r4 := hR _ _ c4
      have hw1 : IntKind.i64.wrap ((q : Int) + (len : Int)) = (q : Int) + (len : Int) := IntWalk.i64_in _ (by omega)
      have HB := Lib.hid (kp_alloc hb (.cells #[.string (str n), .int .i64 kk, .string (str u), .string (str h), .slice A1 len cap1] 39))
      clear hc c0 c1 c2 c3 c4 hR hx hxp hix hbs hb hle hle2 hxl
      go_wp2
      go_roundw
      case rel => exact ⟨k + 1, hkl, by go_num, by rw [hst.out]; go_num, HB.out⟩
      case measure => simp [intOf]; omega
    · have hr := Lib.hid (show nPts ((fms F).take k) = nPts (fms F) by rw [List.take_of_length_le (by simp; omega)])
      go_wp2
      go_ret
      exact ⟨by rw [hr.out]; rfl, hb⟩

end Go.Proofs.YtgoibhbmndpgpaaGreatDoor
