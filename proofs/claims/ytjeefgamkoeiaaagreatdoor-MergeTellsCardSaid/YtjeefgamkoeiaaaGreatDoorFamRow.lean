/- Rows of points, families: as values, in blocks, as they came in. -/
import Derived.Test.YtjeefgamkoeiaaaGreatDoorKRow
import Derived.Test.YtjeefgamkoeiaaaGreatDoorPointW
import Derived.Test.YtjeefgamkoeiaaaGreatDoorPtTabs
import Derived.Test.YtjeefgamkoeiaaaGreatDoorFamPlain
set_option maxRecDepth 100000
set_option linter.unusedVariables false
set_option linter.unusedSimpArgs false
namespace Go.Proofs.YtjeefgamkoeiaaaGreatDoor
open Go.RowKit Go.ChangeShapes Go.WideShapes Go.Deep Dc

/-- a point and the slice of its labels -/
abbrev Ps := Value × Pt
def encP (x : Ps) : List Value := [x.1, .int .i64 x.2.ro, .bool x.2.inf, .int .i64 x.2.bm, .int .i64 x.2.bs, .int .i64 x.2.m, .int .i64 x.2.s, .bool x.2.td, .int .i64 x.2.ti]
theorem encP_len (x : Ps) : (encP x).length = 9 := rfl
theorem ptTy : KTy Tryz.prog 39 53 9 88 (.agg #[.slice none 0 0, .int .i64 0, .bool false, .int .i64 0, .int .i64 0, .int .i64 0, .int .i64 0, .bool false, .int .i64 0]) :=
  ⟨Tryz.underlying39, by kernel_rfl, Tryz.sizeOf53, rfl, by omega, by omega⟩
abbrev pts (L : List Ps) : List Pt := L.map (·.2)
/-- each element's labels can be read -/
abbrev PsIn (w : World) (x : Ps) : Prop := LbRow w x.1 x.2.l ∧ PtIn x.2
theorem lb_one' {w : World} {v : Value} {l : List Lb} (h : LbRow w v l) : v.oneCell' = true := by obtain ⟨_, _, rfl, _⟩ := h; rfl
theorem encP_one {w : World} {x : Ps} (h : PsIn w x) : ∀ u ∈ encP x, u.oneCell' = true := by
  intro u hu
  unfold encP at hu
  simp only [List.mem_cons, List.not_mem_nil, or_false] at hu
  rcases hu with rfl | rfl | rfl | rfl | rfl | rfl | rfl | rfl | rfl
  · exact lb_one' h.1
  all_goals rfl
def PtRow (w : World) (v : Value) (L : List Ps) : Prop := KRow encP 9 w v L ∧ ∀ x ∈ L, PsIn w x
theorem PtRow.below {w w' : World} {v : Value} {L : List Ps} (h : PtRow w v L) (hb : Below w.heap.size w w') : PtRow w' v L := ⟨h.1.below hb, fun x hx => ⟨(h.2 x hx).1.below hb, (h.2 x hx).2⟩⟩
theorem PtRow.nil (w : World) : PtRow w (.slice none 0 0) [] := ⟨KRow.nil _ _ _, fun x hx => by cases hx⟩
abbrev PtOwn (w : World) (base : Nat) (v : Value) (L : List Ps) : Prop := KOwn encP 53 9 w base v L
/-- the cells of the i-th point -/
theorem pr_cells {w : World} {b off : Nat} {L : List Ps} (h : ∀ i x, L[i]? = some x → ∀ j u, (encP x)[j]? = some u → w.cell? ⟨b, off + i * 9 + j, none⟩ = some u) {i : Nat} {x : Ps} (hx : L[i]? = some x) :
    w.cell? ⟨b, off + i * 9, none⟩ = some x.1 ∧ w.cell? ⟨b, off + i * 9 + 1, none⟩ = some (.int .i64 x.2.ro) ∧ w.cell? ⟨b, off + i * 9 + 2, none⟩ = some (.bool x.2.inf) ∧ w.cell? ⟨b, off + i * 9 + 3, none⟩ = some (.int .i64 x.2.bm) ∧
    w.cell? ⟨b, off + i * 9 + 4, none⟩ = some (.int .i64 x.2.bs) ∧ w.cell? ⟨b, off + i * 9 + 5, none⟩ = some (.int .i64 x.2.m) ∧ w.cell? ⟨b, off + i * 9 + 6, none⟩ = some (.int .i64 x.2.s) ∧
    w.cell? ⟨b, off + i * 9 + 7, none⟩ = some (.bool x.2.td) ∧ w.cell? ⟨b, off + i * 9 + 8, none⟩ = some (.int .i64 x.2.ti) :=
  ⟨h i x hx 0 _ rfl, h i x hx 1 _ rfl, h i x hx 2 _ rfl, h i x hx 3 _ rfl, h i x hx 4 _ rfl, h i x hx 5 _ rfl, h i x hx 6 _ rfl, h i x hx 7 _ rfl, h i x hx 8 _ rfl⟩
/-- the labels' slices and the points can be chosen apart -/
theorem ps_get {L : List Ps} {i : Nat} (h : i < L.length) : ∃ x, L[i]? = some x ∧ (pts L)[i]? = some x.2 := ⟨L[i], List.getElem?_eq_getElem h, by simp [pts, List.getElem?_eq_getElem h]⟩

/-- a row of points that came in -/
theorem ptRow_of {H : Type} {enc : TypeId × Value → H} {W : World} {base : Nat} {sp : Nat → Bool} {held : Bool} {fuel : Nat} {cs : List Value} {x : DataW H × List MemPlace}
    (h : DataW.trod enc Tryz.prog W base sp held fuel 39 cs = some x) : ∃ v L, cs = [v] ∧ PtRow W v L := by
  rcases open_slice Tryz.underlying39 h with ⟨hcs, _⟩ | ⟨a', len', cap', m, k, D, Pl, hcs, hb, hl, hm, hmm, _, hi⟩
  · exact ⟨.slice none 0 0, [], hcs, PtRow.nil _⟩
  · refine ⟨.slice (some a') len' cap', ?_⟩
    have hlen : len' ≤ m := by rw [hmm]; split <;> omega
    have hC : Tryz.prog.cellsOf 53 = 9 := by kernel_rfl
    have hall : ∀ i, ∃ q : Ps, i < len' → PsIn W q ∧ ∀ j u, (encP q)[j]? = some u → W.cell? (a'.add (i * 9 + j)) = some u := fun i => by
      by_cases hil : i < len'
      · obtain ⟨cs', hc, ht⟩ := hi i (by omega)
        obtain ⟨v, p, rfl, h1, h2⟩ := pt_trod ht
        rw [hC] at hc
        obtain ⟨_, _, hat⟩ := World.cells?_some hc
        refine ⟨(v, p), fun _ => ⟨⟨h1, h2⟩, fun j u hu => ?_⟩⟩
        have hj : j < 9 := (List.getElem?_eq_some_iff.1 hu).1
        rw [← Go.Deep.add_add, hat j hj]
        exact hu
      · exact ⟨(.slice none 0 0, ⟨[], 0, false, 0, 0, 0, 0, false, 0⟩), fun h => absurd h hil⟩
    obtain ⟨qs, hqs⟩ := Classical.axiomOfChoice hall
    have hll : ((List.range len').map qs).length = len' := by simp
    refine ⟨(List.range len').map qs, hcs, ⟨some a', cap', by rw [hll], by rw [hll]; exact hl, hm, (by rintro ⟨⟩), fun h0 => ?_⟩, fun p hp => ?_⟩
    · rw [hll] at h0
      have h00 := (hqs 0 h0).2 0 _ rfl
      obtain ⟨b, off, spot⟩ := a'
      have hspot : spot = none := by simpa [Addr.add] using World.cell?_spot h00
      subst hspot
      refine ⟨b, off, rfl, ?_, fun i q hq j u hu => ?_⟩
      · have := cell_lt h00
        simpa [Addr.add] using this
      · obtain ⟨hil, rfl⟩ : i < len' ∧ qs i = q := by
          rw [List.getElem?_map] at hq
          by_cases hi2 : i < len'
          · rw [List.getElem?_range hi2] at hq
            exact ⟨hi2, by simpa using hq⟩
          · rw [List.getElem?_eq_none (by simp; omega)] at hq
            cases hq
        have g := (hqs i hil).2 j u hu
        rw [← g, Go.WideShapes.add_plain, Nat.add_assoc]
    · obtain ⟨i, hi2, rfl⟩ := List.mem_map.1 hp
      exact (hqs i (List.mem_range.1 hi2)).1

/-- a family as a value; v: the slice of its points -/
abbrev famv (h : Hd) (v : Value) : Value := .agg #[.string (str h.n), .int .i64 h.k, .string (str h.u), .string (str h.h), v]
abbrev famc (h : Hd) (v : Value) : Array Value := #[.string (str h.n), .int .i64 h.k, .string (str h.u), .string (str h.h), v]
abbrev hdv (h : Hd) : Value := .agg #[.string (str h.n), .int .i64 h.k, .string (str h.u), .string (str h.h)]
def hd0 : Hd := ⟨[], 0, [], []⟩
/-- as many bytes in each text as a string may have, the kind a machine's number -/
structure HdIn (h : Hd) : Prop where
  ln : h.n.length ≤ maxLen
  lu : h.u.length ≤ maxLen
  lh : h.h.length ≤ maxLen
  k1 : -9223372036854775808 ≤ h.k
  k2 : h.k ≤ 9223372036854775807
/-- a family lies in block b -/
structure FamAt (w : World) (b : Nat) (h : Hd) (v : Value) : Prop where
  c0 : w.cell? ⟨b, 0, none⟩ = some (.string (str h.n))
  c1 : w.cell? ⟨b, 1, none⟩ = some (.int .i64 h.k)
  c2 : w.cell? ⟨b, 2, none⟩ = some (.string (str h.u))
  c3 : w.cell? ⟨b, 3, none⟩ = some (.string (str h.h))
  c4 : w.cell? ⟨b, 4, none⟩ = some v
  fr : ∀ o, w.frozen? ⟨b, o, none⟩ = false
  lt : b < w.heap.size
theorem FamAt.below {w w' : World} {b : Nat} {h : Hd} {v : Value} (k : FamAt w b h v) (hb : Below w.heap.size w w') : FamAt w' b h v :=
  ⟨(hb.cell k.lt).trans k.c0, (hb.cell k.lt).trans k.c1, (hb.cell k.lt).trans k.c2, (hb.cell k.lt).trans k.c3, (hb.cell k.lt).trans k.c4,
    fun o => (hb.frozen (p := ⟨b, o, none⟩) k.lt).trans (k.fr o), Nat.lt_of_lt_of_le k.lt hb.size⟩
theorem FamAt.new (w : World) (h : Hd) (v : Value) (t : TypeId) : FamAt (w.alloc (.cells (famc h v) t)) w.heap.size h v :=
  ⟨by simp, by simp, by simp, by simp, by simp, fun o => by simp, by simp⟩

end Go.Proofs.YtjeefgamkoeiaaaGreatDoor
