/- The texts MrgC, MrgD, MrgI, MrgE, one behind the other. -/
import Derived.Test.YtgoibhbmndpgpaaGreatDoorBatP
import Derived.Test.YtgoibhbmndpgpaaGreatDoorPointW
import Derived.Test.YtgoibhbmndpgpaaGreatDoorUlW
import Derived.Test.YtgoibhbmndpgpaaGreatDoorMrgP
import Derived.Deep.RegionHeld3
import Derived.Deep.DrawnRows
import Derived.Deep.DeepCutAuto
import Derived.BigQuiet
import Derived.Test.YtgoibhbmndpgpaaGreatDoorPdW
import Derived.Test.YtgoibhbmndpgpaaGreatDoorFamY
import Derived.Shelf.Spec.SlicesInsert
import Derived.Lib.AppendZerosOnto
import Derived.Laws.CopyRow
import Derived.Deep.RegionLaw

/- The walk of package merge's replaced. -/
set_option maxRecDepth 100000
set_option linter.unusedVariables false
set_option linter.unusedSimpArgs false
namespace Go.Proofs.YtgoibhbmndpgpaaGreatDoor
open Go.RowKit Go.Sort Dc
attribute [local go_sem ↓] Go.wp_at_zero Go.wp_at_succ

section
variable {α : Type} {f : α → α → Int}
end
theorem one_pt {X : World} {g : Nat} {x : Ps} (hg : g < X.heap.size) (hc : ∀ j u, (encP x)[j]? = some u → X.cell? ⟨g, j, none⟩ = some u) : KRow encP 9 X (.slice (some ⟨g, 0, none⟩) 1 1) [x] :=
  ⟨_, 1, rfl, Nat.le_refl _, by unfold maxLen; omega, (by rintro ⟨⟩), fun _ => ⟨g, 0, rfl, hg, fun i y hy j u hu => by
    match i, hy with
    | 0, hy =>
      obtain rfl : x = y := by simpa using hy
      have := hc j u hu
      simpa using this
    | i + 1, hy => simp at hy⟩⟩
/-- a row of one, in a block of its own -/
theorem new_pt (w : World) (v : Value) (p : Pt) : KRow encP 9 (w.alloc (.cells (ptc v p) 46)) (.slice (some ⟨w.heap.size, 0, none⟩) 1 1) [(v, p)] := by
  obtain ⟨c0, c1, c2, c3, c4, c5, c6, c7, c8, _, hl⟩ := PtAt.new w v p 46
  refine one_pt hl fun j u hu => ?_
  unfold encP at hu
  match j, hu with
  | 0, hu => obtain rfl := Option.some.inj hu; exact c0
  | 1, hu => obtain rfl := Option.some.inj hu; exact c1
  | 2, hu => obtain rfl := Option.some.inj hu; exact c2
  | 3, hu => obtain rfl := Option.some.inj hu; exact c3
  | 4, hu => obtain rfl := Option.some.inj hu; exact c4
  | 5, hu => obtain rfl := Option.some.inj hu; exact c5
  | 6, hu => obtain rfl := Option.some.inj hu; exact c6
  | 7, hu => obtain rfl := Option.some.inj hu; exact c7
  | 8, hu => obtain rfl := Option.some.inj hu; exact c8
  | j + 9, hu => simp at hu

end Go.Proofs.YtgoibhbmndpgpaaGreatDoor

/- The walk of package merge's Put. -/
set_option maxRecDepth 100000
set_option linter.unusedVariables false
set_option linter.unusedSimpArgs false
namespace Go.Proofs.YtgoibhbmndpgpaaGreatDoor
open Go.RowKit Go.Sort Dc
attribute [local go_sem ↓] Go.wp_at_zero Go.wp_at_succ

theorem KOwn.ofBlock {α : Type} {enc : α → List Value} {el k : Nat} {w X : World} {base : Nat} {v : Value} {L : List α} (h : KOwn enc el k w base v L) (e : ∀ b, v.ownBlock = some b → X.heap[b]? = w.heap[b]?) : KOwn enc el k X base v L := by
  obtain ⟨hl, h⟩ := h
  refine ⟨hl, ?_⟩
  rcases h with h | ⟨g, cap, cur, rfl, hg, hc, h2⟩
  · exact Or.inl h
  · exact Or.inr ⟨g, cap, cur, rfl, hg, by rw [e g rfl]; exact hc, h2⟩
def PutRes (z : Nat) (o : Option Fp) (e : Ending) (w' : World) : Prop :=
  ∃ A n cap M h, e = .returned (.tuple #[famv h (.slice A n cap), .bool o.isSome]) ∧ PtKeep w' z (.slice A n cap) M ∧ (h, pts M) = o.getD (hd0, [])
theorem PutRes.no {z : Nat} {o : Option Fp} {w' : World} (h : o = none) : PutRes z o (.returned (.tuple #[famv hd0 (.slice none 0 0), .bool false])) w' :=
  ⟨none, 0, 0, [], hd0, by rw [h]; rfl, fun X _ _ => PtRow.nil X, by rw [h]; rfl⟩
end Go.Proofs.YtgoibhbmndpgpaaGreatDoor

/- The walk of slices.Insert of one family. -/
set_option maxRecDepth 100000
set_option linter.unusedVariables false
set_option linter.unusedSimpArgs false
namespace Go.Proofs.YtgoibhbmndpgpaaGreatDoor
open Go.RowKit Go.Sort Dc
attribute [local go_sem ↓] Go.wp_at_zero Go.wp_at_succ

section
variable {α : Type} {enc : α → List Value} {k : Nat} {P : Program} {sl el bytes : Nat} {z : Value}
end
/-- a family's cells in a block of their own -/
def FsCell (w : World) (b : Nat) (x : Fs) : Prop := w.heap[b]? = some (.cells (encF x).toArray 39 (0, 0))
theorem FsCell.cell {w : World} {b : Nat} {x : Fs} (h : FsCell w b x) : ∀ j u, (encF x)[j]? = some u → w.cell? ⟨b, j, none⟩ = some u := fun j u hu => by
  rw [cell_of_row w b j (encF x).toArray _ (0, 0) h, ← hu]; simp
theorem FsCell.row {w : World} {b : Nat} {x : Fs} (h : FsCell w b x) : KRow encF 5 w (.slice (some ⟨b, 0, none⟩) 1 1) [x] :=
  ⟨_, 1, rfl, Nat.le_refl _, by unfold maxLen; omega, (by rintro ⟨⟩), fun _ => ⟨b, 0, rfl, (Array.getElem?_eq_some_iff.1 h).1, fun i y hy j u hu => by
    match i, hy with
    | 0, hy =>
      obtain rfl : x = y := by simpa using hy
      have := h.cell j u hu
      simpa using this
    | i + 1, hy => simp at hy⟩⟩

end Go.Proofs.YtgoibhbmndpgpaaGreatDoor

/- The walk of package merge's together; rows of points that hang on no block of a kind. -/
set_option maxRecDepth 100000
set_option linter.unusedVariables false
set_option linter.unusedSimpArgs false
namespace Go.Proofs.YtgoibhbmndpgpaaGreatDoor
open Go.RowKit Go.Sort Dc
attribute [local go_sem ↓] Go.wp_at_zero Go.wp_at_succ

/-- points that can be read whatever comes into the blocks E -/
def POff (w : World) (E : Nat → Prop) (v : Value) (L : List Ps) : Prop := ∀ X : World, (∀ b, b < w.heap.size → ¬ E b → X.heap[b]? = w.heap[b]?) → w.heap.size ≤ X.heap.size → PtRow X v L
theorem POff.row {w : World} {E : Nat → Prop} {v : Value} {L : List Ps} (h : POff w E v L) : PtRow w v L := h w (fun _ _ _ => rfl) (Nat.le_refl _)
theorem POff.move {w w' : World} {E E' : Nat → Prop} {v : Value} {L : List Ps} (h : POff w E v L) (h1 : ∀ b, b < w.heap.size → ¬ E b → w'.heap[b]? = w.heap[b]?) (h2 : w.heap.size ≤ w'.heap.size) (hE : ∀ b, b < w.heap.size → E' b → E b) : POff w' E' v L :=
  fun X k1 k2 => h X (fun b hb he => (k1 b (Nat.lt_of_lt_of_le hb h2) (fun e => he (hE b hb e))).trans (h1 b hb he)) (Nat.le_trans h2 k2)
theorem POff.below {w w' : World} {E : Nat → Prop} {v : Value} {L : List Ps} (h : POff w E v L) (hb : Below w.heap.size w w') : POff w' E v L := h.move (fun b hlt _ => hb.block b hlt) hb.size (fun _ _ e => e)
theorem PtKeep.off {w : World} {base : Nat} {E : Nat → Prop} {v : Value} {L : List Ps} (h : PtKeep w base v L) (hE : ∀ b, E b → b < base) : POff w E v L :=
  fun X h1 h2 => h X (fun b hb hg => h1 b hb (fun e => by have := hE b e; omega)) h2
/-- families that can be read whatever comes into block b -/
def FmOff (w : World) (b0 : Nat) (v : Value) (F : List Fs) : Prop := ∀ X : World, (∀ b, b < w.heap.size → b ≠ b0 → X.heap[b]? = w.heap[b]?) → w.heap.size ≤ X.heap.size → FmRow X v F
theorem FmOff.row {w : World} {b0 : Nat} {v : Value} {F : List Fs} (h : FmOff w b0 v F) : FmRow w v F := h w (fun _ _ _ => rfl) (Nat.le_refl _)
theorem FmOff.pts {w : World} {b0 : Nat} {v : Value} {F : List Fs} (h : FmOff w b0 v F) {x : Fs} (hx : x ∈ F) : POff w (fun b => b = b0) x.v x.L := fun X h1 h2 => ((h X h1 h2).2 x hx).1
theorem FmOff.below {w w' : World} {b0 : Nat} {v : Value} {F : List Fs} (h : FmOff w b0 v F) (hb : Below w.heap.size w w') : FmOff w' b0 v F :=
  fun X k1 k2 => h X (fun b hlt hne => (k1 b (Nat.lt_of_lt_of_le hlt hb.size) hne).trans (hb.block b hlt)) (Nat.le_trans hb.size k2)
theorem FmOff.set {w : World} {b0 i : Nat} {u v : Value} {F : List Fs} (h : FmOff w b0 v F) : FmOff (w.setCell ⟨b0, i, none⟩ u) b0 v F :=
  fun X k1 k2 => h X (fun b hlt hne => (k1 b (by simpa [World.setCell] using hlt) hne).trans (Below.heap_setCell _ _ _ _ hne)) (by simpa [World.setCell] using k2)
/-- a row that was there ahead of block b0 -/
theorem FmRow.off {w w' : World} {b0 : Nat} {v : Value} {F : List Fs} (h : FmRow w v F) (hb : Below w.heap.size w w') (h0 : w.heap.size ≤ b0) : FmOff w' b0 v F :=
  fun X k1 k2 => ⟨by
    obtain ⟨A, cap, rfl, h1, h2, hn, h3⟩ := h.1
    refine ⟨A, cap, rfl, h1, h2, hn, fun hl => ?_⟩
    obtain ⟨b, off, rfl, hlt, hc⟩ := h3 hl
    have e : X.heap[b]? = w.heap[b]? := (k1 b (Nat.lt_of_lt_of_le hlt hb.size) (by omega)).trans (hb.block b hlt)
    exact ⟨b, off, rfl, Nat.lt_of_lt_of_le hlt (Nat.le_trans hb.size k2), fun i x hx j u hu => (World.cell?_of_block (a := ⟨b, off + i * 5 + j, none⟩) e).trans (hc i x hx j u hu)⟩, fun x hx => by
    have hk : Below w.heap.size w ⟨X.heap, w.tape, w.drawn, w.os, w.output⟩ := ⟨rfl, rfl, rfl, Nat.le_trans hb.size k2, fun b hlt => (k1 b (Nat.lt_of_lt_of_le hlt hb.size) (by omega)).trans (hb.block b hlt)⟩
    have := (h.2 x hx).below hk
    exact this⟩

/-- the row that together builds -/
structure TogAt (w wr : World) (b0 : Nat) (v : Value) (M : List Fs) : Prop where
  own : FmOwn wr w.heap.size v M
  pts : ∀ x ∈ M, HdIn x.hd ∧ POff wr (fun b => b = b0 ∨ v.ownBlock = some b) x.v x.L
  bel : Below w.heap.size w wr
theorem TogAt.fsin {w wr : World} {b0 : Nat} {v : Value} {M : List Fs} (h : TogAt w wr b0 v M) {x : Fs} (hx : x ∈ M) : FsIn wr x := ⟨(h.pts x hx).2.row, (h.pts x hx).1⟩
theorem TogAt.row {w wr : World} {b0 : Nat} {v : Value} {M : List Fs} (h : TogAt w wr b0 v M) : FmRow wr v M := ⟨KOwn.row encF_len h.own, fun x hx => h.fsin hx⟩
theorem TogAt.one {w wr : World} {b0 : Nat} {v : Value} {M : List Fs} (h : TogAt w wr b0 v M) : ∀ x ∈ M, ∀ u ∈ encF x, u.oneCell' = true := fun x hx => encF_one (h.fsin hx)
theorem TogAt.off {w wr : World} {b0 : Nat} {v : Value} {M : List Fs} (h : TogAt w wr b0 v M) (h0 : b0 < w.heap.size) : FmOff wr b0 v M := fun X k1 k2 => by
  have ho : FmOwn X w.heap.size v M := h.own.ofBlock fun b hb => by
    have hge := own_ge h.own b hb
    rcases h.own.2 with ⟨rfl, _⟩ | ⟨g, cap, cur, rfl, hg, hc, _⟩
    · cases hb
    · cases hb
      exact k1 g (Array.getElem?_eq_some_iff.1 hc).1 (by omega)
  exact ⟨KOwn.row encF_len ho, fun x hx => ⟨(h.pts x hx).2 X (fun b hb he => k1 b hb (fun e => he (Or.inl e))) k2, (h.pts x hx).1⟩⟩
theorem TogAt.below {w wr w2 : World} {b0 : Nat} {v : Value} {M : List Fs} (h : TogAt w wr b0 v M) (hb : Below wr.heap.size wr w2) : TogAt w w2 b0 v M :=
  ⟨h.own.below hb, fun x hx => ⟨(h.pts x hx).1, (h.pts x hx).2.below hb⟩, kb_call h.bel (Nat.le_refl _) hb⟩
/-- behind Insert -/
theorem TogAt.ins {w wr w' : World} {b0 : Nat} {v v' : Value} {M : List Fs} {y : Fs} {i : Nat} (h : TogAt w wr b0 v M) (own : FmOwn w' w.heap.size v' (M.take i ++ y :: M.drop i)) (hg : wr.grownBy w' v.ownBlock)
    (hv : v'.ownBlock = v.ownBlock ∨ v'.ownBlock = some wr.heap.size) (hy : HdIn y.hd) (hyp : POff w (fun b => b = b0) y.v y.L) : TogAt w w' b0 v' (M.take i ++ y :: M.drop i) := by
  have hbel : Below w.heap.size w w' := ⟨hg.os.trans h.bel.os, hg.tape.trans h.bel.tape, hg.output.trans h.bel.output, Nat.le_trans h.bel.size hg.size, fun b hb => (hg.block b (Nat.lt_of_lt_of_le hb h.bel.size) (fun e => by have := own_ge h.own b e.symm; omega)).trans (h.bel.block b hb)⟩
  refine ⟨own, fun x hx => ?_, hbel⟩
  have hMy : x ∈ M ∨ x = y := by
    rcases List.mem_append.1 hx with k | k
    · exact Or.inl (List.mem_of_mem_take k)
    · rcases List.mem_cons.1 k with k | k
      · exact Or.inr k
      · exact Or.inl (List.mem_of_mem_drop k)
  rcases hMy with k | rfl
  · refine ⟨(h.pts x k).1, (h.pts x k).2.move (fun b hb he => hg.block b hb (fun e => he (Or.inr e.symm))) hg.size (fun b hb e => ?_)⟩
    rcases e with e | e
    · exact Or.inl e
    · rcases hv with hv | hv
      · exact Or.inr (by rw [← hv]; exact e)
      · rw [hv] at e; cases e; omega
  · refine ⟨hy, hyp.move (fun b hb _ => hbel.block b hb) hbel.size (fun b hb e => ?_)⟩
    rcases e with e | e
    · exact e
    · have := own_ge own b e; omega
theorem set_at {M : List Fs} {i : Nat} (x : Fs) (h : i < M.length) : (M.set i x)[i]? = some x := by rw [List.getElem?_set]; simp [h]
/-- behind the store of what Put made -/
theorem TogAt.put {w wr w3 : World} {b0 g cap i base : Nat} {M : List Fs} {x : Fs} {hd : Hd} {lv : Value} {L' : List Ps} (h : TogAt w wr b0 (.slice (some ⟨g, 0, none⟩) M.length cap) M) (h0 : b0 < w.heap.size) (hx : M[i]? = some x) (hb : Below wr.heap.size wr w3) (hin : HdIn hd)
    (hk : PtKeep w3 base lv L') (hbase : wr.heap.size ≤ base) :
    TogAt w (((((w3.setCell ⟨g, i * 5, none⟩ (.string (str hd.n))).setCell ⟨g, i * 5 + 1, none⟩ (.int .i64 hd.k)).setCell ⟨g, i * 5 + 2, none⟩ (.string (str hd.u))).setCell ⟨g, i * 5 + 3, none⟩ (.string (str hd.h))).setCell ⟨g, i * 5 + 4, none⟩ lv) b0 (.slice (some ⟨g, 0, none⟩) (M.set i ⟨hd, lv, L'⟩).length cap) (M.set i ⟨hd, lv, L'⟩) := by
  have hge : w.heap.size ≤ g := own_ge h.own g rfl
  have hi : i < M.length := (List.getElem?_eq_some_iff.1 hx).1
  have hgl : g < wr.heap.size := by
    rcases h.own.2 with ⟨he, _⟩ | ⟨g', cap', cur, he, _, hc, _⟩
    · cases he
    · cases he; exact (Array.getElem?_eq_some_iff.1 hc).1
  have o0 := KOwn.set (j := 0) (y := ⟨⟨hd.n, x.hd.k, x.hd.u, x.hd.h⟩, x.v, x.L⟩) (u := .string (str hd.n)) encF_len (h.own.below hb) hx (by omega) rfl
  have o1 := KOwn.set (j := 1) (y := ⟨⟨hd.n, hd.k, x.hd.u, x.hd.h⟩, x.v, x.L⟩) (u := .int .i64 hd.k) encF_len o0 (set_at _ hi) (by omega) rfl
  have o2 := KOwn.set (j := 2) (y := ⟨⟨hd.n, hd.k, hd.u, x.hd.h⟩, x.v, x.L⟩) (u := .string (str hd.u)) encF_len o1 (set_at _ (by rw [List.length_set]; exact hi)) (by omega) rfl
  have o3 := KOwn.set (j := 3) (y := ⟨⟨hd.n, hd.k, hd.u, hd.h⟩, x.v, x.L⟩) (u := .string (str hd.h)) encF_len o2 (set_at _ (by rw [List.length_set, List.length_set]; exact hi)) (by omega) rfl
  have o4 := KOwn.set (j := 4) (y := ⟨hd, lv, L'⟩) (u := lv) encF_len o3 (set_at _ (by rw [List.length_set, List.length_set, List.length_set]; exact hi)) (by omega) rfl
  simp only [List.set_set, Nat.add_zero] at o4
  have hB : Below w.heap.size w w3 := kb_call h.bel (Nat.le_refl _) hb
  refine ⟨o4, fun z hz => ?_, ((((hB.setCell hge _).setCell hge _).setCell hge _).setCell hge _).setCell hge _⟩
  have hmv : ∀ (E : Nat → Prop) (v : Value) (L : List Ps), E g → POff w3 E v L → POff (((((w3.setCell ⟨g, i * 5, none⟩ (.string (str hd.n))).setCell ⟨g, i * 5 + 1, none⟩ (.int .i64 hd.k)).setCell ⟨g, i * 5 + 2, none⟩ (.string (str hd.u))).setCell ⟨g, i * 5 + 3, none⟩ (.string (str hd.h))).setCell ⟨g, i * 5 + 4, none⟩ lv) E v L := fun E v L hE k =>
    k.move (fun b hb he => by
      have hbg : b ≠ g := fun e => he (by rw [e]; exact hE)
      rw [Below.heap_setCell _ _ _ _ hbg, Below.heap_setCell _ _ _ _ hbg, Below.heap_setCell _ _ _ _ hbg, Below.heap_setCell _ _ _ _ hbg, Below.heap_setCell _ _ _ _ hbg]) (by simp [World.setCell]) (fun _ _ e => e)
  rcases List.mem_or_eq_of_mem_set hz with k | rfl
  · exact ⟨(h.pts z k).1, hmv _ _ _ (Or.inr rfl) ((h.pts z k).2.below hb)⟩
  · refine ⟨hin, hmv _ _ _ (Or.inr rfl) (hk.off fun b e => ?_)⟩
    rcases e with e | e
    · have e' : b = b0 := e
      have := h.bel.size; omega
    · have e' : some g = some b := e
      cases e'; omega
theorem new_fs (w : World) (x : Fs) : FsCell (w.alloc (.cells (famc x.hd x.v) 39)) w.heap.size x := heap_new w _

end Go.Proofs.YtgoibhbmndpgpaaGreatDoor
