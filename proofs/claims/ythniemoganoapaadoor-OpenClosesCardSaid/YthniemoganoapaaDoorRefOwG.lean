/- Rows and tags of a text in memory (layer 17): a row in block c; slices of tags, of rows; two blocks that a call writes to. -/
import Derived.Test.YthniemoganoapaaDoorRefOwE
import Derived.Test.YthniemoganoapaaDoorKRow
import Derived.Test.YthniemoganoapaaDoorOwPlain
set_option maxRecDepth 100000
set_option linter.unusedVariables false
set_option linter.unusedSimpArgs false
namespace Go.Proofs.YthniemoganoapaaDoor
open Go.RowKit

/-- a tag's cells -/
def encTg (t : Ow.Tg) : List Value := [.string (str t.n), .string (str t.v), .int .i64 (t.off : Nat), .int .i64 (t.at_ : Nat)]
theorem encTg_len (t : Ow.Tg) : (encTg t).length = 4 := rfl
theorem encTg_one (t : Ow.Tg) : ∀ u ∈ encTg t, u.oneCell' = true := by
  intro u hu
  simp only [encTg, List.mem_cons, List.not_mem_nil, or_false] at hu
  rcases hu with rfl | rfl | rfl | rfl <;> rfl
theorem tgTy : KTy Tryd.prog 39 44 4 48 (.agg #[.string ⟨#[]⟩, .string ⟨#[]⟩, .int .i64 0, .int .i64 0]) :=
  ⟨Tryd.underlying39, by kernel_rfl, Tryd.sizeOf44, rfl, by omega, by omega⟩
abbrev TgOwn (w : World) (base : Nat) (v : Value) (l : List Ow.Tg) : Prop := KOwn encTg 44 4 w base v l
abbrev TgRow (w : World) (v : Value) (l : List Ow.Tg) : Prop := KRow encTg 4 w v l
/-- a row, and the slice of its tags -/
abbrev Rs := Ow.Rw × Value
def rwv (x : Rs) : Value := .agg #[.int .i64 x.1.k, .string (str x.1.n), .int .i64 (x.1.off : Nat), x.2, .slice none 0 0, .string (str x.1.text), .int .i64 (x.1.at_ : Nat), .bool x.1.td, .string (str x.1.tm), .int .i64 (x.1.wh : Nat)]
def encRw (x : Rs) : List Value := [.int .i64 x.1.k, .string (str x.1.n), .int .i64 (x.1.off : Nat), x.2, .slice none 0 0, .string (str x.1.text), .int .i64 (x.1.at_ : Nat), .bool x.1.td, .string (str x.1.tm), .int .i64 (x.1.wh : Nat)]
theorem encRw_len (x : Rs) : (encRw x).length = 10 := rfl
theorem rwTy : KTy Tryd.prog 23 42 10 136 (.agg #[.int .i64 0, .string ⟨#[]⟩, .int .i64 0, .slice none 0 0, .slice none 0 0, .string ⟨#[]⟩, .int .i64 0, .bool false, .string ⟨#[]⟩, .int .i64 0]) :=
  ⟨Tryd.underlying23, by kernel_rfl, Tryd.sizeOf42, rfl, by omega, by omega⟩
/-- a slice of rows, each with its tags -/
def RwRow (w : World) (v : Value) (L : List Rs) : Prop := KRow encRw 10 w v L ∧ ∀ x ∈ L, TgRow w x.2 x.1.tags
theorem RwRow.below {w w' : World} {v : Value} {L : List Rs} (h : RwRow w v L) (hb : Below w.heap.size w w') : RwRow w' v L := ⟨h.1.below hb, fun x hx => (h.2 x hx).below hb⟩

/-- a row in block c -/
structure RwAt (w : World) (c : Nat) (x : Rs) : Prop where
  c0 : w.cell? ⟨c, 0, none⟩ = some (.int .i64 x.1.k)
  c1 : w.cell? ⟨c, 1, none⟩ = some (.string (str x.1.n))
  c2 : w.cell? ⟨c, 2, none⟩ = some (.int .i64 (x.1.off : Nat))
  c3 : w.cell? ⟨c, 3, none⟩ = some x.2
  c4 : w.cell? ⟨c, 4, none⟩ = some (.slice none 0 0)
  c5 : w.cell? ⟨c, 5, none⟩ = some (.string (str x.1.text))
  c6 : w.cell? ⟨c, 6, none⟩ = some (.int .i64 (x.1.at_ : Nat))
  c7 : w.cell? ⟨c, 7, none⟩ = some (.bool x.1.td)
  c8 : w.cell? ⟨c, 8, none⟩ = some (.string (str x.1.tm))
  c9 : w.cell? ⟨c, 9, none⟩ = some (.int .i64 (x.1.wh : Nat))
  fr : ∀ o, w.frozen? ⟨c, o, none⟩ = false
  lt : c < w.heap.size
theorem RwAt.belowB {w w' : World} {c B : Nat} {x : Rs} (h : RwAt w c x) (hb : Below B w w') (hlt : c < B) : RwAt w' c x :=
  ⟨(hb.cell (p := ⟨c, 0, none⟩) hlt).trans h.c0, (hb.cell (p := ⟨c, 1, none⟩) hlt).trans h.c1, (hb.cell (p := ⟨c, 2, none⟩) hlt).trans h.c2, (hb.cell (p := ⟨c, 3, none⟩) hlt).trans h.c3, (hb.cell (p := ⟨c, 4, none⟩) hlt).trans h.c4, (hb.cell (p := ⟨c, 5, none⟩) hlt).trans h.c5, (hb.cell (p := ⟨c, 6, none⟩) hlt).trans h.c6, (hb.cell (p := ⟨c, 7, none⟩) hlt).trans h.c7, (hb.cell (p := ⟨c, 8, none⟩) hlt).trans h.c8, (hb.cell (p := ⟨c, 9, none⟩) hlt).trans h.c9, fun o => (hb.frozen (p := ⟨c, o, none⟩) hlt).trans (h.fr o), Nat.lt_of_lt_of_le h.lt hb.size⟩
theorem RwAt.below {w w' : World} {c : Nat} {x : Rs} (h : RwAt w c x) (hb : Below w.heap.size w w') : RwAt w' c x := h.belowB hb h.lt
theorem RwAt.grown {w w' : World} {c : Nat} {x : Rs} {row : Option Nat} (h : RwAt w c x) (hg : w.grownBy w' row) (hne : some c ≠ row) : RwAt w' c x :=
  ⟨(hg.cell_far ⟨c, 0, none⟩ h.lt hne).trans h.c0, (hg.cell_far ⟨c, 1, none⟩ h.lt hne).trans h.c1, (hg.cell_far ⟨c, 2, none⟩ h.lt hne).trans h.c2, (hg.cell_far ⟨c, 3, none⟩ h.lt hne).trans h.c3, (hg.cell_far ⟨c, 4, none⟩ h.lt hne).trans h.c4, (hg.cell_far ⟨c, 5, none⟩ h.lt hne).trans h.c5, (hg.cell_far ⟨c, 6, none⟩ h.lt hne).trans h.c6, (hg.cell_far ⟨c, 7, none⟩ h.lt hne).trans h.c7, (hg.cell_far ⟨c, 8, none⟩ h.lt hne).trans h.c8, (hg.cell_far ⟨c, 9, none⟩ h.lt hne).trans h.c9, fun o => (hg.frozen_far ⟨c, o, none⟩ h.lt hne).trans (h.fr o), Nat.lt_of_lt_of_le h.lt hg.size⟩
theorem RwAt.set1 {w : World} {c : Nat} {x : Rs} (h : RwAt w c x) (n : List UInt8) : RwAt (w.setCell ⟨c, 1, none⟩ (.string (str n))) c ({ x.1 with n := n }, x.2) := by
  obtain ⟨h0, h1, h2, h3, h4, h5, h6, h7, h8, h9, hf, hl⟩ := h
  exact ⟨by go_simp, by go_simp, by go_simp, by go_simp, by go_simp, by go_simp, by go_simp, by go_simp, by go_simp, by go_simp, fun o => by go_simp, by simpa [World.setCell] using hl⟩
theorem RwAt.set3 {w : World} {c : Nat} {x : Rs} (h : RwAt w c x) (v : Value) (l : List Ow.Tg) : RwAt (w.setCell ⟨c, 3, none⟩ v) c ({ x.1 with tags := l }, v) := by
  obtain ⟨h0, h1, h2, h3, h4, h5, h6, h7, h8, h9, hf, hl⟩ := h
  exact ⟨by go_simp, by go_simp, by go_simp, by go_simp, by go_simp, by go_simp, by go_simp, by go_simp, by go_simp, by go_simp, fun o => by go_simp, by simpa [World.setCell] using hl⟩
theorem RwAt.set5 {w : World} {c : Nat} {x : Rs} (h : RwAt w c x) (n : List UInt8) : RwAt (w.setCell ⟨c, 5, none⟩ (.string (str n))) c ({ x.1 with text := n }, x.2) := by
  obtain ⟨h0, h1, h2, h3, h4, h5, h6, h7, h8, h9, hf, hl⟩ := h
  exact ⟨by go_simp, by go_simp, by go_simp, by go_simp, by go_simp, by go_simp, by go_simp, by go_simp, by go_simp, by go_simp, fun o => by go_simp, by simpa [World.setCell] using hl⟩
theorem RwAt.set6 {w : World} {c : Nat} {x : Rs} (h : RwAt w c x) (n : Nat) : RwAt (w.setCell ⟨c, 6, none⟩ (.int .i64 (n : Nat))) c ({ x.1 with at_ := n }, x.2) := by
  obtain ⟨h0, h1, h2, h3, h4, h5, h6, h7, h8, h9, hf, hl⟩ := h
  exact ⟨by go_simp, by go_simp, by go_simp, by go_simp, by go_simp, by go_simp, by go_simp, by go_simp, by go_simp, by go_simp, fun o => by go_simp, by simpa [World.setCell] using hl⟩

/-- but for blocks b and c, and what is new, the world is as it was -/
structure Gr2 (w w' : World) (b c : Nat) : Prop where
  os : w'.os = w.os
  tape : w'.tape = w.tape
  output : w'.output = w.output
  size : w.heap.size ≤ w'.heap.size
  block : ∀ q, q < w.heap.size → q ≠ b → q ≠ c → w'.heap[q]? = w.heap[q]?
theorem Gr2.refl (w : World) (b c : Nat) : Gr2 w w b c := ⟨rfl, rfl, rfl, Nat.le_refl _, fun _ _ _ _ => rfl⟩
theorem Gr2.one {w wr w' : World} {b c : Nat} {row : Option Nat} (h : Gr2 w wr b c) (g : wr.grownBy w' row) (hr : ∀ q, row = some q → q = b ∨ q = c ∨ w.heap.size ≤ q) : Gr2 w w' b c :=
  ⟨g.os.trans h.os, g.tape.trans h.tape, g.output.trans h.output, Nat.le_trans h.size g.size, fun q hq h1 h2 => (g.block q (Nat.lt_of_lt_of_le hq h.size) (fun e => by rcases hr q e.symm with e | e | e <;> first | exact h1 e | exact h2 e | omega)).trans (h.block q hq h1 h2)⟩
theorem Gr2.below {w wr w' : World} {b c : Nat} (h : Gr2 w wr b c) (hb : Below wr.heap.size wr w') : Gr2 w w' b c := h.one (sc_below hb none) (fun q e => by cases e)
/-- a block that is new there: one block is left -/
theorem Gr2.old {w w1 w' : World} {b c : Nat} (h : Gr2 w1 w' b c) (g : w.grownBy w1 (some b)) (hc : w.heap.size ≤ c) : w.grownBy w' (some b) :=
  ⟨h.os.trans g.os, h.tape.trans g.tape, h.output.trans g.output, Nat.le_trans g.size h.size, fun q hq hn => (h.block q (Nat.lt_of_lt_of_le hq g.size) (fun e => hn (by rw [e])) (by omega)).trans (g.block q hq hn)⟩

end Go.Proofs.YthniemoganoapaaDoor
