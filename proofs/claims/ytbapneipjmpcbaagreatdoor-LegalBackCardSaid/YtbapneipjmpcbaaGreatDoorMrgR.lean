/- The texts RefMrgB, RefMrgD, one behind the other. -/
import Derived.Test.YtbapneipjmpcbaaGreatDoorMrgWXY
import Derived.Test.YtbapneipjmpcbaaGreatDoorRfC
import Derived.Deep.RegionHeld3

/- The reference's SortFamily. -/
set_option maxRecDepth 100000
set_option linter.unusedVariables false
set_option linter.unusedSimpArgs false
namespace Go.Proofs.YtbapneipjmpcbaaGreatDoor
open Go.RowKit Go.Sort Dc
attribute [local go_sem ↓] Go.wp_at_zero Go.wp_at_succ

/-- a point's nine cells from a place on -/
def Nine (w : World) (b o : Nat) (lv : Value) (p : Pt) : Prop :=
  w.cell? ⟨b, o, none⟩ = some lv ∧ w.cell? ⟨b, o + 1, none⟩ = some (.int .i64 p.ro) ∧ w.cell? ⟨b, o + 2, none⟩ = some (.bool p.inf) ∧ w.cell? ⟨b, o + 3, none⟩ = some (.int .i64 p.bm) ∧ w.cell? ⟨b, o + 4, none⟩ = some (.int .i64 p.bs) ∧ w.cell? ⟨b, o + 5, none⟩ = some (.int .i64 p.m) ∧ w.cell? ⟨b, o + 6, none⟩ = some (.int .i64 p.s) ∧ w.cell? ⟨b, o + 7, none⟩ = some (.bool p.td) ∧ w.cell? ⟨b, o + 8, none⟩ = some (.int .i64 p.ti)
theorem Nine.below {w w' : World} {b o : Nat} {lv : Value} {p : Pt} (h : Nine w b o lv p) (hb : Below w.heap.size w w') (hlt : b < w.heap.size) : Nine w' b o lv p := by
  obtain ⟨y0, y1, y2, y3, y4, y5, y6, y7, y8⟩ := h
  exact ⟨(hb.cell (p := ⟨b, o, none⟩) hlt).trans y0, (hb.cell (p := ⟨b, o + 1, none⟩) hlt).trans y1, (hb.cell (p := ⟨b, o + 2, none⟩) hlt).trans y2, (hb.cell (p := ⟨b, o + 3, none⟩) hlt).trans y3, (hb.cell (p := ⟨b, o + 4, none⟩) hlt).trans y4, (hb.cell (p := ⟨b, o + 5, none⟩) hlt).trans y5, (hb.cell (p := ⟨b, o + 6, none⟩) hlt).trans y6, (hb.cell (p := ⟨b, o + 7, none⟩) hlt).trans y7, (hb.cell (p := ⟨b, o + 8, none⟩) hlt).trans y8⟩
end Go.Proofs.YtbapneipjmpcbaaGreatDoor

/- The walk of the reference's SortFams; families whose points hang on none of some blocks. -/
set_option maxRecDepth 100000
set_option linter.unusedVariables false
set_option linter.unusedSimpArgs false
namespace Go.Proofs.YtbapneipjmpcbaaGreatDoor
open Go.RowKit Go.Sort Dc
attribute [local go_sem ↓] Go.wp_at_zero Go.wp_at_succ

/-- the sorted points: in new memory, made of the old ones -/
theorem POff.own {w w' : World} {E : Nat → Prop} {v v' : Value} {L M : List Ps} (h : POff w E v L) (hE : ∀ b, E b → b < w.heap.size) (hb : Below w.heap.size w w') (own : PtOwn w' w.heap.size v' M) (hM : ∀ x ∈ M, x ∈ L) : POff w' E v' M := fun X k1 k2 => by
  have hX := h X (fun b hb2 he => (k1 b (Nat.lt_of_lt_of_le hb2 hb.size) he).trans (hb.block b hb2)) (Nat.le_trans hb.size k2)
  exact ⟨KOwn.row encP_len (own.ofBlock fun b hq => k1 b (own_lt own b hq) (fun e => by have := hE b e; have := own_ge own b hq; omega)), fun x hx => hX.2 x (hM x hx)⟩
/-- families read as they are whatever comes into the blocks E -/
abbrev FsOff (w : World) (E : Nat → Prop) (x : Fs) : Prop := HdIn x.hd ∧ POff w E x.v x.L
theorem FsOff.fsin {w : World} {E : Nat → Prop} {x : Fs} (h : FsOff w E x) : FsIn w x := ⟨h.2.row, h.1⟩
theorem FsOff.below {w w' : World} {E : Nat → Prop} {x : Fs} (h : FsOff w E x) (hb : Below w.heap.size w w') : FsOff w' E x := ⟨h.1, h.2.below hb⟩
end Go.Proofs.YtbapneipjmpcbaaGreatDoor
