/- The walk of Scan's Str (layer 17, the reference). -/
import Derived.Test.YthniemoganoapaaDoorRefOwC
import Derived.Test.YthniemoganoapaaDoorRfA
import Derived.Test.YthniemoganoapaaDoorChW
import Derived.Deep.AppendLies
import Derived.Lib.AppendStr
set_option maxRecDepth 100000
set_option linter.unusedVariables false
set_option linter.unusedSimpArgs false
namespace Go.Proofs.YthniemoganoapaaDoor
open Go.RowKit
attribute [local go_sem ↓] Go.wp_at_zero Go.wp_at_succ

theorem ScA.grown {w w' : World} {b : Nat} {s : List UInt8} {k : Nat} {f : Bool} {row : Option Nat} (h : ScA w b s k f) (hg : w.grownBy w' row) (hne : some b ≠ row) : ScA w' b s k f :=
  ⟨(hg.cell_far ⟨b, 0, none⟩ h.lt hne).trans h.c0, (hg.cell_far ⟨b, 1, none⟩ h.lt hne).trans h.c1, (hg.cell_far ⟨b, 2, none⟩ h.lt hne).trans h.c2, fun o => (hg.frozen_far ⟨b, o, none⟩ h.lt hne).trans (h.fr o), Nat.lt_of_lt_of_le h.lt hg.size⟩
/-- the loop's state: the Scan, the bytes so far -/
structure StI (w W : World) (b : Nat) (s : List UInt8) (k : Nat) (f : Bool) (vo : Value) (out : List UInt8) : Prop where
  sc : ScA W b s k f
  gr : w.grownBy W (some b)
  own : W.ownsRow w.heap.size 5 1 vo out.length (Lib.byteCells out)
  lt : b < w.heap.size
theorem StI.drewN {w W : World} {b : Nat} {s : List UInt8} {k : Nat} {f : Bool} {vo : Value} {out : List UInt8} (h : StI w W b s k f vo out) (n : Nat) : StI w (W.drewN n) b s k f vo out := ⟨h.sc.drewN n, sc_drewN h.gr n, h.own, h.lt⟩
theorem StI.alloc {w W : World} {b : Nat} {s : List UInt8} {k : Nat} {f : Bool} {vo : Value} {out : List UInt8} (h : StI w W b s k f vo out) (o : Obj) : StI w (W.alloc o) b s k f vo out :=
  ⟨h.sc.below (kp_alloc (Below.refl _ _) o), sc_trans h.gr (sc_below (kp_alloc (Below.refl _ _) o) _), own_alloc h.own o, h.lt⟩
theorem own_set_other {w : World} {base b i n : Nat} {v u : Value} {xs : List Value} (h : w.ownsRow base 5 1 v n xs) (hb : b < base) : (w.setCell ⟨b, i, none⟩ u).ownsRow base 5 1 v n xs := by
  refine h.kept (sc_set (sc_below (Below.refl w.heap.size w) (some b))) ?_
  cases e : v.ownBlock with
  | none => exact Or.inl rfl
  | some g => exact Or.inr (fun e2 => by have := own_ge h g e; have := Option.some.inj e2; omega)
theorem StI.move {w W : World} {b : Nat} {s : List UInt8} {k : Nat} {f : Bool} {vo : Value} {out : List UInt8} (h : StI w W b s k f vo out) (j : Nat) : StI w (W.setCell ⟨b, 1, none⟩ (.int .i64 (j : Nat))) b s j f vo out := ⟨h.sc.move j, sc_set h.gr, own_set_other h.own h.lt, h.lt⟩
end Go.Proofs.YthniemoganoapaaDoor
