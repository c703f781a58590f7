/- The walks of the reference's In, has; of Scan's Next, Lit (layer 17). -/
import Derived.Test.YthniemoganoapaaDoorOwDfaB
import Derived.Test.YthniemoganoapaaDoorGrd
import Derived.Deep.RegionHeld3
import Derived.Deep.DrawnRows
import Derived.Deep.DeepCutAuto
import Derived.BigQuiet
import Derived.OwnWalk
set_option maxRecDepth 100000
set_option linter.unusedVariables false
set_option linter.unusedSimpArgs false
namespace Go.Proofs.YthniemoganoapaaDoor
open Go.RowKit
attribute [local go_sem ↓] Go.wp_at_zero Go.wp_at_succ

/-- a Scan lies in block b: its text, how far it is, whether it fell -/
structure ScA (w : World) (b : Nat) (s : List UInt8) (k : Nat) (f : Bool) : Prop where
  c0 : w.cell? ⟨b, 0, none⟩ = some (.string (str s))
  c1 : w.cell? ⟨b, 1, none⟩ = some (.int .i64 (k : Nat))
  c2 : w.cell? ⟨b, 2, none⟩ = some (.bool f)
  fr : ∀ o, w.frozen? ⟨b, o, none⟩ = false
  lt : b < w.heap.size
theorem ScA.below {w w' : World} {b : Nat} {s : List UInt8} {k : Nat} {f : Bool} (h : ScA w b s k f) (hb : Below w.heap.size w w') : ScA w' b s k f :=
  ⟨(hb.cell (p := ⟨b, 0, none⟩) h.lt).trans h.c0, (hb.cell (p := ⟨b, 1, none⟩) h.lt).trans h.c1, (hb.cell (p := ⟨b, 2, none⟩) h.lt).trans h.c2, fun o => (hb.frozen (p := ⟨b, o, none⟩) h.lt).trans (h.fr o), Nat.lt_of_lt_of_le h.lt hb.size⟩
theorem ScA.move {w : World} {b : Nat} {s : List UInt8} {k : Nat} {f : Bool} (h : ScA w b s k f) (j : Nat) : ScA (w.setCell ⟨b, 1, none⟩ (.int .i64 (j : Nat))) b s j f := by
  obtain ⟨h0, h1, h2, h5, h4⟩ := h
  exact ⟨by go_simp, by go_simp, by go_simp, fun o => by go_simp, by simpa [World.setCell] using h4⟩
theorem sc_below {w w' : World} (h : Below w.heap.size w w') (row : Option Nat) : w.grownBy w' row := ⟨h.os, h.tape, h.output, h.size, fun k hk _ => h.block k hk⟩
theorem sc_set {w w1 : World} {b i : Nat} {v : Value} (h : w.grownBy w1 (some b)) : w.grownBy (w1.setCell ⟨b, i, none⟩ v) (some b) :=
  ⟨h.os, h.tape, h.output, by simpa [World.setCell] using h.size, fun k hk hne => (Below.heap_setCell _ _ _ _ (by intro e; exact hne (by rw [e]))).trans (h.block k hk hne)⟩
theorem sc_trans {a w w' : World} {row : Option Nat} (h : a.grownBy w row) (k : w.grownBy w' row) : a.grownBy w' row :=
  ⟨k.os.trans h.os, k.tape.trans h.tape, k.output.trans h.output, Nat.le_trans h.size k.size, fun j hj hne => (k.block j (Nat.lt_of_lt_of_le hj h.size) hne).trans (h.block j hj hne)⟩
namespace Ow
def fellB {α : Type} (o : Out α) : Bool := match o with | .fell _ => true | .ok _ _ => false
def hd (l : List UInt8) : Int := match l with | [] => 0 | c :: _ => (c.toNat : Int)
end Ow
/-- a Scan behind a piece -/
structure ScO {α : Type} (w : World) (b : Nat) (s : List UInt8) (o : Ow.Out α) : Prop where
  suf : o.rest <:+ s
  num : ScA w b s (s.length - o.rest.length) (Ow.fellB o)
theorem ScO.below {α : Type} {w w' : World} {b : Nat} {s : List UInt8} {o : Ow.Out α} (h : ScO w b s o) (hb : Below w.heap.size w w') : ScO w' b s o := ⟨h.suf, h.num.below hb⟩
theorem ScO.to {α β : Type} {w : World} {b : Nat} {s : List UInt8} {o : Ow.Out α} {o' : Ow.Out β} (h : ScO w b s o) (e1 : o'.rest = o.rest) (e2 : Ow.fellB o' = Ow.fellB o) : ScO w b s o' := ⟨by rw [e1]; exact h.suf, by rw [e1, e2]; exact h.num⟩
end Go.Proofs.YthniemoganoapaaDoor
