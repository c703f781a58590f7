/- The walk of Scan's Str (layer 17, the reference). -/
import Derived.Test.YthniemoganoapaaDoorRefOwD
import Derived.Test.YthniemoganoapaaDoorRfA
import Derived.Test.YthniemoganoapaaDoorChW
import Derived.Deep.AppendLies
import Derived.Lib.AppendStr
set_option maxRecDepth 100000
set_option linter.unusedVariables false
set_option linter.unusedSimpArgs false
namespace Go.Proofs.YthniemoganoapaaDoor
open Go.RowKit
attribute [local go_sem ↓] Go.wp_at_zero Go.wp_at_succ

theorem ScA.grown {w w' : World} {b : Nat} {s : List UInt8} {k : Nat} {f : Bool} {row : Option Nat} (h : ScA w b s k f) (hg : w.grownBy w' row) (hne : some b ≠ row) : ScA w' b s k f :=
  ⟨(hg.cell_far ⟨b, 0, none⟩ h.lt hne).trans h.c0, (hg.cell_far ⟨b, 1, none⟩ h.lt hne).trans h.c1, (hg.cell_far ⟨b, 2, none⟩ h.lt hne).trans h.c2, fun o => (hg.frozen_far ⟨b, o, none⟩ h.lt hne).trans (h.fr o), Nat.lt_of_lt_of_le h.lt hg.size⟩
theorem ScA.setF {w : World} {b : Nat} {s : List UInt8} {k : Nat} {f : Bool} (h : ScA w b s k f) (g : Bool) : ScA (w.setCell ⟨b, 2, none⟩ (.bool g)) b s k g := by
  obtain ⟨h0, h1, h2, h5, h4⟩ := h
  exact ⟨by go_simp, by go_simp, by go_simp, fun o => by go_simp, by simpa [World.setCell] using h4⟩
/-- the loop's state: the Scan, the bytes so far -/
structure StI (w W : World) (b : Nat) (s : List UInt8) (k : Nat) (f : Bool) (vo : Value) (out : List UInt8) : Prop where
  sc : ScA W b s k f
  gr : w.grownBy W (some b)
  own : W.ownsRow w.heap.size 5 1 vo out.length (Lib.byteCells out)
  lt : b < w.heap.size
theorem StI.drewN {w W : World} {b : Nat} {s : List UInt8} {k : Nat} {f : Bool} {vo : Value} {out : List UInt8} (h : StI w W b s k f vo out) (n : Nat) : StI w (W.drewN n) b s k f vo out := ⟨h.sc.drewN n, sc_drewN h.gr n, h.own, h.lt⟩
theorem StI.alloc {w W : World} {b : Nat} {s : List UInt8} {k : Nat} {f : Bool} {vo : Value} {out : List UInt8} (h : StI w W b s k f vo out) (o : Obj) : StI w (W.alloc o) b s k f vo out :=
  ⟨h.sc.below (kp_alloc (Below.refl _ _) o), sc_trans h.gr (sc_below (kp_alloc (Below.refl _ _) o) _), own_alloc h.own o, h.lt⟩
theorem own_set_other {w : World} {base b i n : Nat} {v u : Value} {xs : List Value} (h : w.ownsRow base 5 1 v n xs) (hb : b < base) : (w.setCell ⟨b, i, none⟩ u).ownsRow base 5 1 v n xs := by
  refine h.kept (sc_set (sc_below (Below.refl w.heap.size w) (some b))) ?_
  cases e : v.ownBlock with
  | none => exact Or.inl rfl
  | some g => exact Or.inr (fun e2 => by have := own_ge h g e; have := Option.some.inj e2; omega)
theorem StI.move {w W : World} {b : Nat} {s : List UInt8} {k : Nat} {f : Bool} {vo : Value} {out : List UInt8} (h : StI w W b s k f vo out) (j : Nat) : StI w (W.setCell ⟨b, 1, none⟩ (.int .i64 (j : Nat))) b s j f vo out := ⟨h.sc.move j, sc_set h.gr, own_set_other h.own h.lt, h.lt⟩
theorem StI.setF {w W : World} {b : Nat} {s : List UInt8} {k : Nat} {f : Bool} {vo : Value} {out : List UInt8} (h : StI w W b s k f vo out) (g : Bool) : StI w (W.setCell ⟨b, 2, none⟩ (.bool g)) b s k g vo out := ⟨h.sc.setF g, sc_set h.gr, own_set_other h.own h.lt, h.lt⟩
theorem StI.app {w W W' : World} {b : Nat} {s : List UInt8} {k : Nat} {f : Bool} {vo v' : Value} {out out' : List UInt8} (h : StI w W b s k f vo out) (ho : W'.ownsRow w.heap.size 5 1 v' out'.length (Lib.byteCells out')) (hg : W.grownBy W' vo.ownBlock) : StI w W' b s k f v' out' := by
  have hne : some b ≠ vo.ownBlock := fun e => by have := own_ge h.own b e.symm; have := h.lt; omega
  refine ⟨h.sc.grown hg hne, ⟨hg.os.trans h.gr.os, hg.tape.trans h.gr.tape, hg.output.trans h.gr.output, Nat.le_trans h.gr.size hg.size, fun q hq hn => ?_⟩, ho, h.lt⟩
  exact (hg.block q (Nat.lt_of_lt_of_le hq h.gr.size) (fun e => by have := own_ge h.own q e.symm; omega)).trans (h.gr.block q hq hn)
/-- one step on: a string's bytes appended, in a region that draws -/
theorem step_append_str {P : Program} {ops : Array Oper} {o : Oper} {a : Act} {w : World} {K : Act → World → Prop} {Q : Exit → Act → World → Prop} {E : Prop} (hgd : o.guard = none) (sl x : Operand) (t u : TypeId)
    (ho : o.op = .call { callee := .builtin .append, args := #[sl, x], argTypes := #[t, u] })
    (base : Nat) (e : TypeId) (i : TypeInfo) (ht : P.underlying t = some (.slice e)) (hu : P.underlying u = some .string) (hi : P.info? e = some i) (hz : i.zero = some (.int .u8 0))
    (hsize : i.size = 1) (hby : i.bytes = 1) (v : Value) (n : Nat) (xs : List Value) (hs : a.eval sl = v) (hown : w.ownsRow base e 1 v n xs) (s : ByteArray) (hx : a.eval x = .string s)
    (h63 : n + s.size ≤ maxLen) (hbytes : n + s.size ≤ 140737488355328) (hbase : base ≤ w.heap.size)
    (h : ∀ v' w', w'.ownsRow base e 1 v' (n + s.size) (xs ++ Lib.strCells s) → w.grownBy w' v.ownBlock → K (a.put o.dst v') w') :
    if Region.wanted o (yielded ops a.tmps) = true then Oper.wp P o a w K Q else E := by
  have hw : Region.wanted o (yielded ops a.tmps) = true := by simp [Region.wanted, hgd]
  rw [if_pos hw]
  obtain ⟨v', w', hr, h2, h3, h4⟩ := Lib.run_append_own_string (P := P) w base t u o.type e i ht hu hi hz hsize hby v n xs hown s h63 hbytes hbase
  unfold Oper.wp execOp
  simp only [ho, resolve, invoke, builtin, Sem.run_bind, Sem.run_pure, Result.andThen_ok, List.map_toArray, List.map_cons, List.map_nil, hs, hx, hr]
  exact h v' w' h2 h3
theorem str_cells (l : List UInt8) : Lib.strCells (str l) = Lib.byteCells l := by
  unfold Lib.strCells Lib.byteCells
  simp [str]

end Go.Proofs.YthniemoganoapaaDoor
