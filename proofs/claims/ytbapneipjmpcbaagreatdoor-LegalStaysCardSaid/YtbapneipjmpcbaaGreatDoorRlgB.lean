/- The texts RefLegD, RefLegE, one behind the other. -/
import Derived.Test.YtbapneipjmpcbaaGreatDoorRlgA
import Derived.Test.YtbapneipjmpcbaaGreatDoorRfA
import Derived.Test.YtbapneipjmpcbaaGreatDoorFamX
import Derived.Test.YtbapneipjmpcbaaGreatDoorLabS
import Derived.Test.YtbapneipjmpcbaaGreatDoorEscW

/- Rows of labels, points, families that renamed builds (layer 15). -/
set_option maxRecDepth 100000
set_option linter.unusedVariables false
set_option linter.unusedSimpArgs false
namespace Go.Proofs.YtbapneipjmpcbaaGreatDoor
namespace Rn
open Go.RowKit Go.Sort Dc

theorem owns_block {w X : World} {base el k n : Nat} {v : Value} {xs : List Value} (h : w.ownsRow base el k v n xs) (e : ∀ b, v.ownBlock = some b → X.heap[b]? = w.heap[b]?) : X.ownsRow base el k v n xs := by
  obtain ⟨hl, h⟩ := h
  refine ⟨hl, ?_⟩
  rcases h with h | ⟨g, cap, cur, rfl, hg, hc, h2⟩
  · exact Or.inl h
  · exact Or.inr ⟨g, cap, cur, rfl, hg, by rw [e g rfl]; exact hc, h2⟩
/-- a label as its cells -/
def encL (x : Lb) : List Value := [.string (str x.1), .string (str x.2)]
theorem lb_flat : ∀ l : List Lb, l.flatMap encL = lbCells l
  | [] => rfl
  | x :: l => by rw [List.flatMap_cons, lb_flat l]; rfl
abbrev LOwn (w : World) (base : Nat) (v : Value) (l : List Lb) : Prop := KOwn encL 58 2 w base v l
theorem LOwn.lb {w : World} {base : Nat} {v : Value} {l : List Lb} (h : LOwn w base v l) : LbOwn w base v l := by
  have h2 := h
  unfold LOwn KOwn at h2
  rw [lb_flat] at h2
  exact h2
/-- labels that can be read whatever comes into the blocks E -/
def LbOff (w : World) (E : Nat → Prop) (v : Value) (l : List Lb) : Prop := ∀ X : World, (∀ b, b < w.heap.size → ¬ E b → X.heap[b]? = w.heap[b]?) → w.heap.size ≤ X.heap.size → LbRow X v l
theorem LbOff.row {w : World} {E : Nat → Prop} {v : Value} {l : List Lb} (h : LbOff w E v l) : LbRow w v l := h w (fun _ _ _ => rfl) (Nat.le_refl _)
theorem LbOff.move {w w' : World} {E E' : Nat → Prop} {v : Value} {l : List Lb} (h : LbOff w E v l) (h1 : ∀ b, b < w.heap.size → ¬ E b → w'.heap[b]? = w.heap[b]?) (h2 : w.heap.size ≤ w'.heap.size) (hE : ∀ b, b < w.heap.size → E' b → E b) : LbOff w' E' v l :=
  fun X k1 k2 => h X (fun b hb he => (k1 b (Nat.lt_of_lt_of_le hb h2) (fun e => he (hE b hb e))).trans (h1 b hb he)) (Nat.le_trans h2 k2)
theorem LbOff.of {w : World} {base : Nat} {E : Nat → Prop} {v : Value} {l : List Lb} (h : LbOwn w base v l) (hE : ∀ b, E b → b < base) : LbOff w E v l :=
  fun X k1 k2 => LbOwn.row (owns_block h fun b hb => k1 b (own_lt h b hb) (fun e => by have := hE b e; have := own_ge h b hb; omega))

/-- the points that a round builds: z: blocks up to there are other ones' -/
structure Pg (z : Nat) (wr : World) (v : Value) (P : List Ps) : Prop where
  own : PtOwn wr (z + 1) v P
  lab : ∀ y ∈ P, PtIn y.2 ∧ LbOff wr (fun b => b ≤ z ∨ v.ownBlock = some b) y.1 y.2.l
theorem Pg.nil (z : Nat) (wr : World) : Pg z wr (.slice none 0 0) [] := ⟨KOwn.nil _ _ _ _ _, fun y hy => by cases hy⟩
/-- stores up to z, and new blocks, leave it -/
theorem Pg.move {z : Nat} {wr w' : World} {v : Value} {P : List Ps} (h : Pg z wr v P) (h1 : ∀ b, b < wr.heap.size → z < b → w'.heap[b]? = wr.heap[b]?) (h2 : wr.heap.size ≤ w'.heap.size) : Pg z w' v P :=
  ⟨Kt.ofBlock h.own fun b hb => h1 b (own_lt h.own b hb) (by have := own_ge h.own b hb; omega), fun y hy => ⟨(h.lab y hy).1, (h.lab y hy).2.move (fun b hb he => h1 b hb (by
    rcases Nat.lt_or_ge z b with k | k
    · exact k
    · exact absurd (Or.inl k) he)) h2 (fun _ _ e => e)⟩⟩
theorem Pg.below {z : Nat} {wr w' : World} {v : Value} {P : List Ps} (h : Pg z wr v P) (hb : Below wr.heap.size wr w') : Pg z w' v P := h.move (fun b hlt _ => hb.block b hlt) hb.size
/-- a point more -/
theorem Pg.add {z : Nat} {wr w5 : World} {v v5 : Value} {P : List Ps} {y : Ps} (h : Pg z wr v P) (o5 : PtOwn w5 (z + 1) v5 (P ++ [y])) (g : wr.grownBy w5 v.ownBlock) (p : v5.ownBlock = v.ownBlock ∨ v5.ownBlock = some wr.heap.size)
    (hy : PtIn y.2) (hl : LbOff wr (fun b => b ≤ z ∨ v.ownBlock = some b) y.1 y.2.l) : Pg z w5 v5 (P ++ [y]) := by
  have mv : ∀ u l, LbOff wr (fun b => b ≤ z ∨ v.ownBlock = some b) u l → LbOff w5 (fun b => b ≤ z ∨ v5.ownBlock = some b) u l := fun u l k =>
    k.move (fun b hb he => g.block b hb (fun e => he (Or.inr e.symm))) g.size (fun b hb e => by
      rcases e with e | e
      · exact Or.inl e
      · rcases p with p | p
        · exact Or.inr (by rw [← p]; exact e)
        · rw [p] at e
          have := Option.some.inj e
          omega)
  refine ⟨o5, fun x hx => ?_⟩
  rcases List.mem_append.1 hx with k | k
  · exact ⟨(h.lab x k).1, mv _ _ (h.lab x k).2⟩
  · obtain rfl := List.mem_singleton.1 k
    exact ⟨hy, mv _ _ hl⟩
theorem Pg.row {z : Nat} {wr : World} {v : Value} {P : List Ps} (h : Pg z wr v P) : PtRow wr v P := ⟨KOwn.row encP_len h.own, fun y hy => ⟨(h.lab y hy).2.row, (h.lab y hy).1⟩⟩
theorem Pg.keep {z : Nat} {wr : World} {v : Value} {P : List Ps} (h : Pg z wr v P) : PtKeep wr (z + 1) v P := fun X k1 k2 => (h.move (fun b hb hz => k1 b hb hz) k2).row

/-- the families that renamed builds -/
structure Og (W0 wr : World) (v : Value) (R : List Fs) : Prop where
  own : FmOwn wr W0.heap.size v R
  pts : ∀ x ∈ R, HdIn x.hd ∧ POff wr (fun b => v.ownBlock = some b ∨ b < W0.heap.size) x.v x.L
  bel : Below W0.heap.size W0 wr
theorem Og.nil (W0 : World) : Og W0 W0 (.slice none 0 0) [] := ⟨KOwn.nil _ _ _ _ _, fun y hy => by (cases hy), Below.refl _ _⟩
theorem Og.below {W0 wr w' : World} {v : Value} {R : List Fs} (h : Og W0 wr v R) (hb : Below wr.heap.size wr w') : Og W0 w' v R :=
  ⟨h.own.below hb, fun x hx => ⟨(h.pts x hx).1, (h.pts x hx).2.below hb⟩, kb_call h.bel (Nat.le_refl _) hb⟩
theorem Og.row {W0 wr : World} {v : Value} {R : List Fs} (h : Og W0 wr v R) : FmRow wr v R := ⟨KOwn.row encF_len h.own, fun x hx => ⟨(h.pts x hx).2.row, (h.pts x hx).1⟩⟩
theorem Og.eo {W0 wr : World} {v : Value} {R : List Fs} (h : Og W0 wr v R) : FmEO wr (fun b => b < W0.heap.size) v R := fun X h1 h2 =>
  ⟨KOwn.row encF_len (Kt.ofBlock h.own fun b hb => h1 b (own_lt h.own b hb) (fun e => by have := own_ge h.own b hb; omega)), fun x hx => ⟨(h.pts x hx).2 X (fun b hb he => h1 b hb fun e => he (Or.inr e)) h2, (h.pts x hx).1⟩⟩
theorem Og.add {W0 wr w5 : World} {v v5 : Value} {R : List Fs} {x : Fs} (h : Og W0 wr v R) (o5 : FmOwn w5 W0.heap.size v5 (R ++ [x])) (g : wr.grownBy w5 v.ownBlock) (p : v5.ownBlock = v.ownBlock ∨ v5.ownBlock = some wr.heap.size)
    (hx : HdIn x.hd) (hp : POff wr (fun b => v.ownBlock = some b ∨ b < W0.heap.size) x.v x.L) : Og W0 w5 v5 (R ++ [x]) := by
  have mv : ∀ u L, POff wr (fun b => v.ownBlock = some b ∨ b < W0.heap.size) u L → POff w5 (fun b => v5.ownBlock = some b ∨ b < W0.heap.size) u L := fun u L k =>
    k.move (fun b hb he => g.block b hb (fun e => he (Or.inl e.symm))) g.size (fun b hb e => by
      rcases e with e | e
      · rcases p with p | p
        · exact Or.inl (by rw [← p]; exact e)
        · rw [p] at e
          have := Option.some.inj e
          omega
      · exact Or.inr e)
  refine ⟨o5, fun y hy => ?_, Below.grown h.bel g h.bel.size (fun q hq => own_ge h.own q hq)⟩
  rcases List.mem_append.1 hy with k | k
  · exact ⟨(h.pts y k).1, mv _ _ (h.pts y k).2⟩
  · obtain rfl := List.mem_singleton.1 k
    exact ⟨hx, mv _ _ hp⟩

/-- how long names become -/
theorem escN_le (p w : Int) : ∀ (l : List UInt8) (prev : Option UInt8), Ch.escN p w prev l ≤ l.length
  | [], _ => Nat.le_refl _
  | c :: r, prev => by
    have := escN_le p w r (some c)
    unfold Ch.escN
    rw [List.length_cons]
    split <;> omega
theorem nm_len {p m w : Int} {l : List UInt8} (h : l.length ≤ 60) : (Lg.nmF p m w l).length ≤ 1000 := by
  unfold Lg.nmF
  split
  · rw [Ch.loss_len]; omega
  · have h1 := Ch.escL_len p w l none
    have h2 := escN_le p w l none
    show (Ch.escL p w none l).length ≤ 1000
    omega

end Rn
end Go.Proofs.YtbapneipjmpcbaaGreatDoor

/- The reference's renamed (layer 15), there and back. -/
set_option maxRecDepth 100000
set_option linter.unusedVariables false
set_option linter.unusedSimpArgs false
namespace Go.Proofs.YtbapneipjmpcbaaGreatDoor
open Go.RowKit Go.Sort Dc
attribute [local go_sem ↓] Go.wp_at_zero Go.wp_at_succ

theorem Rn.back_len {p w : Int} {l : List UInt8} (h : l.length ≤ 60) : (Ch.back p w l).length ≤ 1000 := by
  unfold Ch.back
  cases hu : Ch.undo l with
  | none => show l.length ≤ 1000; omega
  | some t =>
    have := Ch.undo_len l.length l t (Nat.le_refl _) hu
    show (if Ch.esc p w t = l then t else l).length ≤ 1000
    split <;> omega

end Go.Proofs.YtbapneipjmpcbaaGreatDoor
