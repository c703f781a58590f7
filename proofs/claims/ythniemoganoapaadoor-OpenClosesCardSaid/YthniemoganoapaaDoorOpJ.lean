/- The walks of package openword's function literals (layer 17): rows kept by a slice of their own. -/
import Derived.Test.YthniemoganoapaaDoorOpI
set_option maxRecDepth 100000
set_option linter.unusedVariables false
set_option linter.unusedSimpArgs false
namespace Go.Proofs.YthniemoganoapaaDoor
open Go.RowKit
attribute [local go_sem ↓] Go.wp_at_zero Go.wp_at_succ

theorem encRw_one (x : Ow.Rw) (A : Option Addr) (n cap : Nat) : ∀ u ∈ encRw (x, .slice A n cap), u.oneCell' = true := by
  intro u hu
  simp only [encRw, List.mem_cons, List.not_mem_nil, or_false] at hu
  rcases hu with rfl | rfl | rfl | rfl | rfl | rfl | rfl | rfl | rfl | rfl <;> rfl
theorem rw_knew (w : World) (x : Rs) : KRow encRw 10 (w.alloc (.cells #[.int .i64 x.1.k, .string (str x.1.n), .int .i64 (x.1.off : Nat), x.2, .slice none 0 0, .string (str x.1.text), .int .i64 (x.1.at_ : Nat), .bool x.1.td, .string (str x.1.tm), .int .i64 (x.1.wh : Nat)] 42)) (.slice (some ⟨w.heap.size, 0, none⟩) 1 1) [x] := by
  refine ⟨_, 1, rfl, Nat.le_refl _, by unfold maxLen; omega, (by rintro ⟨⟩), fun _ => ⟨w.heap.size, 0, rfl, by simp, fun i y hy j u hu => ?_⟩⟩
  have hi : i = 0 := by have := (List.getElem?_eq_some_iff.1 hy).1; simp at this; omega
  subst hi
  obtain rfl : x = y := by simpa using hy
  rw [cell_of_row _ _ _ _ _ _ (heap_alloc_new w _), Nat.zero_mul, Nat.zero_add]
  rw [← hu]
  simp [encRw]
/-- below B all is as it was, but for block c -/
structure But (W W' : World) (B c : Nat) : Prop where
  os : W'.os = W.os
  tape : W'.tape = W.tape
  output : W'.output = W.output
  size : W.heap.size ≤ W'.heap.size
  block : ∀ q, q < B → q ≠ c → W'.heap[q]? = W.heap[q]?
theorem But.below {W X Y : World} {B c : Nat} (h : But W X B c) (hb : Below B X Y) : But W Y B c :=
  ⟨hb.os.trans h.os, hb.tape.trans h.tape, hb.output.trans h.output, Nat.le_trans h.size hb.size, fun q hq hc => (hb.block q hq).trans (h.block q hq hc)⟩
theorem But.set {W X : World} {B c i : Nat} {v : Value} (h : But W X B c) : But W (X.setCell ⟨c, i, none⟩ v) B c :=
  have g : X.grownBy (X.setCell ⟨c, i, none⟩ v) (some c) := sc_set (sc_below (Below.refl _ _) _)
  ⟨g.os.trans h.os, g.tape.trans h.tape, g.output.trans h.output, Nat.le_trans h.size g.size, fun q hq hc => by
    by_cases hl : q < X.heap.size
    · exact (g.block q hl (by intro e; injection e with e; exact hc e)).trans (h.block q hq hc)
    · rw [Array.getElem?_eq_none (by simpa [World.setCell] using hl)]
      have := h.block q hq hc
      rw [Array.getElem?_eq_none (by omega)] at this
      exact this⟩
theorem But.refl (W : World) (B c : Nat) : But W W B c := ⟨rfl, rfl, rfl, Nat.le_refl _, fun _ _ _ => rfl⟩
theorem But.to {W X : World} {B c D : Nat} (h : But W X B c) (h1 : D ≤ B) (h2 : D ≤ c) : Below D W X := ⟨h.os, h.tape, h.output, h.size, fun q hq => h.block q (by omega) (by omega)⟩
theorem Cur.but {w w' : World} {b B c : Nat} {s : List UInt8} {k : Nat} (h : Cur w b s k) (hb : But w w' B c) (h1 : b < B) (h2 : c < b) (ht : OwT w c) : Cur w' b s k := by
  have e : w'.heap[b]? = w.heap[b]? := hb.block b h1 (by omega)
  have hc : ∀ o, w'.cell? ⟨b, o, none⟩ = w.cell? ⟨b, o, none⟩ := fun o => World.cell?_of_block (a := ⟨b, o, none⟩) e
  have hf : ∀ o, w'.frozen? ⟨b, o, none⟩ = w.frozen? ⟨b, o, none⟩ := fun o => by unfold World.frozen?; simp only [e]
  have t2 : OwT w' c := ht.kept (fun j hj => hb.block j (by omega) (by omega))
  exact ⟨(hc _).trans h.c0, (hc _).trans h.c1, fun o => (hf o).trans (h.fr o), Nat.lt_of_lt_of_le h.lt hb.size, h.le, ⟨t2.cls, t2.sts, t2.shp, t2.mks, by have := t2.l0; omega, by have := t2.l1; omega, by have := t2.l2; omega, by have := t2.l3; omega⟩⟩
/-- the rows so far: block c holds their slice; theirs and their tags' blocks are B or newer -/
structure RowsAt (W : World) (B c : Nat) (L : List Rs) : Prop where
  own : ∃ v, W.cell? ⟨c, 0, none⟩ = some v ∧ KOwn encRw 42 10 W B v L
  tgs : ∀ x ∈ L, TgOwn W B x.2 x.1.tags
  fr : W.frozen? ⟨c, 0, none⟩ = false
  lt : c < B
  le : B ≤ W.heap.size
theorem RowsAt.grown {W W' : World} {B c b : Nat} {L : List Rs} (h : RowsAt W B c L) (g : W.grownBy W' (some b)) (h1 : b ≠ c) (h2 : b < B) : RowsAt W' B c L := by
  have hlt : c < W.heap.size := Nat.lt_of_lt_of_le h.lt h.le
  have hne : some c ≠ some b := by intro e; injection e with e; exact h1 e.symm
  obtain ⟨⟨v, ho, hk⟩, ht, hf, hl, hB⟩ := h
  exact ⟨⟨v, (g.cell_far ⟨c, 0, none⟩ hlt hne).trans ho, ko_grown hk g h2⟩, fun x hx => ko_grown (ht x hx) g h2, (g.frozen_far ⟨c, 0, none⟩ hlt hne).trans hf, hl, Nat.le_trans hB g.size⟩
theorem RowsAt.below {W W' : World} {B c : Nat} {L : List Rs} (h : RowsAt W B c L) (hb : Below W.heap.size W W') : RowsAt W' B c L := by
  have hlt : c < W.heap.size := Nat.lt_of_lt_of_le h.lt h.le
  obtain ⟨⟨v, ho, hk⟩, ht, hf, hl, hB⟩ := h
  exact ⟨⟨v, (hb.cell (p := ⟨c, 0, none⟩) hlt).trans ho, KOwn.below hk hb⟩, fun x hx => KOwn.below (ht x hx) hb, (hb.frozen (p := ⟨c, 0, none⟩) hlt).trans hf, hl, Nat.le_trans hB hb.size⟩
theorem own_kd {w : World} {base e size n : Nat} {v : Value} {xs : List Value} (h : w.ownsRow base e size v n xs) : ∀ g, v.ownBlock = some g → ∃ c fz, w.heap[g]? = some (.cells c e fz) := by
  intro g hg
  rcases h.2 with ⟨rfl, _⟩ | ⟨g', cap, cur, rfl, _, h2, _⟩
  · cases hg
  · cases hg; exact ⟨_, _, h2⟩
/-- what holds tags is no block that holds rows -/
theorem tg_far {W W' : World} {B B2 : Nat} {u v : Value} {L : List Ow.Tg} {M : List Rs} (h : TgOwn W B u L) (k : KOwn encRw 42 10 W B2 v M) (g : W.grownBy W' v.ownBlock) : TgOwn W' B u L :=
  World.ownsRow.kept h g (by
    rcases Option.eq_none_or_eq_some u.ownBlock with hu | ⟨q, hu⟩
    · exact Or.inl hu
    · refine Or.inr fun e => ?_
      have hv : v.ownBlock = some q := e.symm.trans hu
      obtain ⟨c1, f1, e1⟩ := own_kd h q hu
      obtain ⟨c2, f2, e2⟩ := own_kd k q hv
      rw [e1] at e2
      injection e2 with e2
      injection e2 with _ e3 _
      exact absurd e3 (by decide))

theorem rf_cell {W1 W2 w6 : World} {B c : Nat} {L : List Rs} {A1 : Option Addr} {n1 cap1 : Nat} (HB : Below W1.heap.size W1 W2) (hcB : c < B) (hB1 : B ≤ W1.heap.size) (hk : KOwn encRw 42 10 W2 B (.slice A1 n1 cap1) L) (g : W2.grownBy w6 (Value.slice A1 n1 cap1).ownBlock)
    (hv : W1.cell? ⟨c, 0, none⟩ = some (.slice A1 n1 cap1)) (hf : W1.frozen? ⟨c, 0, none⟩ = false) : w6.cell? ⟨c, 0, none⟩ = some (.slice A1 n1 cap1) ∧ w6.frozen? ⟨c, 0, none⟩ = false := by
  have hz := HB.size
  have hne : some c ≠ (Value.slice A1 n1 cap1).ownBlock := by intro e; have := own_ge hk c e.symm; omega
  exact ⟨(g.cell_far ⟨c, 0, none⟩ (show c < _ by omega) hne).trans ((HB.cell (p := ⟨c, 0, none⟩) (show c < _ by omega)).trans hv), (g.frozen_far ⟨c, 0, none⟩ (show c < _ by omega) hne).trans ((HB.frozen (p := ⟨c, 0, none⟩) (show c < _ by omega)).trans hf)⟩

set_option maxHeartbeats 8000000 in
theorem rowsf_calls (B c : Nat) (L : List Rs) (x : Ow.Rw) (A : Option Addr) (n cap : Nat) (W : World) (h : RowsAt W B c L) (ht : TgOwn W B (.slice A n cap) x.tags) (hl : L.length + 1 ≤ 2000) :
    Calls Tryd.prog 20 #[rwv (x, .slice A n cap), .pointer (some ⟨c, 0, none⟩)] W fun e w' => e = .returned (.tuple #[]) ∧ RowsAt w' B c (L ++ [(x, .slice A n cap)]) ∧ But W w' B c := by
  have HH := Lib.hid h
  obtain ⟨W1, hW1⟩ : ∃ X, X = W.alloc (.cells #[.int .i64 x.k, .string (str x.n), .int .i64 (x.off : Nat), .slice A n cap, .slice none 0 0, .string (str x.text), .int .i64 (x.at_ : Nat), .bool x.td, .string (str x.tm), .int .i64 (x.wh : Nat)] 42) := ⟨_, rfl⟩
  have B1 : Below W.heap.size W W1 := by rw [hW1]; exact (Below.refl _ _).alloc (Nat.le_refl _) _
  have H1 := h.below B1
  have T1 := Lib.hid (KOwn.below ht B1)
  have K := Lib.hid (rw_knew W1 (x, .slice A n cap))
  have B2 := (Below.refl W1.heap.size W1).alloc (Nat.le_refl _) (.cells #[.int .i64 x.k, .string (str x.n), .int .i64 (x.off : Nat), .slice A n cap, .slice none 0 0, .string (str x.text), .int .i64 (x.at_ : Nat), .bool x.td, .string (str x.tm), .int .i64 (x.wh : Nat)] 42)
  have H2 := Lib.hid (H1.below B2)
  have T2 := Lib.hid (KOwn.below T1.out B2)
  have BB := Lib.hid ((But.refl W B c).below ((B1.mono h.le).trans (B2.mono H1.le)))
  have hc4 : ∀ i, i < 10 → W1.cell? ⟨W.heap.size, i, none⟩ = (#[Value.int .i64 x.k, .string (str x.n), .int .i64 (x.off : Nat), .slice A n cap, .slice none 0 0, .string (str x.text), .int .i64 (x.at_ : Nat), .bool x.td, .string (str x.tm), .int .i64 (x.wh : Nat)] : Array Value)[i]? := by
    intro i hi; rw [hW1, cell_of_row _ _ _ _ _ _ (heap_alloc_new W _)]
  have z0 : W1.cell? ⟨W.heap.size, 0, none⟩ = some (.int .i64 x.k) := hc4 0 (by omega)
  have z1 : W1.cell? ⟨W.heap.size, 1, none⟩ = some (.string (str x.n)) := hc4 1 (by omega)
  have z2 : W1.cell? ⟨W.heap.size, 2, none⟩ = some (.int .i64 (x.off : Nat)) := hc4 2 (by omega)
  have z3 : W1.cell? ⟨W.heap.size, 3, none⟩ = some (.slice A n cap) := hc4 3 (by omega)
  have z4 : W1.cell? ⟨W.heap.size, 4, none⟩ = some (.slice none 0 0) := hc4 4 (by omega)
  have z5 : W1.cell? ⟨W.heap.size, 5, none⟩ = some (.string (str x.text)) := hc4 5 (by omega)
  have z6 : W1.cell? ⟨W.heap.size, 6, none⟩ = some (.int .i64 (x.at_ : Nat)) := hc4 6 (by omega)
  have z7 : W1.cell? ⟨W.heap.size, 7, none⟩ = some (.bool x.td) := hc4 7 (by omega)
  have z8 : W1.cell? ⟨W.heap.size, 8, none⟩ = some (.string (str x.tm)) := hc4 8 (by omega)
  have z9 : W1.cell? ⟨W.heap.size, 9, none⟩ = some (.int .i64 (x.wh : Nat)) := hc4 9 (by omega)
  clear hc4
  obtain ⟨⟨v, hv1, hk1⟩, -, hf1, hcB, hB1⟩ := H1
  have hk2 := Lib.hid (KOwn.below hk1 B2)
  obtain ⟨A1, n1, cap1, rfl⟩ : ∃ A n cap, v = .slice A n cap := (by obtain ⟨A, cap, he, _⟩ := KOwn.row encRw_len hk1; exact ⟨A, _, cap, he⟩)
  have hz2 := B2.size
  have HB2 := Lib.hid B2
  clear B1 B2 h ht hk1
  unfold rwv
  go_enter Tryd.func20, Tryd.ntmps20
  go_upto_region 1 with fail
  rw [← hW1]
  clear hW1
  go_wp2_with (at_builtin; refine wpList_append_krow rwTy encRw_len (by rfl) (.tmp 3) (.tmp 5) (by rfl) B _ L (by rfl) hk2.out _ [(x, .slice A n cap)] (by rfl) K.out (fun y hy => by rw [List.mem_singleton.1 hy]; exact encRw_one x A n cap) (by simpa using hl) H2.out.le ?_; intro v6 w6 o6 g6; obtain ⟨A6, n6, cap6, rfl⟩ : ∃ A n cap, v6 = .slice A n cap := (by obtain ⟨A, cap, he, _⟩ := KOwn.row encRw_len o6; exact ⟨A, _, cap, he⟩); obtain ⟨hc6, hf6⟩ := rf_cell HB2.out hcB hB1 hk2.out g6 hv1 hf1)
  go_end0
  have gs : w6.grownBy (w6.setCell ⟨c, 0, none⟩ (.slice A6 n6 cap6)) (some c) := sc_set (sc_below (Below.refl _ _) _)
  have hlt6 : c < w6.heap.size := by have := g6.size; have := H2.out.le; omega
  refine ⟨rfl, ⟨⟨.slice A6 n6 cap6, by go_simp, ko_grown o6 gs hcB⟩, fun y hy => ?_, by go_simp, hcB, by have := g6.size; have := H2.out.le; simp [World.setCell]; omega⟩, (BB.out.below (Below.grown (Below.refl B _) g6 H2.out.le (fun q hq => own_ge hk2.out q hq))).set⟩
  rcases List.mem_append.1 hy with hy | hy
  · exact ko_grown (tg_far (H2.out.tgs y hy) hk2.out g6) gs hcB
  · rw [List.mem_singleton.1 hy]
    exact ko_grown (tg_far T2.out hk2.out g6) gs hcB

set_option maxHeartbeats 1000000 in
theorem badf_calls (x : Rs) (hx : ∃ A n cap, x.2 = .slice A n cap) (W : World) : Calls Tryd.prog 25 #[rwv x] W fun e w' => e = .returned (.tuple #[]) ∧ Below W.heap.size W w' := by
  obtain ⟨r, v⟩ := x
  obtain ⟨A, n, cap, rfl⟩ := hx
  unfold rwv
  go_enter Tryd.func25, Tryd.ntmps25
  go_wp2
  go_end0
  exact ⟨rfl, (Below.refl _ _).alloc (Nat.le_refl _) _⟩

end Go.Proofs.YthniemoganoapaaDoor
