/- The texts PointArg, PointTabs, one behind the other. -/
import Derived.Test.YtjeefgamkoeiaaaGreatDoorPointW
import Derived.Test.YtjeefgamkoeiaaaGreatDoorUtfW
import Derived.Test.YtjeefgamkoeiaaaGreatDoorStampW
import Derived.Test.YtjeefgamkoeiaaaGreatDoorGrd
import Derived.Test.YtjeefgamkoeiaaaGreatDoorRows
import Derived.ProofKit
import Derived.LaidMore
import Derived.MakeChecks

/- A point, rows of labels in it, that came in as arguments. -/
set_option maxRecDepth 100000
set_option linter.unusedVariables false
set_option linter.unusedSimpArgs false
namespace Go.Proofs.YtjeefgamkoeiaaaGreatDoor
open Go.RowKit Go.ChangeShapes Go.WideShapes Go.ChangeAt Go.Deep

/-- a row of labels that is a field -/
theorem lbRow_trod {H : Type} {enc : TypeId × Value → H} {W : World} {base : Nat} {sp : Nat → Bool} {held : Bool} {fuel : Nat} {v : Value} {x : DataW H × List MemPlace}
    (hf : DataW.trod enc Tryz.prog W base sp held fuel 49 [v] = some x) : ∃ l, LbRow W v l ∧ Fit l := by
  rcases open_slice Tryz.underlying49 hf with ⟨hcs, _⟩ | ⟨a', len', cap', m, k, D, Pl, hcs, hb, hl, hm, hmm, _, hi⟩
  · obtain rfl : v = _ := by simpa using hcs
    exact ⟨[], LbRow.nil _, fun p hp => by cases hp⟩
  · obtain rfl : v = _ := by simpa using hcs
    have hlen : len' ≤ m := by rw [hmm]; split <;> omega
    have hC : Tryz.prog.cellsOf 62 = 2 := by kernel_rfl
    have hall : ∀ i, ∃ q : Lb, i < len' → (q.1.length ≤ maxLen ∧ q.2.length ≤ maxLen) ∧ W.cell? (a'.add (i * 2 + 0)) = some (.string (str q.1)) ∧ W.cell? (a'.add (i * 2 + 1)) = some (.string (str q.2)) := fun i => by
      by_cases hil : i < len'
      · obtain ⟨cs', hc, ht⟩ := hi i (by omega)
        obtain ⟨q, rfl, hq⟩ := trod_label ht
        rw [hC] at hc
        obtain ⟨_, _, hat⟩ := World.cells?_some hc
        refine ⟨q, fun _ => ⟨hq, ?_, ?_⟩⟩
        · rw [← Go.Deep.add_add, hat 0 (by omega)]; rfl
        · rw [← Go.Deep.add_add, hat 1 (by omega)]; rfl
      · exact ⟨([], []), fun h => absurd h hil⟩
    obtain ⟨qs, hqs⟩ := Classical.axiomOfChoice hall
    have hll : ((List.range len').map qs).length = len' := by simp
    refine ⟨(List.range len').map qs, ⟨some a', cap', by rw [hll], by rw [hll]; exact hl, hm, (by rintro ⟨⟩), fun h0 => ?_⟩, fun p hp => ?_⟩
    · rw [hll] at h0
      have h00 := (hqs 0 h0).2.1
      obtain ⟨b, off, spot⟩ := a'
      have hspot : spot = none := by simpa [Addr.add] using World.cell?_spot h00
      subst hspot
      refine ⟨b, off, rfl, ?_, fun i q hq => ?_⟩
      · have := cell_lt h00
        simpa [Addr.add] using this
      · obtain ⟨hil, rfl⟩ : i < len' ∧ qs i = q := by
          rw [List.getElem?_map] at hq
          by_cases hi2 : i < len'
          · rw [List.getElem?_range hi2] at hq
            exact ⟨hi2, by simpa using hq⟩
          · rw [List.getElem?_eq_none (by simp; omega)] at hq
            cases hq
        have g := hqs i hil
        exact ⟨by rw [← g.2.1, Go.WideShapes.add_plain, Nat.add_zero], by rw [← g.2.2, Go.WideShapes.add_plain, Nat.add_assoc]⟩
    · obtain ⟨i, hi2, rfl⟩ := List.mem_map.1 hp
      exact (hqs i (List.mem_range.1 hi2)).1

theorem dec_trod {H : Type} {enc : TypeId × Value → H} {W : World} {base : Nat} {sp : Nat → Bool} {held : Bool} {fuel : Nat} {cs : List Value} {x : DataW H × List MemPlace}
    (h : DataW.trod enc Tryz.prog W base sp held fuel 51 cs = some x) : ∃ m s : Int, cs = [.int .i64 m, .int .i64 s] ∧ (Lit.int .i64 m).wf = true ∧ (Lit.int .i64 s).wf = true := by
  obtain ⟨xs, n, rfl, _, hlen, hxs, hf⟩ := DataW.trod_struct Tryz.underlying51 h
  have hc : Tryz.prog.cellsOf 51 = 2 := by kernel_rfl
  rw [hc] at hlen
  match cs, hlen with
  | [u0, u1], _ =>
    have hs : xs.length = 2 := by rw [hxs]; rfl
    match xs, hs with
    | [x0, x1], _ =>
      have h0 := hf 0 _ rfl
      have h1 := hf 1 _ rfl
      have c0 : Tryz.prog.cellsOf 2 = 1 := by kernel_rfl
      have c1 : Tryz.prog.cellsOf 3 = 1 := by kernel_rfl
      simp only [List.getElem_toArray, List.getElem_cons_zero, List.getElem_cons_succ, c0, c1] at h0 h1
      obtain ⟨a, e0, _, wa⟩ := DataW.trod_int Tryz.underlying2 h0
      obtain ⟨b, e1, _, wb⟩ := DataW.trod_int Tryz.underlying3 h1
      have f0 : u0 = .int .i64 a := by simpa using e0
      have f1 : u1 = .int .i64 b := by simpa using e1
      exact ⟨a, b, by rw [f0, f1], wa, wb⟩
theorem pt_trod {H : Type} {enc : TypeId × Value → H} {W : World} {base : Nat} {sp : Nat → Bool} {held : Bool} {fuel : Nat} {cs : List Value} {x : DataW H × List MemPlace}
    (h : DataW.trod enc Tryz.prog W base sp held fuel 53 cs = some x) : ∃ v p, cs = (ptc v p).toList ∧ LbRow W v p.l ∧ PtIn p := by
  obtain ⟨xs, n, rfl, _, hlen, hxs, hf⟩ := DataW.trod_struct Tryz.underlying53 h
  have hc : Tryz.prog.cellsOf 53 = 9 := by kernel_rfl
  rw [hc] at hlen
  match cs, hlen with
  | [u0, u1, u2, u3, u4, u5, u6, u7, u8], _ =>
    have hs : xs.length = 7 := by rw [hxs]; rfl
    match xs, hs with
    | [x0, x1, x2, x3, x4, x5, x6], _ =>
      have h0 := hf 0 _ rfl
      have h1 := hf 1 _ rfl
      have h2 := hf 2 _ rfl
      have h3 := hf 3 _ rfl
      have h4 := hf 4 _ rfl
      have h5 := hf 5 _ rfl
      have h6 := hf 6 _ rfl
      have c0 : Tryz.prog.cellsOf 49 = 1 := by kernel_rfl
      have c1 : Tryz.prog.cellsOf 3 = 1 := by kernel_rfl
      have c2 : Tryz.prog.cellsOf 4 = 1 := by kernel_rfl
      have c3 : Tryz.prog.cellsOf 51 = 2 := by kernel_rfl
      have c4 : Tryz.prog.cellsOf 2 = 1 := by kernel_rfl
      simp only [List.getElem_toArray, List.getElem_cons_zero, List.getElem_cons_succ, c0, c1, c2, c3, c4] at h0 h1 h2 h3 h4 h5 h6
      simp only [List.drop_zero, List.drop_succ_cons, List.take_succ_cons, List.take_zero] at h0 h1 h2 h3 h4 h5 h6
      obtain ⟨l, hr, hfit⟩ := lbRow_trod h0
      obtain ⟨ro, e1, _, w1⟩ := DataW.trod_int Tryz.underlying3 h1
      obtain ⟨inf, e2, _⟩ := DataW.trod_bool Tryz.underlying4 h2
      obtain ⟨bm, bs, e3, w3, _⟩ := dec_trod h3
      obtain ⟨m, s, e4, w4, _⟩ := dec_trod h4
      obtain ⟨td, e5, _⟩ := DataW.trod_bool Tryz.underlying4 h5
      obtain ⟨ti, e6, _, w6⟩ := DataW.trod_int Tryz.underlying2 h6
      simp only [List.cons.injEq, and_true] at e1 e2 e3 e4 e5 e6
      obtain ⟨e3, e3b⟩ := e3
      obtain ⟨e4, e4b⟩ := e4
      exact ⟨u0, ⟨l, ro, inf, bm, bs, m, s, td, ti⟩, by rw [e1, e2, e3, e3b, e4, e4b, e5, e6], hr, ⟨(i64_bounds w3).1, (i64_bounds w3).2, (i64_bounds w4).1, (i64_bounds w4).2, (i64_bounds w6).1, (i64_bounds w6).2, hfit⟩⟩
end Go.Proofs.YtjeefgamkoeiaaaGreatDoor

/- What the rows' lists give: utf's table of shapes, the table of units. -/
set_option maxRecDepth 100000
set_option linter.unusedVariables false
set_option linter.unusedSimpArgs false
namespace Go.Proofs.YtjeefgamkoeiaaaGreatDoor
open Go.RowKit

/-- both tables lie in the world -/
def ShPl (w : World) : Prop := ShapesIn w ∧ Pl w
theorem ShPl_met {W : World} {l : List (String × DataW Unit)} (h : laidMet Tryz.prog l W) (h1 : ("polyglot/utf.shapes", Rows.laid_polyglot_utf_shapes) ∈ l) (h2 : ("polyglot/stamp.places", Rows.laid_polyglot_stamp_places) ∈ l) : ShPl W := by
  refine ⟨Plain.laid_block (k := 6) (name := "polyglot/utf.shapes") (d := Rows.laid_polyglot_utf_shapes) (g := 1) (t := 149) h h1 (by kernel_rfl) (by kernel_rfl) (by kernel_rfl), ?_⟩
  obtain ⟨u, fr, hb⟩ := Plain.laid_block (k := 4) (name := "polyglot/stamp.places") (d := Rows.laid_polyglot_stamp_places) (g := 2) (t := 165) h h2 (by kernel_rfl) (by kernel_rfl) (by kernel_rfl)
  refine ⟨fun i hi => ?_, (Array.getElem?_eq_some_iff.1 hb).1⟩
  rw [Lib.cell_of_heap hb]
  match i, hi with
  | 0, _ => rfl
  | 1, _ => rfl
  | 2, _ => rfl
  | 3, _ => rfl

end Go.Proofs.YtjeefgamkoeiaaaGreatDoor
