/- The walk of package family's Sort. -/
import Derived.Test.YtjeefgamkoeiaaaGreatDoorFamC
import Derived.Test.YtjeefgamkoeiaaaGreatDoorFamKp
set_option maxRecDepth 100000
set_option linter.unusedVariables false
set_option linter.unusedSimpArgs false
namespace Go.Proofs.YtjeefgamkoeiaaaGreatDoor
open Go.RowKit Go.Sort Go.Shelf Dc
attribute [local go_sem ↓] Go.wp_at_zero Go.wp_at_succ

theorem psortf_none (w : World) (fv : Value) :
    Calls Tryz.prog 58 #[.slice none 0 0, fv] w fun e w' => e = .returned (.tuple #[]) ∧ w' = w :=
  AnyF.slices_SortFunc_none sortPt none 0 fv w
theorem psort_any (M : List Ps) (v : Value) (base : Nat) (w : World) (hm : PtMine w base v M) (hn : M.length ≤ 1000) :
    Calls Tryz.prog 58 #[v, .func (.func 56) #[] #[]] w fun e w' =>
      e = .returned (.tuple #[]) ∧ ∃ D : List Ps, D.Perm M ∧ ((pts D).Pairwise fun p q => ¬ cmpP q p < 0) ∧ (∀ B, B ≤ base → B ≤ w.heap.size → Below B w w') ∧ PtKeep w' base v D := by
  rcases hm.own.2 with ⟨rfl, h0⟩ | ⟨g, cap, cur, rfl, hg, _⟩
  · obtain rfl := List.eq_nil_of_length_eq_zero h0
    refine (psortf_none w _).mono ?_
    rintro e w' ⟨rfl, rfl⟩
    exact ⟨rfl, [], List.Perm.refl _, List.Pairwise.nil, fun B _ _ => Below.refl _ _, fun X _ _ => PtRow.nil X⟩
  · refine (psortf_calls M g cap base w hm hn).mono ?_
    rintro e w' ⟨rfl, D, hp, hs, hb, hf⟩
    exact ⟨rfl, D, hp, hs, fun B h1 h2 => hb B (by omega) h2, hf.keep hg⟩

/-- what Sort hands back: z blocks were there ahead of it -/
def SortP (z : Nat) (h : Hd) (l : List Pt) (e : Ending) (w' : World) : Prop :=
  (∃ D v' M, psrt l = some D ∧ pts M = D ∧ e = .returned (.tuple #[famv h v', .bool true]) ∧ PtKeep w' z v' M) ∨ (psrt l = none ∧ e = .returned (.tuple #[famv hd0 (.slice none 0 0), .bool false]))
theorem SortP.yes {z : Nat} {h : Hd} {l : List Pt} {e : Ending} {w' : World} {M : List Ps} {v' : Value} (h1 : psrt l = some (pts M)) (h2 : e = .returned (.tuple #[famv h v', .bool true])) (h3 : PtKeep w' z v' M) : SortP z h l e w' := Or.inl ⟨_, v', M, h1, rfl, h2, h3⟩
theorem SortP.no {z : Nat} {h : Hd} {l : List Pt} {e : Ending} {w' : World} (h1 : psrt l = none) (h2 : e = .returned (.tuple #[famv hd0 (.slice none 0 0), .bool false])) : SortP z h l e w' := Or.inr ⟨h1, h2⟩

theorem FamAt.setOther {w : World} {b c i : Nat} {h : Hd} {v u : Value} (k : FamAt w b h v) (hne : b ≠ c) : FamAt (w.setCell ⟨c, i, none⟩ u) b h v := by
  have e : (w.setCell ⟨c, i, none⟩ u).heap[b]? = w.heap[b]? := Below.heap_setCell _ _ _ _ hne
  exact ⟨(World.cell?_of_block (a := ⟨b, 0, none⟩) e).trans k.c0, (World.cell?_of_block (a := ⟨b, 1, none⟩) e).trans k.c1, (World.cell?_of_block (a := ⟨b, 2, none⟩) e).trans k.c2, (World.cell?_of_block (a := ⟨b, 3, none⟩) e).trans k.c3, (World.cell?_of_block (a := ⟨b, 4, none⟩) e).trans k.c4,
    fun o => (World.frozen?_of_block (a := ⟨b, o, none⟩) e).trans (k.fr o), by simpa [World.setCell] using k.lt⟩
theorem FamAt.set4 {w : World} {b : Nat} {h : Hd} {v u : Value} (k : FamAt w b h v) : FamAt (w.setCell ⟨b, 4, none⟩ u) b h u := by
  have h0 := k.c0
  have h1 := k.c1
  have h2 := k.c2
  have h3 := k.c3
  have h4 := k.c4
  exact ⟨by simp [go_sem, h0], by simp [go_sem, h1], by simp [go_sem, h2], by simp [go_sem, h3], by simp [go_sem, h4], fun o => by simpa using k.fr o, by simpa [World.setCell] using k.lt⟩
theorem FamAt.belowB {w w' : World} {b B : Nat} {h : Hd} {v : Value} (k : FamAt w b h v) (hb : Below B w w') (hlt : b < B) : FamAt w' b h v := by
  have e := hb.block b hlt
  exact ⟨(World.cell?_of_block (a := ⟨b, 0, none⟩) e).trans k.c0, (World.cell?_of_block (a := ⟨b, 1, none⟩) e).trans k.c1, (World.cell?_of_block (a := ⟨b, 2, none⟩) e).trans k.c2, (World.cell?_of_block (a := ⟨b, 3, none⟩) e).trans k.c3, (World.cell?_of_block (a := ⟨b, 4, none⟩) e).trans k.c4,
    fun o => (World.frozen?_of_block (a := ⟨b, o, none⟩) e).trans (k.fr o), Nat.lt_of_lt_of_le k.lt hb.size⟩
set_option maxHeartbeats 8000000 in
theorem fsort_calls (h : Hd) (L : List Ps) (v : Value) (w : World) (hv : PtRow w v L) (hn : L.length ≤ 1000) (hl : ∀ x ∈ L, x.2.l.length ≤ 1000) :
    Calls Tryz.prog 33 #[famv h v] w fun e w' => SortP w.heap.size h (pts L) e w' ∧ Below w.heap.size w w' := by
  have k0 := kp_alloc (kp_alloc (Below.refl w.heap.size w) (.cells (famc h v) 41)) (.cells (famc hd0 (.slice none 0 0)) 41)
  have F0 := (FamAt.new w h v 41).below (kp_alloc (Below.refl (w.alloc (.cells (famc h v) 41)).heap.size (w.alloc (.cells (famc h v) 41))) (.cells (famc hd0 (.slice none 0 0)) 41))
  have G0 := FamAt.new (w.alloc (.cells (famc h v) 41)) hd0 (.slice none 0 0) 41
  rw [show (w.alloc (.cells (famc h v) 41)).heap.size = w.heap.size + 1 by simp] at G0
  have hcp := Lib.hid (copied_calls L v _ (hv.below k0) hn hl)
  have hz0 : ((w.alloc (.cells (famc h v) 41)).alloc (.cells (famc hd0 (.slice none 0 0)) 41)).heap.size = w.heap.size + 2 := by simp
  have HZ0 := Lib.hid hz0
  have hsw : ∃ A cap, v = .slice A L.length cap := by obtain ⟨A, cap, he, _⟩ := hv.1; exact ⟨A, cap, he⟩
  obtain ⟨A, cap, rfl⟩ := hsw
  have hlen : (pts L).length = L.length := by simp [pts]
  obtain ⟨n, k, u, hh⟩ := h
  have K0 := Lib.hid k0
  have HF := Lib.hid F0
  have HG := Lib.hid G0
  have HLen := Lib.hid hlen
  have HN := Lib.hid hn
  clear F0 G0 k0 hv hl hlen hn hz0
  generalize L.length = len at *
  go_enter Tryz.func33, Tryz.ntmps33
  go_wp2_with fail
  refine hcp.out.mono ?_
  rintro e w1 ⟨v1, M, rfl, b1, mine, hsame⟩
  have mine : PtMine w1 (w.heap.size + 2) v1 M := by have h := mine; rw [HZ0.out] at h; exact h
  have F1 := HF.out.below b1
  have G1 := HG.out.below b1
  have B1 := Lib.hid (trans9 K0.out b1)
  obtain ⟨A1, n1, cap1, hv1⟩ : ∃ A1 n1 cap1, v1 = .slice A1 n1 cap1 := by obtain ⟨A1, cap1, he, _⟩ := mine.row.1; exact ⟨A1, _, cap1, he⟩
  have c4 := F1.c4
  have f4 := F1.fr 4
  have hlt := F1.lt
  have hlt2 := G1.lt
  have mine2 := Lib.hid (mine.setOld (b := w.heap.size) (i := 4) (u := v1) (by omega))
  have hML : M.length ≤ 1000 := by
    have h1 := congrArg List.length hsame
    have h2 := HLen.out
    have h3 := HN.out
    simp only [pts, List.length_map] at h1 h2
    omega
  have hst := Lib.hid (psort_any M v1 _ _ mine2.out hML)
  have HFG := Lib.hid (And.intro F1 G1)
  have HS := Lib.hid hsame
  have HML := Lib.hid hML
  clear b1 mine hcp HZ0 hML hsame F1 G1
  subst hv1
  go_wp2_with fail
  refine hst.out.mono ?_
  rintro e w2 ⟨rfl, D, hperm, hsd, hbel, hkeep⟩
  have HSD : Hid ((pts D).Pairwise fun p q => ¬ cmpP q p < 0) := Lib.hid (by simpa using hsd)
  have hz1 : w.heap.size + 2 ≤ w1.heap.size := hlt2
  have b2 := hbel (w.heap.size + 2) (Nat.le_refl _) (by simpa [World.setCell] using hz1)
  have F2 := (HFG.out.1.set4 (u := .slice A1 n1 cap1)).belowB b2 (by omega)
  have G2 := (HFG.out.2.setOther (c := w.heap.size) (i := 4) (u := .slice A1 n1 cap1) (by omega)).belowB b2 (by omega)
  have B2 := Lib.hid ((B1.out.setCell (p := ⟨w.heap.size, 4, none⟩) (Nat.le_refl _) (.slice A1 n1 cap1)).trans (b2.mono (by omega)))
  have hDL : D.length ≤ 1000 := by
    have h1 := hperm.length_eq
    have h2 := HML.out
    omega
  have has := Lib.hid (ascend_calls D _ w2 hkeep.row hDL)
  have hpt : (pts D).Perm (pts L) := by
    have h1 : (pts D).Perm (pts M) := hperm.map _
    rw [HS.out] at h1
    exact h1
  have HFG2 := Lib.hid (And.intro F2 G2)
  have c42 := F2.c4
  have HK := Lib.hid hkeep
  have hyes := Lib.hid (fun h : StrictP (pts D) => psrt_is hpt h)
  have hnot := Lib.hid (fun h : ¬ StrictP (pts D) => psrt_no (l := pts L) (fun hn => h (strictP_of (HSD.out) ((ndP_perm hpt).2 hn))))
  have hz2 := b2.size
  simp only [World.setCell, Array.size_modify] at hz2
  clear hperm hsd hbel hkeep hpt hDL F2 G2 b2 c4 f4 hst mine2
  by_cases hC : StrictP (pts D)
  · rw [decide_eq_true hC] at has
    have hr := Lib.hid (hyes.out hC)
    clear hyes hnot hC
    go_wp2_with fail
    refine has.out.mono ?_; rintro e w3 ⟨rfl, b3⟩
    have F3 := HFG2.out.1.below b3
    have G3 := HFG2.out.2.below b3
    have HK3 := Lib.hid (HK.out.below b3)
    have B3 := Lib.hid (trans9 B2.out b3)
    obtain ⟨x0, x1, x2, x3, x4, xf, xl⟩ := F3
    obtain ⟨y0, y1, y2, y3, y4, yf, yl⟩ := G3
    clear b3 has HK HFG2 HFG c42
    go_wp2
    refine bodyPost_ret (v := .tuple #[.agg #[.string (str n), .int .i64 k, .string (str u), .string (str hh), .slice A1 n1 cap1], .bool true]) (by simp [results, Tryz.results33, go_sem, y0, y1, y2, y3, y4]) rfl ⟨SortP.yes hr.out rfl ?_, ?_⟩
    · exact (((((HK3.out.setOld (by omega)).setOld (by omega)).setOld (by omega)).setOld (by omega)).setOld (by omega)).mono (by omega)
    · exact ((((B3.out.setCell (by show w.heap.size ≤ w.heap.size + 1; omega) _).setCell (by show w.heap.size ≤ w.heap.size + 1; omega) _).setCell (by show w.heap.size ≤ w.heap.size + 1; omega) _).setCell (by show w.heap.size ≤ w.heap.size + 1; omega) _).setCell (by show w.heap.size ≤ w.heap.size + 1; omega) _
  · rw [decide_eq_false hC] at has
    have hr := Lib.hid (hnot.out hC)
    clear hyes hnot hC
    go_wp2_with fail
    refine has.out.mono ?_; rintro e w3 ⟨rfl, b3⟩
    have F3 := HFG2.out.1.below b3
    have G3 := HFG2.out.2.below b3
    have HK3 := Lib.hid (HK.out.below b3)
    have B3 := Lib.hid (trans9 B2.out b3)
    obtain ⟨x0, x1, x2, x3, x4, xf, xl⟩ := F3
    obtain ⟨y0, y1, y2, y3, y4, yf, yl⟩ := G3
    clear b3 has HK HFG2 HFG c42
    go_wp2
    refine bodyPost_ret (v := .tuple #[.agg #[.string ⟨#[]⟩, .int .i64 0, .string ⟨#[]⟩, .string ⟨#[]⟩, .slice none 0 0], .bool false]) (by simp [results, Tryz.results33, go_sem, y0, y1, y2, y3, y4]) rfl ⟨SortP.no hr.out rfl, ?_⟩
    exact ((((B3.out.setCell (by show w.heap.size ≤ w.heap.size + 1; omega) _).setCell (by show w.heap.size ≤ w.heap.size + 1; omega) _).setCell (by show w.heap.size ≤ w.heap.size + 1; omega) _).setCell (by show w.heap.size ≤ w.heap.size + 1; omega) _).setCell (by show w.heap.size ≤ w.heap.size + 1; omega) _

/-- whose head -/
def hdO (o : Option (List Pt)) (h : Hd) : Hd := match o with | some _ => h | none => hd0
theorem fsort_any (h : Hd) (L : List Ps) (v : Value) (w : World) (hv : PtRow w v L) (hn : L.length ≤ 1000) (hl : ∀ x ∈ L, x.2.l.length ≤ 1000) :
    Calls Tryz.prog 33 #[famv h v] w fun e w' => (∃ A n cap M, e = .returned (.tuple #[famv (hdO (psrt (pts L)) h) (.slice A n cap), .bool (psrt (pts L)).isSome]) ∧ PtKeep w' w.heap.size (.slice A n cap) M ∧ pts M = (psrt (pts L)).getD []) ∧ Below w.heap.size w w' := by
  refine (fsort_calls h L v w hv hn hl).mono ?_
  rintro e w' ⟨hs, hb⟩
  refine ⟨?_, hb⟩
  rcases hs with ⟨D, v', M, h1, h2, rfl, h3⟩ | ⟨h1, rfl⟩
  · obtain ⟨A, cap, rfl, _⟩ := h3.row.1
    exact ⟨A, _, cap, M, by rw [h1]; rfl, h3, by rw [h1]; exact h2⟩
  · exact ⟨none, 0, 0, [], by rw [h1]; rfl, fun X _ _ => PtRow.nil X, by rw [h1]; rfl⟩

end Go.Proofs.YtjeefgamkoeiaaaGreatDoor
