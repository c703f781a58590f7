/- The walks of package spot: Good, First. -/
import Derived.Test.YtpejphfggfppdaaSpotE
import Derived.Deep.RegionHeld3
namespace Go.Proofs.Ytpejphfggfppdaa
open Go.RowKit

set_option maxHeartbeats 1000000 in
theorem good_calls (f : Ft) (s : ByteArray) (w : World) (hs : s.size ≤ 562949953421312) :
    Calls Try.prog 12 #[f.v, .string s] w fun e w' => e = .returned (.bool (decide (f = Sp.at f.c s f.o))) ∧ Below w.heap.size w w' := by
  obtain ⟨c, o, l, k⟩ := f
  generalize hg : Sp.at c s o = g
  obtain ⟨c', o', l', k'⟩ := g
  have ac := fun W => at_calls c s o W hs
  rw [hg] at ac
  have Ac := Lib.hid ac
  have eqv := fun W => eql_fault ⟨c, o, l, k⟩ ⟨c', o', l', k'⟩ W
  generalize decide (Ft.mk c o l k = Ft.mk c' o' l' k') = B at *
  clear ac hg
  go_enter Try.func12, Try.ntmps12
  go_wp2_with fail
  obtain ⟨W1, hW1⟩ : ∃ W1 : World, W1 = w.alloc (.cells #[.int .i64 c, .int .i64 o, .int .i64 l, .int .i64 k] 30) := ⟨_, rfl⟩
  rw [← hW1]
  have c0 : W1.cell? ⟨w.heap.size, 0, none⟩ = some (.int .i64 c) := by rw [hW1]; simp
  have c1 : W1.cell? ⟨w.heap.size, 1, none⟩ = some (.int .i64 o) := by rw [hW1]; simp
  have c2 : W1.cell? ⟨w.heap.size, 2, none⟩ = some (.int .i64 l) := by rw [hW1]; simp
  have c3 : W1.cell? ⟨w.heap.size, 3, none⟩ = some (.int .i64 k) := by rw [hW1]; simp
  have hz1 : w.heap.size < W1.heap.size := by rw [hW1]; simp
  have hb1 : Below w.heap.size w W1 := by rw [hW1]; exact (Below.refl _ _).alloc (Nat.le_refl _) _
  clear hW1
  go_region_held3 (fun x => x.cell? ⟨w.heap.size, 0, none⟩ = some (.int .i64 c) ∧ x.cell? ⟨w.heap.size, 1, none⟩ = some (.int .i64 o) ∧ x.cell? ⟨w.heap.size, 2, none⟩ = some (.int .i64 l) ∧ x.cell? ⟨w.heap.size, 3, none⟩ = some (.int .i64 k)) (first | exact ⟨c0, c1, c2, c3⟩ | exact ⟨(hb4.cell hz1).trans c0, (hb4.cell hz1).trans c1, (hb4.cell hz1).trans c2, (hb4.cell hz1).trans c3⟩ | go_keep)
          ((first | (go_at_call 10; refine (Ac.out _).mono ?_; rintro e w2 ⟨rfl, hb4⟩)))
  go_wp2
  go_ret
  exact ⟨rfl, hb1.drew.trans (hb4.mono hb1.size)⟩


/-- a slice of faults: how many, and which -/
def FtRow (w : World) (v : Value) (n : Nat) (fs : Nat → Ft) : Prop :=
  ∃ a cap, v = .slice a n cap ∧ n ≤ cap ∧ cap ≤ maxLen ∧ (0 < n → ∃ b off, a = some ⟨b, off, none⟩ ∧ b < w.heap.size ∧ ∀ i, i < n →
    w.cell? ⟨b, off + i * 4, none⟩ = some (.int .i64 (fs i).c) ∧ w.cell? ⟨b, off + i * 4 + 1, none⟩ = some (.int .i64 (fs i).o) ∧
    w.cell? ⟨b, off + i * 4 + 2, none⟩ = some (.int .i64 (fs i).l) ∧ w.cell? ⟨b, off + i * 4 + 3, none⟩ = some (.int .i64 (fs i).k))
/-- the first of two -/
def Ft.step (a f : Ft) : Ft := if f.c = 0 then a else if a.c = 0 ∨ f.o < a.o then f else a
/-- the first of the first j -/
def Ft.first (fs : Nat → Ft) : Nat → Ft
  | 0 => Ft.zero
  | j + 1 => (Ft.first fs j).step (fs j)

/-- a variable that holds a fault -/
structure FtAt (w : World) (b : Nat) (f : Ft) : Prop where
  lt : b < w.heap.size
  c0 : w.cell? ⟨b, 0, none⟩ = some (.int .i64 f.c)
  c1 : w.cell? ⟨b, 1, none⟩ = some (.int .i64 f.o)
  c2 : w.cell? ⟨b, 2, none⟩ = some (.int .i64 f.l)
  c3 : w.cell? ⟨b, 3, none⟩ = some (.int .i64 f.k)
  fr : ∀ o, w.frozen? ⟨b, o, none⟩ = false
theorem FtAt.new (w : World) (f : Ft) (t : TypeId) : FtAt (w.alloc (.cells #[.int .i64 f.c, .int .i64 f.o, .int .i64 f.l, .int .i64 f.k] t)) w.heap.size f :=
  ⟨by simp, by simp, by simp, by simp, by simp, fun o => by simp⟩
theorem FtAt.below {w w' : World} {b : Nat} {f : Ft} (h : FtAt w b f) {B : Nat} (hb : Below B w w') (hB : b < B) : FtAt w' b f :=
  ⟨Nat.lt_of_lt_of_le h.lt hb.size, (hb.cell hB).trans h.c0, (hb.cell hB).trans h.c1, (hb.cell hB).trans h.c2, (hb.cell hB).trans h.c3, fun o => (hb.frozen (p := ⟨b, o, none⟩) hB).trans (h.fr o)⟩
theorem FtAt.set {w : World} {b : Nat} {f : Ft} (h : FtAt w b f) (g : Ft) :
    FtAt ((((w.setCell ⟨b, 0, none⟩ (.int .i64 g.c)).setCell ⟨b, 1, none⟩ (.int .i64 g.o)).setCell ⟨b, 2, none⟩ (.int .i64 g.l)).setCell ⟨b, 3, none⟩ (.int .i64 g.k)) b g := by
  have h0 := h.c0; have h1 := h.c1; have h2 := h.c2; have h3 := h.c3; have h4 := h.lt; have h5 := h.fr
  exact ⟨by simpa [World.setCell] using h4, by go_simp, by go_simp, by go_simp, by go_simp, fun o => by go_simp⟩

/-- what a variable holds is read from every world behind -/
theorem FtAt.rules {w : World} {b : Nat} {f : Ft} (h : FtAt w b f) :
    (∀ x, Below w.heap.size w x → x.cell? ⟨b, 0, none⟩ = some (.int .i64 f.c)) ∧ (∀ x, Below w.heap.size w x → x.cell? ⟨b, 1, none⟩ = some (.int .i64 f.o)) ∧
    (∀ x, Below w.heap.size w x → x.cell? ⟨b, 2, none⟩ = some (.int .i64 f.l)) ∧ (∀ x, Below w.heap.size w x → x.cell? ⟨b, 3, none⟩ = some (.int .i64 f.k)) :=
  ⟨fun _ hx => (h.below hx h.lt).c0, fun _ hx => (h.below hx h.lt).c1, fun _ hx => (h.below hx h.lt).c2, fun _ hx => (h.below hx h.lt).c3⟩

/-- a variable that holds a spot -/
structure SpAt (w : World) (b : Nat) (o l k : Int) : Prop where
  lt : b < w.heap.size
  c0 : w.cell? ⟨b, 0, none⟩ = some (.int .i64 o)
  c1 : w.cell? ⟨b, 1, none⟩ = some (.int .i64 l)
  c2 : w.cell? ⟨b, 2, none⟩ = some (.int .i64 k)
  fr : ∀ i, w.frozen? ⟨b, i, none⟩ = false
theorem SpAt.new (w : World) (o l k : Int) (t : TypeId) : SpAt (w.alloc (.cells #[.int .i64 o, .int .i64 l, .int .i64 k] t)) w.heap.size o l k :=
  ⟨by simp, by simp, by simp, by simp, fun i => by simp⟩
theorem SpAt.below {w w' : World} {b : Nat} {o l k : Int} (h : SpAt w b o l k) {B : Nat} (hb : Below B w w') (hB : b < B) : SpAt w' b o l k :=
  ⟨Nat.lt_of_lt_of_le h.lt hb.size, (hb.cell hB).trans h.c0, (hb.cell hB).trans h.c1, (hb.cell hB).trans h.c2, fun i => (hb.frozen (p := ⟨b, i, none⟩) hB).trans (h.fr i)⟩
theorem SpAt.set1 {w : World} {b : Nat} {o l k : Int} (h : SpAt w b o l k) (x : Int) : SpAt (w.setCell ⟨b, 1, none⟩ (.int .i64 x)) b o x k := by
  have h0 := h.c0; have h1 := h.c1; have h2 := h.c2; have h4 := h.lt; have h5 := h.fr
  exact ⟨by simpa [World.setCell] using h4, by go_simp, by go_simp, by go_simp, fun o => by go_simp⟩
theorem SpAt.set2 {w : World} {b : Nat} {o l k : Int} (h : SpAt w b o l k) (x : Int) : SpAt (w.setCell ⟨b, 2, none⟩ (.int .i64 x)) b o l x := by
  have h0 := h.c0; have h1 := h.c1; have h2 := h.c2; have h4 := h.lt; have h5 := h.fr
  exact ⟨by simpa [World.setCell] using h4, by go_simp, by go_simp, by go_simp, fun o => by go_simp⟩

set_option maxHeartbeats 2000000 in
theorem first_calls (v : Value) (n : Nat) (fs : Nat → Ft) (w : World) (hv : FtRow w v n fs) :
    Calls Try.prog 13 #[v] w fun e w' => e = .returned (Ft.first fs n).v ∧ Below w.heap.size w w' := by
  obtain ⟨a, cap, rfl, hnc, hcm, hcell⟩ := hv
  unfold maxLen at hcm
  go_enter Try.func13, Try.ntmps13
  go_wp2_with fail
  obtain ⟨W1, hW1⟩ : ∃ W1 : World, W1 = (w.alloc (.cells #[.int .i64 0, .int .i64 0, .int .i64 0, .int .i64 0] 30)).alloc (.cells #[.int .i64 0, .int .i64 0, .int .i64 0, .int .i64 0] 30) := ⟨_, rfl⟩
  rw [← hW1]
  have hb1 : Below w.heap.size w W1 := by rw [hW1]; exact ((Below.refl _ _).alloc (Nat.le_refl _) _).alloc (by simp) _
  have hr1 : FtAt W1 w.heap.size Ft.zero := by
    rw [hW1]; exact (FtAt.new w Ft.zero _).below ((Below.refl _ _).alloc (Nat.le_refl _) _) (by simp)
  have ha1 : FtAt W1 (w.heap.size + 1) Ft.zero := by
    rw [hW1]
    have h := FtAt.new (w.alloc (.cells #[.int .i64 0, .int .i64 0, .int .i64 0, .int .i64 0] 30)) Ft.zero 30
    rw [show (w.alloc (.cells #[.int .i64 0, .int .i64 0, .int .i64 0, .int .i64 0] 30)).heap.size = w.heap.size + 1 by simp] at h
    exact h
  have Hcell := Lib.hid hcell
  have Hb1 := Lib.hid hb1
  have Hr1 := Lib.hid hr1
  have Ha1 := Lib.hid ha1
  clear hW1 hb1 hr1 ha1 hcell
  go_loopw [8] (fun i wr => ∃ j : Nat, j ≤ n ∧ i = .int .i64 j ∧ Hid (Below w.heap.size w wr ∧ FtAt wr w.heap.size Ft.zero ∧ FtAt wr (w.heap.size + 1) (Ft.first fs j))) (fun i _ => n - (intOf i).toNat)
  case atStart => exact ⟨0, by omega, rfl, Hb1.out, Hr1.out, Ha1.out⟩
  case round =>
    obtain ⟨j, hj, rfl, H⟩ := hrel
    obtain ⟨hb, hr, hA⟩ := H.out
    have hA' := hA
    obtain ⟨lA, A0, A1, A2, A3, fA⟩ := hA'
    by_cases hjn : j < n
    · obtain ⟨b, off, rfl, hbs, hcs⟩ := Hcell.out (by omega)
      obtain ⟨e0, e1, e2, e3⟩ := hcs j hjn
      have e0 := (hb.cell hbs).trans e0
      have e1 := (hb.cell hbs).trans e1
      have e2 := (hb.cell hbs).trans e2
      have e3 := (hb.cell hbs).trans e3
      have hst : Ft.first fs (j + 1) = (Ft.first fs j).step (fs j) := rfl
      generalize Ft.first fs j = A at *
      generalize fs j = F at *
      have Hst := Lib.hid hst
      have Hcs := Lib.hid hcs
      clear hst hcs
      by_cases hc : F.c = 0
      · have d : (F.c == 0) = true := by simpa using hc
        clear hc
        have hs2 : A.step F = A := by unfold Ft.step; rw [if_pos (by simpa using d)]
        have Hs2 := Lib.hid hs2
        clear hs2
        go_wp2
        go_roundw
        case rel =>
          refine ⟨j + 1, by omega, by go_num, ?_, ?_, ?_⟩
          · exact hb.alloc hb.size _
          · exact hr.below ((Below.refl _ _).alloc (Nat.le_refl _) _) hr.lt
          · rw [Hst.out, Hs2.out]; exact hA.below ((Below.refl _ _).alloc (Nat.le_refl _) _) hA.lt
        case measure => simp [intOf]; omega
      · have d : (F.c == 0) = false := by simpa using hc
        by_cases ha : A.c = 0
        · have da : (A.c == 0) = true := by simpa using ha
          have hs2 : A.step F = F := by unfold Ft.step; rw [if_neg hc, if_pos (Or.inl ha)]
          have Hs2 := Lib.hid hs2
          clear hs2 ha hc
          go_wp2
          go_roundw
          case rel =>
            have hb2 := ((((hb.setCell (p := ⟨w.heap.size + 1, 0, none⟩) (by simp) (.int .i64 F.c)).setCell (p := ⟨w.heap.size + 1, 1, none⟩) (by simp) (.int .i64 F.o)).setCell (p := ⟨w.heap.size + 1, 2, none⟩) (by simp) (.int .i64 F.l)).setCell (p := ⟨w.heap.size + 1, 3, none⟩) (by simp) (.int .i64 F.k))
            refine ⟨j + 1, by omega, by go_num, ?_, ?_, ?_⟩
            · exact hb2.alloc hb2.size _
            · refine FtAt.below (B := w.heap.size + 1) hr ?_ (by simp)
              refine Below.alloc ?_ (by have := lA; simp; omega) _
              repeat (refine Below.setCell ?_ (by simp) _)
              exact Below.refl _ _
            · rw [Hst.out, Hs2.out]
              exact (hA.set F).below ((Below.refl _ _).alloc (Nat.le_refl _) _) (hA.set F).lt
          case measure => simp [intOf]; omega
        · have da : (A.c == 0) = false := by simpa using ha
          have bf := fun W => before_calls F.o F.l F.k A.o A.l A.k W
          have hs2 : A.step F = if F.o < A.o then F else A := by unfold Ft.step; rw [if_neg hc]; simp [ha]
          by_cases ho : F.o < A.o
          · have hs3 : A.step F = F := by rw [hs2, if_pos ho]
            rw [show decide (F.o < A.o) = true by simpa using ho] at bf
            have Bf := Lib.hid bf
            have Hs2 := Lib.hid hs3
            clear hs2 hs3 ha hc ho bf
            go_wp2_with fail
            refine (Bf.out _).mono ?_; rintro e w2 ⟨rfl, b2⟩
            have hA2 := (hA.below ((Below.refl _ _).alloc (Nat.le_refl _) _) hA.lt).below b2 (by have := hA.lt; simp; omega)
            have hF2 := (FtAt.new wr F 30).below b2 (by simp)
            have hb2 := (hb.alloc hb.size (.cells #[.int .i64 F.c, .int .i64 F.o, .int .i64 F.l, .int .i64 F.k] 30)).trans (b2.mono (by have := hb.size; simp; omega))
            have hr2 := (hr.below ((Below.refl _ _).alloc (Nat.le_refl _) _) hr.lt).below b2 (by have := hr.lt; simp; omega)
            have hA3 := hA2
            obtain ⟨lA2, A02, A12, A22, A32, fA2⟩ := hA2
            obtain ⟨lF2, F02, F12, F22, F32, fF2⟩ := hF2
            go_wp2
            go_roundw
            case rel =>
              refine ⟨j + 1, by omega, by go_num, ?_, ?_, ?_⟩
              · exact ((((hb2.setCell (p := ⟨w.heap.size + 1, 0, none⟩) (by simp) (.int .i64 F.c)).setCell (p := ⟨w.heap.size + 1, 1, none⟩) (by simp) (.int .i64 F.o)).setCell (p := ⟨w.heap.size + 1, 2, none⟩) (by simp) (.int .i64 F.l)).setCell (p := ⟨w.heap.size + 1, 3, none⟩) (by simp) (.int .i64 F.k))
              · refine FtAt.below (B := w.heap.size + 1) hr2 ?_ (by simp)
                repeat (refine Below.setCell ?_ (by simp) _)
                exact Below.refl _ _
              · rw [Hst.out, Hs2.out]
                exact hA3.set F
            case measure => simp [intOf]; omega
          · have hs3 : A.step F = A := by rw [hs2, if_neg ho]
            rw [show decide (F.o < A.o) = false by simpa using ho] at bf
            have Bf := Lib.hid bf
            have Hs2 := Lib.hid hs3
            clear hs2 hs3 ha hc ho bf
            go_wp2_with fail
            refine (Bf.out _).mono ?_; rintro e w2 ⟨rfl, b2⟩
            go_wp2
            go_roundw
            case rel =>
              refine ⟨j + 1, by omega, by go_num, ?_, ?_, ?_⟩
              · exact (hb.alloc hb.size _).trans (b2.mono (by have := hb.size; simp; omega))
              · exact (hr.below ((Below.refl _ _).alloc (Nat.le_refl _) _) hr.lt).below b2 (by have := hr.lt; simp; omega)
              · rw [Hst.out, Hs2.out]; exact (hA.below ((Below.refl _ _).alloc (Nat.le_refl _) _) hA.lt).below b2 (by have := hA.lt; simp; omega)
            case measure => simp [intOf]; omega
    · obtain rfl : j = n := by omega
      obtain ⟨lR, R0, R1, R2, R3, fR⟩ := hr
      go_wp2
      refine bodyPost_ret (v := (Ft.first fs j).v) (by simp [results, Try.results13, go_sem, R0, R1, R2, R3]) rfl ⟨rfl, ?_⟩
      repeat (refine Below.setCell ?_ (by simp) _)
      exact hb

end Go.Proofs.Ytpejphfggfppdaa
