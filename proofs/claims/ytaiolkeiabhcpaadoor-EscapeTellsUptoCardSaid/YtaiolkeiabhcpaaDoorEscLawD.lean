/- The walk of the law EscapeTells, where the names are of a size that a machine holds. -/
import Derived.Test.YtaiolkeiabhcpaaDoorEscK
import Derived.Test.YtaiolkeiabhcpaaDoorRefEscC
set_option maxRecDepth 100000
set_option linter.unusedVariables false
set_option linter.unusedSimpArgs false
namespace Go.Proofs.YtaiolkeiabhcpaaDoor
open Go.RowKit

/-- the formats that are gone through, the sorts -/
def fmts (x : Int) (k : Nat) : Int := [x, 1, 2, 3, 4].getD k 0
def srts (x : Int) (k : Nat) : Int := [x, 0, 1].getD k 0
theorem five_cell (w : World) (x : Int) (t : TypeId) (k : Nat) (h : k < 5) : (w.alloc (.cells #[.int .i64 x, .int .i64 1, .int .i64 2, .int .i64 3, .int .i64 4] t)).cell? ⟨w.heap.size, k, none⟩ = some (.int .i64 (fmts x k)) := by
  have hh : (w.alloc (.cells #[.int .i64 x, .int .i64 1, .int .i64 2, .int .i64 3, .int .i64 4] t)).heap[w.heap.size]? = some (.cells #[.int .i64 x, .int .i64 1, .int .i64 2, .int .i64 3, .int .i64 4] t (0, 0)) := heap_alloc_new w _
  rw [Lib.cell_of_heap hh]
  match k, h with
  | 0, _ => rfl
  | 1, _ => rfl
  | 2, _ => rfl
  | 3, _ => rfl
  | 4, _ => rfl
theorem three_cell (w : World) (x : Int) (t : TypeId) (k : Nat) (h : k < 3) : (w.alloc (.cells #[.int .i64 x, .int .i64 0, .int .i64 1] t)).cell? ⟨w.heap.size, k, none⟩ = some (.int .i64 (srts x k)) := by
  have hh : (w.alloc (.cells #[.int .i64 x, .int .i64 0, .int .i64 1] t)).heap[w.heap.size]? = some (.cells #[.int .i64 x, .int .i64 0, .int .i64 1] t (0, 0)) := heap_alloc_new w _
  rw [Lib.cell_of_heap hh]
  match k, h with
  | 0, _ => rfl
  | 1, _ => rfl
  | 2, _ => rfl
theorem strRow_keep {w w' : World} {v : Value} {n : Nat} {es : Nat → ByteArray} (h : StrRow w v n es) (hb : Below w.heap.size w w') : StrRow w' v n es := by
  obtain ⟨a, cap, rfl, h1, h2, h3⟩ := h
  refine ⟨a, cap, rfl, h1, h2, fun h0 => ?_⟩
  obtain ⟨b, off, rfl, hlt, hc⟩ := h3 h0
  exact ⟨b, off, rfl, Nat.lt_of_lt_of_le hlt hb.size, fun i hi => ⟨(hb.cell (p := ⟨b, off + i, none⟩) hlt).trans (hc i hi).1, (hc i hi).2⟩⟩

set_option maxHeartbeats 32000000 in
theorem estells_walk (x y : Int) (s : List UInt8) (nv : Value) (n : Nat) (es : Nat → ByteArray) (w : World) (hm : s.length ≤ maxLen) (hr : StrRow w nv n es) (hs : ∀ i, i < n → (es i).size ≤ 4194304) (hT : ChT w) (hM : MxT w) :
    Calls Tryd.prog 3 #[.int .i64 x, .int .i64 y, .string (str s), nv] w fun e w' => e = .returned (.bool true) ∧ Below w.heap.size w w' := by
  have szs := str_size s
  have HR := Lib.hid hr
  obtain ⟨a, cap, rfl, h1, h2, h3⟩ := hr
  have HC := Lib.hid h3
  clear h3
  unfold maxLen at hm h2
  go_enter Tryd.func3, Tryd.ntmps3
  go_wp2_with fail
  refine (esknown_calls _ hT hM).mono ?_; rintro e w1 ⟨rfl, b1⟩
  have B1 := Lib.hid b1
  clear b1
  by_cases hs2 : 200 < s.length
  · have d1 : decide ((200 : Int) < (s.length : Int)) = true := decide_eq_true (by omega)
    have d1' : decide (200 < s.length) = true := decide_eq_true hs2
    go_wp2
    go_ret
    exact ⟨rfl, B1.out⟩
  have d1 : decide ((200 : Int) < (s.length : Int)) = false := decide_eq_false (by omega)
  have d1' : decide (200 < s.length) = false := decide_eq_false hs2
  by_cases hn : 10 < n
  · have d2 : decide ((10 : Int) < (n : Int)) = true := decide_eq_true (by omega)
    have d2' : decide (10 < n) = true := decide_eq_true hn
    go_wp2
    go_ret
    exact ⟨rfl, B1.out⟩
  have d2 : decide ((10 : Int) < (n : Int)) = false := decide_eq_false (by omega)
  have d2' : decide (10 < n) = false := decide_eq_false hn
  go_wp2_with fail
  have G1 := Lib.hid (fun k h => five_cell w1 x 3 k h)
  have q2 := kp_alloc (Below.refl w1.heap.size w1) (.cells #[.int .i64 x, .int .i64 1, .int .i64 2, .int .i64 3, .int .i64 4] 3)
  have K1 := Lib.hid (trans9 B1.out q2)
  have z1 : w1.heap.size < (w1.alloc (.cells #[.int .i64 x, .int .i64 1, .int .i64 2, .int .i64 3, .int .i64 4] 3)).heap.size := by simp
  clear q2 B1
  generalize w1.alloc (.cells #[.int .i64 x, .int .i64 1, .int .i64 2, .int .i64 3, .int .i64 4] 3) = W1 at *
  generalize w1.heap.size = b1 at *
  go_loopw [32] (fun v wr => ∃ k : Nat, k ≤ 5 ∧ v = .int .i64 (k : Nat) ∧ Hid (Below W1.heap.size W1 wr)) (fun v _ => 5 - (intOf v).toNat)
  case atStart => exact ⟨0, by omega, rfl, Below.refl _ _⟩
  case round =>
    obtain ⟨k, hk, rfl, H1⟩ := hrel
    by_cases hk5 : k < 5
    · have e1 : decide ((k : Int) < 5) = true := decide_eq_true (by omega)
      have e1' : decide (k < 5) = true := decide_eq_true hk5
      have c1 := (H1.out.cell (p := ⟨b1, k, none⟩) z1).trans (G1.out k hk5)
      generalize fmts x k = P at *
      go_wp2_with fail
      have G2 := Lib.hid (fun k h => three_cell wr y 3 k h)
      have q2 := kp_alloc (Below.refl wr.heap.size wr) (.cells #[.int .i64 y, .int .i64 0, .int .i64 1] 3)
      have J1 := Lib.hid (trans9 H1.out q2)
      have z2 : wr.heap.size < (wr.alloc (.cells #[.int .i64 y, .int .i64 0, .int .i64 1] 3)).heap.size := by simp
      clear q2 c1
      generalize wr.alloc (.cells #[.int .i64 y, .int .i64 0, .int .i64 1] 3) = W2 at *
      generalize wr.heap.size = b2 at *
      have K2 := Lib.hid (K1.out.trans (J1.out.mono K1.out.size))
      go_loopw [39] (fun v wr2 => ∃ i : Nat, i ≤ 3 ∧ v = .int .i64 (i : Nat) ∧ Hid (Below W2.heap.size W2 wr2)) (fun v _ => 3 - (intOf v).toNat)
      case atStart => exact ⟨0, by omega, rfl, Below.refl _ _⟩
      case round =>
        obtain ⟨i, hi, rfl, H2⟩ := hrel
        by_cases hi3 : i < 3
        · have e2 : decide ((i : Int) < 3) = true := decide_eq_true (by omega)
          have e2' : decide (i < 3) = true := decide_eq_true hi3
          have c2 := (H2.out.cell (p := ⟨b2, i, none⟩) z2).trans (G2.out i hi3)
          generalize srts y i = S at *
          have K3 := Lib.hid (K2.out.trans (H2.out.mono K2.out.size))
          have ec := fun W hW => escape_calls P S s W (by omega) hW
          have er := fun W => rescape_calls P S s W (by omega)
          have bc := fun W hW hX => back_calls P S s W (by omega) hW hX
          have br := fun W => rback_calls P S s W (by omega)
          go_wp2_with fail
          clear c2
          refine (ec _ (hT.below K3.out)).mono ?_; rintro e w5 ⟨rfl, q5⟩
          have K5 := Lib.hid (trans9 K3.out q5)
          go_wp2_with fail
          refine (er _).mono ?_; rintro e w6 ⟨rfl, q6⟩
          have K6 := Lib.hid (trans9 K5.out q6)
          go_wp2_with fail
          refine (bc _ (hT.below K6.out) (hM.below K6.out)).mono ?_; rintro e w7 ⟨rfl, q7⟩
          have K7 := Lib.hid (trans9 K6.out q7)
          go_wp2_with fail
          refine (br _).mono ?_; rintro e w8 ⟨rfl, q8⟩
          have K8 := Lib.hid (trans9 K7.out q8)
          go_wp2_with fail
          refine (all_calls P S (.slice a n cap) n es w8 (by omega) (strRow_keep HR.out K8.out) hs (hT.below K8.out)).mono ?_; rintro e w9 ⟨rfl, t9, q9⟩
          have K9 := Lib.hid (trans9 K8.out q9)
          have T9 := Lib.hid t9
          have z9 := t9.lt
          clear t9
          have Q9 := Lib.hid (H2.out.trans ((trans9 (trans9 (trans9 (trans9 (Below.refl _ _) q5) q6) q7) q8).mono H2.out.size))
          have QW := Lib.hid q9
          have Q10 := Lib.hid (Q9.out.trans ((QW.out).mono Q9.out.size))
          generalize w8.heap.size = bm at *
          go_wp2_with fail
          go_loopw [14] (fun v wr3 => ∃ j : Nat, j ≤ n ∧ v = .int .i64 (j : Nat) ∧ Hid (Below w9.heap.size w9 wr3)) (fun v _ => n - (intOf v).toNat)
          case atStart => exact ⟨0, by omega, rfl, Below.refl _ _⟩
          case round =>
            obtain ⟨j, hj, rfl, H3⟩ := hrel
            by_cases hjn : j < n
            · have e3 : decide ((j : Int) < (n : Int)) = true := decide_eq_true (by omega)
              have e3' : decide (j < n) = true := decide_eq_true hjn
              obtain ⟨b, off, rfl, hb, hcs⟩ := HC.out (by omega)
              obtain ⟨L, hL⟩ : ∃ L, L = (es j).data.toList := ⟨_, rfl⟩
              have hes : es j = str L := by rw [hL]
              have K10 := Lib.hid (K9.out.trans (H3.out.mono K9.out.size))
              have zb : b < wr.heap.size := Nat.lt_of_lt_of_le hb K10.out.size
              have zm : bm < wr.heap.size := Nat.lt_of_lt_of_le z9 H3.out.size
              have c0 : wr.cell? ⟨b, off + j, none⟩ = some (.string (str L)) := by rw [← hes]; exact (K10.out.cell (p := ⟨b, off + j, none⟩) hb).trans (hcs j hjn).1
              have c1 : wr.cell? ⟨bm, j, none⟩ = some (.string (str (Ch.esc P S L))) := by rw [hL]; exact (H3.out.cell (p := ⟨bm, j, none⟩) z9).trans (T9.out.cell j hjn)
              have hLs : L.length ≤ 4194304 := by have := hs j hjn; rw [hes, str_size] at this; exact this
              have re := fun W => rescape_calls P S L W hLs
              have szL := str_size L
              have j0 : (0 : Int) ≤ (j : Int) := by omega
              have j1 : (j : Int) < (n : Int) := by omega
              clear hL hes hcs
              generalize Ch.esc P S L = X at *
              by_cases h100 : L.length ≤ 100
              · have e4 : decide ((L.length : Int) ≤ 100) = true := decide_eq_true (by omega)
                have e4' : decide (L.length ≤ 100) = true := decide_eq_true h100
                go_wp2_with fail
                refine wp_region_noPanic ?_
                refine wp_region_held_drew (S := fun X => Below wr.heap.size wr X) (by kernel_rfl) ?_ (fun hHeld => ?_)
                · exact Below.drew (Below.refl _ _)
                have kB : Below wr.heap.size wr wr.drew := Below.drew (Below.refl _ _)
                clear hHeld
                refine tk9 0 kB ?_
                refine tk9 1 kB ?_
                refine tk9 2 kB ?_
                refine tk9 3 kB ?_ (hy := Or.inl ⟨by rfl, by intro x hSw; (try dsimp only at hSw); have y0 := (hSw.cell (p := ⟨b, off + j, none⟩) zb).trans c0; first | (go_simp; done) | (go_simp; with_reducible rfl)⟩)
                refine tk9 4 kB ?_
                refine tk9 5 kB ?_
                refine tk9 6 kB ?_
                refine tk9 7 kB ?_
                refine tk9 8 kB ?_
                refine tk9 9 kB ?_
                refine tk9 10 kB ?_ (hy := Or.inl ⟨by rfl, by intro x hSw; (try dsimp only at hSw); have y1 := (hSw.cell (p := ⟨bm, j, none⟩) zm).trans c1; first | (go_simp; done) | (go_simp; with_reducible rfl)⟩)
                refine tk9 11 kB ?_
                refine tk9 12 kB ?_
                refine tk9 13 kB ?_
                refine tk9 14 kB ?_
                refine tk9 15 kB ?_
                refine tk9 16 kB ?_ (hy := Or.inl ⟨by rfl, by intro x hSw; (try dsimp only at hSw); have y0 := (hSw.cell (p := ⟨b, off + j, none⟩) zb).trans c0; first | (go_simp; done) | (go_simp; with_reducible rfl)⟩)
                refine wpAnyH_ready (rs := [17]) (by kernel_rfl) (by simp) ?_
                refine AllReadyH.cons (by simp only [List.getElem?_toArray, List.getElem?_cons_succ, List.getElem?_cons_zero]; rfl) (fun K hK => ?_) AllReadyH.nil
                try go_simp
                refine (re _).mono ?_
                rintro e w9 ⟨rfl, b9⟩
                replace kB := trans9 kB b9
                refine hK.out _ _ kB (fun hHeld => ?_)
                clear hK K hHeld
                (try simp only [Act.put, List.setIfInBounds_toArray, List.set_cons_zero, List.set_cons_succ])
                refine tk9 18 kB ?_
                refine tk9 19 kB ?_
                refine wpAnyH_done (by kernel_rfl) ?_ _
                refine NoPanic.normal ?_
                go_wp2_with fail
                go_roundw
                case rel => exact ⟨j + 1, hjn, by go_num, H3.out.trans (kB.mono H3.out.size)⟩
                case measure => simp [intOf]; omega
              · have e4 : decide ((L.length : Int) ≤ 100) = false := decide_eq_false (by omega)
                have e4' : decide (L.length ≤ 100) = false := decide_eq_false h100
                go_wp2_with fail
                refine wp_region_noPanic ?_
                refine wp_region_held_drew (S := fun X => Below wr.heap.size wr X) (by kernel_rfl) ?_ (fun hHeld => ?_)
                · exact Below.drew (Below.refl _ _)
                have kB : Below wr.heap.size wr wr.drew := Below.drew (Below.refl _ _)
                clear hHeld
                refine tk9 0 kB ?_
                refine tk9 1 kB ?_
                refine tk9 2 kB ?_
                refine tk9 3 kB ?_ (hy := Or.inl ⟨by rfl, by intro x hSw; (try dsimp only at hSw); have y0 := (hSw.cell (p := ⟨b, off + j, none⟩) zb).trans c0; first | (go_simp; done) | (go_simp; with_reducible rfl)⟩)
                refine tk9 4 kB ?_
                refine tk9 5 kB ?_
                refine tk9 6 kB ?_
                refine tk9 7 kB ?_ (v := undef) (hy := Or.inr ⟨by rfl, rfl⟩)
                refine tk9 8 kB ?_ (v := undef) (hy := Or.inr ⟨by rfl, rfl⟩)
                refine tk9 9 kB ?_ (v := undef) (hy := Or.inr ⟨by rfl, rfl⟩)
                refine tk9 10 kB ?_ (v := undef) (hy := Or.inr ⟨by rfl, rfl⟩)
                refine tk9 11 kB ?_ (v := undef) (hy := Or.inr ⟨by rfl, rfl⟩)
                refine tk9 12 kB ?_ (v := undef) (hy := Or.inr ⟨by rfl, rfl⟩)
                refine tk9 13 kB ?_ (v := undef) (hy := Or.inr ⟨by rfl, rfl⟩)
                refine tk9 14 kB ?_ (v := undef) (hy := Or.inr ⟨by rfl, rfl⟩)
                refine tk9 15 kB ?_ (v := undef) (hy := Or.inr ⟨by rfl, rfl⟩)
                refine tk9 16 kB ?_ (v := undef) (hy := Or.inr ⟨by rfl, rfl⟩)
                refine tk9 17 kB ?_ (v := undef) (hy := Or.inr ⟨by rfl, rfl⟩)
                refine tk9 18 kB ?_ (v := undef) (hy := Or.inr ⟨by rfl, rfl⟩)
                refine tk9 19 kB ?_
                refine wpAnyH_done (by kernel_rfl) ?_ _
                refine NoPanic.normal ?_
                go_wp2_with fail
                go_roundw
                case rel => exact ⟨j + 1, hjn, by go_num, H3.out.trans (kB.mono H3.out.size)⟩
                case measure => simp [intOf]; omega
            · have e3 : decide ((j : Int) < (n : Int)) = false := decide_eq_false (by omega)
              have e3' : decide (j < n) = false := decide_eq_false hjn
              go_wp2_with fail
              go_roundw
              case rel => exact ⟨i + 1, by omega, by go_num, Q10.out.trans (H3.out.mono Q10.out.size)⟩
              case measure => simp [intOf]; omega
        · have e2 : decide ((i : Int) < 3) = false := decide_eq_false (by omega)
          have e2' : decide (i < 3) = false := decide_eq_false hi3
          go_wp2_with fail
          go_roundw
          case rel => exact ⟨k + 1, by omega, by go_num, J1.out.trans (H2.out.mono J1.out.size)⟩
          case measure => simp [intOf]; omega
    · have e1 : decide ((k : Int) < 5) = false := decide_eq_false (by omega)
      have e1' : decide (k < 5) = false := decide_eq_false hk5
      have uc := fun W hW => undo_calls s W (by omega) hW
      have ur := fun W => rundo_calls s W (by omega)
      have K4 := Lib.hid (K1.out.trans (H1.out.mono K1.out.size))
      cases hu : Ch.undo s with
      | none =>
        rw [hu, show undoV none = .tuple #[.string ⟨#[]⟩, .bool false] from rfl] at uc ur
        clear hu
        go_wp2_with fail
        refine (uc _ (hM.below K4.out)).mono ?_; rintro e w5 ⟨rfl, q5⟩
        have K5 := Lib.hid (trans9 K4.out q5)
        clear q5
        go_wp2_with fail
        refine (ur _).mono ?_; rintro e w6 ⟨rfl, q6⟩
        have K6 := Lib.hid (trans9 K5.out q6)
        clear q6
        go_wp2_with fail
        go_ret
        exact ⟨rfl, K6.out⟩
      | some t =>
        rw [hu, show undoV (some t) = .tuple #[.string (str t), .bool true] from rfl] at uc ur
        clear hu
        go_wp2_with fail
        refine (uc _ (hM.below K4.out)).mono ?_; rintro e w5 ⟨rfl, q5⟩
        have K5 := Lib.hid (trans9 K4.out q5)
        clear q5
        go_wp2_with fail
        refine (ur _).mono ?_; rintro e w6 ⟨rfl, q6⟩
        have K6 := Lib.hid (trans9 K5.out q6)
        clear q6
        go_wp2_with fail
        go_ret
        exact ⟨rfl, K6.out⟩

end Go.Proofs.YtaiolkeiabhcpaaDoor
