/- The walk of the law LossyTells. -/
import Derived.Test.YtgdhfmcipaoapaaDoorRefColl
import Derived.Test.YtgdhfmcipaoapaaDoorLossRow
set_option maxRecDepth 100000
set_option linter.unusedVariables false
set_option linter.unusedSimpArgs false
namespace Go.Proofs.YtgdhfmcipaoapaaDoor
open Go.RowKit

/-- the formats that are gone through, the sorts -/
def lfmts (x : Int) (k : Nat) : Int := [x, 1, 2, 3, 4].getD k 0
def lsrts (x : Int) (k : Nat) : Int := [x, 0, 1].getD k 0
theorem lfive_cell (w : World) (x : Int) (t : TypeId) (k : Nat) (h : k < 5) : (w.alloc (.cells #[.int .i64 x, .int .i64 1, .int .i64 2, .int .i64 3, .int .i64 4] t)).cell? ⟨w.heap.size, k, none⟩ = some (.int .i64 (lfmts x k)) := by
  have hh : (w.alloc (.cells #[.int .i64 x, .int .i64 1, .int .i64 2, .int .i64 3, .int .i64 4] t)).heap[w.heap.size]? = some (.cells #[.int .i64 x, .int .i64 1, .int .i64 2, .int .i64 3, .int .i64 4] t (0, 0)) := heap_alloc_new w _
  rw [Lib.cell_of_heap hh]
  match k, h with
  | 0, _ => rfl
  | 1, _ => rfl
  | 2, _ => rfl
  | 3, _ => rfl
  | 4, _ => rfl
theorem lthree_cell (w : World) (x : Int) (t : TypeId) (k : Nat) (h : k < 3) : (w.alloc (.cells #[.int .i64 x, .int .i64 0, .int .i64 1] t)).cell? ⟨w.heap.size, k, none⟩ = some (.int .i64 (lsrts x k)) := by
  have hh : (w.alloc (.cells #[.int .i64 x, .int .i64 0, .int .i64 1] t)).heap[w.heap.size]? = some (.cells #[.int .i64 x, .int .i64 0, .int .i64 1] t (0, 0)) := heap_alloc_new w _
  rw [Lib.cell_of_heap hh]
  match k, h with
  | 0, _ => rfl
  | 1, _ => rfl
  | 2, _ => rfl

set_option maxHeartbeats 32000000 in
theorem ltells_walk (x y : Int) (s : List UInt8) (nv : Value) (n : Nat) (ls : Nat → Co.Bs) (w : World) (hm : s.length ≤ maxLen) (hr : StrRow w nv n (fun i => str (ls i))) (hT : ChT w) :
    Calls Tryd.prog 3 #[.int .i64 x, .int .i64 y, .string (str s), nv] w fun e w' => e = .returned (.bool true) ∧ Below w.heap.size w w' := by
  have szs := str_size s
  have HR := Lib.hid hr
  obtain ⟨a, cap, rfl, h1, h2, h3⟩ := hr
  have HC := Lib.hid h3
  clear h3
  unfold maxLen at hm h2
  go_enter Tryd.func3, Tryd.ntmps3
  go_wp2_with fail
  refine (lknown_calls _ hT).mono ?_; rintro e w1 ⟨rfl, b1⟩
  have B1 := Lib.hid b1
  clear b1
  by_cases hs2 : 200 < s.length
  · have d1 : decide ((200 : Int) < (s.length : Int)) = true := decide_eq_true (by omega)
    have d1' : decide (200 < s.length) = true := decide_eq_true hs2
    go_wp2
    go_ret
    exact ⟨rfl, B1.out⟩
  have d1 : decide ((200 : Int) < (s.length : Int)) = false := decide_eq_false (by omega)
  have d1' : decide (200 < s.length) = false := decide_eq_false hs2
  by_cases hn : 14 < n
  · have d2 : decide ((14 : Int) < (n : Int)) = true := decide_eq_true (by omega)
    have d2' : decide (14 < n) = true := decide_eq_true hn
    go_wp2
    go_ret
    exact ⟨rfl, B1.out⟩
  have d2 : decide ((14 : Int) < (n : Int)) = false := decide_eq_false (by omega)
  have d2' : decide (14 < n) = false := decide_eq_false hn
  go_wp2_with fail
  go_loopw [9] (fun s wr => ∃ k : Nat, k ≤ n ∧ s = .int .i64 (k : Nat) ∧ wr = w1 ∧ Hid (∀ i, i < k → (ls i).length ≤ 100)) (fun s _ => n - (intOf s).toNat)
  case atStart => exact ⟨0, by omega, rfl, rfl, fun i hi => absurd hi (by omega)⟩
  case round =>
    obtain ⟨k, hk, rfl, rfl, H⟩ := hrel
    by_cases h : k < n
    · obtain ⟨b, off, rfl, hbs, hcs⟩ := HC.out (by omega)
      have c0 := (B1.out.cell (p := ⟨b, off + k, none⟩) hbs).trans (hcs k h).1
      have hlt : decide ((k : Int) < (n : Int)) = true := decide_eq_true (by omega)
      have hlt' : decide (k < n) = true := decide_eq_true h
      have sz := str_size (ls k)
      clear hcs
      by_cases hs : 100 < (ls k).length
      · have ds : decide ((100 : Int) < ((ls k).length : Int)) = true := decide_eq_true (by omega)
        have ds' : decide (100 < (ls k).length) = true := decide_eq_true hs
        go_wp2
        go_ret
        exact ⟨rfl, B1.out⟩
      · have ds : decide ((100 : Int) < ((ls k).length : Int)) = false := decide_eq_false (by omega)
        have ds' : decide (100 < (ls k).length) = false := decide_eq_false hs
        have H2 := Lib.hid (show ∀ i, i < k + 1 → (ls i).length ≤ 100 from fun i hi => by
          by_cases e : i = k
          · rw [e]; omega
          · exact H.out i (by omega))
        go_wp2_with fail
        go_roundw
        case rel => exact ⟨k + 1, h, by go_num, trivial, H2.out⟩
        case measure => simp [intOf]; omega
    · have hlt : decide ((k : Int) < (n : Int)) = false := decide_eq_false (by omega)
      have hlt' : decide (k < n) = false := decide_eq_false h
      have Hs := Lib.hid (show ∀ i, i < n → (ls i).length ≤ 4194304 from fun i hi => by have := H.out i (by omega); omega)
      clear H
      go_wp2_with fail
      clear hlt hlt' h hk
      have G1 := Lib.hid (fun k h => lfive_cell wr x 3 k h)
      have q2 := kp_alloc (Below.refl wr.heap.size wr) (.cells #[.int .i64 x, .int .i64 1, .int .i64 2, .int .i64 3, .int .i64 4] 3)
      have K1 := Lib.hid (trans9 B1.out q2)
      have z1 : wr.heap.size < (wr.alloc (.cells #[.int .i64 x, .int .i64 1, .int .i64 2, .int .i64 3, .int .i64 4] 3)).heap.size := by simp
      clear q2 B1
      generalize wr.alloc (.cells #[.int .i64 x, .int .i64 1, .int .i64 2, .int .i64 3, .int .i64 4] 3) = W1 at *
      generalize wr.heap.size = b1 at *
      go_loopw [45] (fun v wr => ∃ k : Nat, k ≤ 5 ∧ v = .int .i64 (k : Nat) ∧ Hid (Below W1.heap.size W1 wr)) (fun v _ => 5 - (intOf v).toNat)
      case atStart => exact ⟨0, by omega, rfl, Below.refl _ _⟩
      case round =>
        obtain ⟨k, hk, rfl, H1⟩ := hrel
        by_cases hk5 : k < 5
        · have e1 : decide ((k : Int) < 5) = true := decide_eq_true (by omega)
          have e1' : decide (k < 5) = true := decide_eq_true hk5
          have c1 := (H1.out.cell (p := ⟨b1, k, none⟩) z1).trans (G1.out k hk5)
          generalize lfmts x k = P at *
          go_wp2_with fail
          have G2 := Lib.hid (fun k h => lthree_cell wr y 3 k h)
          have q2 := kp_alloc (Below.refl wr.heap.size wr) (.cells #[.int .i64 y, .int .i64 0, .int .i64 1] 3)
          have J1 := Lib.hid (trans9 H1.out q2)
          have z2 : wr.heap.size < (wr.alloc (.cells #[.int .i64 y, .int .i64 0, .int .i64 1] 3)).heap.size := by simp
          clear q2 c1
          generalize wr.alloc (.cells #[.int .i64 y, .int .i64 0, .int .i64 1] 3) = W2 at *
          generalize wr.heap.size = b2 at *
          have K2 := Lib.hid (K1.out.trans (J1.out.mono K1.out.size))
          go_loopw [52] (fun v wr2 => ∃ i : Nat, i ≤ 3 ∧ v = .int .i64 (i : Nat) ∧ Hid (Below W2.heap.size W2 wr2)) (fun v _ => 3 - (intOf v).toNat)
          case atStart => exact ⟨0, by omega, rfl, Below.refl _ _⟩
          case round =>
            obtain ⟨i, hi, rfl, H2⟩ := hrel
            by_cases hi3 : i < 3
            · have e2 : decide ((i : Int) < 3) = true := decide_eq_true (by omega)
              have e2' : decide (i < 3) = true := decide_eq_true hi3
              have c2 := (H2.out.cell (p := ⟨b2, i, none⟩) z2).trans (G2.out i hi3)
              generalize lsrts y i = S at *
              have K3 := Lib.hid (K2.out.trans (H2.out.mono K2.out.size))
              have C1 := lcoll_calls P S (.slice a n cap) n (fun i => str (ls i)) wr (by omega) (strRow_keep HR.out K3.out) (fun i hi => by rw [str_size]; exact Hs.out i hi) (hT.below K3.out)
              rw [nms_txs, collV_is] at C1
              have C2 := fun W (hb : Below w.heap.size w W) => rcoll_calls P S (.slice a n cap) n ls W (by omega) (strRow_keep HR.out hb) Hs.out
              rw [collV_is] at C2
              have ec := fun W hW => lname_calls P S s W (by unfold maxLen; omega) hW
              have er := fun W => rloss_calls P S s W (by omega)
              generalize pA (Co.collO (Ch.loss P S) (nms n ls)) = A at *
              generalize pB (Co.collO (Ch.loss P S) (nms n ls)) = Z at *
              generalize (Co.collO (Ch.loss P S) (nms n ls)).isSome = ok at *
              go_wp2_with fail
              refine C1.mono ?_; rintro e w5 ⟨rfl, q5⟩
              have K5 := Lib.hid (trans9 K3.out q5)
              have L5 := Lib.hid (trans9 H2.out q5)
              clear C1 q5 c2
              go_wp2_with fail
              have N5 := heap_alloc_new w5 (.cells #[.string (str A), .string (str Z)] 26)
              have K6 := Lib.hid (kp_alloc K5.out (.cells #[.string (str A), .string (str Z)] 26))
              have L6 := Lib.hid (kp_alloc L5.out (.cells #[.string (str A), .string (str Z)] 26))
              generalize w5.alloc (.cells #[.string (str A), .string (str Z)] 26) = w6 at *
              generalize w5.heap.size = ba at *
              refine (C2 _ K6.out).mono ?_; rintro e w7 ⟨rfl, q7⟩
              have K7 := Lib.hid (trans9 K6.out q7)
              have L7 := Lib.hid (trans9 L6.out q7)
              have N7 := (q7.block ba (Array.getElem?_eq_some_iff.1 N5).1).trans N5
              clear C2 q7 N5 K5 L5 K6 L6
              go_wp2_with fail
              have M7 := heap_alloc_new w7 (.cells #[.string (str A), .string (str Z)] 26)
              have N8 := (Below.heap_alloc w7 (.cells #[.string (str A), .string (str Z)] 26) ba (Array.getElem?_eq_some_iff.1 N7).1).trans N7
              have K8 := Lib.hid (kp_alloc K7.out (.cells #[.string (str A), .string (str Z)] 26))
              have L8 := Lib.hid (kp_alloc L7.out (.cells #[.string (str A), .string (str Z)] 26))
              clear N7 K7 L7
              generalize w7.alloc (.cells #[.string (str A), .string (str Z)] 26) = w8 at *
              generalize w7.heap.size = bb at *
              refine (lall_calls P S (.slice a n cap) n (fun i => str (ls i)) w8 (by omega) (strRow_keep HR.out K8.out) (fun i hi => by rw [str_size]; exact Hs.out i hi) (hT.below K8.out)).mono ?_; rintro e w9 ⟨rfl, t9, q9⟩
              have K9 := Lib.hid (trans9 K8.out q9)
              have Q10 := Lib.hid (trans9 L8.out q9)
              have T9 := Lib.hid t9
              have z9 := t9.lt
              have N9 := (q9.block ba (Array.getElem?_eq_some_iff.1 N8).1).trans N8
              have M9 := (q9.block bb (Array.getElem?_eq_some_iff.1 M7).1).trans M7
              have ka0 : w9.cell? ⟨ba, 0, none⟩ = some (.string (str A)) := by rw [cell_of_row _ _ 0 _ _ _ N9]; rfl
              have ka1 : w9.cell? ⟨ba, 1, none⟩ = some (.string (str Z)) := by rw [cell_of_row _ _ 1 _ _ _ N9]; rfl
              have kb0 : w9.cell? ⟨bb, 0, none⟩ = some (.string (str A)) := by rw [cell_of_row _ _ 0 _ _ _ M9]; rfl
              have kb1 : w9.cell? ⟨bb, 1, none⟩ = some (.string (str Z)) := by rw [cell_of_row _ _ 1 _ _ _ M9]; rfl
              have hq := neqc_self
              clear t9 q9 N8 M7 N9 M9 K8 L8
              generalize w8.heap.size = bm at *
              go_wp2_with fail
              refine (ec _ (hT.below K9.out)).mono ?_; rintro e w10 ⟨rfl, q10⟩
              have K11 := Lib.hid (trans9 K9.out q10)
              have Q11 := Lib.hid (trans9 Q10.out q10)
              have T10 := Lib.hid (T9.out.below q10)
              have z10 := Nat.lt_of_lt_of_le z9 q10.size
              clear ka0 ka1 kb0 kb1 hq q10 K9 Q10 T9 z9
              go_wp2_with fail
              refine (er _).mono ?_; rintro e w11 ⟨rfl, q11⟩
              have K12 := Lib.hid (trans9 K11.out q11)
              have Q12 := Lib.hid (trans9 Q11.out q11)
              have T11 := Lib.hid (T10.out.below q11)
              have z11 := Nat.lt_of_lt_of_le z10 q11.size
              clear q11 K11 Q11 T10 z10
              go_wp2_with fail
              go_loopw [19] (fun v wr3 => ∃ j : Nat, j ≤ n ∧ v = .int .i64 (j : Nat) ∧ Hid (Below w11.heap.size w11 wr3)) (fun v _ => n - (intOf v).toNat)
              case atStart => exact ⟨0, by omega, rfl, Below.refl _ _⟩
              case round =>
                obtain ⟨j, hj, rfl, H3⟩ := hrel
                by_cases hjn : j < n
                · have e3 : decide ((j : Int) < (n : Int)) = true := decide_eq_true (by omega)
                  have e3' : decide (j < n) = true := decide_eq_true hjn
                  obtain ⟨b, off, rfl, hb, hcs⟩ := HC.out (by omega)
                  have K10 := Lib.hid (K12.out.trans (H3.out.mono K12.out.size))
                  have zb : b < wr.heap.size := Nat.lt_of_lt_of_le hb K10.out.size
                  have zm : bm < wr.heap.size := Nat.lt_of_lt_of_le z11 H3.out.size
                  have c0 : wr.cell? ⟨b, off + j, none⟩ = some (.string (str (ls j))) := (K10.out.cell (p := ⟨b, off + j, none⟩) hb).trans (hcs j hjn).1
                  have c1 : wr.cell? ⟨bm, j, none⟩ = some (.string (str (Ch.loss P S (ls j)))) := (H3.out.cell (p := ⟨bm, j, none⟩) z11).trans (T11.out.cell j hjn)
                  have re := fun W => rloss_calls P S (ls j) W (Hs.out j hjn)
                  have j0 : (0 : Int) ≤ (j : Int) := by omega
                  have j1 : (j : Int) < (n : Int) := by omega
                  clear hcs
                  generalize Ch.loss P S (ls j) = X at *
                  generalize ls j = L at *
                  go_wp2_with fail
                  refine wp_region_noPanic ?_
                  refine wp_region_held_drew (S := fun X => Below wr.heap.size wr X) (by kernel_rfl) ?_ (fun hHeld => ?_)
                  · exact Below.drew (Below.refl _ _)
                  have kB : Below wr.heap.size wr wr.drew := Below.drew (Below.refl _ _)
                  clear hHeld
                  refine tk9 0 kB ?_
                  refine tk9 1 kB ?_
                  refine tk9 2 kB ?_
                  refine tk9 3 kB ?_ (hy := Or.inl ⟨by rfl, by intro x hSw; (try dsimp only at hSw); have y1 := (hSw.cell (p := ⟨bm, j, none⟩) zm).trans c1; first | (go_simp; done) | (go_simp; with_reducible rfl)⟩)
                  refine tk9 4 kB ?_
                  refine tk9 5 kB ?_
                  refine tk9 6 kB ?_
                  refine tk9 7 kB ?_
                  refine tk9 8 kB ?_
                  refine tk9 9 kB ?_ (hy := Or.inl ⟨by rfl, by intro x hSw; (try dsimp only at hSw); have y0 := (hSw.cell (p := ⟨b, off + j, none⟩) zb).trans c0; first | (go_simp; done) | (go_simp; with_reducible rfl)⟩)
                  refine wpAnyH_ready (rs := [10]) (by kernel_rfl) (by simp) ?_
                  refine AllReadyH.cons (by simp only [List.getElem?_toArray, List.getElem?_cons_succ, List.getElem?_cons_zero]; rfl) (fun K hK => ?_) AllReadyH.nil
                  try go_simp
                  refine (re _).mono ?_
                  rintro e w19 ⟨rfl, b19⟩
                  replace kB := trans9 kB b19
                  refine hK.out _ _ kB (fun hHeld => ?_)
                  clear hK K hHeld
                  (try simp only [Act.put, List.setIfInBounds_toArray, List.set_cons_zero, List.set_cons_succ])
                  refine tk9 11 kB ?_
                  refine wpAnyH_done (by kernel_rfl) ?_ _
                  refine NoPanic.normal ?_
                  go_wp2_with fail
                  go_roundw
                  case rel => exact ⟨j + 1, hjn, by go_num, H3.out.trans (kB.mono H3.out.size)⟩
                  case measure => simp [intOf]; omega
                · have e3 : decide ((j : Int) < (n : Int)) = false := decide_eq_false (by omega)
                  have e3' : decide (j < n) = false := decide_eq_false hjn
                  go_wp2_with fail
                  go_roundw
                  case rel => exact ⟨i + 1, by omega, by go_num, Q12.out.trans (H3.out.mono Q12.out.size)⟩
                  case measure => simp [intOf]; omega
            · have e2 : decide ((i : Int) < 3) = false := decide_eq_false (by omega)
              have e2' : decide (i < 3) = false := decide_eq_false hi3
              go_wp2_with fail
              go_roundw
              case rel => exact ⟨k + 1, by omega, by go_num, J1.out.trans (H2.out.mono J1.out.size)⟩
              case measure => simp [intOf]; omega
        · have e1 : decide ((k : Int) < 5) = false := decide_eq_false (by omega)
          have e1' : decide (k < 5) = false := decide_eq_false hk5
          have K4 := Lib.hid (K1.out.trans (H1.out.mono K1.out.size))
          go_wp2_with fail
          go_ret
          exact ⟨rfl, K4.out⟩

end Go.Proofs.YtgdhfmcipaoapaaDoor
