/- The walk of the law LossyOrder. -/
import Derived.Test.YtgdhfmcipaoapaaDoorLossRow
import Derived.Test.YtgdhfmcipaoapaaDoorKRow
import Derived.Deep.DeepCutAuto
import Derived.Deep.RegionHeld3
import Derived.BigQuiet
set_option maxRecDepth 100000
set_option linter.unusedVariables false
set_option linter.unusedSimpArgs false
namespace Go.Proofs.YtgdhfmcipaoapaaDoor
open Go.RowKit

/-- a text as its one cell -/
def encT (l : Co.Bs) : List Value := [.string (str l)]
theorem TS : KTy Tryd.prog 22 9 1 16 (.string ⟨#[]⟩) := ⟨Tryd.underlying22, by kernel_rfl, Tryd.sizeOf9, rfl, by decide, by decide⟩
theorem hkS : ∀ x : Co.Bs, (encT x).length = 1 := fun _ => rfl
theorem encT_one (N : List Co.Bs) : ∀ x ∈ N, ∀ u ∈ encT x, u.oneCell' = true := fun x _ u hu => by
  obtain rfl : u = .string (str x) := by simpa [encT] using hu
  rfl
theorem krow_of {w : World} {v : Value} {n : Nat} {ls : Nat → Co.Bs} (h : StrRow w v n (fun i => str (ls i))) (hn : 0 < n) : KRow encT 1 w v (nms n ls) := by
  obtain ⟨a, cap, rfl, h1, h2, h3⟩ := h
  obtain ⟨b, off, rfl, hlt, hc⟩ := h3 hn
  have hl : (nms n ls).length = n := by simp [nms]
  refine ⟨some ⟨b, off, none⟩, cap, by rw [hl], by rw [hl]; exact h1, h2, (by rintro ⟨⟩), fun _ => ⟨b, off, rfl, hlt, fun i x hx j u hu => ?_⟩⟩
  have hi : i < n := by rw [← hl]; exact (List.getElem?_eq_some_iff.1 hx).1
  obtain rfl : j = 0 := by
    have := (List.getElem?_eq_some_iff.1 hu).1
    rw [hkS] at this; omega
  have hx2 : ls i = x := by simpa [nms, hi] using hx
  obtain rfl : Value.string (str x) = u := by simpa [encT] using hu
  rw [Nat.mul_one, Nat.add_zero, (hc i hi).1, ← hx2]
theorem krow_str {w : World} {v : Value} {M : List Co.Bs} (h : KRow encT 1 w v M) (hM : ∀ x ∈ M, x.length ≤ maxLen) : StrRow w v M.length (tx M) := by
  obtain ⟨A, cap, rfl, h1, h2, _, h3⟩ := h
  refine ⟨A, cap, rfl, h1, h2, fun h0 => ?_⟩
  obtain ⟨b, off, rfl, hlt, hc⟩ := h3 h0
  refine ⟨b, off, rfl, hlt, fun i hi => ?_⟩
  have := hc i M[i] (List.getElem?_eq_getElem hi) 0 (.string (str M[i])) rfl
  rw [Nat.mul_one, Nat.add_zero] at this
  unfold tx
  rw [List.getD_eq_getElem?_getD, List.getElem?_eq_getElem hi]
  exact ⟨this, by rw [Option.getD_some, str_size]; exact hM _ (List.getElem_mem _)⟩

set_option maxHeartbeats 16000000 in
theorem lorder_walk (y : Int) (v : Value) (n : Nat) (ls : Nat → Co.Bs) (t : Int) (w : World) (hy : 0 ≤ y) (hy2 : y ≤ 255) (ht : 0 ≤ t) (ht2 : t ≤ 255) (hr : StrRow w v n (fun i => str (ls i))) (hT : ChT w) :
    Calls Tryd.prog 6 #[.int .u8 y, v, .int .u8 t] w fun e w' => e = .returned (.bool true) ∧ Below w.heap.size w w' := by
  have HR := Lib.hid hr
  obtain ⟨a, cap, rfl, h1, h2, h3⟩ := hr
  have HC := Lib.hid h3
  unfold maxLen at h2
  clear h3
  go_enter Tryd.func6, Tryd.ntmps6
  go_wp2_with fail
  refine (lknown_calls _ hT).mono ?_; rintro e w1 ⟨rfl, b1⟩
  have B1 := Lib.hid b1
  clear b1
  by_cases hn : 14 < n
  · have d2 : decide ((14 : Int) < (n : Int)) = true := decide_eq_true (by omega)
    have d2' : decide (14 < n) = true := decide_eq_true hn
    go_wp2
    go_ret
    exact ⟨rfl, B1.out⟩
  have d2 : decide ((14 : Int) < (n : Int)) = false := decide_eq_false (by omega)
  have d2' : decide (14 < n) = false := decide_eq_false hn
  by_cases hn0 : n = 0
  · subst hn0
    go_wp2
    go_ret
    exact ⟨rfl, B1.out⟩
  have d3 : decide ((n : Int) = 0) = false := decide_eq_false (by omega)
  have d3' : decide (n = 0) = false := decide_eq_false hn0
  have d3b : ((n : Int) == 0) = false := by simp; omega
  have d3c : (n == 0) = false := by simpa using hn0
  have d3d : ¬ (n : Int) = 0 := by omega
  go_wp2_with fail
  go_loopw [7] (fun s wr => ∃ k : Nat, k ≤ n ∧ s = .int .i64 (k : Nat) ∧ wr = w1 ∧ Hid (∀ i, i < k → (ls i).length ≤ 100)) (fun s _ => n - (intOf s).toNat)
  case atStart => exact ⟨0, by omega, rfl, rfl, fun i hi => absurd hi (by omega)⟩
  case round =>
    obtain ⟨k, hk, rfl, rfl, H⟩ := hrel
    by_cases h : k < n
    · obtain ⟨b, off, rfl, hbs, hcs⟩ := HC.out (by omega)
      have c0 := (B1.out.cell (p := ⟨b, off + k, none⟩) hbs).trans (hcs k h).1
      have hlt : decide ((k : Int) < (n : Int)) = true := decide_eq_true (by omega)
      have hlt' : decide (k < n) = true := decide_eq_true h
      have sz := str_size (ls k)
      clear hcs
      by_cases hs : 100 < (ls k).length
      · have ds : decide ((100 : Int) < ((ls k).length : Int)) = true := decide_eq_true (by omega)
        have ds' : decide (100 < (ls k).length) = true := decide_eq_true hs
        go_wp2
        go_ret
        exact ⟨rfl, B1.out⟩
      · have ds : decide ((100 : Int) < ((ls k).length : Int)) = false := decide_eq_false (by omega)
        have ds' : decide (100 < (ls k).length) = false := decide_eq_false hs
        have H2 := Lib.hid (show ∀ i, i < k + 1 → (ls i).length ≤ 100 from fun i hi => by
          by_cases e : i = k
          · rw [e]; omega
          · exact H.out i (by omega))
        go_wp2_with fail
        go_roundw
        case rel => exact ⟨k + 1, h, by go_num, trivial, H2.out⟩
        case measure => simp [intOf]; omega
    · have hlt : decide ((k : Int) < (n : Int)) = false := decide_eq_false (by omega)
      have hlt' : decide (k < n) = false := decide_eq_false h
      have Hs := Lib.hid (show ∀ i, i < n → (ls i).length ≤ 4194304 from fun i hi => by have := H.out i (by omega); omega)
      clear H
      obtain ⟨P, HP⟩ : ∃ P : Int, Hid (1 + y % 4 = P) := ⟨1 + y % 4, rfl⟩
      obtain ⟨k, hk1, hk2⟩ : ∃ k : Nat, k < n ∧ t % (n : Int) = (k : Int) := by
        have h1 := Int.emod_nonneg t (show (n : Int) ≠ 0 by omega)
        have h2 := Int.emod_lt_of_pos t (show (0 : Int) < (n : Int) by omega)
        exact ⟨(t % (n : Int)).toNat, by omega, by omega⟩
      have hk3 : t.tmod (n : Int) = (k : Int) := by rw [Int.tmod_eq_emod_of_nonneg ht]; exact hk2
      go_upto_region 10 with (fail)
      go_cut [8, 9] (fun sp sk wx => sp = .int .i64 P ∧ sk = .int .i64 (k : Nat) ∧ Hid (Below wr.heap.size wr wx))
      case first =>
        go_quiet (fail)
        go_wp2_with fail
        go_meet
        exact ⟨by rw [HP.out], rfl, below_drewN (Below.refl _ _) _⟩
      case rest =>
        obtain ⟨rfl, rfl, HD⟩ := hcut
        have K2 := Lib.hid (trans9 B1.out HD.out)
        have HK := Lib.hid hk1
        clear hk2 hk3 HP hlt hlt' h hk1 B1 HD
        have C1 := lcoll_calls P 1 (.slice a n cap) n (fun i => str (ls i)) wc (by omega) (strRow_keep HR.out K2.out) (fun i hi => by rw [str_size]; exact Hs.out i hi) (hT.below K2.out)
        rw [nms_txs, collV_is] at C1
        have HRk := Lib.hid (krow_of HR.out (by omega))
        have HLn := Lib.hid (show (nms n ls).length = n by simp [nms])
        have HLs := Lib.hid (show ∀ x ∈ nms n ls, x.length ≤ 4194304 from fun x hx => by
          obtain ⟨i, hi, rfl⟩ := List.mem_map.1 hx
          exact Hs.out i (by simpa using hi))
        generalize nms n ls = L at *
        -- whatever row holds just these names: the clash is the same
        have CC := Lib.hid (show ∀ (M : List Co.Bs), (∀ x, x ∈ M ↔ x ∈ L) → M.length ≤ 100 → ∀ W u, Below w.heap.size w W → KRow encT 1 W u M →
            Calls Tryd.prog 8 #[.int .i64 P, .int .i64 1, u] W fun e w' => e = .returned (collV (Co.collO (Ch.loss P 1) L)) ∧ Below W.heap.size W w' from fun M hM hl W u hb hk => by
          have hMs : ∀ x ∈ M, x.length ≤ 4194304 := fun x hx => HLs.out x ((hM x).1 hx)
          have := lcoll_calls P 1 u M.length (tx M) W (by omega) (krow_str hk (fun x hx => by have := hMs x hx; unfold maxLen; omega)) (tx_small M hMs) (hT.below hb)
          rw [tx_txs, Co.collO_same (Ch.loss P 1) hM] at this
          exact this)
        rw [collV_is] at CC
        generalize pA (Co.collO (Ch.loss P 1) L) = A at *
        generalize pB (Co.collO (Ch.loss P 1) L) = Z at *
        generalize (Co.collO (Ch.loss P 1) L).isSome = ok at *
        obtain ⟨u1, hu1, F1⟩ := kr_from TS HRk.out k (by rw [HLn.out]; have := HK.out; omega)
        obtain ⟨u2, hu2, F2⟩ := kr_to TS HRk.out k (by rw [HLn.out]; have := HK.out; omega)
        have hone := encT_one
        have F1 := Lib.hid F1
        have F2 := Lib.hid F2
        go_wp2_with fail
        refine C1.mono ?_; rintro e w2 ⟨rfl, q2⟩
        have K3 := Lib.hid (trans9 K2.out q2)
        clear C1 q2
        have N3 := heap_alloc_new w2 (.cells #[.string (str A), .string (str Z)] 26)
        have K4 := Lib.hid (kp_alloc K3.out (.cells #[.string (str A), .string (str Z)] 26))
        go_upto_region 12 with (fail)
        generalize w2.alloc (.cells #[.string (str A), .string (str Z)] 26) = w3 at *
        generalize w2.heap.size = ba at *
        have HN3 := Lib.hid N3
        clear N3 K3 K2
        have R3 := Lib.hid (HRk.out.below K4.out)
        have hl12 : ([] : List Co.Bs).length + (L.drop k).length ≤ 2000 := by rw [List.length_drop, HLn.out]; simp; omega
        have hl13 : ([] ++ L.drop k).length + L.length ≤ 2000 := by simp [HLn.out]; omega
        have hmem : ∀ x, x ∈ ([] ++ L.drop k) ++ L ↔ x ∈ L := fun x => by simp; exact fun h => List.mem_of_mem_drop h
        have hml : (([] ++ L.drop k) ++ L).length ≤ 100 := by simp [HLn.out]; omega
        go_wp2_with (first
          | (at_builtin; refine wpList_append_krow TS hkS rfl _ _ (by rfl) w3.heap.size _ [] (by rfl) (KOwn.nil _ _ _ _ _) _ (L.drop k) (by rfl) (F1.out _ R3.out) (hone _) hl12 (Nat.le_refl _) ?_; intro v5 w5 o5 g5)
          | (at_builtin; refine wpList_append_krow TS hkS rfl _ _ (by rfl) w3.heap.size _ _ (by rfl) o5 _ L (by rfl) (R3.out.below (Below.grown (Below.refl _ _) g5 (Nat.le_refl _) (fun q hq => by cases hq))) (hone _) hl13 g5.size ?_; intro v6 w6 o6 g6)
          | fail)
        have B56 := Lib.hid (Below.grown (Below.grown (Below.refl w3.heap.size w3) g5 (Nat.le_refl _) (fun q hq => by cases hq)) g6 g5.size (own_ge o5))
        have r6 := KOwn.row hkS o6
        refine (CC.out _ hmem hml w6 v6 (trans9 K4.out B56.out) r6).mono ?_; rintro e w7 ⟨rfl, q7⟩
        have N7 := ((trans9 B56.out q7).block ba (Array.getElem?_eq_some_iff.1 HN3.out).1).trans HN3.out
        have K7 := Lib.hid (trans9 (trans9 K4.out B56.out) q7)
        clear o5 g5 o6 g6 r6 B56 hl12 hl13 hmem hml q7 HN3 R3 K4
        have N8 := heap_alloc_new w7 (.cells #[.string (str A), .string (str Z)] 26)
        have M8 := (Below.heap_alloc w7 (.cells #[.string (str A), .string (str Z)] 26) ba (Array.getElem?_eq_some_iff.1 N7).1).trans N7
        have K8 := Lib.hid (kp_alloc K7.out (.cells #[.string (str A), .string (str Z)] 26))
        go_upto_region 13 with (fail)
        generalize w7.alloc (.cells #[.string (str A), .string (str Z)] 26) = w8 at *
        generalize w7.heap.size = bb at *
        have HN8 := Lib.hid N8
        have HM8 := Lib.hid M8
        clear N8 M8 N7 K7
        have HRw := Lib.hid (HRk.out.below K8.out)
        have CC2 := Lib.hid (fun W u (hb : Below w8.heap.size w8 W) (hk : KRow encT 1 W u (L.drop k ++ L.take k)) => CC.out (L.drop k ++ L.take k) (fun x => by
          rw [List.mem_append, Or.comm, ← List.mem_append, List.take_append_drop]) (by rw [List.length_append, List.length_drop, List.length_take, HLn.out]; omega) W u (trans9 K8.out hb) hk)
        go_cut [14, 15] (fun sc sk wx => ∃ bc : Nat, sc = .pointer (some ⟨bc, 0, none⟩) ∧ sk = .bool ok ∧ Hid (Below w8.heap.size w8 wx ∧ wx.heap[bc]? = some (.cells #[.string (str A), .string (str Z)] 26 (0, 0))))
        case first =>
          have hl1 : ([] : List Co.Bs).length + (L.drop k).length ≤ 2000 := by rw [List.length_drop, HLn.out]; simp; omega
          have hl2 : (L.drop k).length + (L.take k).length ≤ 2000 := by rw [List.length_drop, List.length_take, HLn.out]; omega
          clear CC HR HC HRk HN8 HM8
          refine wp_region_noPanic ?_
          refine wp_region_held_drew (S := fun X => Below w8.heap.size w8 X) (by kernel_rfl) ?_ (fun hHeld => ?_)
          · exact Below.drew (Below.refl _ _)
          have kB : Below w8.heap.size w8 w8.drew := Below.drew (Below.refl _ _)
          clear hHeld
          refine tk9 0 kB ?_
          refine tk9 1 kB ?_
          refine tk9 2 kB ?_
          refine tk9 3 kB ?_
          refine tk9 5 kB ?_
          refine tk9 6 kB ?_
          refine tk9 7 kB ?_
          refine wpAnyH_ready (rs := [4, 13]) (by kernel_rfl) (by simp) ?_
          refine AllReadyH.cons (by simp only [List.getElem?_toArray, List.getElem?_cons_succ, List.getElem?_cons_zero]; rfl) (fun K hK => ?_) ?_
          · refine step_append_krow TS hkS (by rfl) (.const (.slice none 0 0)) (.tmp 68) (by rfl) (w8.heap.size) _ [] (by rfl) (KOwn.nil _ _ _ _ _) _ (L.drop k) (by rfl) (F1.out _ (HRw.out.below kB)) (hone _) hl1 (Below.size kB) ?_
            intro v5 w5 o5 g5
            replace kB := Below.grown kB g5 (Below.size kB) (fun q hq => by cases hq)
            simp only [List.nil_append] at o5
            clear g5
            refine hK.out _ _ kB (fun hHeld => ?_)
            clear hK K hHeld
            (try simp only [Act.put, List.setIfInBounds_toArray, List.set_cons_zero, List.set_cons_succ])
            refine wpAnyH_ready (rs := [8, 13]) (by kernel_rfl) (by simp) ?_
            refine AllReadyH.cons (by simp only [List.getElem?_toArray, List.getElem?_cons_succ, List.getElem?_cons_zero]; rfl) (fun K hK => ?_) ?_
            · refine step_append_krow TS hkS (by rfl) (.tmp 69) (.tmp 72) (by rfl) _ _ _ (by rfl) o5 _ (L.take k) (by rfl) (F2.out _ (HRw.out.below kB)) (hone _) hl2 (Below.size kB) ?_
              intro v6 w6 o6 g6
              replace kB := Below.grown kB g6 (Below.size kB) (fun q hq => own_ge o5 q hq)
              have r6 := KOwn.row hkS o6
              clear o5 o6 g6
              refine hK.out _ _ kB (fun hHeld => ?_)
              clear hK K hHeld
              (try simp only [Act.put, List.setIfInBounds_toArray, List.set_cons_zero, List.set_cons_succ])
              refine wpAnyH_ready (rs := [9, 13]) (by kernel_rfl) (by simp) ?_
              refine AllReadyH.cons (by simp only [List.getElem?_toArray, List.getElem?_cons_succ, List.getElem?_cons_zero]; rfl) (fun K hK => ?_) ?_
              · try go_simp
                refine (CC2.out _ _ kB r6).mono ?_
                rintro e w9 ⟨rfl, b9⟩
                replace kB := trans9 kB b9
                clear r6 b9
                refine hK.out _ _ kB (fun hHeld => ?_)
                clear hK K hHeld
                (try simp only [Act.put, List.setIfInBounds_toArray, List.set_cons_zero, List.set_cons_succ])
                refine tk9 10 kB ?_
                refine tk9 11 kB ?_
                refine tk9 12 kB ?_
                refine wpAnyH_ready (rs := [13]) (by kernel_rfl) (by simp) ?_
                refine AllReadyH.cons (by simp only [List.getElem?_toArray, List.getElem?_cons_succ, List.getElem?_cons_zero]; rfl) (fun K hK => ?_) AllReadyH.nil
                go_simp
                have kC : ((w9.alloc (.cells #[.string ⟨#[]⟩, .string ⟨#[]⟩] 26))).heap[w9.heap.size]? = some (.cells #[.string ⟨#[]⟩, .string ⟨#[]⟩] 26) := heap_alloc_new w9 _
                have kG0 : w8.heap.size ≤ w9.heap.size := Below.size kB
                replace kB : Below w8.heap.size w8 ((w9.alloc (.cells #[.string ⟨#[]⟩, .string ⟨#[]⟩] 26))) := kp_alloc kB _
                obtain ⟨W6, hW6⟩ : ∃ X, X = (w9.alloc (.cells #[.string ⟨#[]⟩, .string ⟨#[]⟩] 26)) := ⟨_, rfl⟩
                rw [← hW6] at kB kC  ⊢
                clear hW6
                obtain ⟨xb, hxb⟩ : ∃ X, X = w9.heap.size := ⟨_, rfl⟩
                have kG : w8.heap.size ≤ xb := by rw [hxb]; exact kG0
                rw [← hxb] at kC  ⊢
                clear hxb kG0
                refine hK.out _ _ kB (fun hHeld => ?_)
                clear hK K hHeld
                (try simp only [Act.put, List.setIfInBounds_toArray, List.set_cons_zero, List.set_cons_succ])
                refine wpAnyH_ready (rs := [14]) (by kernel_rfl) (by simp) ?_
                refine AllReadyH.cons (by simp only [List.getElem?_toArray, List.getElem?_cons_succ, List.getElem?_cons_zero]; rfl) (fun K hK => ?_) AllReadyH.nil
                have yc0 : W6.cell? ⟨xb, 0, none⟩ = some (.string ⟨#[]⟩) := by rw [cell_of_row _ _ 0 _ _ _ kC]; rfl
                have yc1 : W6.cell? ⟨xb, 1, none⟩ = some (.string ⟨#[]⟩) := by rw [cell_of_row _ _ 1 _ _ _ kC]; rfl
                have yf0 : W6.frozen? ⟨xb, 0, none⟩ = false := Lib.frozen_of_heap kC 0
                have yf1 : W6.frozen? ⟨xb, 1, none⟩ = false := Lib.frozen_of_heap kC 1
                go_simp
                have kD := set_heap _ xb 1 _ _ _ (.string (str Z)) (set_heap W6 xb 0 _ _ _ (.string (str A)) kC)
                replace kB := Below.setCell (Below.setCell kB (p := ⟨xb, 0, none⟩) kG (.string (str A))) (p := ⟨xb, 1, none⟩) kG (.string (str Z))
                clear yc0 yc1 yf0 yf1 kC
                refine hK.out _ _ kB (fun hHeld => ?_)
                clear hK K hHeld
                (try simp only [Act.put, List.setIfInBounds_toArray, List.set_cons_zero, List.set_cons_succ])
                refine tk9 15 kB ?_
                refine wpAnyH_done (by kernel_rfl) ?_ _
                refine NoPanic.normal ?_
                go_wp2_with fail
                go_meet
                exact ⟨xb, rfl, rfl, kB, kD⟩
              refine AllReadyH.cons (by simp only [List.getElem?_toArray, List.getElem?_cons_succ, List.getElem?_cons_zero]; rfl) (fun K hK => ?_) AllReadyH.nil
              go_simp
              have kC : ((w6.alloc (.cells #[.string ⟨#[]⟩, .string ⟨#[]⟩] 26))).heap[w6.heap.size]? = some (.cells #[.string ⟨#[]⟩, .string ⟨#[]⟩] 26) := heap_alloc_new w6 _
              replace r6 := r6.below (kp_alloc (Below.refl _ _) (.cells #[.string ⟨#[]⟩, .string ⟨#[]⟩] 26))
              have kG0 : w8.heap.size ≤ w6.heap.size := Below.size kB
              replace kB : Below w8.heap.size w8 ((w6.alloc (.cells #[.string ⟨#[]⟩, .string ⟨#[]⟩] 26))) := kp_alloc kB _
              obtain ⟨W6, hW6⟩ : ∃ X, X = (w6.alloc (.cells #[.string ⟨#[]⟩, .string ⟨#[]⟩] 26)) := ⟨_, rfl⟩
              rw [← hW6] at kB kC r6 ⊢
              clear hW6
              obtain ⟨xb, hxb⟩ : ∃ X, X = w6.heap.size := ⟨_, rfl⟩
              have kG : w8.heap.size ≤ xb := by rw [hxb]; exact kG0
              rw [← hxb] at kC  ⊢
              clear hxb kG0
              refine hK.out _ _ kB (fun hHeld => ?_)
              clear hK K hHeld
              (try simp only [Act.put, List.setIfInBounds_toArray, List.set_cons_zero, List.set_cons_succ])
              refine wpAnyH_ready (rs := [9]) (by kernel_rfl) (by simp) ?_
              refine AllReadyH.cons (by simp only [List.getElem?_toArray, List.getElem?_cons_succ, List.getElem?_cons_zero]; rfl) (fun K hK => ?_) AllReadyH.nil
              try go_simp
              refine (CC2.out _ _ kB r6).mono ?_
              rintro e w9 ⟨rfl, b9⟩
              replace kC := (b9.block xb (Array.getElem?_eq_some_iff.1 kC).1).trans kC
              replace kB := trans9 kB b9
              clear r6 b9
              refine hK.out _ _ kB (fun hHeld => ?_)
              clear hK K hHeld
              (try simp only [Act.put, List.setIfInBounds_toArray, List.set_cons_zero, List.set_cons_succ])
              refine tk9 10 kB ?_
              refine tk9 11 kB ?_
              refine tk9 12 kB ?_
              refine wpAnyH_ready (rs := [14]) (by kernel_rfl) (by simp) ?_
              refine AllReadyH.cons (by simp only [List.getElem?_toArray, List.getElem?_cons_succ, List.getElem?_cons_zero]; rfl) (fun K hK => ?_) AllReadyH.nil
              have yc0 : w9.cell? ⟨xb, 0, none⟩ = some (.string ⟨#[]⟩) := by rw [cell_of_row _ _ 0 _ _ _ kC]; rfl
              have yc1 : w9.cell? ⟨xb, 1, none⟩ = some (.string ⟨#[]⟩) := by rw [cell_of_row _ _ 1 _ _ _ kC]; rfl
              have yf0 : w9.frozen? ⟨xb, 0, none⟩ = false := Lib.frozen_of_heap kC 0
              have yf1 : w9.frozen? ⟨xb, 1, none⟩ = false := Lib.frozen_of_heap kC 1
              go_simp
              have kD := set_heap _ xb 1 _ _ _ (.string (str Z)) (set_heap w9 xb 0 _ _ _ (.string (str A)) kC)
              replace kB := Below.setCell (Below.setCell kB (p := ⟨xb, 0, none⟩) kG (.string (str A))) (p := ⟨xb, 1, none⟩) kG (.string (str Z))
              clear yc0 yc1 yf0 yf1 kC
              refine hK.out _ _ kB (fun hHeld => ?_)
              clear hK K hHeld
              (try simp only [Act.put, List.setIfInBounds_toArray, List.set_cons_zero, List.set_cons_succ])
              refine tk9 15 kB ?_
              refine wpAnyH_done (by kernel_rfl) ?_ _
              refine NoPanic.normal ?_
              go_wp2_with fail
              go_meet
              exact ⟨xb, rfl, rfl, kB, kD⟩
            refine AllReadyH.cons (by simp only [List.getElem?_toArray, List.getElem?_cons_succ, List.getElem?_cons_zero]; rfl) (fun K hK => ?_) AllReadyH.nil
            go_simp
            have kC : ((w5.alloc (.cells #[.string ⟨#[]⟩, .string ⟨#[]⟩] 26))).heap[w5.heap.size]? = some (.cells #[.string ⟨#[]⟩, .string ⟨#[]⟩] 26) := heap_alloc_new w5 _
            have kN : ∀ q, v5.ownBlock = some q → q ≠ w5.heap.size := fun q hq e => by have h1 := own_lt o5 q hq; omega
            replace o5 := own_alloc o5 (.cells #[.string ⟨#[]⟩, .string ⟨#[]⟩] 26)
            have kG0 : w8.heap.size ≤ w5.heap.size := Below.size kB
            replace kB : Below w8.heap.size w8 ((w5.alloc (.cells #[.string ⟨#[]⟩, .string ⟨#[]⟩] 26))) := kp_alloc kB _
            obtain ⟨W6, hW6⟩ : ∃ X, X = (w5.alloc (.cells #[.string ⟨#[]⟩, .string ⟨#[]⟩] 26)) := ⟨_, rfl⟩
            rw [← hW6] at kB kC o5 ⊢
            clear hW6
            obtain ⟨xb, hxb⟩ : ∃ X, X = w5.heap.size := ⟨_, rfl⟩
            have kG : w8.heap.size ≤ xb := by rw [hxb]; exact kG0
            rw [← hxb] at kC kN ⊢
            clear hxb kG0
            refine hK.out _ _ kB (fun hHeld => ?_)
            clear hK K hHeld
            (try simp only [Act.put, List.setIfInBounds_toArray, List.set_cons_zero, List.set_cons_succ])
            refine wpAnyH_ready (rs := [8]) (by kernel_rfl) (by simp) ?_
            refine AllReadyH.cons (by simp only [List.getElem?_toArray, List.getElem?_cons_succ, List.getElem?_cons_zero]; rfl) (fun K hK => ?_) AllReadyH.nil
            refine step_append_krow TS hkS (by rfl) (.tmp 69) (.tmp 72) (by rfl) _ _ _ (by rfl) o5 _ (L.take k) (by rfl) (F2.out _ (HRw.out.below kB)) (hone _) hl2 (Below.size kB) ?_
            intro v6 w6 o6 g6
            replace kC := (g6.block xb (Array.getElem?_eq_some_iff.1 kC).1 (fun e => kN xb e.symm rfl)).trans kC
            replace kB := Below.grown kB g6 (Below.size kB) (fun q hq => own_ge o5 q hq)
            have r6 := KOwn.row hkS o6
            clear o5 o6 g6 kN
            refine hK.out _ _ kB (fun hHeld => ?_)
            clear hK K hHeld
            (try simp only [Act.put, List.setIfInBounds_toArray, List.set_cons_zero, List.set_cons_succ])
            refine wpAnyH_ready (rs := [9]) (by kernel_rfl) (by simp) ?_
            refine AllReadyH.cons (by simp only [List.getElem?_toArray, List.getElem?_cons_succ, List.getElem?_cons_zero]; rfl) (fun K hK => ?_) AllReadyH.nil
            try go_simp
            refine (CC2.out _ _ kB r6).mono ?_
            rintro e w9 ⟨rfl, b9⟩
            replace kC := (b9.block xb (Array.getElem?_eq_some_iff.1 kC).1).trans kC
            replace kB := trans9 kB b9
            clear r6 b9
            refine hK.out _ _ kB (fun hHeld => ?_)
            clear hK K hHeld
            (try simp only [Act.put, List.setIfInBounds_toArray, List.set_cons_zero, List.set_cons_succ])
            refine tk9 10 kB ?_
            refine tk9 11 kB ?_
            refine tk9 12 kB ?_
            refine wpAnyH_ready (rs := [14]) (by kernel_rfl) (by simp) ?_
            refine AllReadyH.cons (by simp only [List.getElem?_toArray, List.getElem?_cons_succ, List.getElem?_cons_zero]; rfl) (fun K hK => ?_) AllReadyH.nil
            have yc0 : w9.cell? ⟨xb, 0, none⟩ = some (.string ⟨#[]⟩) := by rw [cell_of_row _ _ 0 _ _ _ kC]; rfl
            have yc1 : w9.cell? ⟨xb, 1, none⟩ = some (.string ⟨#[]⟩) := by rw [cell_of_row _ _ 1 _ _ _ kC]; rfl
            have yf0 : w9.frozen? ⟨xb, 0, none⟩ = false := Lib.frozen_of_heap kC 0
            have yf1 : w9.frozen? ⟨xb, 1, none⟩ = false := Lib.frozen_of_heap kC 1
            go_simp
            have kD := set_heap _ xb 1 _ _ _ (.string (str Z)) (set_heap w9 xb 0 _ _ _ (.string (str A)) kC)
            replace kB := Below.setCell (Below.setCell kB (p := ⟨xb, 0, none⟩) kG (.string (str A))) (p := ⟨xb, 1, none⟩) kG (.string (str Z))
            clear yc0 yc1 yf0 yf1 kC
            refine hK.out _ _ kB (fun hHeld => ?_)
            clear hK K hHeld
            (try simp only [Act.put, List.setIfInBounds_toArray, List.set_cons_zero, List.set_cons_succ])
            refine tk9 15 kB ?_
            refine wpAnyH_done (by kernel_rfl) ?_ _
            refine NoPanic.normal ?_
            go_wp2_with fail
            go_meet
            exact ⟨xb, rfl, rfl, kB, kD⟩
          refine AllReadyH.cons (by simp only [List.getElem?_toArray, List.getElem?_cons_succ, List.getElem?_cons_zero]; rfl) (fun K hK => ?_) AllReadyH.nil
          go_simp
          have kC : ((w8.alloc (.cells #[.string ⟨#[]⟩, .string ⟨#[]⟩] 26)).drew).heap[w8.heap.size]? = some (.cells #[.string ⟨#[]⟩, .string ⟨#[]⟩] 26) := heap_alloc_new w8 _
          have kG0 : w8.heap.size ≤ w8.heap.size := Nat.le_refl _
          replace kB : Below w8.heap.size w8 ((w8.alloc (.cells #[.string ⟨#[]⟩, .string ⟨#[]⟩] 26)).drew) := Below.drew (kp_alloc (Below.refl _ _) _)
          obtain ⟨W6, hW6⟩ : ∃ X, X = (w8.alloc (.cells #[.string ⟨#[]⟩, .string ⟨#[]⟩] 26)).drew := ⟨_, rfl⟩
          rw [← hW6] at kB kC  ⊢
          clear hW6
          obtain ⟨xb, hxb⟩ : ∃ X, X = w8.heap.size := ⟨_, rfl⟩
          have kG : w8.heap.size ≤ xb := by rw [hxb]; exact kG0
          rw [← hxb] at kC  ⊢
          clear hxb kG0
          refine hK.out _ _ kB (fun hHeld => ?_)
          clear hK K hHeld
          (try simp only [Act.put, List.setIfInBounds_toArray, List.set_cons_zero, List.set_cons_succ])
          refine wpAnyH_ready (rs := [4]) (by kernel_rfl) (by simp) ?_
          refine AllReadyH.cons (by simp only [List.getElem?_toArray, List.getElem?_cons_succ, List.getElem?_cons_zero]; rfl) (fun K hK => ?_) AllReadyH.nil
          have kx := (Array.getElem?_eq_some_iff.1 kC).1
          have kL := Below.size kB
          refine step_append_krow TS hkS (by rfl) (.const (.slice none 0 0)) (.tmp 68) (by rfl) (W6.heap.size) _ [] (by rfl) (KOwn.nil _ _ _ _ _) _ (L.drop k) (by rfl) (F1.out _ (HRw.out.below kB)) (hone _) hl1 (Nat.le_refl _) ?_
          intro v5 w5 o5 g5
          replace kC := (g5.block xb kx (fun e => by cases e)).trans kC
          have kN : ∀ q, v5.ownBlock = some q → q ≠ xb := fun q hq e => by have h1 := own_ge o5 q hq; omega
          have kR := g5.size
          replace kB := Below.grown kB g5 (Below.size kB) (fun q hq => by cases hq)
          simp only [List.nil_append] at o5
          clear g5 kx
          refine hK.out _ _ kB (fun hHeld => ?_)
          clear hK K hHeld
          (try simp only [Act.put, List.setIfInBounds_toArray, List.set_cons_zero, List.set_cons_succ])
          refine wpAnyH_ready (rs := [8]) (by kernel_rfl) (by simp) ?_
          refine AllReadyH.cons (by simp only [List.getElem?_toArray, List.getElem?_cons_succ, List.getElem?_cons_zero]; rfl) (fun K hK => ?_) AllReadyH.nil
          refine step_append_krow TS hkS (by rfl) (.tmp 69) (.tmp 72) (by rfl) _ _ _ (by rfl) o5 _ (L.take k) (by rfl) (F2.out _ (HRw.out.below kB)) (hone _) hl2 (kR) ?_
          intro v6 w6 o6 g6
          replace kC := (g6.block xb (Array.getElem?_eq_some_iff.1 kC).1 (fun e => kN xb e.symm rfl)).trans kC
          replace kB := Below.grown kB g6 (Below.size kB) (fun q hq => Nat.le_trans kL (own_ge o5 q hq))
          have r6 := KOwn.row hkS o6
          clear o5 o6 g6 kN kR kL
          refine hK.out _ _ kB (fun hHeld => ?_)
          clear hK K hHeld
          (try simp only [Act.put, List.setIfInBounds_toArray, List.set_cons_zero, List.set_cons_succ])
          refine wpAnyH_ready (rs := [9]) (by kernel_rfl) (by simp) ?_
          refine AllReadyH.cons (by simp only [List.getElem?_toArray, List.getElem?_cons_succ, List.getElem?_cons_zero]; rfl) (fun K hK => ?_) AllReadyH.nil
          try go_simp
          refine (CC2.out _ _ kB r6).mono ?_
          rintro e w9 ⟨rfl, b9⟩
          replace kC := (b9.block xb (Array.getElem?_eq_some_iff.1 kC).1).trans kC
          replace kB := trans9 kB b9
          clear r6 b9
          refine hK.out _ _ kB (fun hHeld => ?_)
          clear hK K hHeld
          (try simp only [Act.put, List.setIfInBounds_toArray, List.set_cons_zero, List.set_cons_succ])
          refine tk9 10 kB ?_
          refine tk9 11 kB ?_
          refine tk9 12 kB ?_
          refine wpAnyH_ready (rs := [14]) (by kernel_rfl) (by simp) ?_
          refine AllReadyH.cons (by simp only [List.getElem?_toArray, List.getElem?_cons_succ, List.getElem?_cons_zero]; rfl) (fun K hK => ?_) AllReadyH.nil
          have yc0 : w9.cell? ⟨xb, 0, none⟩ = some (.string ⟨#[]⟩) := by rw [cell_of_row _ _ 0 _ _ _ kC]; rfl
          have yc1 : w9.cell? ⟨xb, 1, none⟩ = some (.string ⟨#[]⟩) := by rw [cell_of_row _ _ 1 _ _ _ kC]; rfl
          have yf0 : w9.frozen? ⟨xb, 0, none⟩ = false := Lib.frozen_of_heap kC 0
          have yf1 : w9.frozen? ⟨xb, 1, none⟩ = false := Lib.frozen_of_heap kC 1
          go_simp
          have kD := set_heap _ xb 1 _ _ _ (.string (str Z)) (set_heap w9 xb 0 _ _ _ (.string (str A)) kC)
          replace kB := Below.setCell (Below.setCell kB (p := ⟨xb, 0, none⟩) kG (.string (str A))) (p := ⟨xb, 1, none⟩) kG (.string (str Z))
          clear yc0 yc1 yf0 yf1 kC
          refine hK.out _ _ kB (fun hHeld => ?_)
          clear hK K hHeld
          (try simp only [Act.put, List.setIfInBounds_toArray, List.set_cons_zero, List.set_cons_succ])
          refine tk9 15 kB ?_
          refine wpAnyH_done (by kernel_rfl) ?_ _
          refine NoPanic.normal ?_
          go_wp2_with fail
          go_meet
          exact ⟨xb, rfl, rfl, kB, kD⟩
        case rest =>
          obtain ⟨bc, rfl, rfl, HD⟩ := hcut
          have Na := (HD.out.1.block ba (Array.getElem?_eq_some_iff.1 HM8.out).1).trans HM8.out
          have Nb := (HD.out.1.block bb (Array.getElem?_eq_some_iff.1 HN8.out).1).trans HN8.out
          have ka0 : wc.cell? ⟨ba, 0, none⟩ = some (.string (str A)) := by rw [cell_of_row _ _ 0 _ _ _ Na]; rfl
          have ka1 : wc.cell? ⟨ba, 1, none⟩ = some (.string (str Z)) := by rw [cell_of_row _ _ 1 _ _ _ Na]; rfl
          have kb0 : wc.cell? ⟨bb, 0, none⟩ = some (.string (str A)) := by rw [cell_of_row _ _ 0 _ _ _ Nb]; rfl
          have kb1 : wc.cell? ⟨bb, 1, none⟩ = some (.string (str Z)) := by rw [cell_of_row _ _ 1 _ _ _ Nb]; rfl
          have kc0 : wc.cell? ⟨bc, 0, none⟩ = some (.string (str A)) := by rw [cell_of_row _ _ 0 _ _ _ HD.out.2]; rfl
          have kc1 : wc.cell? ⟨bc, 1, none⟩ = some (.string (str Z)) := by rw [cell_of_row _ _ 1 _ _ _ HD.out.2]; rfl
          have hq := eqlc_self
          have KE := Lib.hid (trans9 K8.out HD.out.1)
          clear Na Nb hu1 hu2
          go_wp2_with fail
          go_ret
          exact ⟨by simp, KE.out⟩

end Go.Proofs.YtgdhfmcipaoapaaDoor
