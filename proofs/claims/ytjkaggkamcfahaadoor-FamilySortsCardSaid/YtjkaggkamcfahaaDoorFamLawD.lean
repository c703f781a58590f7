/- The walk of the law FamilySorts. -/
import Derived.Test.YtjkaggkamcfahaaDoorFamK
import Derived.Test.YtjkaggkamcfahaaDoorFamS
import Derived.Test.YtjkaggkamcfahaaDoorRefFamA
import Derived.Deep.DeepCutAuto
set_option maxRecDepth 100000
set_option linter.unusedVariables false
set_option linter.unusedSimpArgs false
namespace Go.Proofs.YtjkaggkamcfahaaDoor
open Go.RowKit Dc
attribute [local go_sem ↓] Go.wp_at_zero Go.wp_at_succ

theorem tmod_s (c : Int) (n : Nat) (h : 0 ≤ c) (hn : 0 < n) : ∃ k : Nat, k < n ∧ c.tmod (n : Int) = (k : Int) ∧ c % (n : Int) = (k : Int) := by
  have h1 : c.tmod (n : Int) = c % (n : Int) := Int.tmod_eq_emod_of_nonneg h
  have h2 := Int.emod_nonneg c (show (n : Int) ≠ 0 by omega)
  have h3 := Int.emod_lt_of_pos c (show 0 < (n : Int) by omega)
  exact ⟨(c % (n : Int)).toNat, by omega, by omega, by omega⟩
theorem turn_perm (L : List Ps) (k : Nat) : (pts (L.drop k ++ L.take k)).Perm (pts L) := by
  have h : (L.drop k ++ L.take k).Perm L := by
    have := List.perm_append_comm (l₁ := L.drop k) (l₂ := L.take k)
    rwa [List.take_append_drop] at this
  exact h.map _
/-- a row of one's own, its labels readable -/
theorem own_pt {w X : World} {base : Nat} {v : Value} {R : List Ps} (h : PtOwn X base v R) (hin : ∀ x ∈ R, PsIn w x) (hb : Below w.heap.size w X) : PtRow X v R := ⟨KOwn.row encP_len h, fun x hx => ⟨(hin x hx).1.below hb, (hin x hx).2⟩⟩
theorem grown_cells {w w' : World} {g n cap : Nat} (h : w.grownBy w' (Value.slice (some ⟨g, 0, none⟩) n cap).ownBlock) :
    (∀ b o, b < w.heap.size → b ≠ g → w'.cell? ⟨b, o, none⟩ = w.cell? ⟨b, o, none⟩) ∧ (∀ b o, b < w.heap.size → b ≠ g → w'.frozen? ⟨b, o, none⟩ = w.frozen? ⟨b, o, none⟩) :=
  ⟨fun b o hb hne => World.cell?_of_block (a := ⟨b, o, none⟩) (h.block b hb (fun e => hne (Option.some.inj e))), fun b o hb hne => World.frozen?_of_block (a := ⟨b, o, none⟩) (h.block b hb (fun e => hne (Option.some.inj e)))⟩
theorem own_some {X : World} {base : Nat} {v : Value} {R : List Ps} (h : PtOwn X base v R) (hR : 0 < R.length) : ∃ g n cap, v = .slice (some ⟨g, 0, none⟩) n cap ∧ base ≤ g ∧ g < X.heap.size := by
  rcases h.2 with ⟨_, h0⟩ | ⟨g, cap, cur, rfl, hg, hc, _⟩
  · omega
  · exact ⟨g, _, cap, rfl, hg, (Array.getElem?_eq_some_iff.1 hc).1⟩
theorem one_pt {X : World} {g : Nat} {x : Ps} (hg : g < X.heap.size) (hc : ∀ j u, (encP x)[j]? = some u → X.cell? ⟨g, j, none⟩ = some u) : KRow encP 9 X (.slice (some ⟨g, 0, none⟩) 1 1) [x] :=
  ⟨_, 1, rfl, Nat.le_refl _, by unfold maxLen; omega, (by rintro ⟨⟩), fun _ => ⟨g, 0, rfl, hg, fun i y hy j u hu => by
    match i, hy with
    | 0, hy =>
      obtain rfl : x = y := by simpa using hy
      have := hc j u hu
      simpa using this
    | i + 1, hy => simp at hy⟩⟩
theorem enc_all {x : Ps} {P : Nat → Value → Prop} (h0 : P 0 x.1) (h1 : P 1 (.int .i64 x.2.ro)) (h2 : P 2 (.bool x.2.inf)) (h3 : P 3 (.int .i64 x.2.bm)) (h4 : P 4 (.int .i64 x.2.bs)) (h5 : P 5 (.int .i64 x.2.m)) (h6 : P 6 (.int .i64 x.2.s)) (h7 : P 7 (.bool x.2.td)) (h8 : P 8 (.int .i64 x.2.ti)) :
    ∀ j u, (encP x)[j]? = some u → P j u := fun j u hu => by
  unfold encP at hu
  match j, hu with
  | 0, hu => obtain rfl := Option.some.inj hu; exact h0
  | 1, hu => obtain rfl := Option.some.inj hu; exact h1
  | 2, hu => obtain rfl := Option.some.inj hu; exact h2
  | 3, hu => obtain rfl := Option.some.inj hu; exact h3
  | 4, hu => obtain rfl := Option.some.inj hu; exact h4
  | 5, hu => obtain rfl := Option.some.inj hu; exact h5
  | 6, hu => obtain rfl := Option.some.inj hu; exact h6
  | 7, hu => obtain rfl := Option.some.inj hu; exact h7
  | 8, hu => obtain rfl := Option.some.inj hu; exact h8
  | j + 9, hu => simp at hu

theorem FamAt.set5 {w : World} {b : Nat} {h h0 : Hd} {v v0 : Value} (k : FamAt w b h0 v0) :
    FamAt (((((w.setCell ⟨b, 0, none⟩ (.string (str h.n))).setCell ⟨b, 1, none⟩ (.int .i64 h.k)).setCell ⟨b, 2, none⟩ (.string (str h.u))).setCell ⟨b, 3, none⟩ (.string (str h.h))).setCell ⟨b, 4, none⟩ v) b h v := by
  have h0 := k.c0
  have h1 := k.c1
  have h2 := k.c2
  have h3 := k.c3
  have h4 := k.c4
  exact ⟨by simp [go_sem, h0, h1, h2, h3, h4], by simp [go_sem, h0, h1, h2, h3, h4], by simp [go_sem, h0, h1, h2, h3, h4], by simp [go_sem, h0, h1, h2, h3, h4], by simp [go_sem, h0, h1, h2, h3, h4], fun o => by simpa using k.fr o, by simpa [World.setCell] using k.lt⟩
theorem res_early {W w : World} {b z : Nat} {h h0 : Hd} {A : Option Addr} {n cap : Nat} {v0 : Value} {M : List Ps} {R : List Pt} (hb : Below W.heap.size W w) (keep : PtKeep w z (.slice A n cap) M) (hM : pts M = R) (k : FamAt w b h0 v0) (hW : W.heap.size ≤ b) (hz : b < z) :
    Below W.heap.size W (((((w.setCell ⟨b, 0, none⟩ (.string (str h.n))).setCell ⟨b, 1, none⟩ (.int .i64 h.k)).setCell ⟨b, 2, none⟩ (.string (str h.u))).setCell ⟨b, 3, none⟩ (.string (str h.h))).setCell ⟨b, 4, none⟩ (.slice A n cap)) ∧
      FamAt (((((w.setCell ⟨b, 0, none⟩ (.string (str h.n))).setCell ⟨b, 1, none⟩ (.int .i64 h.k)).setCell ⟨b, 2, none⟩ (.string (str h.u))).setCell ⟨b, 3, none⟩ (.string (str h.h))).setCell ⟨b, 4, none⟩ (.slice A n cap)) b h (.slice A n cap) ∧
      PtRow (((((w.setCell ⟨b, 0, none⟩ (.string (str h.n))).setCell ⟨b, 1, none⟩ (.int .i64 h.k)).setCell ⟨b, 2, none⟩ (.string (str h.u))).setCell ⟨b, 3, none⟩ (.string (str h.h))).setCell ⟨b, 4, none⟩ (.slice A n cap)) (.slice A n cap) M ∧ pts M = R :=
  ⟨((((hb.setCell hW _).setCell hW _).setCell hW _).setCell hW _).setCell hW _, k.set5, (((((keep.setOld hz).setOld hz).setOld hz).setOld hz).setOld hz).row, hM⟩

set_option maxHeartbeats 32000000 in
theorem fsorts_walk (h : Hd) (L : List Ps) (v : Value) (turn : Int) (w : World) (hv : PtRow w v L) (t0 : 0 ≤ turn) (t1 : turn ≤ 255) (hT : FamT w) :
    Calls Tryd.prog 3 #[famv h v, .int .u8 turn] w fun e w' => e = .returned (.bool true) ∧ Below w.heap.size w w' := by
  have k0 := kp_alloc (Below.refl w.heap.size w) (.cells (famc h v) 26)
  have F0 := Lib.hid (FamAt.new w h v 26)
  have hk := Lib.hid (fknown_calls _ (hT.below k0))
  have HV := Lib.hid (fun X (hX : Below w.heap.size w X) => hv.below hX)
  obtain ⟨A, cap, hve, hlc, hcm, _⟩ := hv.1
  have K0 := Lib.hid k0
  obtain ⟨n, kk, u, hh⟩ := h
  have HV1 := Lib.hid hv
  unfold maxLen at hcm
  subst hve
  clear k0 hT hv
  go_enter Tryd.func3, Tryd.ntmps3
  go_wp2_with fail
  refine hk.out.mono ?_; rintro e w1 ⟨rfl, b1⟩
  have F1 := Lib.hid (F0.out.below b1)
  have B1 := Lib.hid (trans9 K0.out b1)
  have hsh := Lib.hid (fshort_calls ⟨n, kk, u, hh⟩ L _ w1 (HV.out _ B1.out))
  obtain ⟨x0, x1, x2, x3, x4, xf, xl⟩ := F1.out
  dsimp only at x0 x1 x2 x3 x4
  clear hk b1 F0 K0
  go_wp2_with fail
  refine hsh.out.mono ?_; rintro e w2 ⟨hq, b2⟩
  have F2 := Lib.hid (F1.out.below b2)
  have B2 := Lib.hid (trans9 B1.out b2)
  clear x0 x1 x2 x3 x4 xf xl hsh b2 F1 B1
  obtain ⟨x0, x1, x2, x3, x4, xf, xl⟩ := F2.out
  dsimp only at x0 x1 x2 x3 x4
  rcases hq.ways with rfl | ⟨rfl, hL40, hl12⟩
  · clear hq
    go_wp2
    go_ret
    exact ⟨rfl, B2.out⟩
  clear hq
  by_cases hz : L.length = 0
  · have dz : ((L.length : Int) == 0) = true := beq_iff_eq.2 (by omega)
    have dz2 : (L.length == 0) = true := beq_iff_eq.2 hz
    clear hz
    go_wp2
    go_ret
    exact ⟨rfl, B2.out⟩
  have dz : ((L.length : Int) == 0) = false := beq_eq_false_iff_ne.2 (by omega)
  have dz2 : (L.length == 0) = false := beq_eq_false_iff_ne.2 hz
  have hpos : 0 < L.length := by omega
  obtain ⟨k, hkl, ht1, ht2⟩ := tmod_s turn L.length t0 hpos
  have hw2 : IntKind.i64.wrap turn = turn := IntWalk.i64_in _ (by omega)
  have hw3 : IntKind.i64.wrap (k : Int) = (k : Int) := IntWalk.i64_in _ (by omega)
  have hnz : ¬ (L.length : Int) = 0 := by omega
  have hsA := Lib.hid (fsort_any ⟨n, kk, u, hh⟩ L _ w2 (HV.out _ B2.out) (by omega) (fun x hx => by have := hl12 x hx; omega))
  obtain ⟨D, hD⟩ : ∃ D, D = psrt (pts L) := ⟨_, rfl⟩
  rw [← hD] at hsA
  obtain ⟨h', hh'⟩ : ∃ h', h' = hdO D ⟨n, kk, u, hh⟩ := ⟨_, rfl⟩
  rw [← hh'] at hsA
  have HD := Lib.hid hD
  have HH' := Lib.hid hh'
  have HL12 := Lib.hid hl12
  have hdl : (pts L).length = L.length := by simp [pts]
  have HDL := Lib.hid hdl
  clear hD hh' hl12 hz hdl
  obtain ⟨n', kk', u', hh'⟩ := h'
  go_wp2_with fail
  refine hsA.out.mono ?_; rintro e w3 ⟨⟨A3, n3, cap3, M3, rfl, keep3, hM3⟩, b3⟩
  have bA := kp_alloc b3 (.cells (famc ⟨n', kk', u', hh'⟩ (.slice A3 n3 cap3)) 26)
  have bA1 := kp_alloc (Below.refl w3.heap.size w3) (.cells (famc ⟨n', kk', u', hh'⟩ (.slice A3 n3 cap3)) 26)
  have F4 := Lib.hid (F2.out.below bA)
  have G4 := Lib.hid (FamAt.new w3 ⟨n', kk', u', hh'⟩ (.slice A3 n3 cap3) 26)
  have R4 := Lib.hid (keep3.row.below bA1)
  have B4 := Lib.hid (trans9 B2.out bA)
  have HM3 := Lib.hid hM3
  clear x0 x1 x2 x3 x4 xf xl hsA b3 bA bA1 keep3 F2 B2 hM3
  obtain ⟨x0, x1, x2, x3, x4, xf, xl⟩ := F4.out
  dsimp only at x0 x1 x2 x3 x4
  go_upto_region 7 with fail
  obtain ⟨W4, hW4⟩ : ∃ W4 : World, W4 = w3.alloc (.cells #[.string (str n'), .int .i64 kk', .string (str u'), .string (str hh'), .slice A3 n3 cap3] 26) := ⟨_, rfl⟩
  rw [← hW4] at F4 G4 R4 B4 x0 x1 x2 x3 x4 xf xl ⊢
  generalize w3.heap.size = ga at *
  clear hW4
  obtain ⟨u1, eq1, row1⟩ := kr_from ptTy HV1.out.1 k (by omega)
  obtain ⟨u2, eq2, row2⟩ := kr_to ptTy HV1.out.1 k (by omega)
  have HU1 := Lib.hid (fun z (hz : Below W4.heap.size W4 z) => row1 z (HV.out z (trans9 B4.out hz)).1)
  have HU2 := Lib.hid (fun z (hz : Below W4.heap.size W4 z) => row2 z (HV.out z (trans9 B4.out hz)).1)
  have HIN := Lib.hid (HV.out _ B4.out).2
  have hone1 : ∀ x ∈ L.drop k, ∀ u ∈ encP x, u.oneCell' = true := fun x hx => encP_one (HIN.out x (List.mem_of_mem_drop hx))
  have hone2 : ∀ x ∈ L.take k, ∀ u ∈ encP x, u.oneCell' = true := fun x hx => encP_one (HIN.out x (List.mem_of_mem_take hx))
  have HO1 := Lib.hid hone1
  have HO2 := Lib.hid hone2
  have hlt0 : ([] : List Ps).length + (L.drop k).length ≤ 2000 := by rw [List.length_drop]; simp; omega
  have hlt1 : (L.drop k).length + (L.take k).length ≤ 2000 := by rw [List.length_drop, List.length_take]; omega
  have hsB := Lib.hid (fun X (hX : Below W4.heap.size W4 X) v (ho : PtOwn X W4.heap.size v (L.drop k ++ L.take k)) => fsort_any ⟨n, kk, u, hh⟩ _ v X (own_pt ho (fun x hx => HIN.out x (by
    rcases List.mem_append.1 hx with h | h
    · exact List.mem_of_mem_drop h
    · exact List.mem_of_mem_take h)) hX) (by rw [List.length_append, List.length_drop, List.length_take]; omega) (fun x hx => by
    have := HL12.out x (by
      rcases List.mem_append.1 hx with h | h
      · exact List.mem_of_mem_drop h
      · exact List.mem_of_mem_take h)
    omega))
  rw [psrt_perm (turn_perm L k), ← HD.out, ← HH'.out] at hsB
  have hX : ∀ o v, W4.cell? ⟨w.heap.size, o, none⟩ = some v → ∀ z, Below W4.heap.size W4 z → z.cell? ⟨w.heap.size, o, none⟩ = some v := fun o v h z hz => (hz.cell (p := ⟨w.heap.size, o, none⟩) xl).trans h
  have hk0 : (0 : Int) ≤ (k : Int) := by omega
  have hk2 : (k : Int) ≤ (L.length : Int) := by omega
  clear row1 row2 hone1 hone2
  go_cut [8, 9] (fun s8 s9 wx => ∃ g A n cap M, s8 = .pointer (some ⟨g, 0, none⟩) ∧ s9 = .bool D.isSome ∧ Below W4.heap.size W4 wx ∧ FamAt wx g ⟨n', kk', u', hh'⟩ (.slice A n cap) ∧ PtRow wx (.slice A n cap) M ∧ pts M = D.getD [])
  case first =>
    have r0 := hX _ _ x0
    have r1 := hX _ _ x1
    have r2 := hX _ _ x2
    have r3 := hX _ _ x3
    have r4 := hX _ _ x4
    have s4 : W4.heap.size < W4.heap.size + 1 := Nat.lt_succ_self _
    clear x0 x1 x2 x3 x4 xf xl hX
    go_region_held3 (fun z => Below W4.heap.size W4 z)
      (((repeat' first | assumption | exact Below.refl _ _ | exact Nat.le_refl _ | apply kp_alloc | apply kp_set | apply Below.drew | exact Below.size (B := W4.heap.size) (by assumption) | omega); done))
      ((first
        | (refine step_append_krow ptTy encP_len (by rfl) (.const (.slice none 0 0)) (.tmp 43) (by rfl) _ _ [] (by rfl) (KOwn.nil _ _ _ _ _) _ (L.drop k) (by rfl) (HU1.out _ (by (repeat' first | assumption | exact Below.refl _ _ | exact Nat.le_refl _ | apply kp_alloc | apply kp_set | apply Below.drew | omega))) HO1.out hlt0 (Nat.le_refl _) ?_; intro v5 w5 o5 g5; have k5 : Below W4.heap.size W4 w5 := Below.grown (by (repeat' first | assumption | exact Below.refl _ _ | exact Nat.le_refl _ | apply kp_alloc | apply kp_set | apply Below.drew | omega)) g5 (Below.size (by (repeat' first | assumption | exact Below.refl _ _ | exact Nat.le_refl _ | apply kp_alloc | apply kp_set | apply Below.drew | omega))) (fun q hq => by cases hq); obtain ⟨c5, f5⟩ := bcell (Below.grown (Below.refl _ _) g5 (Nat.le_refl _) (fun q hq => by cases hq)); have l5 := fun b (hb : b < _) => Nat.lt_of_lt_of_le hb g5.size; obtain ⟨q5, n5', cap5, rfl, hq5, hq5l⟩ := own_some o5 (by simp; omega); have n5 := fun b (hb : b < _) => Nat.ne_of_lt (Nat.lt_of_lt_of_le hb hq5); have m5 : w5.heap.size ≠ q5 := Nat.ne_of_gt hq5l; have s5 : w5.heap.size < w5.heap.size + 1 := Nat.lt_succ_self _; have hq54 : W4.heap.size ≤ q5 := Nat.le_trans (show W4.heap.size ≤ _ from Below.size (B := W4.heap.size) (by (repeat' first | assumption | exact Below.refl _ _ | exact Nat.le_refl _ | apply kp_alloc | apply kp_set | apply Below.drew | omega))) hq5; have o5 := KOwn.mono (base' := W4.heap.size) o5 (Below.size (B := W4.heap.size) (by (repeat' first | assumption | exact Below.refl _ _ | exact Nat.le_refl _ | apply kp_alloc | apply kp_set | apply Below.drew | omega))))
        | (refine step_append_krow ptTy encP_len (by rfl) (.tmp 44) (.tmp 48) (by rfl) W4.heap.size _ (L.drop k) (by rfl) (by first | exact o5 | exact own_drew o5 | exact own_alloc o5 _ | exact own_drew (own_alloc o5 _) | exact own_alloc (own_drew o5) _) _ (L.take k) (by rfl) (HU2.out _ (by (repeat' first | assumption | exact Below.refl _ _ | exact Nat.le_refl _ | apply kp_alloc | apply kp_set | apply Below.drew | omega))) HO2.out hlt1 (Below.size (by (repeat' first | assumption | exact Below.refl _ _ | exact Nat.le_refl _ | apply kp_alloc | apply kp_set | apply Below.drew | omega))) ?_; intro v6 w6 o6 g6; have k6 : Below W4.heap.size W4 w6 := Below.grown (by (repeat' first | assumption | exact Below.refl _ _ | exact Nat.le_refl _ | apply kp_alloc | apply kp_set | apply Below.drew | omega)) g6 (Below.size (by (repeat' first | assumption | exact Below.refl _ _ | exact Nat.le_refl _ | apply kp_alloc | apply kp_set | apply Below.drew | omega))) (fun q hq => by cases hq; exact hq54); have s6 : w6.heap.size < w6.heap.size + 1 := Nat.lt_succ_self _; obtain ⟨c6, f6⟩ := grown_cells g6; have l6 := fun b (hb : b < _) => Nat.lt_of_lt_of_le hb g6.size; have l65 := fun b (hb : b < w5.heap.size) => Nat.lt_of_lt_of_le hb (Nat.le_trans (Below.size (B := w5.heap.size) (by (repeat' first | exact Below.refl _ _ | apply kp_alloc | apply Below.drew))) g6.size); have l64 := fun b hb => l65 b (l5 b hb); clear l65; obtain ⟨A6, cap6, he6, _⟩ := KOwn.row encP_len o6; obtain ⟨n6, hn6⟩ : ∃ n6, (L.drop k ++ L.take k).length = n6 := ⟨_, rfl⟩; rw [hn6] at he6; clear hn6; subst he6)
        | (go_at_call 9; refine (hsB.out _ (by (repeat' first | assumption | exact Below.refl _ _ | exact Nat.le_refl _ | apply kp_alloc | apply kp_set | apply Below.drew | omega)) _ (by first | exact o6 | exact own_drew o6 | exact own_alloc o6 _ | exact own_drew (own_alloc o6 _) | (trace_state; fail))).mono ?_; rintro e w7 ⟨⟨A7, n7, cap7, M7, rfl, keep7, hM7⟩, b7⟩; have k7 : Below W4.heap.size W4 w7 := (by refine trans9 ?_ b7; (repeat' first | assumption | exact Below.refl _ _ | exact Nat.le_refl _ | apply kp_alloc | apply kp_set | apply Below.drew | omega)); obtain ⟨c7, f7⟩ := bcell b7; have l7 := fun b (hb : b < _) => Nat.lt_of_lt_of_le hb b7.size; skip)))
    all_goals
      go_wp2_with fail
      go_meet
      first
        | exact ⟨_, _, _, _, _, rfl, rfl, kp_alloc k7 _, FamAt.new _ ⟨n', kk', u', hh'⟩ _ _, keep7.row.below (kp_alloc (Below.refl _ _) _), hM7⟩
        | (refine ⟨_, _, _, _, _, rfl, rfl, res_early (h := ⟨n', kk', u', hh'⟩) (h0 := ⟨[], 0, [], []⟩) (v0 := .slice none 0 0) k7 keep7 hM7 ⟨?_, ?_, ?_, ?_, ?_, fun o => ?_, ?_⟩ ?_ ?_⟩ <;> first | (go_simp; done) | exact Nat.le_refl _ | exact k6.size | exact k5.size | exact l7 _ (by go_simp) | exact l6 _ (by go_simp) | exact l64 _ (by go_simp) | exact l7 _ (l6 _ (by go_simp)) | exact l7 _ (l64 _ (by go_simp)) | (simp; done) | omega)
  case rest =>
    obtain ⟨gb, Ab, nb, capb, Mb, rfl, rfl, bG, FB, RB, hMb⟩ := hcut
    have hz4 := bG.size
    have F7 := Lib.hid (F4.out.below bG)
    have G7 := Lib.hid (G4.out.below bG)
    have R7 := Lib.hid (R4.out.below bG)
    have H7 := Lib.hid FB
    have S7 := Lib.hid RB
    have B7 := Lib.hid (trans9 B4.out bG)
    have HMb := Lib.hid hMb
    clear x0 x1 x2 x3 x4 xf xl hX hsB HU1 HU2 HO1 HO2 hlt0 hlt1 eq1 eq2 bG FB RB hMb HIN F4 G4 R4 B4 hz4 hw3 ht1 ht2
    generalize wc = W7 at *
    obtain ⟨x0, x1, x2, x3, x4, xf, xl⟩ := F7.out
    dsimp only at x0 x1 x2 x3 x4
    obtain ⟨A', cap', he, _, _, _, hrow0⟩ := HV1.out.1
    simp only [Value.slice.injEq] at he
    obtain ⟨hA, _, hc⟩ := he
    subst hA hc
    obtain ⟨x, hx, hxp⟩ := ps_get hkl
    have HIN := Lib.hid (HV.out _ B7.out).2
    have hxm := List.mem_of_getElem? hx
    have hlt2 : ([] : List Ps).length + L.length ≤ 2000 := by simp; omega
    have hlt3 : L.length + ([x] : List Ps).length ≤ 2000 := by simp; omega
    have hL0 : 0 < L.length := by omega
    have hone3 := Lib.hid (fun y (hy : y ∈ L) => encP_one (HIN.out y hy))
    have hone4 := Lib.hid (show ∀ y ∈ [x], ∀ u ∈ encP y, u.oneCell' = true from fun y hy => by
      obtain rfl : y = x := by simpa using hy
      exact encP_one (HIN.out y hxm))
    have HU3 := Lib.hid (fun z (hz : Below W7.heap.size W7 z) => (HV.out z (trans9 B7.out hz)).1)
    have hsC := Lib.hid (fun X (hX : Below W7.heap.size W7 X) v (ho : PtOwn X W7.heap.size v (L ++ [x])) => fsort_any ⟨n, kk, u, hh⟩ _ v X (own_pt ho (fun y hy => HIN.out y (by
      rcases List.mem_append.1 hy with h | h
      · exact h
      · obtain rfl : y = x := by simpa using h
        exact hxm)) hX) (by rw [List.length_append]; simp; omega) (fun y hy => by
      have := HL12.out y (by
        rcases List.mem_append.1 hy with h | h
        · exact h
        · obtain rfl : y = x := by simpa using h
          exact hxm)
      omega))
    rw [show psrt (pts (L ++ [x])) = none by
      have : pts (L ++ [x]) = pts L ++ [x.2] := by simp [pts]
      rw [this]
      exact psrt_dup (List.mem_map_of_mem hxm)] at hsC
    have hkI : (k : Int) < (L.length : Int) := by omega
    obtain ⟨b, off, rfl, hbs, hcc⟩ := hrow0 hL0
    obtain ⟨c0, c1, c2, c3, c4, c5, c6, c7, c8⟩ := pr_cells hcc hx
    obtain ⟨AX, nX, capX, hx1⟩ : ∃ A1 n1 cap1, x.1 = .slice A1 n1 cap1 := by obtain ⟨_, _, h, _⟩ := (HIN.out x hxm).1; exact ⟨_, _, _, h⟩
    have henc := Lib.hid (fun (X : World) (g : Nat) => enc_all (x := x) (P := fun j u => X.cell? ⟨g, j, none⟩ = some u))
    rw [hx1] at henc c0
    have hbz : b < W7.heap.size := Nat.lt_of_lt_of_le hbs B7.out.size
    have hC : ∀ o v, w.cell? ⟨b, o, none⟩ = some v → ∀ z, Below W7.heap.size W7 z → z.cell? ⟨b, o, none⟩ = some v := fun o v h z hz => (hz.cell (p := ⟨b, o, none⟩) hbz).trans ((B7.out.cell (p := ⟨b, o, none⟩) hbs).trans h)
    have hX : ∀ o v, W7.cell? ⟨w.heap.size, o, none⟩ = some v → ∀ z, Below W7.heap.size W7 z → z.cell? ⟨w.heap.size, o, none⟩ = some v := fun o v h z hz => (hz.cell (p := ⟨w.heap.size, o, none⟩) xl).trans h
    clear hrow0 hcc hx hxp hx1
    go_upto_region 8 with fail
    go_cut [10, 11] (fun s10 s11 wx => ∃ g : Nat, s10 = .pointer (some ⟨g, 0, none⟩) ∧ s11 = .bool false ∧ Below W7.heap.size W7 wx)
    case first =>
      have r0 := hX _ _ x0
      have r1 := hX _ _ x1
      have r2 := hX _ _ x2
      have r3 := hX _ _ x3
      have r4 := hX _ _ x4
      have y0 := hC _ _ c0
      have y1 := hC _ _ c1
      have y2 := hC _ _ c2
      have y3 := hC _ _ c3
      have y4 := hC _ _ c4
      have y5 := hC _ _ c5
      have y6 := hC _ _ c6
      have y7 := hC _ _ c7
      have y8 := hC _ _ c8
      have s4 : W7.heap.size < W7.heap.size + 1 := Nat.lt_succ_self _
      have s4' : W7.heap.size < W7.heap.size + 1 + 1 := by omega
      have s4'' : W7.heap.size + 1 < W7.heap.size + 1 + 1 := by omega
      clear x0 x1 x2 x3 x4 xf xl hX c0 c1 c2 c3 c4 c5 c6 c7 c8 hC hbs hbz
      obtain ⟨xv, xp⟩ := x
      obtain ⟨pl, ro, inf, bm, bs, m, s, td, ti⟩ := xp
      dsimp only at y1 y2 y3 y4 y5 y6 y7 y8 henc
      go_region_held3 (fun z => Below W7.heap.size W7 z)
        (((repeat' first | assumption | exact Below.refl _ _ | exact Nat.le_refl _ | apply kp_alloc | apply kp_set | apply Below.drew | exact Below.size (B := W7.heap.size) (by assumption) | omega); done))
        ((first
          | (refine step_append_krow ptTy encP_len (by rfl) (.const (.slice none 0 0)) (.tmp 58) (by rfl) _ _ [] (by rfl) (KOwn.nil _ _ _ _ _) _ L (by rfl) (HU3.out _ (by (repeat' first | assumption | exact Below.refl _ _ | exact Nat.le_refl _ | apply kp_alloc | apply kp_set | apply Below.drew | omega))) hone3.out hlt2 (Nat.le_refl _) ?_; intro v5 w5 o5 g5; have k5 : Below W7.heap.size W7 w5 := Below.grown (by (repeat' first | assumption | exact Below.refl _ _ | exact Nat.le_refl _ | apply kp_alloc | apply kp_set | apply Below.drew | omega)) g5 (Below.size (by (repeat' first | assumption | exact Below.refl _ _ | exact Nat.le_refl _ | apply kp_alloc | apply kp_set | apply Below.drew | omega))) (fun q hq => by cases hq); obtain ⟨c5, f5⟩ := bcell (Below.grown (Below.refl _ _) g5 (Nat.le_refl _) (fun q hq => by cases hq)); have l5 := fun b (hb : b < _) => Nat.lt_of_lt_of_le hb g5.size; obtain ⟨q5, n5', cap5, rfl, hq5, hq5l⟩ := own_some o5 (by simp; omega); have n5 := fun b (hb : b < _) => Nat.ne_of_lt (Nat.lt_of_lt_of_le hb hq5); have m5 : w5.heap.size ≠ q5 := Nat.ne_of_gt hq5l; have m5' : w5.heap.size + 1 ≠ q5 := (by omega); have s5 : w5.heap.size < w5.heap.size + 1 := Nat.lt_succ_self _; have s5' : w5.heap.size < w5.heap.size + 1 + 1 := (by omega); have s5'' : w5.heap.size + 1 < w5.heap.size + 1 + 1 := (by omega); have l5' := fun b (hb : b < _) => Nat.lt_succ_of_lt (Nat.lt_of_lt_of_le hb g5.size); have hq54 : W7.heap.size ≤ q5 := Nat.le_trans (show W7.heap.size ≤ _ from Below.size (B := W7.heap.size) (by (repeat' first | assumption | exact Below.refl _ _ | exact Nat.le_refl _ | apply kp_alloc | apply kp_set | apply Below.drew | omega))) hq5; have o5 := KOwn.mono (base' := W7.heap.size) o5 (Below.size (B := W7.heap.size) (by (repeat' first | assumption | exact Below.refl _ _ | exact Nat.le_refl _ | apply kp_alloc | apply kp_set | apply Below.drew | omega))))
          | (refine step_append_krow ptTy encP_len (by rfl) (.tmp 59) (.tmp 65) (by rfl) W7.heap.size _ L (by rfl) (by first | exact o5 | exact own_alloc o5 _ | exact own_alloc (own_alloc o5 _) _ | exact own_drew o5 | exact own_drew (own_alloc o5 _)) _ [(xv, ⟨pl, ro, inf, bm, bs, m, s, td, ti⟩)] (by rfl) (one_pt (by go_simp) (henc.out _ _ (by go_simp) (by go_simp) (by go_simp) (by go_simp) (by go_simp) (by go_simp) (by go_simp) (by go_simp) (by go_simp))) hone4.out hlt3 (Below.size (by (repeat' first | assumption | exact Below.refl _ _ | exact Nat.le_refl _ | apply kp_alloc | apply kp_set | apply Below.drew | omega))) ?_; intro v6 w6 o6 g6; have k6 : Below W7.heap.size W7 w6 := Below.grown (by (repeat' first | assumption | exact Below.refl _ _ | exact Nat.le_refl _ | apply kp_alloc | apply kp_set | apply Below.drew | omega)) g6 (Below.size (by (repeat' first | assumption | exact Below.refl _ _ | exact Nat.le_refl _ | apply kp_alloc | apply kp_set | apply Below.drew | omega))) (fun q hq => by cases hq; exact hq54); have s6 : w6.heap.size < w6.heap.size + 1 := Nat.lt_succ_self _; obtain ⟨c6, f6⟩ := grown_cells g6; have l6 := fun b (hb : b < _) => Nat.lt_of_lt_of_le hb g6.size; have l65 := fun b (hb : b < w5.heap.size) => Nat.lt_of_lt_of_le hb (Nat.le_trans (Below.size (B := w5.heap.size) (by (repeat' first | exact Below.refl _ _ | apply kp_alloc | apply Below.drew))) g6.size); have l64 := fun b hb => l65 b (l5 b hb); clear l65; obtain ⟨A6, cap6, he6, _⟩ := KOwn.row encP_len o6; obtain ⟨n6, hn6⟩ : ∃ n6, (L ++ [(xv, (⟨pl, ro, inf, bm, bs, m, s, td, ti⟩ : Pt))]).length = n6 := ⟨_, rfl⟩; rw [hn6] at he6; clear hn6; subst he6)
          | (go_at_call 9; refine (hsC.out _ (by (repeat' first | assumption | exact Below.refl _ _ | exact Nat.le_refl _ | apply kp_alloc | apply kp_set | apply Below.drew | omega)) _ (by first | exact o6 | exact own_alloc o6 _ | exact own_drew o6 | exact own_drew (own_alloc o6 _))).mono ?_; rintro e w7 ⟨⟨A7, n7, cap7, M7, rfl, _, _⟩, b7⟩; have k7 : Below W7.heap.size W7 w7 := (by refine trans9 ?_ b7; (repeat' first | assumption | exact Below.refl _ _ | exact Nat.le_refl _ | apply kp_alloc | apply kp_set | apply Below.drew | omega)); obtain ⟨c7, f7⟩ := bcell b7; have l7 := fun b (hb : b < _) => Nat.lt_of_lt_of_le hb b7.size)))
      all_goals
        go_wp2_with fail
        go_meet
        exact ⟨_, rfl, rfl, by (repeat' first | assumption | exact Below.refl _ _ | exact Nat.le_refl _ | apply kp_alloc | apply kp_set | apply Below.drew | exact Below.size (B := W7.heap.size) (by assumption) | omega)⟩
    case rest =>
      obtain ⟨gc, rfl, rfl, bC⟩ := hcut
      have G8 := Lib.hid (G7.out.below bC)
      have F8 := Lib.hid (F7.out.below bC)
      have R8 := Lib.hid (R7.out.below bC)
      have H8 := Lib.hid (H7.out.below bC)
      have S8 := Lib.hid (S7.out.below bC)
      have B8 := Lib.hid (trans9 B7.out bC)
      clear x0 x1 x2 x3 x4 xf xl hX c0 c1 c2 c3 c4 c5 c6 c7 c8 hC hbs hbz henc hsC HU3 hone3 hone4 HIN hlt2 hlt3 bC G7 F7 R7 H7 S7 B7 hkI hxm x
      generalize wc = W8 at *
      cases D with
      | none =>
        have he := HH'.out
        simp only [hdO, hd0, Hd.mk.injEq] at he
        obtain ⟨rfl, rfl, rfl, rfl⟩ := he
        have hM0 : M3 = [] := by
          have := HM3.out
          simpa [pts] using this
        obtain ⟨_, _, hsl, _⟩ := R8.out.1
        have hn3 : n3 = 0 := by
          rw [hM0] at hsl
          simpa using (Value.slice.inj hsl).2.1
        subst hn3
        obtain ⟨y0, y1, y2, y3, y4, yf, yl⟩ := G8.out
        dsimp only at y0 y1 y2 y3 y4
        clear hsl
        go_wp2
        go_ret
        exact ⟨rfl, B8.out⟩
      | some D =>
        have he := HH'.out
        simp only [hdO, Hd.mk.injEq] at he
        obtain ⟨rfl, rfl, rfl, rfl⟩ := he
        have hsrt := psrt_some HD.out.symm
        have hDL : D.length = L.length := by rw [hsrt.1.length_eq, HDL.out]
        have hM3L : M3.length = L.length := by
          have := congrArg List.length HM3.out
          simp only [pts, List.length_map, Option.getD_some] at this
          omega
        have hMbL : Mb.length = L.length := by
          have := congrArg List.length HMb.out
          simp only [pts, List.length_map, Option.getD_some] at this
          omega
        obtain ⟨_, _, hsl, _⟩ := R8.out.1
        obtain rfl : n3 = L.length := by rw [(Value.slice.inj hsl).2.1]; exact hM3L
        clear hsl
        obtain ⟨_, _, hsl, _⟩ := S8.out.1
        obtain rfl : nb = L.length := by rw [(Value.slice.inj hsl).2.1]; exact hMbL
        clear hsl
        have hpM3 : pts M3 = D := HM3.out
        have hpMb : pts Mb = D := HMb.out
        have hsm := Lib.hid (fsame_calls ⟨n', kk', u', hh'⟩ ⟨n', kk', u', hh'⟩ M3 Mb _ _ W8 R8.out S8.out (by omega))
        rw [show sameF ⟨n', kk', u', hh'⟩ ⟨n', kk', u', hh'⟩ (pts M3) (pts Mb) = true by rw [hpM3, hpMb]; unfold sameF; rw [sameRow_refl, decide_eq_true rfl]; rfl] at hsm
        have hneq := fun W => neq_head ⟨n', kk', u', hh'⟩ ⟨n', kk', u', hh'⟩ W
        rw [decide_eq_true (rfl : (⟨n', kk', u', hh'⟩ : Hd) = ⟨n', kk', u', hh'⟩)] at hneq
        have hlM : ∀ y ∈ M3, y.2.l.length ≤ 1000 := fun y hy => by
          have h1 : y.2 ∈ D := by rw [← hpM3]; exact List.mem_map_of_mem hy
          have h2 := hsrt.1.mem_iff.1 h1
          obtain ⟨z, hz, hze⟩ := List.mem_map.1 h2
          have := HL12.out z hz
          rw [← hze]; omega
        have hs2 := Lib.hid (fun X v (hr : PtRow X v M3) => fsort_any ⟨n', kk', u', hh'⟩ M3 v X hr (by omega) hlM)
        rw [hpM3, psrt_self HD.out.symm, show hdO (some D) ⟨n', kk', u', hh'⟩ = ⟨n', kk', u', hh'⟩ from rfl] at hs2
        have hstr := Lib.hid (fun (i : Nat) (p q : Pt) (h1 : D[i]? = some p) (h2 : D[i + 1]? = some q) => show cmpP p q < 0 by
          obtain ⟨h3, rfl⟩ := List.getElem?_eq_some_iff.1 h1
          obtain ⟨h4, rfl⟩ := List.getElem?_eq_some_iff.1 h2
          exact List.pairwise_iff_getElem.1 hsrt.2 i (i + 1) h3 h4 (by omega))
        have HPM3 := Lib.hid hpM3
        have HM3L := Lib.hid hM3L
        obtain ⟨y0, y1, y2, y3, y4, yf, yl⟩ := G8.out
        obtain ⟨z0, z1, z2, z3, z4, zf, zl⟩ := H8.out
        obtain ⟨v0, v1, v2, v3, v4, vf, vl⟩ := F8.out
        dsimp only at y0 y1 y2 y3 y4 z0 z1 z2 z3 z4 v0 v1 v2 v3 v4
        clear hpM3 hpMb hlM hM3L hMbL hDL hsrt HM3 HMb HDL HL12
        go_wp2_with fail
        refine hsm.out.mono ?_; rintro e w9 ⟨rfl, b9⟩
        have G9 := Lib.hid (G8.out.below b9)
        have R9 := Lib.hid (R8.out.below b9)
        have B9 := Lib.hid (trans9 B8.out b9)
        clear y0 y1 y2 y3 y4 yf yl z0 z1 z2 z3 z4 zf zl v0 v1 v2 v3 v4 vf vl b9 hsm G8 H8 F8 R8 S8 B8 hneq
        go_wp2_with fail
        go_loopw [12] (fun s wr => ∃ j : Nat, s = .int .i64 ((j : Int) + 1) ∧ j ≤ L.length ∧ Below w9.heap.size w9 wr) (fun s _ => L.length + 1 - (intOf s).toNat)
        case atStart => exact ⟨0, rfl, Nat.zero_le _, Below.refl _ _⟩
        case round =>
          obtain ⟨j, rfl, hj, hb⟩ := hrel
          obtain ⟨y0, y1, y2, y3, y4, yf, yl⟩ := G9.out.below hb
          dsimp only at y0 y1 y2 y3 y4
          by_cases hjl : j + 1 < L.length
          · have RR := R9.out.below hb
            obtain ⟨A9, cap9, he9, _, _, _, hrr⟩ := RR.1
            simp only [Value.slice.injEq] at he9
            obtain ⟨hA9, hl9, hc9⟩ := he9
            clear hl9
            subst hA9 hc9
            have hML := HM3L.out
            obtain ⟨b9, off9, rfl, hbs9, hcc9⟩ := hrr (by omega)
            obtain ⟨x, hx, hxp⟩ := ps_get (L := M3) (i := j) (by omega)
            obtain ⟨y, hy, hyp⟩ := ps_get (L := M3) (i := j + 1) (by omega)
            rw [HPM3.out] at hxp hyp
            have hix := RR.2 x (List.mem_of_getElem? hx)
            have hiy := RR.2 y (List.mem_of_getElem? hy)
            obtain ⟨c0, c1, c2, c3, c4, c5, c6, c7, c8⟩ := pr_cells hcc9 hx
            obtain ⟨e0, e1, e2, e3, e4, e5, e6, e7, e8⟩ := pr_cells hcc9 hy
            have hcp := Lib.hid (fun W (hW : Below wr.heap.size wr W) => rcomparepoints_calls x.1 y.1 x.2 y.2 W (hix.1.below hW) (hiy.1.below hW) hix.2 hiy.2)
            have hlt := hstr.out j _ _ hxp hyp
            obtain ⟨A1, n1, cap1, hx1⟩ : ∃ A1 n1 cap1, x.1 = .slice A1 n1 cap1 := by obtain ⟨_, _, h, _⟩ := hix.1; exact ⟨_, _, _, h⟩
            obtain ⟨A2, n2, cap2, hy1⟩ : ∃ A1 n1 cap1, y.1 = .slice A1 n1 cap1 := by obtain ⟨_, _, h, _⟩ := hiy.1; exact ⟨_, _, _, h⟩
            have hw1 : IntKind.i64.wrap (j : Int) = (j : Int) := IntWalk.i64_in _ (by omega)
            have hw2 : IntKind.i64.wrap ((j : Int) + 1) = (j : Int) + 1 := IntWalk.i64_in _ (by omega)
            have hw3 : (j : Int) + 1 - 1 = (j : Int) := by omega
            have hj0 : (0 : Int) ≤ (j : Int) := by omega
            have hj1 : (j : Int) < (L.length : Int) := by omega
            have hj2 : (j : Int) + 1 < (L.length : Int) := by omega
            have hj3 : j < L.length := by omega
            have hj4 : (0 : Int) ≤ (j : Int) + 1 := by omega
            obtain ⟨xv, p⟩ := x
            obtain ⟨yv, q⟩ := y
            simp only at hx1 hy1
            subst hx1 hy1
            obtain ⟨pl, ro, inf, bm, bs, m, s, td, ti⟩ := p
            obtain ⟨ql, ro2, inf2, bm2, bs2, m2, s2, td2, ti2⟩ := q
            have hR : ∀ o u, wr.cell? ⟨b9, o, none⟩ = some u → ∀ z, Below wr.heap.size wr z → z.cell? ⟨b9, o, none⟩ = some u := fun o u hu z hz => (hz.cell (p := ⟨b9, o, none⟩) hbs9).trans hu
            have hY : ∀ o u, wr.cell? ⟨ga, o, none⟩ = some u → ∀ z, Below wr.heap.size wr z → z.cell? ⟨ga, o, none⟩ = some u := fun o u hu z hz => (hz.cell (p := ⟨ga, o, none⟩) yl).trans hu
            simp only at c0 c1 c2 c3 c4 c5 c6 c7 c8 e0 e1 e2 e3 e4 e5 e6 e7 e8
            have r0 := hR _ _ c0
            have r1 := hR _ _ c1
            have r2 := hR _ _ c2
            have r3 := hR _ _ c3
            have r4 := hR _ _ c4
            have r5 := hR _ _ c5
            have r6 := hR _ _ c6
            have r7 := hR _ _ c7
            have r8 := hR _ _ c8
            have s0 := hR _ _ e0
            have s1 := hR _ _ e1
            have s2' := hR _ _ e2
            have s3 := hR _ _ e3
            have s4 := hR _ _ e4
            have s5 := hR _ _ e5
            have s6 := hR _ _ e6
            have s7 := hR _ _ e7
            have s8 := hR _ _ e8
            have t4 := hY _ _ y4
            have HB := Lib.hid hb
            clear hcc9 hrr RR c0 c1 c2 c3 c4 c5 c6 c7 c8 e0 e1 e2 e3 e4 e5 e6 e7 e8 hR hY hx hy hxp hyp hix hiy hbs9 hML hb
            simp only at hlt hcp
            generalize cmpP _ _ = C at *
            have dC : decide ((0 : Int) ≤ C) = false := by simp; omega
            clear hlt
            go_wp2_with fail
            clear y0 y1 y2 y3 y4 yf yl
            go_region_held3 (fun z => Below wr.heap.size wr z)
              (((repeat' first | assumption | exact Below.refl _ _ | exact Nat.le_refl _ | apply kp_alloc | apply kp_set | apply Below.drew | omega); done))
              ((first
                | (go_at_call 11; refine (hcp.out _ (by (repeat' first | assumption | exact Below.refl _ _ | apply Below.drew))).mono ?_; rintro e w3 ⟨rfl, b3⟩; have k3 : Below wr.heap.size wr w3 := (by refine trans9 ?_ b3; (repeat' first | assumption | exact Below.refl _ _ | exact Nat.le_refl _ | apply kp_alloc | apply kp_set | apply Below.drew | omega)))))
            all_goals
              go_wp2_with fail
              go_roundw
              case rel => exact ⟨j + 1, by go_num, by omega, HB.out.trans (k3.mono HB.out.size)⟩
              case measure => simp [intOf]; omega
          · have hs3 := Lib.hid (hs2.out wr _ (R9.out.below hb))
            have BR := Lib.hid (B9.out.trans (hb.mono B9.out.size))
            have GR := Lib.hid (G9.out.below hb)
            have RR := Lib.hid (R9.out.below hb)
            clear hb
            go_wp2_with fail
            refine hs3.out.mono ?_; rintro e w10 ⟨⟨Ac, nc, capc, Mc, rfl, keepc, hMc⟩, b10⟩
            have bA := kp_alloc b10 (.cells (famc ⟨n', kk', u', hh'⟩ (.slice Ac nc capc)) 26)
            have bA1 := kp_alloc (Below.refl w10.heap.size w10) (.cells (famc ⟨n', kk', u', hh'⟩ (.slice Ac nc capc)) 26)
            have GX := GR.out.below bA
            have RX := RR.out.below bA
            have RC := keepc.row.below bA1
            have BX := Lib.hid (trans9 BR.out bA)
            have hsm := Lib.hid (fsame_calls ⟨n', kk', u', hh'⟩ ⟨n', kk', u', hh'⟩ M3 Mc _ _ _ RX RC (by have := HM3L.out; omega))
            rw [show sameF ⟨n', kk', u', hh'⟩ ⟨n', kk', u', hh'⟩ (pts M3) (pts Mc) = true by rw [HPM3.out, hMc]; show sameF _ _ D D = true; unfold sameF; rw [sameRow_refl, decide_eq_true rfl]; rfl] at hsm
            clear y0 y1 y2 y3 y4 yf yl
            obtain ⟨y0, y1, y2, y3, y4, yf, yl⟩ := GX
            dsimp only at y0 y1 y2 y3 y4
            clear b10 bA bA1 RX RC keepc hMc
            go_wp2_with fail
            refine hsm.out.mono ?_; rintro e w11 ⟨rfl, b11⟩
            go_wp2
            go_ret
            exact ⟨rfl, trans9 BX.out b11⟩

end Go.Proofs.YtjkaggkamcfahaaDoor
