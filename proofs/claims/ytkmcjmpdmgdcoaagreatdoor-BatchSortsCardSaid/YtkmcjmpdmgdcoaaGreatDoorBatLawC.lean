/- The walk of the law BatchSorts. -/
import Derived.Test.YtkmcjmpdmgdcoaaGreatDoorBatLawA
import Derived.Deep.DeepCutAuto
set_option maxRecDepth 100000
set_option linter.unusedVariables false
set_option linter.unusedSimpArgs false
namespace Go.Proofs.YtkmcjmpdmgdcoaaGreatDoor
open Go.RowKit Dc
attribute [local go_sem ↓] Go.wp_at_zero Go.wp_at_succ

theorem tmod_t (c : Int) (n : Nat) (h : 0 ≤ c) (hn : 0 < n) : ∃ k : Nat, k < n ∧ c.tmod (n : Int) = (k : Int) ∧ c % (n : Int) = (k : Int) := by
  have h1 : c.tmod (n : Int) = c % (n : Int) := Int.tmod_eq_emod_of_nonneg h
  have h2 := Int.emod_nonneg c (show (n : Int) ≠ 0 by omega)
  have h3 := Int.emod_lt_of_pos c (show 0 < (n : Int) by omega)
  exact ⟨(c % (n : Int)).toNat, by omega, by omega, by omega⟩
theorem fturn_perm (F : List Fs) (k : Nat) : (F.drop k ++ F.take k).Perm F := by
  have := List.perm_append_comm (l₁ := F.drop k) (l₂ := F.take k)
  rwa [List.take_append_drop] at this
/-- families of one's own row, their points where they were -/
theorem own_fm {w X : World} {base : Nat} {v : Value} {R : List Fs} (h : FmOwn X base v R) (hin : ∀ x ∈ R, FsIn w x) (hb : Below w.heap.size w X) : FmRow X v R := ⟨KOwn.row encF_len h, fun x hx => (hin x hx).below hb⟩
theorem grown_cells {w w' : World} {g n cap : Nat} (h : w.grownBy w' (Value.slice (some ⟨g, 0, none⟩) n cap).ownBlock) :
    (∀ b o, b < w.heap.size → b ≠ g → w'.cell? ⟨b, o, none⟩ = w.cell? ⟨b, o, none⟩) ∧ (∀ b o, b < w.heap.size → b ≠ g → w'.frozen? ⟨b, o, none⟩ = w.frozen? ⟨b, o, none⟩) :=
  ⟨fun b o hb hne => World.cell?_of_block (a := ⟨b, o, none⟩) (h.block b hb (fun e => hne (Option.some.inj e))), fun b o hb hne => World.frozen?_of_block (a := ⟨b, o, none⟩) (h.block b hb (fun e => hne (Option.some.inj e)))⟩
theorem own_fsome {X : World} {base : Nat} {v : Value} {R : List Fs} (h : FmOwn X base v R) (hR : 0 < R.length) : ∃ g n cap, v = .slice (some ⟨g, 0, none⟩) n cap ∧ base ≤ g ∧ g < X.heap.size := by
  rcases h.2 with ⟨_, h0⟩ | ⟨g, cap, cur, rfl, hg, hc, _⟩
  · omega
  · exact ⟨g, _, cap, rfl, hg, (Array.getElem?_eq_some_iff.1 hc).1⟩
theorem one_fm {X : World} {g : Nat} {x : Fs} (hg : g < X.heap.size) (h0 : X.cell? ⟨g, 0, none⟩ = some (.string (str x.hd.n))) (h1 : X.cell? ⟨g, 1, none⟩ = some (.int .i64 x.hd.k)) (h2 : X.cell? ⟨g, 2, none⟩ = some (.string (str x.hd.u))) (h3 : X.cell? ⟨g, 3, none⟩ = some (.string (str x.hd.h))) (h4 : X.cell? ⟨g, 4, none⟩ = some x.v) : KRow encF 5 X (.slice (some ⟨g, 0, none⟩) 1 1) [x] :=
  ⟨_, 1, rfl, Nat.le_refl _, by unfold maxLen; omega, (by rintro ⟨⟩), fun _ => ⟨g, 0, rfl, hg, fun i y hy j u hu => by
    match i, hy with
    | 0, hy =>
      obtain rfl : x = y := by simpa using hy
      have : X.cell? ⟨g, j, none⟩ = some u := by
        unfold encF at hu
        match j, hu with
        | 0, hu => obtain rfl := Option.some.inj hu; exact h0
        | 1, hu => obtain rfl := Option.some.inj hu; exact h1
        | 2, hu => obtain rfl := Option.some.inj hu; exact h2
        | 3, hu => obtain rfl := Option.some.inj hu; exact h3
        | 4, hu => obtain rfl := Option.some.inj hu; exact h4
        | j + 5, hu => simp at hu
      simpa using this
    | i + 1, hy => simp at hy⟩⟩
/-- the family of a name that is there -/
abbrev dupF (n : List UInt8) : Fs := ⟨⟨n, 0, [], []⟩, .slice none 0 0, []⟩
theorem dupF_in (w : World) {n : List UInt8} (h : n.length ≤ maxLen) : FsIn w (dupF n) := ⟨PtRow.nil w, ⟨h, by show 0 ≤ maxLen; omega, by show 0 ≤ maxLen; omega, by show (-9223372036854775808 : Int) ≤ 0; decide, by show (0 : Int) ≤ 9223372036854775807; decide⟩⟩

theorem turn_of {t : List UInt8} {F R : List Fs} (hc : chk t (fms F) = 0) (hp : R.Perm F) : gsrt cmpF (fms R) = some (fms F) := gsrt_is tp_cmpF (hp.map _).symm (batOk_iff.1 (chk_zero hc).1).2.2
theorem turn_few {F R : List Fs} (hf : FmFew F) (hp : R.Perm F) : FmFew R := ⟨by rw [hp.length_eq]; exact hf.n, fun x hx => hf.p x (hp.mem_iff.1 hx), fun x hx => hf.l x (hp.mem_iff.1 hx)⟩
theorem turn_str {t : List UInt8} {F R : List Fs} (hc : chk t (fms F) = 0) (hp : R.Perm F) : ∀ x ∈ R, StrictP (pts x.L) := fun x hx => rows_strict (chk_strict hc) x (hp.mem_iff.1 hx)
theorem of_turn (t : List UInt8) (F R : List Fs) (v : Value) (w : World) (hv : FmRow w v R) (hf : FmFew F) (ht : t.length ≤ maxLen) (hT : ShPl w) (hc : chk t (fms F) = 0) (hp : R.Perm F) :
    Calls Tryz.prog 9 #[.string (str t), v] w fun e w' => (∃ A n cap M, e = .returned (.tuple #[batv t (.slice A n cap), .bool true]) ∧ FmKeep w' w.heap.size (.slice A n cap) M ∧ fms M = fms F) ∧ Below w.heap.size w w' := by
  refine (of_calls t R v w hv (turn_few hf hp) (turn_str hc hp) ht hT).mono ?_
  rintro e w' ⟨⟨A, n, cap, M, rfl, hk, hM⟩, hb⟩
  rw [ofO_yes (turn_of hc hp) hc] at hM ⊢
  exact ⟨⟨A, n, cap, M, rfl, hk, hM⟩, hb⟩
theorem sort_turn (t : List UInt8) (F R : List Fs) (v : Value) (w : World) (hv : FmRow w v R) (hf : FmFew F) (hc : chk t (fms F) = 0) (hp : R.Perm F) :
    Calls Tryz.prog 10 #[batv t v] w fun e w' => (∃ A n cap M, e = .returned (.tuple #[batv t (.slice A n cap), .bool true]) ∧ FmKeep w' w.heap.size (.slice A n cap) M ∧ fms M = fms F) ∧ Below w.heap.size w w' := by
  refine (bsort_calls t R v w hv (turn_few hf hp) (turn_str hc hp)).mono ?_
  rintro e w' ⟨⟨A, n, cap, M, rfl, hk, hM⟩, hb⟩
  rw [turn_of hc hp] at hM ⊢
  exact ⟨⟨A, n, cap, M, rfl, hk, hM⟩, hb⟩
theorem of_dup (t : List UInt8) (F R : List Fs) (x : Fs) (hx : x ∈ R) (v : Value) (w : World) (hv : FmRow w v (R ++ [dupF x.hd.n])) (hf : FmFew F) (hn : F.length ≤ 40) (ht : t.length ≤ maxLen) (hT : ShPl w) (hc : chk t (fms F) = 0) (hp : R.Perm F) :
    Calls Tryz.prog 9 #[.string (str t), v] w fun e w' => (∃ A n cap, e = .returned (.tuple #[.agg #[.string ⟨#[]⟩, .slice A n cap], .bool false])) ∧ Below w.heap.size w w' := by
  have hR := turn_few hf hp
  have hlen := hp.length_eq
  refine (of_calls t (R ++ [dupF x.hd.n]) v w hv ⟨by rw [List.length_append, hlen]; simp; omega, fun y hy => ?_, fun y hy z hz => ?_⟩ (fun y hy => ?_) ht hT).mono ?_
  · rcases List.mem_append.1 hy with h | h
    · exact hR.p y h
    · obtain rfl := List.mem_singleton.1 h; simp [dupF]
  · rcases List.mem_append.1 hy with h | h
    · exact hR.l y h z hz
    · obtain rfl := List.mem_singleton.1 h; cases hz
  · rcases List.mem_append.1 hy with h | h
    · exact turn_str hc hp y h
    · obtain rfl := List.mem_singleton.1 h; exact List.Pairwise.nil
  · rintro e w' ⟨⟨A, n, cap, M, rfl, hk, hM⟩, hb⟩
    have hd : ofO t (fms (R ++ [dupF x.hd.n])) = none := ofO_no (by
      unfold fms
      rw [List.map_append]
      exact gsrt_dup tp_cmpF (List.mem_map_of_mem hx) (cb_refl _))
    rw [hd]
    exact ⟨⟨A, n, cap, rfl⟩, hb⟩

set_option maxHeartbeats 32000000 in
theorem bsorts_walk (t : List UInt8) (F : List Fs) (v : Value) (turn : Int) (w : World) (hv : FmRow w v F) (ht : t.length ≤ maxLen) (t0 : 0 ≤ turn) (t1 : turn ≤ 255) (hT : ShPl w) :
    Calls Tryz.prog 3 #[batv t v, .int .u8 turn] w fun e w' => e = .returned (.bool true) ∧ Below w.heap.size w w' := by
  have k0 := kp_alloc (Below.refl w.heap.size w) (.cells #[.string (str t), v] 24)
  have K0 := Lib.hid k0
  have B0 := Lib.hid (BatAt.new w t v 24)
  have T0 := Lib.hid (shpl_below hT k0)
  have R0 := Lib.hid (hv.below k0)
  have hT0 := Lib.hid (bknown_calls _ (shpl_below hT k0))
  have HTL := Lib.hid ht
  obtain ⟨A, cap, hv1, hlc, hcm, _⟩ := hv.1
  unfold maxLen at hcm
  subst hv1
  clear k0 hv hT ht
  go_enter Tryz.func3, Tryz.ntmps3
  go_wp2_with fail
  refine hT0.out.mono ?_; rintro e w1 ⟨rfl, b1⟩
  have K1 := Lib.hid (trans9 K0.out b1)
  have B1 := Lib.hid (B0.out.below b1)
  have T1 := Lib.hid (shpl_below T0.out b1)
  have R1 := Lib.hid (R0.out.below b1)
  clear b1 hT0 K0 B0 T0 R0
  obtain ⟨x0, x1, xf, xl⟩ := B1.out
  go_wp2_with fail
  refine (wide_calls t F _ _ R1.out).mono ?_; rintro e w2 ⟨hW, b2⟩
  have K2 := Lib.hid (trans9 K1.out b2)
  have B2 := Lib.hid (B1.out.below b2)
  have T2 := Lib.hid (shpl_below T1.out b2)
  have R2 := Lib.hid (R1.out.below b2)
  clear b2 K1 B1 T1 R1 x0 x1 xf xl
  obtain ⟨x0, x1, xf, xl⟩ := B2.out
  rcases hW.ways with rfl | ⟨rfl, hfew⟩
  · go_wp2
    go_ret
    exact ⟨rfl, K2.out⟩
  have HF := Lib.hid hfew
  clear hfew
  go_wp2_with fail
  refine (rcheck_calls t F _ _ R2.out HF.out HTL.out).mono ?_; rintro e w3 ⟨rfl, b3⟩
  have K3 := Lib.hid (trans9 K2.out b3)
  have B3 := Lib.hid (B2.out.below b3)
  have T3 := Lib.hid (shpl_below T2.out b3)
  have R3 := Lib.hid (R2.out.below b3)
  clear b3 K2 B2 T2 R2 x0 x1 xf xl
  obtain ⟨x0, x1, xf, xl⟩ := B3.out
  obtain ⟨C, hC⟩ : ∃ C, C = chk t (fms F) := ⟨_, rfl⟩
  rw [← hC]
  have HC := Lib.hid hC
  clear hC
  by_cases hC0 : ¬ C = 0
  · have d0 : (C == 0) = false := by simpa using hC0
    have d1 : (C != 0) = true := by simpa using hC0
    clear hC0
    go_wp2
    go_ret
    exact ⟨rfl, K3.out⟩
  replace hC0 := Classical.not_not.1 hC0
  subst hC0
  have HH := Lib.hid (show chk t (fms F) = 0 from HC.out.symm)
  have H30 := Lib.hid (show F.length ≤ 30 by have := (chk_zero HH.out).2.1; simpa [fms] using this)
  clear HC
  by_cases hz : F.length = 0
  · have dz : ((F.length : Int) == 0) = true := beq_iff_eq.2 (by omega)
    have dz2 : (F.length == 0) = true := beq_iff_eq.2 hz
    clear hz
    go_wp2
    go_ret
    exact ⟨rfl, K3.out⟩
  have dz : ((F.length : Int) == 0) = false := beq_eq_false_iff_ne.2 (by omega)
  have dz2 : (F.length == 0) = false := beq_eq_false_iff_ne.2 hz
  have hpos : 0 < F.length := by omega
  obtain ⟨k, hkl, ht1, ht2⟩ := tmod_t turn F.length t0 hpos
  have hw2 : IntKind.i64.wrap turn = turn := IntWalk.i64_in _ (by omega)
  have hw3 : IntKind.i64.wrap (k : Int) = (k : Int) := IntWalk.i64_in _ (by omega)
  have hnz : ¬ (F.length : Int) = 0 := by omega
  clear hz
  go_upto_region 6 with fail
  generalize w3 = W4 at *
  obtain ⟨u1, eq1, row1⟩ := kr_from fmTy R3.out.1 k (by omega)
  obtain ⟨u2, eq2, row2⟩ := kr_to fmTy R3.out.1 k (by omega)
  have HU1 := Lib.hid (fun z (hz : Below W4.heap.size W4 z) => row1 z (R3.out.below hz).1)
  have HU2 := Lib.hid (fun z (hz : Below W4.heap.size W4 z) => row2 z (R3.out.below hz).1)
  have HO1 := Lib.hid (show ∀ x ∈ F.drop k, ∀ u ∈ encF x, u.oneCell' = true from fun x hx => encF_one (R3.out.2 x (List.mem_of_mem_drop hx)))
  have HO2 := Lib.hid (show ∀ x ∈ F.take k, ∀ u ∈ encF x, u.oneCell' = true from fun x hx => encF_one (R3.out.2 x (List.mem_of_mem_take hx)))
  have hlt0 : ([] : List Fs).length + (F.drop k).length ≤ 2000 := by rw [List.length_drop]; have := H30.out; simp; omega
  have hlt1 : (F.drop k).length + (F.take k).length ≤ 2000 := by rw [List.length_drop, List.length_take]; have := H30.out; omega
  have hX : ∀ o v, W4.cell? ⟨w.heap.size, o, none⟩ = some v → ∀ z, Below W4.heap.size W4 z → z.cell? ⟨w.heap.size, o, none⟩ = some v := fun o v h z hz => (hz.cell (p := ⟨w.heap.size, o, none⟩) xl).trans h
  have hk0 : (0 : Int) ≤ (k : Int) := by omega
  have hk2 : (k : Int) ≤ (F.length : Int) := by omega
  clear row1 row2
  go_cut [6] (fun s6 wx => Below W4.heap.size W4 wx ∧ FmOwn wx W4.heap.size s6 (F.drop k ++ F.take k))
  case first =>
    have r0 := hX _ _ x0
    have r1 := hX _ _ x1
    clear x0 xf hX
    go_region_held3 (fun z => Below W4.heap.size W4 z)
      (((repeat' first | assumption | exact Below.refl _ _ | exact Nat.le_refl _ | apply kp_alloc | apply kp_set | apply Below.drew | exact Below.size (B := W4.heap.size) (by assumption) | omega); done))
      ((first
        | (refine step_append_krow fmTy encF_len (by rfl) (.const (.slice none 0 0)) (.tmp 37) (by rfl) _ _ [] (by rfl) (KOwn.nil _ _ _ _ _) _ (F.drop k) (by rfl) (HU1.out _ (by (repeat' first | assumption | exact Below.refl _ _ | exact Nat.le_refl _ | apply kp_alloc | apply kp_set | apply Below.drew | omega))) HO1.out hlt0 (Nat.le_refl _) ?_; intro v5 w5 o5 g5; have k5 : Below W4.heap.size W4 w5 := Below.grown (by (repeat' first | assumption | exact Below.refl _ _ | exact Nat.le_refl _ | apply kp_alloc | apply kp_set | apply Below.drew | omega)) g5 (Below.size (by (repeat' first | assumption | exact Below.refl _ _ | exact Nat.le_refl _ | apply kp_alloc | apply kp_set | apply Below.drew | omega))) (fun q hq => by cases hq); have o5 := KOwn.mono (base' := W4.heap.size) o5 (Below.size (B := W4.heap.size) (by (repeat' first | assumption | exact Below.refl _ _ | exact Nat.le_refl _ | apply kp_alloc | apply kp_set | apply Below.drew | omega))))
        | (refine step_append_krow fmTy encF_len (by rfl) (.tmp 38) (.tmp 42) (by rfl) W4.heap.size _ (F.drop k) (by rfl) (by first | exact o5 | exact own_drew o5) _ (F.take k) (by rfl) (HU2.out _ (by (repeat' first | assumption | exact Below.refl _ _ | exact Nat.le_refl _ | apply kp_alloc | apply kp_set | apply Below.drew | omega))) HO2.out hlt1 (Below.size (by (repeat' first | assumption | exact Below.refl _ _ | exact Nat.le_refl _ | apply kp_alloc | apply kp_set | apply Below.drew | omega))) ?_; intro v6 w6 o6 g6; have k6 : Below W4.heap.size W4 w6 := Below.grown (by (repeat' first | assumption | exact Below.refl _ _ | exact Nat.le_refl _ | apply kp_alloc | apply kp_set | apply Below.drew | omega)) g6 (Below.size (by (repeat' first | assumption | exact Below.refl _ _ | exact Nat.le_refl _ | apply kp_alloc | apply kp_set | apply Below.drew | omega))) (fun q hq => own_ge o5 q hq))))
    all_goals
      go_wp2_with fail
      go_meet
      exact ⟨k6, o6⟩
  case rest =>
    obtain ⟨bc, oc⟩ := hcut
    have hperm := fturn_perm F k
    have hRL : (F.drop k ++ F.take k).length = F.length := hperm.length_eq
    generalize hRe : F.drop k ++ F.take k = R at *
    clear hRe eq1 eq2 HU1 HU2 HO1 HO2 hlt0 hlt1 hX hk0 hk2 ht1 ht2 hw2 hw3 hnz
    have K5 := Lib.hid (trans9 K3.out bc)
    have B5 := Lib.hid (B3.out.below bc)
    have T5 := Lib.hid (shpl_below T3.out bc)
    have R5 := Lib.hid (R3.out.below bc)
    have L5 := Lib.hid (own_fm oc (fun x hx => R3.out.2 x (hperm.mem_iff.1 hx)) bc)
    have HPM := Lib.hid hperm
    have HRL := Lib.hid hRL
    obtain ⟨gl, nl, capl, hsl, _, _⟩ := own_fsome oc (by rw [hRL]; exact hpos)
    subst hsl
    clear bc oc hperm K3 B3 T3 R3 x0 x1 xf xl hRL
    generalize wc = W5 at *
    obtain ⟨x0, x1, xf, xl⟩ := B5.out
    go_wp2_with fail
    refine (of_turn t F R _ _ L5.out HF.out HTL.out T5.out HH.out HPM.out).mono ?_; rintro e w6 ⟨⟨A6, n6, cap6, M6, rfl, keep6, hM6⟩, b6⟩
    have kD := kp_alloc (Below.refl w6.heap.size w6) (.cells #[.string (str t), .slice A6 n6 cap6] 24)
    have bD := b6.trans (kD.mono b6.size)
    have K6 := Lib.hid (trans9 K5.out bD)
    have B6 := Lib.hid (B5.out.below bD)
    have T6 := Lib.hid (shpl_below T5.out bD)
    have R6 := Lib.hid (R5.out.below bD)
    have L6 := Lib.hid (L5.out.below bD)
    have X6 := Lib.hid (BatAt.new w6 t (.slice A6 n6 cap6) 24)
    have RX6 := Lib.hid (keep6.row.below kD)
    have HM6 := Lib.hid hM6
    clear b6 kD bD K5 B5 T5 R5 L5 x0 x1 xf xl keep6 hM6
    obtain ⟨x0, x1, xf, xl⟩ := B6.out
    go_wp2_with fail
    refine (sort_turn t F R _ _ L6.out HF.out HH.out HPM.out).mono ?_; rintro e w7 ⟨⟨A7, n7, cap7, M7, rfl, keep7, hM7⟩, b7⟩
    have kD := kp_alloc (Below.refl w7.heap.size w7) (.cells #[.string (str t), .slice A7 n7 cap7] 24)
    have bD := b7.trans (kD.mono b7.size)
    have K7 := Lib.hid (trans9 K6.out bD)
    have B7 := Lib.hid (B6.out.below bD)
    have T7 := Lib.hid (shpl_below T6.out bD)
    have R7 := Lib.hid (R6.out.below bD)
    have L7 := Lib.hid (L6.out.below bD)
    have X7 := Lib.hid (X6.out.below bD)
    have RX7 := Lib.hid (RX6.out.below bD)
    have Y7 := Lib.hid (BatAt.new w7 t (.slice A7 n7 cap7) 24)
    have RY7 := Lib.hid (keep7.row.below kD)
    have HM7 := Lib.hid hM7
    clear b7 kD bD K6 B6 T6 R6 L6 X6 RX6 x0 x1 xf xl keep7 hM7
    obtain ⟨x0, x1, xf, xl⟩ := B7.out
    go_upto_region 9 with fail
    obtain ⟨W7, hW7⟩ : ∃ W7 : World, W7 = w7.alloc (.cells #[.string (str t), .slice A7 n7 cap7] 24) := ⟨_, rfl⟩
    rw [← hW7] at K7 B7 T7 R7 L7 X7 RX7 Y7 RY7 x0 x1 xf xl ⊢
    generalize w7.heap.size = gy at *
    generalize w6.heap.size = gx at *
    clear hW7
    obtain ⟨A', cap', he, _, _, _, hrow0⟩ := L7.out.1
    simp only [Value.slice.injEq] at he
    obtain ⟨hA, hn, hc⟩ := he
    subst hA hn hc
    obtain ⟨bb, oo, hbo, hbs, hcc⟩ := hrow0 (by rw [HRL.out]; exact hpos)
    cases hbo
    obtain ⟨x, hx, _⟩ := fs_get (F := R) (i := 0) (by rw [HRL.out]; exact hpos)
    have hxm := List.mem_of_getElem? hx
    obtain ⟨c0, _⟩ := fr_cells hcc hx
    have hin := Lib.hid (L7.out.2)
    have hxi := hin.out x hxm
    have hsC := Lib.hid (fun X (hX : Below W7.heap.size W7 X) v (ho : FmOwn X W7.heap.size v (R ++ [dupF x.hd.n])) => of_dup t F R x hxm v X (own_fm ho (fun y hy => by
      rcases List.mem_append.1 hy with h | h
      · exact hin.out y h
      · obtain rfl := List.mem_singleton.1 h
        exact dupF_in W7 hxi.2.ln) hX) HF.out (by have := H30.out; omega) HTL.out (shpl_below T7.out hX) HH.out HPM.out)
    have hone4 := Lib.hid (show ∀ y ∈ [dupF x.hd.n], ∀ u ∈ encF y, u.oneCell' = true from fun y hy => by
      obtain rfl := List.mem_singleton.1 hy
      exact encF_one (dupF_in W7 hxi.2.ln))
    have hone3 := Lib.hid (fun y (hy : y ∈ R) => encF_one (hin.out y hy))
    have HU3 := Lib.hid (fun z (hz : Below W7.heap.size W7 z) => (L7.out.below hz).1)
    simp only [Nat.zero_mul, Nat.add_zero, Nat.zero_add] at c0
    generalize x.hd.n = nm at *
    have hRn : R.length ≤ 30 := by rw [HRL.out]; exact H30.out
    have hlt2 : ([] : List Fs).length + R.length ≤ 2000 := by simp; omega
    have hlt3 : R.length + ([dupF nm] : List Fs).length ≤ 2000 := by simp; omega
    have hL0 : 0 < R.length := by rw [HRL.out]; exact hpos
    have hL0I : (0 : Int) < (R.length : Int) := by omega
    have hX : ∀ o v, W7.cell? ⟨w.heap.size, o, none⟩ = some v → ∀ z, Below W7.heap.size W7 z → z.cell? ⟨w.heap.size, o, none⟩ = some v := fun o v h z hz => (hz.cell (p := ⟨w.heap.size, o, none⟩) xl).trans h
    have hC : ∀ o v, W7.cell? ⟨gl, o, none⟩ = some v → ∀ z, Below W7.heap.size W7 z → z.cell? ⟨gl, o, none⟩ = some v := fun o v h z hz => (hz.cell (p := ⟨gl, o, none⟩) hbs).trans h
    clear hrow0 hcc hx hxm hxi
    go_cut [11, 12] (fun s11 s12 wx => ∃ g : Nat, s11 = .pointer (some ⟨g, 0, none⟩) ∧ s12 = .bool false ∧ Below W7.heap.size W7 wx)
    case first =>
      have r0 := hX _ _ x0
      have r1 := hX _ _ x1
      have y0 := hC _ _ c0
      have s4 : W7.heap.size < W7.heap.size + 1 := Nat.lt_succ_self _
      have s4' : W7.heap.size < W7.heap.size + 1 + 1 := by omega
      have s4'' : W7.heap.size + 1 < W7.heap.size + 1 + 1 := by omega
      clear x0 x1 xf xl hX c0 hC hbs
      go_region_held3 (fun z => Below W7.heap.size W7 z)
        (((repeat' first | assumption | exact Below.refl _ _ | exact Nat.le_refl _ | apply kp_alloc | apply kp_set | apply Below.drew | exact Below.size (B := W7.heap.size) (by assumption) | omega); done))
        ((first
          | (refine step_append_krow fmTy encF_len (by rfl) (.const (.slice none 0 0)) (.tmp 62) (by rfl) _ _ [] (by rfl) (KOwn.nil _ _ _ _ _) _ R (by rfl) (HU3.out _ (by (repeat' first | assumption | exact Below.refl _ _ | exact Nat.le_refl _ | apply kp_alloc | apply kp_set | apply Below.drew | omega))) hone3.out hlt2 (Nat.le_refl _) ?_; intro v5 w5 o5 g5; have k5 : Below W7.heap.size W7 w5 := Below.grown (by (repeat' first | assumption | exact Below.refl _ _ | exact Nat.le_refl _ | apply kp_alloc | apply kp_set | apply Below.drew | omega)) g5 (Below.size (by (repeat' first | assumption | exact Below.refl _ _ | exact Nat.le_refl _ | apply kp_alloc | apply kp_set | apply Below.drew | omega))) (fun q hq => by cases hq); obtain ⟨c5, f5⟩ := bcell (Below.grown (Below.refl _ _) g5 (Nat.le_refl _) (fun q hq => by cases hq)); have l5 := fun b (hb : b < _) => Nat.lt_of_lt_of_le hb g5.size; obtain ⟨q5, n5', cap5, rfl, hq5, hq5l⟩ := own_fsome o5 (by simp; omega); have n5 := fun b (hb : b < _) => Nat.ne_of_lt (Nat.lt_of_lt_of_le hb hq5); have m5 : w5.heap.size ≠ q5 := Nat.ne_of_gt hq5l; have m5' : w5.heap.size + 1 ≠ q5 := (by omega); have s5 : w5.heap.size < w5.heap.size + 1 := Nat.lt_succ_self _; have s5' : w5.heap.size < w5.heap.size + 1 + 1 := (by omega); have s5'' : w5.heap.size + 1 < w5.heap.size + 1 + 1 := (by omega); have l5' := fun b (hb : b < _) => Nat.lt_succ_of_lt (Nat.lt_of_lt_of_le hb g5.size); have hq54 : W7.heap.size ≤ q5 := Nat.le_trans (show W7.heap.size ≤ _ from Below.size (B := W7.heap.size) (by (repeat' first | assumption | exact Below.refl _ _ | exact Nat.le_refl _ | apply kp_alloc | apply kp_set | apply Below.drew | omega))) hq5; have o5 := KOwn.mono (base' := W7.heap.size) o5 (Below.size (B := W7.heap.size) (by (repeat' first | assumption | exact Below.refl _ _ | exact Nat.le_refl _ | apply kp_alloc | apply kp_set | apply Below.drew | omega))))
          | (refine step_append_krow fmTy encF_len (by rfl) (.tmp 63) (.tmp 71) (by rfl) W7.heap.size _ R (by rfl) (by first | exact o5 | exact own_alloc o5 _ | exact own_alloc (own_alloc o5 _) _ | exact own_drew o5 | exact own_drew (own_alloc o5 _)) _ [(⟨⟨nm, 0, [], []⟩, .slice none 0 0, []⟩ : Fs)] (by rfl) (one_fm (x := (⟨⟨nm, 0, [], []⟩, .slice none 0 0, []⟩ : Fs)) (by go_simp) (by go_simp) (by go_simp) (by go_simp) (by go_simp) (by go_simp)) hone4.out hlt3 (Below.size (by (repeat' first | assumption | exact Below.refl _ _ | exact Nat.le_refl _ | apply kp_alloc | apply kp_set | apply Below.drew | omega))) ?_; intro v6 w6 o6 g6; have k6 : Below W7.heap.size W7 w6 := Below.grown (by (repeat' first | assumption | exact Below.refl _ _ | exact Nat.le_refl _ | apply kp_alloc | apply kp_set | apply Below.drew | omega)) g6 (Below.size (by (repeat' first | assumption | exact Below.refl _ _ | exact Nat.le_refl _ | apply kp_alloc | apply kp_set | apply Below.drew | omega))) (fun q hq => by cases hq; exact hq54); have s6 : w6.heap.size < w6.heap.size + 1 := Nat.lt_succ_self _; obtain ⟨c6, f6⟩ := grown_cells g6; have l6 := fun b (hb : b < _) => Nat.lt_of_lt_of_le hb g6.size; have l65 := fun b (hb : b < w5.heap.size) => Nat.lt_of_lt_of_le hb (Nat.le_trans (Below.size (B := w5.heap.size) (by (repeat' first | exact Below.refl _ _ | apply kp_alloc | apply Below.drew))) g6.size); have l64 := fun b hb => l65 b (l5 b hb); clear l65; obtain ⟨A6, cap6, he6, _⟩ := KOwn.row encF_len o6; obtain ⟨n6, hn6⟩ : ∃ n6, (R ++ [(⟨⟨nm, 0, [], []⟩, .slice none 0 0, []⟩ : Fs)]).length = n6 := ⟨_, rfl⟩; rw [hn6] at he6; clear hn6; subst he6)
          | (go_at_call 9; refine (hsC.out _ (by (repeat' first | assumption | exact Below.refl _ _ | exact Nat.le_refl _ | apply kp_alloc | apply kp_set | apply Below.drew | omega)) _ (by first | exact o6 | exact own_alloc o6 _ | exact own_drew o6 | exact own_drew (own_alloc o6 _))).mono ?_; rintro e w7 ⟨⟨A8, n8, cap8, rfl⟩, b7⟩; have k7 : Below W7.heap.size W7 w7 := (by refine trans9 ?_ b7; (repeat' first | assumption | exact Below.refl _ _ | exact Nat.le_refl _ | apply kp_alloc | apply kp_set | apply Below.drew | omega)); obtain ⟨c7, f7⟩ := bcell b7; have l7 := fun b (hb : b < _) => Nat.lt_of_lt_of_le hb b7.size)))
      all_goals
        go_wp2_with fail
        go_meet
        exact ⟨_, rfl, rfl, by (repeat' first | assumption | exact Below.refl _ _ | exact Nat.le_refl _ | apply kp_alloc | apply kp_set | apply Below.drew | exact Below.size (B := W7.heap.size) (by assumption) | omega)⟩
    case rest =>
      obtain ⟨gc, rfl, rfl, bC⟩ := hcut
      have B8 := Lib.hid (B7.out.below bC)
      have R8 := Lib.hid (R7.out.below bC)
      have T8 := Lib.hid (shpl_below T7.out bC)
      have X8 := Lib.hid (X7.out.below bC)
      have RX8 := Lib.hid (RX7.out.below bC)
      have Y8 := Lib.hid (Y7.out.below bC)
      have RY8 := Lib.hid (RY7.out.below bC)
      have K8 := Lib.hid (trans9 K7.out bC)
      clear x0 x1 xf xl hX c0 hC hbs hsC HU3 hone3 hone4 hin hlt2 hlt3 hL0 hL0I bC B7 R7 T7 X7 RX7 Y7 RY7 K7 L7
      generalize wc = W8 at *
      obtain ⟨x0, x1, xf, xl⟩ := B8.out
      obtain ⟨y0, y1, yf, yl⟩ := X8.out
      obtain ⟨z0, z1, zf, zl⟩ := Y8.out
      have hR : ∀ b o u, b < W8.heap.size → W8.cell? ⟨b, o, none⟩ = some u → ∀ z, Below W8.heap.size W8 z → z.cell? ⟨b, o, none⟩ = some u := fun b o u hb hu z hz => (hz.cell (p := ⟨b, o, none⟩) hb).trans hu
      have r0 := hR _ _ _ xl x0
      have r1 := hR _ _ _ xl x1
      have s0 := hR _ _ _ yl y0
      have s1 := hR _ _ _ yl y1
      have q0 := hR _ _ _ zl z0
      have q1 := hR _ _ _ zl z1
      have HFx := Lib.hid (HF.out.same HM6.out)
      have HFy := Lib.hid (HF.out.same HM7.out)
      have HS1 := Lib.hid (fun z (hz : Below W8.heap.size W8 z) => bsame_calls t t M6 F _ _ z (RX8.out.below hz) (R8.out.below hz) HFx.out)
      have HS2 := Lib.hid (fun z (hz : Below W8.heap.size W8 z) => bsame_calls t t M7 F _ _ z (RY8.out.below hz) (R8.out.below hz) HFy.out)
      have HCk := Lib.hid (fun z (hz : Below W8.heap.size W8 z) => bcheck_calls t M6 _ z (RX8.out.below hz) HFx.out HTL.out (shpl_below T8.out hz))
      have HP1 := Lib.hid (fun z (hz : Below W8.heap.size W8 z) => bpoints_calls t M6 _ z (RX8.out.below hz) HFx.out)
      have HP2 := Lib.hid (fun z (hz : Below W8.heap.size W8 z) => bpoints_calls t F _ z (R8.out.below hz) HF.out)
      rw [HM6.out, sameB_refl] at HS1
      rw [HM7.out, sameB_refl] at HS2
      rw [HM6.out, HH.out] at HCk
      rw [HM6.out] at HP1
      generalize nPts (fms F) = np at *
      clear hR xf yf zf
      go_wp2_with fail
      go_region_held3 (fun z => Below W8.heap.size W8 z)
        (((repeat' first | assumption | exact Below.refl _ _ | exact Nat.le_refl _ | apply kp_alloc | apply kp_set | apply Below.drew | exact Below.size (B := W8.heap.size) (by assumption) | omega); done))
        ((first
          | (go_at_call_of 11 (Value.agg #[Value.string (str t), Value.slice A6 n6 cap6]); refine (HS1.out _ (by (repeat' first | assumption | exact Below.refl _ _ | exact Nat.le_refl _ | apply kp_alloc | apply kp_set | apply Below.drew | omega))).mono ?_; rintro e u1 ⟨rfl, b1⟩; have k1 : Below W8.heap.size W8 u1 := (by refine trans9 ?_ b1; (repeat' first | assumption | exact Below.refl _ _ | exact Nat.le_refl _ | apply kp_alloc | apply kp_set | apply Below.drew | omega)))
          | (go_at_call_of 11 (Value.agg #[Value.string (str t), Value.slice A7 n7 cap7]); refine (HS2.out _ (by (repeat' first | assumption | exact Below.refl _ _ | exact Nat.le_refl _ | apply kp_alloc | apply kp_set | apply Below.drew | omega))).mono ?_; rintro e u2 ⟨rfl, b2⟩; have k2 : Below W8.heap.size W8 u2 := (by refine trans9 ?_ b2; (repeat' first | assumption | exact Below.refl _ _ | exact Nat.le_refl _ | apply kp_alloc | apply kp_set | apply Below.drew | omega)))
          | (go_at_call 12; refine (HCk.out _ (by (repeat' first | assumption | exact Below.refl _ _ | exact Nat.le_refl _ | apply kp_alloc | apply kp_set | apply Below.drew | omega))).mono ?_; rintro e u3 ⟨rfl, b3⟩; have k3 : Below W8.heap.size W8 u3 := (by refine trans9 ?_ b3; (repeat' first | assumption | exact Below.refl _ _ | exact Nat.le_refl _ | apply kp_alloc | apply kp_set | apply Below.drew | omega)))
          | (go_at_call_of 13 (Value.agg #[Value.string (str t), Value.slice A6 n6 cap6]); refine (HP1.out _ (by (repeat' first | assumption | exact Below.refl _ _ | exact Nat.le_refl _ | apply kp_alloc | apply kp_set | apply Below.drew | omega))).mono ?_; rintro e u4 ⟨rfl, b4⟩; have k4 : Below W8.heap.size W8 u4 := (by refine trans9 ?_ b4; (repeat' first | assumption | exact Below.refl _ _ | exact Nat.le_refl _ | apply kp_alloc | apply kp_set | apply Below.drew | omega)))
          | (go_at_call_of 13 (Value.agg #[Value.string (str t), Value.slice A F.length cap]); refine (HP2.out _ (by (repeat' first | assumption | exact Below.refl _ _ | exact Nat.le_refl _ | apply kp_alloc | apply kp_set | apply Below.drew | omega))).mono ?_; rintro e u5 ⟨rfl, b5⟩; have k5 : Below W8.heap.size W8 u5 := (by refine trans9 ?_ b5; (repeat' first | assumption | exact Below.refl _ _ | exact Nat.le_refl _ | apply kp_alloc | apply kp_set | apply Below.drew | omega)))))
      all_goals
        go_wp2_with fail
        go_ret
        exact ⟨rfl, trans9 K8.out (by (repeat' first | assumption | exact Below.refl _ _ | exact Nat.le_refl _ | apply kp_alloc | apply kp_set | apply Below.drew | omega))⟩

end Go.Proofs.YtkmcjmpdmgdcoaaGreatDoor
