/- The walks of package sum's digits: down, times. -/
import Derived.Test.YtpciohnnnpgpiaaSumC
import Derived.Deep.RegionHeld3
import Derived.Deep.DrawnRows
set_option linter.unusedVariables false
set_option linter.unusedSimpArgs false
namespace Go.Proofs.Ytpciohnnnpgpiaa
open Go.RowKit Dc
attribute [local go_sem ↓] Go.wp_at_zero Go.wp_at_succ

/-- digits moved down, over what was there -/
def movedZ (z z0 : Nat → Nat) (p : Nat) (i : Nat) : Nat := if i + p < 55 then z (i + p) else z0 i
def tailV (z : Nat → Nat) (p : Nat) : List Value := (List.range (55 - p)).map fun j => .int .u8 (z (j + p) : Nat)
theorem tailV_len (z : Nat → Nat) (p : Nat) : (tailV z p).length = 55 - p := by simp [tailV]
theorem tailV_at {z : Nat → Nat} {p j : Nat} {v : Value} (h : (tailV z p)[j]? = some v) : j < 55 - p ∧ v = .int .u8 (z (j + p) : Nat) := by
  unfold tailV at h
  rw [List.getElem?_map] at h
  by_cases hj : j < 55 - p
  · rw [List.getElem?_range hj] at h
    simp at h
    exact ⟨hj, h.symm⟩
  · rw [List.getElem?_eq_none (by simp; omega)] at h
    cases h
theorem splice_sA (z z0 : Nat → Nat) (p : Nat) (hp : p ≤ 55) : ((sA z0).toList.take 0 ++ tailV z p ++ (sA z0).toList.drop (0 + (tailV z p).length)).toArray = sA (movedZ z z0 p) := by
  apply Array.ext_getElem?
  intro i
  rw [tailV_len]
  simp only [List.take_zero, List.nil_append, Nat.zero_add, List.getElem?_toArray]
  by_cases hi : i < 55
  · rw [sA_at _ _ hi]
    unfold movedZ
    by_cases h : i + p < 55
    · rw [List.getElem?_append_left (by rw [tailV_len]; omega), if_pos h]
      unfold tailV
      rw [List.getElem?_map, List.getElem?_range (by omega)]; rfl
    · rw [List.getElem?_append_right (by rw [tailV_len]; omega), if_neg h, tailV_len, List.getElem?_drop, show 55 - p + (i - (55 - p)) = i by omega, Array.getElem?_toList, sA_at _ _ hi]
  · rw [Array.getElem?_eq_none (by rw [sA_size]; omega), List.getElem?_append_right (by rw [tailV_len]; omega), tailV_len, List.getElem?_drop, show 55 - p + (i - (55 - p)) = i by omega, Array.getElem?_toList, Array.getElem?_eq_none (by rw [sA_size]; omega)]
theorem u8_info : (Try.prog.info? 5).map (·.size) = some 1 := by kernel_rfl
theorem step_copy_sA {ops : Array Oper} {o : Oper} {a : Act} {w : World} {K : Act → World → Prop} {Q : Exit → Act → World → Prop} {E : Prop} (hgd : o.guard = none) (d s : Operand)
    (ho : o.op = .call { callee := .builtin .copy, args := #[d, s], argTypes := #[49, 49] }) (g b p n c : Nat) (z z0 : Nat → Nat)
    (hd : a.eval d = .slice (some ⟨g, 0, none⟩) 55 55) (hs : a.eval s = .slice (some ⟨b, p, none⟩) n c) (hn : n = 55 - p) (hp : p ≤ 54) (h1 : SAt w g z0) (h2 : SAt w b z)
    (h : K (a.put o.dst (goInt ((55 - p : Nat) : Int))) (w.setRow g (sA (movedZ z z0 p)))) :
    if Region.wanted o (yielded ops a.tmps) = true then Oper.wp Try.prog o a w K Q else E := by
  subst hn
  have hw : Region.wanted o (yielded ops a.tmps) = true := by simp [Region.wanted, hgd]
  rw [if_pos hw]
  have hrun := run_copy_row (P := Try.prog) w 49 49 o.type 5 g 0 55 55 ⟨b, p, none⟩ (55 - p) c (sA z0) 43 (tailV z p) Try.underlying49 u8_info h1.heap
    (by rw [tailV_len]; show 55 - p = min (55 - p) 55; omega)
    (fun j v hv => by
      obtain ⟨hj, rfl⟩ := tailV_at hv
      have := h2.cell (j + p) (by omega)
      rw [show ((⟨b, p, none⟩ : Addr).add j) = ⟨b, j + p, none⟩ by unfold Addr.add; split <;> simp_all <;> omega]
      exact this)
    (by rw [tailV_len, sA_size]; omega)
    (fun v hv => by
      obtain ⟨j, hj⟩ := List.mem_iff_getElem?.1 hv
      obtain ⟨_, rfl⟩ := tailV_at hj
      rfl)
  rw [splice_sA z z0 p (by omega), tailV_len] at hrun
  unfold Oper.wp
  simp [execOp, ho, resolve, invoke, builtin, hd, hs, hrun, Result.andThen]
  exact h
theorem kp_row {a w : World} (h : Below a.heap.size a w) {g : Nat} (hg : a.heap.size ≤ g) (c : Array Value) : Below a.heap.size a (w.setRow g c) := below_setRow h hg c

set_option maxRecDepth 100000 in
set_option maxHeartbeats 4000000 in
theorem down_calls (x p : Nat) (w : World) (hx : x < 10 ^ 55) (hp : p ≤ 54) :
    Calls Try.prog 49 #[.agg (sA (dgt x)), .int .i64 (p : Nat)] w fun e w' => e = .returned (.agg (sA (dgt (x / 10 ^ p)))) ∧ Below w.heap.size w w' := by
  have hs := sA_size (dgt x)
  have hone := sA_one (dgt x)
  have Hx := Lib.hid hx
  clear hx
  have hpi : (p : Int) ≤ 55 := by omega
  have hp55 : ¬ 55 = p := by omega
  have hpi0 : (0 : Int) ≤ (p : Int) := by omega
  go_enter Try.func49, Try.ntmps49
  go_wp2_with fail
  rw [zeros_sA]
  have b1 := (Below.refl w.heap.size w).alloc (Nat.le_refl _) (.cells (sA (dgt x)) 43)
  have b2 := kb_alloc b1 (Nat.le_refl _) (.cells (sA (fun _ => 0)) 43)
  have b3 := kb_alloc b2 (Nat.le_refl _) (.cells (sA (fun _ => 0)) 43)
  have d1 := ((SAt.new w (dgt x)).alloc (.cells (sA (fun _ => 0)) 43)).alloc (.cells (sA (fun _ => 0)) 43)
  have d2 := (SAt.new (w.alloc (.cells (sA (dgt x)) 43)) (fun _ => 0)).alloc (.cells (sA (fun _ => 0)) 43)
  have d3 := SAt.new ((w.alloc (.cells (sA (dgt x)) 43)).alloc (.cells (sA (fun _ => 0)) 43)) (fun _ => 0)
  rw [show (w.alloc (.cells (sA (dgt x)) 43)).heap.size = w.heap.size + 1 by simp] at d2
  rw [show ((w.alloc (.cells (sA (dgt x)) 43)).alloc (.cells (sA (fun _ => 0)) 43)).heap.size = w.heap.size + 2 by simp] at d3
  generalize ((w.alloc (.cells (sA (dgt x)) 43)).alloc (.cells (sA (fun _ => 0)) 43)).alloc (.cells (sA (fun _ => 0)) 43) = W at *
  clear hs hone b1 b2
  have e1 := d1.drew1
  have e3 := d3.drew1
  go_region_held3 (fun X => Below w.heap.size w X)
    (first | exact Below.drew b3 | exact below_setRow (Below.drew b3) (by omega) _)
    (first | (refine step_copy_sA (by rfl) (.tmp 6) (.tmp 8) (by rfl) (w.heap.size + 2) w.heap.size p (55 - p) (55 - p) (dgt x) (fun _ => 0) (by rfl) (by first | rfl | (show Value.slice (some (if 55 = p then _ else _)) _ _ = _; rw [if_neg hp55])) (by omega) hp e3 e1 ?_))
  all_goals
    have q2 := d2.drew1.otherRow (sA (movedZ (dgt x) (fun _ => 0) p)) (g := w.heap.size + 2) (by omega)
    have q3 := d3.drew1.row (movedZ (dgt x) (fun _ => 0) p)
    have hB := below_setRow (g := w.heap.size + 2) (Below.drew b3) (by omega) (sA (movedZ (dgt x) (fun _ => 0) p))
    have hex : sA (movedZ (dgt x) (fun _ => 0) p) = sA (dgt (x / 10 ^ p)) := sA_ext fun i hi => by
      unfold movedZ
      rw [dgt_down]
      by_cases h : i + p < 55
      · rw [if_pos h, Nat.add_comm]
      · rw [if_neg h, dgt_of_le Hx.out (by omega)]
    generalize hZ : movedZ (dgt x) (fun _ => 0) p = Z at *
    generalize W.drew.setRow (w.heap.size + 2) (sA Z) = W2 at *
    clear e1 e3 d1 d2 d3 b3 hZ
    have q2' : SAt W2 (w.heap.size + 1) (fun _ => 0) := q2
    go_wp2_with (first
      | (refine wpList_load_row rfl 43 _ rfl (w.heap.size + 2) rfl 43 _ (0, 0) _ q3.heap Try.underlying43 rfl (by rw [sA_size]; exact sum_info) ?_)
      | (refine wpList_store_row rfl 43 _ _ rfl (w.heap.size + 1) _ rfl rfl 43 _ q2'.heap (by rw [sA_size]; exact sum_info) (by rw [sA_size, sA_size]) (sA_one _) ?_))
    have hv := (q2'.row Z).value
    rw [hex] at hv ⊢
    refine bodyPost_ret (v := .agg (sA (dgt (x / 10 ^ p)))) (by simp [results, Try.results49, Act.put, asAddr, hv, Result.andThen]) rfl ⟨rfl, below_setRow hB (by omega) _⟩

set_option maxRecDepth 100000 in
set_option maxHeartbeats 8000000 in
theorem times_calls (x y : Nat) (w : World) (hx : x < 10 ^ 19) (hy : y < 10 ^ 19) :
    Calls Try.prog 27 #[.agg (sA (dgt x)), .agg (sA (dgt y))] w fun e w' => e = .returned (.agg (sA (dgt (x * y)))) ∧ Below w.heap.size w w' := by
  have hs := sA_size (dgt x)
  have hone := sA_one (dgt x)
  have hs2 := sA_size (dgt y)
  have hone2 := sA_one (dgt y)
  have Hx := Lib.hid hx
  have Hy := Lib.hid hy
  clear hx hy
  go_enter Try.func27, Try.ntmps27
  go_wp2_with fail
  rw [zeros_sA]
  have b1 := (Below.refl w.heap.size w).alloc (Nat.le_refl _) (.cells (sA (dgt x)) 43)
  have b2 := kb_alloc b1 (Nat.le_refl _) (.cells (sA (dgt y)) 43)
  have b3 := kb_alloc b2 (Nat.le_refl _) (.cells (sA (fun _ => 0)) 43)
  have b4 := kb_alloc b3 (Nat.le_refl _) (.cells (sA (fun _ => 0)) 43)
  have d1 := (((SAt.new w (dgt x)).alloc (.cells (sA (dgt y)) 43)).alloc (.cells (sA (fun _ => 0)) 43)).alloc (.cells (sA (fun _ => 0)) 43)
  have d2 := ((SAt.new (w.alloc (.cells (sA (dgt x)) 43)) (dgt y)).alloc (.cells (sA (fun _ => 0)) 43)).alloc (.cells (sA (fun _ => 0)) 43)
  have d3 := (SAt.new ((w.alloc (.cells (sA (dgt x)) 43)).alloc (.cells (sA (dgt y)) 43)) (fun _ => 0)).alloc (.cells (sA (fun _ => 0)) 43)
  have d4 := SAt.new (((w.alloc (.cells (sA (dgt x)) 43)).alloc (.cells (sA (dgt y)) 43)).alloc (.cells (sA (fun _ => 0)) 43)) (fun _ => 0)
  rw [show (w.alloc (.cells (sA (dgt x)) 43)).heap.size = w.heap.size + 1 by simp] at d2
  rw [show ((w.alloc (.cells (sA (dgt x)) 43)).alloc (.cells (sA (dgt y)) 43)).heap.size = w.heap.size + 2 by simp] at d3
  rw [show (((w.alloc (.cells (sA (dgt x)) 43)).alloc (.cells (sA (dgt y)) 43)).alloc (.cells (sA (fun _ => 0)) 43)).heap.size = w.heap.size + 3 by simp] at d4
  generalize (((w.alloc (.cells (sA (dgt x)) 43)).alloc (.cells (sA (dgt y)) 43)).alloc (.cells (sA (fun _ => 0)) 43)).alloc (.cells (sA (fun _ => 0)) 43) = W at *
  have HH := Lib.hid (⟨b4, d1, d2, d3, d4⟩ : _ ∧ _ ∧ _ ∧ _ ∧ _)
  clear hs hone hs2 hone2 b1 b2 b3 b4 d1 d2 d3 d4
  go_loopw [10] (fun s10 wr => ∃ i : Nat, i ≤ 19 ∧ s10 = .int .i64 (i : Nat) ∧ Hid (Below w.heap.size w wr ∧ SAt wr w.heap.size (dgt x) ∧ SAt wr (w.heap.size + 1) (dgt y) ∧ SAt wr (w.heap.size + 2) (fun _ => 0) ∧ SAt wr (w.heap.size + 3) (dgt (x % 10 ^ i * y)))) (fun s10 _ => 19 - (intOf s10).toNat)
  case atStart => exact ⟨0, by omega, rfl, HH.out.1, HH.out.2.1, HH.out.2.2.1, HH.out.2.2.2.1, HH.out.2.2.2.2.ext (fun i _ => by rw [Nat.pow_zero, Nat.mod_one, Nat.zero_mul, dgt_zero])⟩
  case round =>
    clear HH
    obtain ⟨i, hi, rfl, H⟩ := hrel
    by_cases h19 : i < 19
    · obtain ⟨hB, hd1, hd2, hd3, hd4⟩ := H.out
      have hpx := dgt_le x i
      have HP := Lib.hid (⟨hpx, part_lt x y i 19 Hy.out, part_lt x y (i + 1) 19 Hy.out, part_step x y i⟩ : _ ∧ _ ∧ _ ∧ _)
      have HL := Lib.hid (cz_last x y i 19 Hy.out)
      have hcx := hd1.cell i (by omega)
      generalize hP : x % 10 ^ i * y = P at *
      generalize hN : x % 10 ^ (i + 1) * y = N at *
      generalize hd : dgt x i = d at *
      have HH := Lib.hid (⟨hB, hd1, hd2, hd3, hd4⟩ : _ ∧ _ ∧ _ ∧ _ ∧ _)
      have Hds := Lib.hid (⟨hP, hN, hd⟩ : _ ∧ _ ∧ _)
      clear hB hd1 hd2 hd3 hd4 H hP hN hd hcx hpx
      go_wp2_with fail
      go_loopw [7, 13] (fun s7 s13 wr => ∃ j c : Nat, j ≤ 19 ∧ c ≤ 9 ∧ s7 = .int .u8 (c : Nat) ∧ s13 = .int .i64 (j : Nat) ∧ Hid (c = cz P d y i j ∧ Below w.heap.size w wr ∧ SAt wr w.heap.size (dgt x) ∧ SAt wr (w.heap.size + 1) (dgt y) ∧ SAt wr (w.heap.size + 2) (fun _ => 0) ∧ SAt wr (w.heap.size + 3) (fun k => if k < i + j then dgt N k else dgt P k))) (fun _ s13 _ => 19 - (intOf s13).toNat)
      case atStart =>
        obtain ⟨q0, q1, q2, q3, q4⟩ := HH.out
        refine ⟨0, 0, by omega, by omega, rfl, rfl, (cz_zero P d y i).symm, q0, q1, q2, q3, q4.ext fun k _ => ?_⟩
        by_cases h : k < i + 0
        · rw [if_pos h, HP.out.2.2.2, Nat.mul_right_comm, dgt_low _ _ _ _ (show k < i from h)]
        · rw [if_neg h]
      case round =>
        clear HH
        obtain ⟨j, c, hj, hc9, rfl, rfl, H⟩ := hrel
        by_cases hj19 : j < 19
        · obtain ⟨hcz, q0, q1, q2, q3, q4⟩ := H.out
          have c1 := q1.cell i (by omega)
          have c2 := q2.cell j (by omega)
          have c4 := q4.cell (i + j) (by omega)
          have f4 := q4.free (i + j)
          rw [if_neg (by omega)] at c4
          rw [Hds.out.2.2] at c1
          have h9 := dgt_le y j
          have h9' := dgt_le P (i + j)
          have hd9 := HP.out.1
          have hdig := prod_dgt P d y i j
          have hcc := cz_step P d y i j
          have hle := cz_le P d y i (j + 1) hd9
          rw [← HP.out.2.2.2] at hdig
          rw [← hcz] at hdig hcc
          rw [hcc] at hle
          have HH := Lib.hid (⟨q0, q1, q2, q3, q4⟩ : _ ∧ _ ∧ _ ∧ _ ∧ _)
          have Hd := Lib.hid (⟨hdig, hcc, hle⟩ : _ ∧ _ ∧ _)
          clear hcz q0 q1 q2 q3 q4 hdig hcc hle H
          generalize hb : dgt y j = b at *
          generalize ha : dgt P (i + j) = a at *
          clear ha hb
          have hmul : d * b ≤ 81 := Nat.mul_le_mul hd9 h9
          have hmi : ((d : Int) * (b : Int)) = ((d * b : Nat) : Int) := (Int.natCast_mul d b).symm
          generalize hm : d * b = m at *
          have hw1 : IntKind.u8.wrap ((d : Int) * (b : Int)) = (m : Int) := by rw [hmi, IntKind.wrap_u8]; omega
          clear hm hmi
          go_wp2_with fail
          go_quiet (fail)
          go_wp2_with fail
          go_roundw
          case rel =>
            have e1 : (((a : Int) + (m : Int) + (c : Int)) % 10) = (((a + m + c) % 10 : Nat) : Int) := by omega
            have e2 : (((a : Int) + (m : Int) + (c : Int)) / 10) = (((a + m + c) / 10 : Nat) : Int) := by omega
            obtain ⟨q0, q1, q2, q3, q4⟩ := HH.out
            rw [e1, e2]
            refine ⟨j + 1, (a + m + c) / 10, hj19, Hd.out.2.2, rfl, by go_num, Hd.out.2.1.symm, Below.setCell (p := ⟨w.heap.size + 3, i + j, none⟩) (below_drewN q0 _) (by simp) _, (SAt.drew q1).other _ _ (by simp; omega), (SAt.drew q2).other _ _ (by simp), (SAt.drew q3).other _ _ (by simp), ((SAt.drew q4).set (i + j) ((a + m + c) % 10)).ext fun k _ => ?_⟩
            by_cases h : k = i + j
            · subst h; rw [if_pos rfl, if_pos (by omega), Hd.out.1]
            · rw [if_neg h]
              by_cases h3 : k < i + j
              · rw [if_pos h3, if_pos (by omega)]
              · rw [if_neg h3, if_neg (by omega)]
          case measure => simp [intOf]; omega
        · obtain rfl : j = 19 := by omega
          rw [show ((19 : Nat) : Int) = 19 from rfl]
          obtain ⟨hcz, q0, q1, q2, q3, q4⟩ := H.out
          have f4 := q4.free (i + 19)
          have c4 := q4.cell (i + 19) (by omega)
          have HH := Lib.hid (⟨hcz, q0, q1, q2, q3, q4⟩ : _ ∧ _ ∧ _ ∧ _ ∧ _ ∧ _)
          clear hcz q0 q1 q2 q3 q4 H
          go_wp2_with fail
          go_roundw
          case rel =>
            obtain ⟨hcz, q0, q1, q2, q3, q4⟩ := HH.out
            have hl := HL.out
            rw [← hcz] at hl
            have hp := HP.out
            refine ⟨i + 1, h19, by go_num, Below.setCell (p := ⟨w.heap.size + 3, i + 19, none⟩) q0 (by simp) _, q1.other _ _ (by simp; omega), q2.other _ _ (by simp), q3.other _ _ (by simp), (q4.set (i + 19) c).ext fun k _ => ?_⟩
            rw [Hds.out.2.1]
            by_cases h : k = i + 19
            · subst h; rw [if_pos rfl, hl]
            · rw [if_neg h]
              by_cases h3 : k < i + 19
              · rw [if_pos h3]
              · rw [if_neg h3, dgt_of_le hp.2.1 (by omega), dgt_of_le hp.2.2.1 (by omega)]
          case measure => simp [intOf]; omega
    · obtain rfl : i = 19 := by omega
      obtain ⟨hB, hd1, hd2, hd3, hd4⟩ := H.out
      clear H
      rw [show ((19 : Nat) : Int) = 19 from rfl]
      have hex : dgt (x % 10 ^ 19 * y) = dgt (x * y) := by rw [Nat.mod_eq_of_lt Hx.out]
      rw [hex] at hd4
      go_wp2_with (first
        | (refine wpList_load_row rfl 43 _ rfl (w.heap.size + 3) rfl 43 _ (0, 0) _ hd4.heap Try.underlying43 rfl (by rw [sA_size]; exact sum_info) ?_)
        | (refine wpList_store_row rfl 43 _ _ rfl (w.heap.size + 2) _ rfl rfl 43 _ hd3.heap (by rw [sA_size]; exact sum_info) (by rw [sA_size, sA_size]) (sA_one _) ?_))
      have hv := (hd3.row (dgt (x * y))).value
      refine bodyPost_ret (v := .agg (sA (dgt (x * y)))) (by simp [results, Try.results27, Act.put, asAddr, hv, Result.andThen]) rfl ⟨rfl, below_setRow hB (by omega) _⟩

end Go.Proofs.Ytpciohnnnpgpiaa
