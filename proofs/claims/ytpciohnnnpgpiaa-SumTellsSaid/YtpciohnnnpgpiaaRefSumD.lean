/- The walk of the reference's product of rows of digits. -/
import Derived.Test.YtpciohnnnpgpiaaRefSumC
import Derived.Deep.RegionHeld3
import Derived.Deep.DrawnRows
set_option linter.unusedVariables false
set_option linter.unusedSimpArgs false
namespace Go.Proofs.Ytpciohnnnpgpiaa
open Go.RowKit Dc
attribute [local go_sem ↓] Go.wp_at_zero Go.wp_at_succ

/-- the number of the last j columns of a row -/
def lowS (z : Nat → Nat) (n : Nat) : Nat → Nat
  | 0 => 0
  | j + 1 => lowS z n j + z (n - 1 - j) * 10 ^ j
theorem lowS_ext {z z' : Nat → Nat} {n : Nat} (j : Nat) (hj : j ≤ n) (h : ∀ t, t < n → n - 1 - t < j → z t = z' t) : lowS z n j = lowS z' n j := by
  induction j with
  | zero => rfl
  | succ j ih =>
    rw [lowS, lowS, ih (by omega) (fun t a b => h t a (by omega)), h (n - 1 - j) (by omega) (by omega)]
theorem lowS_zero (n j : Nat) : lowS (fun _ => 0) n j = 0 := by
  induction j with
  | zero => rfl
  | succ j ih => rw [lowS, ih]; simp
theorem lowS_add {z : Nat → Nat} {n m d : Nat} (hm : m < n) (j : Nat) (hj : j ≤ n) : lowS (fun t => if t = m then z m + d else z t) n j = lowS z n j + (if n - 1 - m < j then d * 10 ^ (n - 1 - m) else 0) := by
  induction j with
  | zero => simp [lowS]
  | succ j ih =>
    rw [lowS, lowS, ih (by omega)]
    by_cases h : n - 1 - j = m
    · rw [if_pos h, if_neg (show ¬ n - 1 - m < j by omega), if_pos (show n - 1 - m < j + 1 by omega), show n - 1 - m = j by omega, h, Nat.add_mul]; omega
    · rw [if_neg h]
      by_cases h2 : n - 1 - m < j
      · rw [if_pos h2, if_pos (by omega)]; omega
      · rw [if_neg h2, if_neg (by omega)]; omega
theorem cell_setOther {w : World} {a p : Addr} {u v : Value} (h : w.cell? p = some v) (hne : p.block ≠ a.block) : (w.setCell a u).cell? p = some v := (World.cell?_of_block (Below.heap_setCell w a u p.block hne)).trans h
theorem wrap_small (a b : Nat) (h : a ≤ 600000) (k : b ≤ 81) : wrap64 ((a : Int) + (b : Int)) = ((a + b : Nat) : Int) := by unfold wrap64; omega
theorem make_ints (n : Nat) (hn : n ≤ 20000) (w : World) : (Instr.makeSlice 67 (.int .i64 (n : Int)) (.int .i64 (n : Int))).run Try.prog w = .ok (.slice (some ⟨w.heap.size, 0, none⟩) n n) (w.alloc (.cells (rA .i64 n (fun _ => 0)) 3)) := by
  obtain ⟨i, hi, hz, h1, h2⟩ := info_parts (P := Try.prog) (t := 3) (z := .int .i64 0) (n := 1) (m := 8) (by kernel_rfl)
  have h := run_make (P := Try.prog) w 67 3 i (.int .i64 0) Try.underlying67 hi hz .i64 .i64 n n (by omega) (by omega) (by rw [h2]; omega) (by omega)
  rw [h, h1, ← rA_zero]
  simp [Value.cells]

set_option maxRecDepth 100000 in
set_option maxHeartbeats 8000000 in
theorem rproduct_calls (x y : Nat) (v u : Value) (w : World) (hv : DR w v (digs x)) (hu : DR w u (digs y)) (hx : x < 10 ^ 80) (hy : y < 10 ^ 80) :
    Calls Try.prog 32 #[v, u] w fun e w' => ∃ v', e = .returned v' ∧ DR w' v' (digs (x * y)) ∧ Below w.heap.size w w' := by
  obtain ⟨A, capa, rfl, h1, h2, h3⟩ := hv
  obtain ⟨B, capb, rfl, k1, k2, k3⟩ := hu
  have hla : (digs x).length ≤ 80 := digs_len_le hx
  have hlb : (digs y).length ≤ 80 := digs_len_le hy
  have Ha : Hid (∀ i, i < (digs x).length → ∃ b off, A = some ⟨b, off, none⟩ ∧ b < w.heap.size ∧ w.cell? ⟨b, off + i, none⟩ = some (.int .u8 (dgt x ((digs x).length - 1 - i) : Nat))) := fun i a => by
    obtain ⟨g, off, e, hl, hc⟩ := h3 (by omega)
    have h := digs_at x ((digs x).length - i) (by omega) (by omega)
    rw [show (digs x).length - ((digs x).length - i) = i by omega, show (digs x).length - i - 1 = (digs x).length - 1 - i by omega] at h
    exact ⟨g, off, e, hl, hc _ _ h⟩
  have Hb : Hid (∀ i, i < (digs y).length → ∃ b off, B = some ⟨b, off, none⟩ ∧ b < w.heap.size ∧ w.cell? ⟨b, off + i, none⟩ = some (.int .u8 (dgt y ((digs y).length - 1 - i) : Nat))) := fun i a => by
    obtain ⟨g, off, e, hl, hc⟩ := k3 (by omega)
    have h := digs_at y ((digs y).length - i) (by omega) (by omega)
    rw [show (digs y).length - ((digs y).length - i) = i by omega, show (digs y).length - i - 1 = (digs y).length - 1 - i by omega] at h
    exact ⟨g, off, e, hl, hc _ _ h⟩
  have hxl := digs_lt x
  have hyl := digs_lt y
  obtain ⟨la, hlae⟩ : ∃ la, la = (digs x).length := ⟨_, rfl⟩
  obtain ⟨lb, hlbe⟩ : ∃ lb, lb = (digs y).length := ⟨_, rfl⟩
  rw [← hlae] at h1 hla Ha hxl ⊢
  rw [← hlbe] at k1 hlb Hb hyl ⊢
  have hsum : x * y < 10 ^ (la + lb) := by
    have h := part_lt x y la lb hyl
    rwa [Nat.mod_eq_of_lt hxl] at h
  have hmk := make_ints (la + lb) (by omega) w
  have hmb := fun W => make_bytes (la + lb) (by omega) W
  rw [Int.natCast_add] at hmk
  simp only [Int.natCast_add] at hmb
  have htr := Lib.hid (fun W V (hV : DR W V (drow (x * y) (la + lb))) => rtrim_calls (drow (x * y) (la + lb)) V W hV (fun d hd => Nat.le_trans (drow_le _ _ d hd) (by omega)))
  rw [drow_trim _ _ hsum] at htr
  unfold maxLen at h2 k2
  have Hl := Lib.hid (⟨hxl, hyl⟩ : _ ∧ _)
  clear h3 k3 hlae hlbe hsum hx hy hxl hyl
  go_enter Try.func32, Try.ntmps32
  go_wp2_with fail
  have kB := (Below.refl w.heap.size w).alloc (Nat.le_refl _) (.cells (rA .i64 (la + lb) (fun _ => 0)) 3)
  have kr := RAt.new w 3 .i64 (la + lb) (fun _ => 0)
  have H0 := Lib.hid (⟨kB, kr⟩ : _ ∧ _)
  generalize w.alloc (.cells (rA .i64 (la + lb) (fun _ => 0)) 3) = W at *
  clear kB kr hmk
  go_loopw [6] (fun s6 wr => ∃ (j : Nat), j ≤ la ∧ s6 = .int .i64 ((la : Int) - 1 - (j : Int)) ∧ Hid (Below w.heap.size w wr ∧ ∃ z, RAt wr w.heap.size 3 .i64 (la + lb) z ∧ (∀ t, z t ≤ 6480 * j) ∧ lowS z (la + lb) (la + lb) = x % 10 ^ j * y)) (fun s6 _ => (intOf s6 + 1).toNat)
  case atStart => exact ⟨0, Nat.zero_le _, congrArg (Value.int .i64) (by omega), H0.out.1, _, H0.out.2, fun _ => by simp, by rw [lowS_zero, Nat.pow_zero, Nat.mod_one, Nat.zero_mul]⟩
  case round =>
    clear H0
    obtain ⟨j, hj, rfl, H⟩ := hrel
    by_cases hjl : j < la
    · obtain ⟨ia, hia⟩ : ∃ ia : Nat, (la : Int) - 1 - (j : Int) = (ia : Nat) := ⟨la - 1 - j, by omega⟩
      rw [hia]
      have hia2 : ia + j + 1 = la := by omega
      obtain ⟨ba, offa, hAa, hlta, eca⟩ := Ha.out ia (by omega)
      subst hAa
      rw [show la - 1 - ia = j by omega] at eca
      obtain ⟨hB, z, hz, hzb, hV⟩ := H.out
      have hd9 := dgt_le x j
      have hPs := part_step x y j
      generalize hP : x % 10 ^ j * y = P at *
      generalize hN : x % 10 ^ (j + 1) * y = N at *
      generalize hd : dgt x j = d at *
      have HP := Lib.hid (⟨hP, hN, hPs⟩ : _ ∧ _ ∧ _)
      have H1 : Hid (∃ z, RAt wr w.heap.size 3 .i64 (la + lb) z ∧ (∀ t, z t ≤ 6480 * j) ∧ lowS z (la + lb) (la + lb) = P) := ⟨z, hz, hzb, hV⟩
      have HB := Lib.hid hB
      clear hP hN hd hPs hB hz hzb hV H z
      go_wp2_with fail
      go_loopw [7] (fun s7 wr => ∃ (q : Nat), q ≤ lb ∧ s7 = .int .i64 ((lb : Int) - 1 - (q : Int)) ∧ Hid (Below w.heap.size w wr ∧ ∃ z, RAt wr w.heap.size 3 .i64 (la + lb) z ∧ (∀ t, z t ≤ 6480 * j + 81 * q) ∧ lowS z (la + lb) (la + lb) = P + d * 10 ^ j * (y % 10 ^ q))) (fun s7 _ => (intOf s7 + 1).toNat)
      case atStart =>
        obtain ⟨z, hz, hzb, hV⟩ := H1.out
        exact ⟨0, Nat.zero_le _, congrArg (Value.int .i64) (by omega), HB.out, z, hz, fun t => by have := hzb t; omega, by rw [hV, Nat.pow_zero, Nat.mod_one, Nat.mul_zero, Nat.add_zero]⟩
      case round =>
        clear H1 HB
        obtain ⟨q, hq, rfl, H⟩ := hrel
        by_cases hql : q < lb
        · obtain ⟨ib, hib⟩ : ∃ ib : Nat, (lb : Int) - 1 - (q : Int) = (ib : Nat) := ⟨lb - 1 - q, by omega⟩
          rw [hib]
          have hib2 : ib + q + 1 = lb := by omega
          obtain ⟨bb, offb, hBb, hltb, ecb⟩ := Hb.out ib (by omega)
          subst hBb
          rw [show lb - 1 - ib = q by omega] at ecb
          obtain ⟨hB, z, hz, hzb, hV⟩ := H.out
          have hb9 := dgt_le y q
          have hym : Hid (y % 10 ^ (q + 1) = y % 10 ^ q + dgt y q * 10 ^ q) := mod_step y q
          generalize hdb : dgt y q = b at *
          clear hdb
          have ea : (World.drew wr).cell? ⟨ba, offa + ia, none⟩ = some (.int .u8 (d : Nat)) := (hB.cell (p := ⟨ba, offa + ia, none⟩) hlta).trans eca
          have eb : (World.drew wr).cell? ⟨bb, offb + ib, none⟩ = some (.int .u8 (b : Nat)) := (hB.cell (p := ⟨bb, offb + ib, none⟩) hltb).trans ecb
          have eo : (World.drew wr).cell? ⟨w.heap.size, ia + ib + 1, none⟩ = some (.int .i64 (z (ia + ib + 1) : Nat)) := hz.cell (ia + ib + 1) (by omega)
          have fo : (World.drew wr).frozen? ⟨w.heap.size, ia + ib + 1, none⟩ = false := hz.free (ia + ib + 1)
          have hzm : z (ia + ib + 1) ≤ 600000 := by have := hzb (ia + ib + 1); omega
          have hmul : d * b ≤ 81 := Nat.mul_le_mul hd9 hb9
          have hstep : Hid (∀ wq, wq = (World.drew wr).setCell ⟨w.heap.size, ia + ib + 1, none⟩ (.int .i64 ((z (ia + ib + 1) + d * b : Nat) : Int)) → Below w.heap.size w wq ∧ ∃ z, RAt wq w.heap.size 3 .i64 (la + lb) z ∧ (∀ t, z t ≤ 6480 * j + 81 * (q + 1)) ∧ lowS z (la + lb) (la + lb) = P + d * 10 ^ j * (y % 10 ^ (q + 1))) := fun wq e => by
            subst e
            refine ⟨Below.setCell (p := ⟨w.heap.size, ia + ib + 1, none⟩) (Below.drew hB) (by simp) _, _, RAt.set (w := World.drew wr) ⟨hz.heap⟩ (ia + ib + 1) (z (ia + ib + 1) + d * b), fun t => ?_, ?_⟩
            · show (if t = ia + ib + 1 then _ else _) ≤ _
              have := hzb t
              have := hzb (ia + ib + 1)
              split
              · omega
              · omega
            · rw [lowS_add (z := z) (by omega) _ (Nat.le_refl _), hV, if_pos (by omega), hym.out, show la + lb - 1 - (ia + ib + 1) = j + q by omega, Nat.mul_add, Nat.pow_add, Nat.mul_mul_mul_comm d (10 ^ j) b (10 ^ q), Nat.add_assoc]
          have hmi : ((d : Int) * (b : Int)) = ((d * b : Nat) : Int) := (Int.natCast_mul d b).symm
          generalize hzz : z (ia + ib + 1) = zz at *
          generalize hm : d * b = m at *
          have hw1 : wrap64 ((d : Int) * (b : Int)) = (m : Int) := by rw [hmi]; unfold wrap64; omega
          have hx1 : (0 : Int) ≤ (ia : Int) + (ib : Int) + 1 := by omega
          have hx2 : (ia : Int) + (ib : Int) + 1 < (la : Int) + (lb : Int) := by omega
          have hx3 : (ia : Int) < (la : Int) := by omega
          have hto : ((ia : Int) + (ib : Int) + 1).toNat = ia + ib + 1 := by omega
          have hx4 : (ib : Int) < (lb : Int) := by omega
          have hx5 : (0 : Int) ≤ (ia : Int) := by omega
          have hx6 : (0 : Int) ≤ (ib : Int) := by omega
          have hwa : IntKind.i64.wrap ((ia : Int) + (ib : Int)) = (ia : Int) + (ib : Int) := IntWalk.i64_in _ (by omega)
          have hwb : IntKind.i64.wrap ((ia : Int) + (ib : Int) + 1) = (ia : Int) + (ib : Int) + 1 := IntWalk.i64_in _ (by omega)
          have hna : ba ≠ w.heap.size := by omega
          have hnb : bb ≠ w.heap.size := by omega
          clear hzz hm hmi hB hz hzb hV H eca ecb z
          go_wp2_with fail
          refine wp_region_noPanic ?_
          refine wp_region_held_drew (S := fun X => X.cell? ⟨ba, offa + ia, none⟩ = some (.int .u8 (d : Nat)) ∧ X.cell? ⟨bb, offb + ib, none⟩ = some (.int .u8 (b : Nat))) (by kernel_rfl) ?_ (fun hHeld => ?_)
          · exact ⟨ea, eb⟩
          refine wpAnyH_take (i := 0) (v := ?_) (by simp only [List.getElem?_toArray, List.getElem?_cons_succ, List.getElem?_cons_zero]; rfl) (by kernel_rfl) (by kernel_rfl) (by kernel_rfl) (fun _ _ _ h => h) (Or.inl ⟨by rfl, ?_⟩) hHeld ?_
          rotate_left
          · intro x hSw; (try dsimp only at hSw); first | (go_simp; done) | (go_simp; with_reducible rfl)
          try simp only [Act.put, List.setIfInBounds_toArray, List.set_cons_zero, List.set_cons_succ]
          refine wpAnyH_take (i := 1) (v := ?_) (by simp only [List.getElem?_toArray, List.getElem?_cons_succ, List.getElem?_cons_zero]; rfl) (by kernel_rfl) (by kernel_rfl) (by kernel_rfl) (fun _ _ _ h => h) (Or.inl ⟨by rfl, ?_⟩) hHeld ?_
          rotate_left
          · intro x hSw; (try dsimp only at hSw); first | (go_simp; done) | (go_simp; with_reducible rfl)
          try simp only [Act.put, List.setIfInBounds_toArray, List.set_cons_zero, List.set_cons_succ]
          refine wpAnyH_take (i := 2) (v := ?_) (by simp only [List.getElem?_toArray, List.getElem?_cons_succ, List.getElem?_cons_zero]; rfl) (by kernel_rfl) (by kernel_rfl) (by kernel_rfl) (fun _ _ _ h => h) (Or.inl ⟨by rfl, ?_⟩) hHeld ?_
          rotate_left
          · intro x hSw; (try dsimp only at hSw); first | (go_simp; done) | (go_simp; with_reducible rfl)
          try simp only [Act.put, List.setIfInBounds_toArray, List.set_cons_zero, List.set_cons_succ]
          refine wpAnyH_take (i := 3) (v := ?_) (by simp only [List.getElem?_toArray, List.getElem?_cons_succ, List.getElem?_cons_zero]; rfl) (by kernel_rfl) (by kernel_rfl) (by kernel_rfl) (fun _ _ _ h => h) (Or.inl ⟨by rfl, ?_⟩) hHeld ?_
          rotate_left
          · intro x hSw; (try dsimp only at hSw); first | (go_simp; done) | (go_simp; with_reducible rfl)
          try simp only [Act.put, List.setIfInBounds_toArray, List.set_cons_zero, List.set_cons_succ]
          refine wpAnyH_take (i := 4) (v := ?_) (by simp only [List.getElem?_toArray, List.getElem?_cons_succ, List.getElem?_cons_zero]; rfl) (by kernel_rfl) (by kernel_rfl) (by kernel_rfl) (fun _ _ _ h => h) (Or.inl ⟨by rfl, ?_⟩) hHeld ?_
          rotate_left
          · intro x hSw; (try dsimp only at hSw); first | (go_simp; done) | (go_simp; with_reducible rfl)
          try simp only [Act.put, List.setIfInBounds_toArray, List.set_cons_zero, List.set_cons_succ]
          refine wpAnyH_take (i := 5) (v := ?_) (by simp only [List.getElem?_toArray, List.getElem?_cons_succ, List.getElem?_cons_zero]; rfl) (by kernel_rfl) (by kernel_rfl) (by kernel_rfl) (fun _ _ _ h => h) (Or.inl ⟨by rfl, ?_⟩) hHeld ?_
          rotate_left
          · intro x hSw; (try dsimp only at hSw); first | (go_simp; done) | (go_simp; with_reducible rfl)
          try simp only [Act.put, List.setIfInBounds_toArray, List.set_cons_zero, List.set_cons_succ]
          refine wpAnyH_take (i := 7) (v := ?_) (by simp only [List.getElem?_toArray, List.getElem?_cons_succ, List.getElem?_cons_zero]; rfl) (by kernel_rfl) (by kernel_rfl) (by kernel_rfl) (fun _ _ _ h => h) (Or.inl ⟨by rfl, ?_⟩) hHeld ?_
          rotate_left
          · intro x hSw; (try dsimp only at hSw); first | (go_simp; done) | (go_simp; with_reducible rfl)
          try simp only [Act.put, List.setIfInBounds_toArray, List.set_cons_zero, List.set_cons_succ]
          refine wpAnyH_take (i := 8) (v := ?_) (by simp only [List.getElem?_toArray, List.getElem?_cons_succ, List.getElem?_cons_zero]; rfl) (by kernel_rfl) (by kernel_rfl) (by kernel_rfl) (fun _ _ _ h => h) (Or.inl ⟨by rfl, ?_⟩) hHeld ?_
          rotate_left
          · intro x hSw; (try dsimp only at hSw); first | (go_simp; done) | (go_simp; with_reducible rfl)
          try simp only [Act.put, List.setIfInBounds_toArray, List.set_cons_zero, List.set_cons_succ]
          refine wpAnyH_take (i := 9) (v := ?_) (by simp only [List.getElem?_toArray, List.getElem?_cons_succ, List.getElem?_cons_zero]; rfl) (by kernel_rfl) (by kernel_rfl) (by kernel_rfl) (fun _ _ _ h => h) (Or.inl ⟨by rfl, ?_⟩) hHeld ?_
          rotate_left
          · intro x hSw; (try dsimp only at hSw); first | (go_simp; done) | (go_simp; with_reducible rfl)
          try simp only [Act.put, List.setIfInBounds_toArray, List.set_cons_zero, List.set_cons_succ]
          refine wpAnyH_take (i := 10) (v := ?_) (by simp only [List.getElem?_toArray, List.getElem?_cons_succ, List.getElem?_cons_zero]; rfl) (by kernel_rfl) (by kernel_rfl) (by kernel_rfl) (fun _ _ _ h => h) (Or.inl ⟨by rfl, ?_⟩) hHeld ?_
          rotate_left
          · intro x hSw; (try dsimp only at hSw); obtain ⟨sa, sb⟩ := hSw; first | (go_simp; done) | (go_simp; with_reducible rfl)
          try simp only [Act.put, List.setIfInBounds_toArray, List.set_cons_zero, List.set_cons_succ]
          refine wpAnyH_take (i := 11) (v := ?_) (by simp only [List.getElem?_toArray, List.getElem?_cons_succ, List.getElem?_cons_zero]; rfl) (by kernel_rfl) (by kernel_rfl) (by kernel_rfl) (fun _ _ _ h => h) (Or.inl ⟨by rfl, ?_⟩) hHeld ?_
          rotate_left
          · intro x hSw; (try dsimp only at hSw); first | (go_simp; done) | (go_simp; with_reducible rfl)
          try simp only [Act.put, List.setIfInBounds_toArray, List.set_cons_zero, List.set_cons_succ]
          refine wpAnyH_take (i := 12) (v := ?_) (by simp only [List.getElem?_toArray, List.getElem?_cons_succ, List.getElem?_cons_zero]; rfl) (by kernel_rfl) (by kernel_rfl) (by kernel_rfl) (fun _ _ _ h => h) (Or.inl ⟨by rfl, ?_⟩) hHeld ?_
          rotate_left
          · intro x hSw; (try dsimp only at hSw); first | (go_simp; done) | (go_simp; with_reducible rfl)
          try simp only [Act.put, List.setIfInBounds_toArray, List.set_cons_zero, List.set_cons_succ]
          refine wpAnyH_take (i := 13) (v := ?_) (by simp only [List.getElem?_toArray, List.getElem?_cons_succ, List.getElem?_cons_zero]; rfl) (by kernel_rfl) (by kernel_rfl) (by kernel_rfl) (fun _ _ _ h => h) (Or.inl ⟨by rfl, ?_⟩) hHeld ?_
          rotate_left
          · intro x hSw; (try dsimp only at hSw); first | (go_simp; done) | (go_simp; with_reducible rfl)
          try simp only [Act.put, List.setIfInBounds_toArray, List.set_cons_zero, List.set_cons_succ]
          refine wpAnyH_take (i := 14) (v := ?_) (by simp only [List.getElem?_toArray, List.getElem?_cons_succ, List.getElem?_cons_zero]; rfl) (by kernel_rfl) (by kernel_rfl) (by kernel_rfl) (fun _ _ _ h => h) (Or.inl ⟨by rfl, ?_⟩) hHeld ?_
          rotate_left
          · intro x hSw; (try dsimp only at hSw); first | (go_simp; done) | (go_simp; with_reducible rfl)
          try simp only [Act.put, List.setIfInBounds_toArray, List.set_cons_zero, List.set_cons_succ]
          refine wpAnyH_take (i := 15) (v := ?_) (by simp only [List.getElem?_toArray, List.getElem?_cons_succ, List.getElem?_cons_zero]; rfl) (by kernel_rfl) (by kernel_rfl) (by kernel_rfl) (fun _ _ _ h => h) (Or.inl ⟨by rfl, ?_⟩) hHeld ?_
          rotate_left
          · intro x hSw; (try dsimp only at hSw); obtain ⟨sa, sb⟩ := hSw; first | (go_simp; done) | (go_simp; with_reducible rfl)
          try simp only [Act.put, List.setIfInBounds_toArray, List.set_cons_zero, List.set_cons_succ]
          refine wpAnyH_take (i := 16) (v := ?_) (by simp only [List.getElem?_toArray, List.getElem?_cons_succ, List.getElem?_cons_zero]; rfl) (by kernel_rfl) (by kernel_rfl) (by kernel_rfl) (fun _ _ _ h => h) (Or.inl ⟨by rfl, ?_⟩) hHeld ?_
          rotate_left
          · intro x hSw; (try dsimp only at hSw); first | (go_simp; done) | (go_simp; with_reducible rfl)
          try simp only [Act.put, List.setIfInBounds_toArray, List.set_cons_zero, List.set_cons_succ]
          refine wpAnyH_take (i := 17) (v := ?_) (by simp only [List.getElem?_toArray, List.getElem?_cons_succ, List.getElem?_cons_zero]; rfl) (by kernel_rfl) (by kernel_rfl) (by kernel_rfl) (fun _ _ _ h => h) (Or.inl ⟨by rfl, ?_⟩) hHeld ?_
          rotate_left
          · intro x hSw; (try dsimp only at hSw); first | (go_simp; done) | (go_simp; with_reducible rfl)
          try simp only [Act.put, List.setIfInBounds_toArray, List.set_cons_zero, List.set_cons_succ]
          refine wpAnyH_ready (rs := [6]) (by kernel_rfl) (by simp) ?_
          refine AllReadyH.cons (by simp only [List.getElem?_toArray, List.getElem?_cons_succ, List.getElem?_cons_zero]; rfl) (fun K hK => ?_) AllReadyH.nil
          go_simp
          refine hK.out _ _ ?_ (fun hHeld => ?_)
          · exact ⟨ea, eb⟩
          clear hK K
          try simp only [Act.put, List.setIfInBounds_toArray, List.set_cons_zero, List.set_cons_succ]
          refine wpAnyH_take (i := 18) (v := ?_) (by simp only [List.getElem?_toArray, List.getElem?_cons_succ, List.getElem?_cons_zero]; rfl) (by kernel_rfl) (by kernel_rfl) (by kernel_rfl) (fun _ _ _ h => h) (Or.inl ⟨by rfl, ?_⟩) hHeld ?_
          rotate_left
          · intro x hSw; (try dsimp only at hSw); first | (go_simp; done) | (go_simp; with_reducible rfl)
          try simp only [Act.put, List.setIfInBounds_toArray, List.set_cons_zero, List.set_cons_succ]
          refine wpAnyH_take (i := 19) (v := ?_) (by simp only [List.getElem?_toArray, List.getElem?_cons_succ, List.getElem?_cons_zero]; rfl) (by kernel_rfl) (by kernel_rfl) (by kernel_rfl) (fun _ _ _ h => h) (Or.inl ⟨by rfl, ?_⟩) hHeld ?_
          rotate_left
          · intro x hSw; (try dsimp only at hSw); first | (go_simp; done) | (go_simp; with_reducible rfl)
          try simp only [Act.put, List.setIfInBounds_toArray, List.set_cons_zero, List.set_cons_succ]
          refine wpAnyH_ready (rs := [20]) (by kernel_rfl) (by simp) ?_
          refine AllReadyH.cons (by simp only [List.getElem?_toArray, List.getElem?_cons_succ, List.getElem?_cons_zero]; rfl) (fun K hK => ?_) AllReadyH.nil
          go_simp
          refine hK.out _ _ ?_ (fun hHeld => ?_)
          · exact ⟨cell_setOther ea hna, cell_setOther eb hnb⟩
          clear hK K
          try simp only [Act.put, List.setIfInBounds_toArray, List.set_cons_zero, List.set_cons_succ]
          refine wpAnyH_done (by kernel_rfl) ?_ _
          refine NoPanic.normal ?_
          go_wp2_with fail
          go_roundw
          case rel => exact ⟨q + 1, hql, congrArg (Value.int .i64) (by omega), hstep.out _ (by rw [hw1, wrap_small zz m hzm hmul]; rfl)⟩
          case measure => simp [intOf] <;> omega
        · obtain rfl : q = lb := by omega
          obtain ⟨hB, z, hz, hzb, hV⟩ := H.out
          rw [Nat.mod_eq_of_lt Hl.out.2, ← HP.out.2.2] at hV
          have HH : Hid (Below w.heap.size w wr ∧ ∃ z, RAt wr w.heap.size 3 .i64 (la + q) z ∧ (∀ t, z t ≤ 6480 * (j + 1)) ∧ lowS z (la + q) (la + q) = x % 10 ^ (j + 1) * y) := ⟨hB, z, hz, fun t => by have := hzb t; omega, by rw [hV, HP.out.2.1]⟩
          clear hB hz hzb hV H z
          go_wp2_with fail
          go_roundw
          case rel => exact ⟨j + 1, hjl, congrArg (Value.int .i64) (by omega), HH.out⟩
          case measure => simp [intOf] <;> omega
    · obtain rfl : j = la := by omega
      obtain ⟨hB, z, hz, hzb, hV⟩ := H.out
      rw [Nat.mod_eq_of_lt Hl.out.1] at hV
      have hge : w.heap.size < wr.heap.size := hz.lt
      clear H Ha Hb
      go_wp2_with fail
      have kB := hB.alloc hB.size (.cells (rA .u8 (j + lb) (fun _ => 0)) 5)
      have ko := hz.keep ((Below.refl _ _).alloc (Nat.le_refl _) (.cells (rA .u8 (j + lb) (fun _ => 0)) 5))
      have kr := RAt.new wr 5 .u8 (j + lb) (fun _ => 0)
      have H0 := Lib.hid (⟨kB, ko, kr, hzb, hV⟩ : _ ∧ _ ∧ _ ∧ _ ∧ _)
      generalize wr.alloc (.cells (rA .u8 (j + lb) (fun _ => 0)) 5) = W2 at *
      generalize wr.heap.size = g2 at *
      clear kB ko kr hB hz hzb hV hmb
      go_loopw [9, 10] (fun s9 s10 wr => ∃ (k c : Nat), k ≤ j + lb ∧ c ≤ 600000 ∧ s9 = .int .i64 (c : Nat) ∧ s10 = .int .i64 (((j + lb : Nat) : Int) - 1 - (k : Int)) ∧ Hid (Below w.heap.size w wr ∧ RAt wr w.heap.size 3 .i64 (j + lb) z ∧ c = lowS z (j + lb) k / 10 ^ k ∧ RAt wr g2 5 .u8 (j + lb) (fun t => if j + lb - t ≤ k then dgt (lowS z (j + lb) k) (j + lb - 1 - t) else 0))) (fun _ s10 _ => (intOf s10 + 1).toNat)
      case atStart => exact ⟨0, 0, Nat.zero_le _, Nat.zero_le _, rfl, congrArg (Value.int .i64) (by omega), H0.out.1, H0.out.2.1, by simp [lowS], H0.out.2.2.1.ext fun t ht => by rw [if_neg (by omega)]⟩
      case round =>
        have Hz := Lib.hid H0.out.2.2.2
        clear H0
        obtain ⟨k, c, hk, hc6, rfl, rfl, H⟩ := hrel
        by_cases hkn : k < j + lb
        · obtain ⟨ic, hic⟩ : ∃ ic : Nat, ((j + lb : Nat) : Int) - 1 - (k : Int) = (ic : Nat) := ⟨j + lb - 1 - k, by omega⟩
          rw [hic]
          have hic2 : ic + k + 1 = j + lb := by omega
          obtain ⟨hB, ho, hc, hr⟩ := H.out
          have c1 := ho.cell ic (by omega)
          have c2 := hr.cell ic (by omega)
          have f2 := hr.free ic
          have hzi := Hz.out.1 ic
          have hS : lowS z (j + lb) (k + 1) = lowS z (j + lb) k + z ic * 10 ^ k := by rw [lowS, show j + lb - 1 - k = ic by omega]
          have hdig := col_digit (lowS z (j + lb) k) (z ic) k 0
          have hcar := col_carry (lowS z (j + lb) k) (z ic) k
          rw [Nat.zero_mul, Nat.add_zero, ← hS, ← hc] at hdig
          rw [← hS, ← hc] at hcar
          have hlow : ∀ t, t < k → dgt (lowS z (j + lb) (k + 1)) t = dgt (lowS z (j + lb) k) t := fun t ht => by rw [hS, dgt_low _ _ _ _ ht]
          generalize hzi2 : z ic = zi at *
          have HH := Lib.hid (⟨hB, ho, hr, hdig, hcar, hlow⟩ : _ ∧ _ ∧ _ ∧ _ ∧ _ ∧ _)
          clear hB ho hc hr hdig hcar hlow hS hzi2 H
          go_wp2_with fail
          go_roundw
          case rel =>
            obtain ⟨hB, ho, hr, hdig, hcar, hlow⟩ := HH.out
            have e1 : ((c : Int) + (zi : Int)) % 10 = (((c + zi) % 10 : Nat) : Int) := by omega
            have e2 : ((c : Int) + (zi : Int)) / 10 = (((c + zi) / 10 : Nat) : Int) := by omega
            rw [e1, e2]
            refine ⟨k + 1, (c + zi) / 10, hkn, by omega, rfl, congrArg (Value.int .i64) (by omega), Below.setCell (p := ⟨g2, ic, none⟩) hB (by simp; omega) _, ho.other _ _ (by simp; omega), hcar.symm, (hr.set ic ((c + zi) % 10)).ext fun t ht => ?_⟩
            by_cases h : t = ic
            · subst h
              rw [if_pos rfl, if_pos (by omega), ← hdig]; congr 1; omega
            · rw [if_neg h]
              by_cases h3 : j + lb - t ≤ k
              · rw [if_pos h3, if_pos (by omega), hlow _ (by omega)]
              · rw [if_neg h3, if_neg (by omega)]
          case measure => simp [intOf] <;> omega
        · obtain rfl : k = j + lb := by omega
          obtain ⟨hB, ho, hc, hr⟩ := H.out
          rw [Hz.out.2] at hr
          have hd := hr.row (N := x * y) (fun t ht => if_pos (by omega)) (by unfold maxLen; omega)
          have htd := Lib.hid (htr.out wr _ hd)
          have HB := Lib.hid hB
          clear htr hd hr ho hc hB H
          go_wp2_with fail
          refine htd.out.mono ?_; rintro e w2 ⟨v', rfl, d2, rfl⟩
          go_wp2_with fail
          go_ret
          exact ⟨v', rfl, d2, HB.out⟩

end Go.Proofs.Ytpciohnnnpgpiaa
