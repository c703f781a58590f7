/- The walks of package family's small functions: isKind, Typed, Kind, suffix, Series. -/
import Derived.Test.YtjkaggkamcfahaaDoorFamRow
import Derived.Test.YtjkaggkamcfahaaDoorPointW
set_option maxRecDepth 100000
set_option linter.unusedVariables false
set_option linter.unusedSimpArgs false
namespace Go.Proofs.YtjkaggkamcfahaaDoor
open Go.RowKit Dc
attribute [local go_sem ↓] Go.wp_at_zero Go.wp_at_succ

/-- the table of words lies in the world -/
structure Wd (w : World) : Prop where
  c0 : w.cell? ⟨0, 0, none⟩ = some (.string (str [117, 110, 107, 110, 111, 119, 110]))
  c1 : w.cell? ⟨0, 1, none⟩ = some (.string (str [103, 97, 117, 103, 101]))
  c2 : w.cell? ⟨0, 2, none⟩ = some (.string (str [99, 111, 117, 110, 116, 101, 114]))
  c3 : w.cell? ⟨0, 3, none⟩ = some (.string (str [104, 105, 115, 116, 111, 103, 114, 97, 109]))
  c4 : w.cell? ⟨0, 4, none⟩ = some (.string (str [115, 117, 109, 109, 97, 114, 121]))
  lt : 0 < w.heap.size
theorem Wd.below {w w' : World} (h : Wd w) (hb : Below w.heap.size w w') : Wd w' :=
  ⟨(hb.cell h.lt).trans h.c0, (hb.cell h.lt).trans h.c1, (hb.cell h.lt).trans h.c2, (hb.cell h.lt).trans h.c3, (hb.cell h.lt).trans h.c4, Nat.lt_of_lt_of_le h.lt hb.size⟩

theorem iskind_calls (k : Int) (w : World) : Calls Tryd.prog 31 #[.int .i64 k] w fun e w' => e = .returned (.bool (kindOk k)) ∧ w = w' := by
  unfold kindOk
  by_cases h0 : 0 ≤ k
  · have d0 : decide ((0 : Int) ≤ k) = true := decide_eq_true h0
    by_cases h1 : k < 5
    · have d1 : decide (k < 5) = true := decide_eq_true h1
      have hr := Lib.hid (decide_eq_true (show 0 ≤ k ∧ k < 5 from ⟨h0, h1⟩))
      rw [hr.out]
      clear hr
      go_enter Tryd.func31, Tryd.ntmps31
      go_wp2
      go_ret
      exact ⟨rfl, rfl⟩
    · have d1 : decide (k < 5) = false := decide_eq_false h1
      have hr := Lib.hid (decide_eq_false (fun h : 0 ≤ k ∧ k < 5 => h1 h.2))
      rw [hr.out]
      clear hr
      go_enter Tryd.func31, Tryd.ntmps31
      go_wp2
      go_ret
      exact ⟨rfl, rfl⟩
  · have d0 : decide ((0 : Int) ≤ k) = false := decide_eq_false h0
    have hr := Lib.hid (decide_eq_false (fun h : 0 ≤ k ∧ k < 5 => h0 h.1))
    rw [hr.out]
    clear hr
    go_enter Tryd.func31, Tryd.ntmps31
    go_wp2
    go_ret
    exact ⟨rfl, rfl⟩

set_option maxHeartbeats 2000000 in
theorem typed_calls (k : Int) (w : World) (hW : Wd w) : Calls Tryd.prog 16 #[.int .i64 k] w fun e w' => e = .returned (.string (str (wordL k))) ∧ w = w' := by
  have hi := Lib.hid (iskind_calls k w)
  obtain ⟨c0, c1, c2, c3, c4, lt⟩ := hW
  by_cases h : 0 ≤ k ∧ k < 5
  · rw [show kindOk k = true from decide_eq_true h] at hi
    have hk : k = 0 ∨ k = 1 ∨ k = 2 ∨ k = 3 ∨ k = 4 := by omega
    clear h
    rcases hk with rfl | rfl | rfl | rfl | rfl
    all_goals
      go_enter Tryd.func16, Tryd.ntmps16
      go_wp2_with fail
      refine hi.out.mono ?_; rintro e w1 ⟨rfl, rfl⟩
      go_wp2
      go_ret
      exact ⟨rfl, rfl⟩
  · rw [show kindOk k = false from decide_eq_false h] at hi
    have hr := Lib.hid (show wordL k = [] by
      unfold wordL
      rw [if_neg (by omega), if_neg (by omega), if_neg (by omega), if_neg (by omega), if_neg (by omega)])
    clear h
    go_enter Tryd.func16, Tryd.ntmps16
    go_wp2_with fail
    refine hi.out.mono ?_; rintro e w1 ⟨rfl, rfl⟩
    go_wp2
    go_ret
    exact ⟨by rw [hr.out]; rfl, rfl⟩

def wordAt : Nat → List UInt8
  | 0 => [117, 110, 107, 110, 111, 119, 110]
  | 1 => [103, 97, 117, 103, 101]
  | 2 => [99, 111, 117, 110, 116, 101, 114]
  | 3 => [104, 105, 115, 116, 111, 103, 114, 97, 109]
  | 4 => [115, 117, 109, 109, 97, 114, 121]
  | _ => []
theorem kindO_eq (s : List UInt8) : kindO s = if wordAt 0 = s then some 0 else if wordAt 1 = s then some 1 else if wordAt 2 = s then some 2 else if wordAt 3 = s then some 3 else if wordAt 4 = s then some 4 else none := rfl
theorem kindO_at {s : List UInt8} {k : Nat} (hk : k < 5) (h : ∀ j, j < k → wordAt j ≠ s) (e : wordAt k = s) : kindO s = some k := by
  rw [kindO_eq]
  match k, hk with
  | 0, _ => rw [if_pos (e)]
  | 1, _ => rw [if_neg (h 0 (by omega)), if_pos (e)]
  | 2, _ => rw [if_neg (h 0 (by omega)), if_neg (h 1 (by omega)), if_pos (e)]
  | 3, _ => rw [if_neg (h 0 (by omega)), if_neg (h 1 (by omega)), if_neg (h 2 (by omega)), if_pos (e)]
  | 4, _ => rw [if_neg (h 0 (by omega)), if_neg (h 1 (by omega)), if_neg (h 2 (by omega)), if_neg (h 3 (by omega)), if_pos (e)]
theorem kindO_no {s : List UInt8} (h : ∀ j, j < 5 → wordAt j ≠ s) : kindO s = none := by
  rw [kindO_eq]
  rw [if_neg (h 0 (by omega)), if_neg (h 1 (by omega)), if_neg (h 2 (by omega)), if_neg (h 3 (by omega)), if_neg (h 4 (by omega))]
theorem idx_w0 (W : World) : (Instr.index 67 (.agg #[.string (str [117, 110, 107, 110, 111, 119, 110]), .string (str [103, 97, 117, 103, 101]), .string (str [99, 111, 117, 110, 116, 101, 114]), .string (str [104, 105, 115, 116, 111, 103, 114, 97, 109]), .string (str [115, 117, 109, 109, 97, 114, 121])]) (.int .i64 0)).run Tryd.prog W = .ok (.string (str [117, 110, 107, 110, 111, 119, 110])) W := by kernel_rfl
theorem idx_w1 (W : World) : (Instr.index 67 (.agg #[.string (str [117, 110, 107, 110, 111, 119, 110]), .string (str [103, 97, 117, 103, 101]), .string (str [99, 111, 117, 110, 116, 101, 114]), .string (str [104, 105, 115, 116, 111, 103, 114, 97, 109]), .string (str [115, 117, 109, 109, 97, 114, 121])]) (.int .i64 1)).run Tryd.prog W = .ok (.string (str [103, 97, 117, 103, 101])) W := by kernel_rfl
theorem idx_w2 (W : World) : (Instr.index 67 (.agg #[.string (str [117, 110, 107, 110, 111, 119, 110]), .string (str [103, 97, 117, 103, 101]), .string (str [99, 111, 117, 110, 116, 101, 114]), .string (str [104, 105, 115, 116, 111, 103, 114, 97, 109]), .string (str [115, 117, 109, 109, 97, 114, 121])]) (.int .i64 2)).run Tryd.prog W = .ok (.string (str [99, 111, 117, 110, 116, 101, 114])) W := by kernel_rfl
theorem idx_w3 (W : World) : (Instr.index 67 (.agg #[.string (str [117, 110, 107, 110, 111, 119, 110]), .string (str [103, 97, 117, 103, 101]), .string (str [99, 111, 117, 110, 116, 101, 114]), .string (str [104, 105, 115, 116, 111, 103, 114, 97, 109]), .string (str [115, 117, 109, 109, 97, 114, 121])]) (.int .i64 3)).run Tryd.prog W = .ok (.string (str [104, 105, 115, 116, 111, 103, 114, 97, 109])) W := by kernel_rfl
theorem idx_w4 (W : World) : (Instr.index 67 (.agg #[.string (str [117, 110, 107, 110, 111, 119, 110]), .string (str [103, 97, 117, 103, 101]), .string (str [99, 111, 117, 110, 116, 101, 114]), .string (str [104, 105, 115, 116, 111, 103, 114, 97, 109]), .string (str [115, 117, 109, 109, 97, 114, 121])]) (.int .i64 4)).run Tryd.prog W = .ok (.string (str [115, 117, 109, 109, 97, 114, 121])) W := by kernel_rfl
set_option maxHeartbeats 4000000 in
theorem kind_calls (s : List UInt8) (w : World) (hW : Wd w) : Calls Tryd.prog 15 #[.string (str s)] w fun e w' => e = .returned (.tuple #[.int .i64 ((kindO s).getD 0 : Nat), .bool (kindO s).isSome]) ∧ w = w' := by
  obtain ⟨c0, c1, c2, c3, c4, lt⟩ := hW
  have ix0 := idx_w0
  have ix1 := idx_w1
  have ix2 := idx_w2
  have ix3 := idx_w3
  have ix4 := idx_w4
  go_enter Tryd.func15, Tryd.ntmps15
  go_wp2_with fail
  go_loop [7] (fun v => ∃ k : Nat, k ≤ 5 ∧ v = .int .i64 (k : Nat) ∧ Hid (∀ j, j < k → wordAt j ≠ s)) (fun v => 5 - (intOf v).toNat)
  case atStart => exact ⟨0, Nat.zero_le _, rfl, fun j hj => absurd hj (by omega)⟩
  case round =>
    obtain ⟨k, hk, rfl, H⟩ := hrel
    have hk5 : k = 0 ∨ k = 1 ∨ k = 2 ∨ k = 3 ∨ k = 4 ∨ k = 5 := by omega
    clear hk
    rcases hk5 with rfl | rfl | rfl | rfl | rfl | rfl
    · rw [show ((0 : Nat) : Int) = 0 from rfl]
      by_cases e : [117, 110, 107, 110, 111, 119, 110] = s
      · have hr := Lib.hid (kindO_at (k := 0) (by omega) H.out e)
        have d : (([117, 110, 107, 110, 111, 119, 110] : List UInt8) == s) = true := beq_iff_eq.2 e
        clear e H
        go_wp2
        go_ret2
        exact ⟨by rw [hr.out]; rfl, rfl⟩
      · have hr := Lib.hid (show ∀ j, j < 1 → wordAt j ≠ s from fun j hj => by
          by_cases hj2 : j = 0
          · subst hj2; exact e
          · exact H.out j (by omega))
        have d : (([117, 110, 107, 110, 111, 119, 110] : List UInt8) == s) = false := beq_eq_false_iff_ne.2 e
        clear e H
        go_wp2
        go_round
        case rel => exact ⟨1, by omega, rfl, hr.out⟩
        case measure => simp [intOf]
    · rw [show ((1 : Nat) : Int) = 1 from rfl]
      by_cases e : [103, 97, 117, 103, 101] = s
      · have hr := Lib.hid (kindO_at (k := 1) (by omega) H.out e)
        have d : (([103, 97, 117, 103, 101] : List UInt8) == s) = true := beq_iff_eq.2 e
        clear e H
        go_wp2
        go_ret2
        exact ⟨by rw [hr.out]; rfl, rfl⟩
      · have hr := Lib.hid (show ∀ j, j < 2 → wordAt j ≠ s from fun j hj => by
          by_cases hj2 : j = 1
          · subst hj2; exact e
          · exact H.out j (by omega))
        have d : (([103, 97, 117, 103, 101] : List UInt8) == s) = false := beq_eq_false_iff_ne.2 e
        clear e H
        go_wp2
        go_round
        case rel => exact ⟨2, by omega, rfl, hr.out⟩
        case measure => simp [intOf]
    · rw [show ((2 : Nat) : Int) = 2 from rfl]
      by_cases e : [99, 111, 117, 110, 116, 101, 114] = s
      · have hr := Lib.hid (kindO_at (k := 2) (by omega) H.out e)
        have d : (([99, 111, 117, 110, 116, 101, 114] : List UInt8) == s) = true := beq_iff_eq.2 e
        clear e H
        go_wp2
        go_ret2
        exact ⟨by rw [hr.out]; rfl, rfl⟩
      · have hr := Lib.hid (show ∀ j, j < 3 → wordAt j ≠ s from fun j hj => by
          by_cases hj2 : j = 2
          · subst hj2; exact e
          · exact H.out j (by omega))
        have d : (([99, 111, 117, 110, 116, 101, 114] : List UInt8) == s) = false := beq_eq_false_iff_ne.2 e
        clear e H
        go_wp2
        go_round
        case rel => exact ⟨3, by omega, rfl, hr.out⟩
        case measure => simp [intOf]
    · rw [show ((3 : Nat) : Int) = 3 from rfl]
      by_cases e : [104, 105, 115, 116, 111, 103, 114, 97, 109] = s
      · have hr := Lib.hid (kindO_at (k := 3) (by omega) H.out e)
        have d : (([104, 105, 115, 116, 111, 103, 114, 97, 109] : List UInt8) == s) = true := beq_iff_eq.2 e
        clear e H
        go_wp2
        go_ret2
        exact ⟨by rw [hr.out]; rfl, rfl⟩
      · have hr := Lib.hid (show ∀ j, j < 4 → wordAt j ≠ s from fun j hj => by
          by_cases hj2 : j = 3
          · subst hj2; exact e
          · exact H.out j (by omega))
        have d : (([104, 105, 115, 116, 111, 103, 114, 97, 109] : List UInt8) == s) = false := beq_eq_false_iff_ne.2 e
        clear e H
        go_wp2
        go_round
        case rel => exact ⟨4, by omega, rfl, hr.out⟩
        case measure => simp [intOf]
    · rw [show ((4 : Nat) : Int) = 4 from rfl]
      by_cases e : [115, 117, 109, 109, 97, 114, 121] = s
      · have hr := Lib.hid (kindO_at (k := 4) (by omega) H.out e)
        have d : (([115, 117, 109, 109, 97, 114, 121] : List UInt8) == s) = true := beq_iff_eq.2 e
        clear e H
        go_wp2
        go_ret2
        exact ⟨by rw [hr.out]; rfl, rfl⟩
      · have hr := Lib.hid (show ∀ j, j < 5 → wordAt j ≠ s from fun j hj => by
          by_cases hj2 : j = 4
          · subst hj2; exact e
          · exact H.out j (by omega))
        have d : (([115, 117, 109, 109, 97, 114, 121] : List UInt8) == s) = false := beq_eq_false_iff_ne.2 e
        clear e H
        go_wp2
        go_round
        case rel => exact ⟨5, by omega, rfl, hr.out⟩
        case measure => simp [intOf]
    · rw [show ((5 : Nat) : Int) = 5 from rfl]
      have hr := Lib.hid (kindO_no H.out)
      clear H
      go_wp2
      go_ret2
      exact ⟨by rw [hr.out]; rfl, rfl⟩

set_option maxHeartbeats 2000000 in
theorem suffix_calls (k r : Int) (w : World) : Calls Tryd.prog 30 #[.int .i64 k, .int .i64 r] w fun e w' => e = .returned (.string (str (sufL k r))) ∧ w = w' := by
  by_cases h1 : r = 1
  · subst h1
    go_enter Tryd.func30, Tryd.ntmps30
    go_wp2
    go_ret
    exact ⟨rfl, rfl⟩
  by_cases h3 : r = 3
  · subst h3
    go_enter Tryd.func30, Tryd.ntmps30
    go_wp2
    go_ret
    exact ⟨rfl, rfl⟩
  by_cases h4 : r = 4
  · subst h4
    go_enter Tryd.func30, Tryd.ntmps30
    go_wp2
    go_ret
    exact ⟨rfl, rfl⟩
  have d1 : (r == 1) = false := by simpa using h1
  have d3 : (r == 3) = false := by simpa using h3
  have d4 : (r == 4) = false := by simpa using h4
  by_cases h2 : k = 2
  · have d2 : (k == 2) = true := by simpa using h2
    have hr := Lib.hid (show sufL k r = [95, 116, 111, 116, 97, 108] by unfold sufL; rw [if_neg h1, if_neg h3, if_neg h4, if_pos h2])
    clear h1 h2 h3 h4
    go_enter Tryd.func30, Tryd.ntmps30
    go_wp2
    go_ret
    exact ⟨by rw [hr.out]; rfl, rfl⟩
  · have d2 : (k == 2) = false := by simpa using h2
    have hr := Lib.hid (show sufL k r = [] by unfold sufL; rw [if_neg h1, if_neg h3, if_neg h4, if_neg h2])
    clear h1 h2 h3 h4
    go_enter Tryd.func30, Tryd.ntmps30
    go_wp2
    go_ret
    exact ⟨by rw [hr.out]; rfl, rfl⟩

theorem sufL_len (k r : Int) : (sufL k r).length ≤ 7 := by unfold sufL; (repeat' split) <;> decide
/-- what Series hands back -/
def serV (o : Option (List UInt8)) : Value := .tuple #[.string (str (o.getD [])), .bool o.isSome]
set_option maxHeartbeats 4000000 in
theorem series_calls (h : Hd) (r : Int) (w : World) (hn : h.n.length ≤ 1000) : Calls Tryd.prog 12 #[hdv h, .int .i64 r] w fun e w' => e = .returned (serV (serO h.n h.k r)) ∧ Below w.heap.size w w' := by
  obtain ⟨n, k, u, hh⟩ := h
  dsimp only at hn
  have k0 := kp_alloc (Below.refl w.heap.size w) (.cells #[.string (str n), .int .i64 k, .string (str u), .string (str hh)] 23)
  have K0 := Lib.hid k0
  have hro := Lib.hid (fun W => roles_calls k W)
  have hco := Lib.hid (fun v W (hv : NoRow W v (rolesL k)) => icontains_calls _ v r W hv)
  have hsu := Lib.hid (fun W => suffix_calls k r W)
  have hl := sufL_len k r
  have hadd := fun W => add_str n (sufL k r) (by omega) W
  cases hm : memI (rolesL k) r with
  | false =>
    rw [hm] at hco
    have hr := Lib.hid (show serO n k r = none by unfold serO; rw [hm]; rfl)
    rw [show serO ({ n := n, k := k, u := u, h := hh } : Hd).n k r = none from hr.out]
    clear hm k0 hr hadd
    go_enter Tryd.func12, Tryd.ntmps12
    go_wp2_with fail
    refine (hro.out _).mono ?_; rintro e w1 ⟨⟨v, rfl, hv⟩, b1⟩
    go_wp2_with fail
    refine (hco.out _ _ hv).mono ?_; rintro e w2 ⟨rfl, rfl⟩
    go_wp2
    go_ret2
    exact ⟨rfl, trans9 K0.out b1⟩
  | true =>
    rw [hm] at hco
    have hr := Lib.hid (show serO n k r = some (n ++ sufL k r) by unfold serO; rw [hm]; rfl)
    rw [show serO ({ n := n, k := k, u := u, h := hh } : Hd).n k r = some (n ++ sufL k r) from hr.out]
    clear hm k0 hr
    generalize sufL k r = S at *
    go_enter Tryd.func12, Tryd.ntmps12
    go_wp2_with fail
    refine (hro.out _).mono ?_; rintro e w1 ⟨⟨v, rfl, hv⟩, b1⟩
    have hz : w.heap.size < w1.heap.size := Nat.lt_of_lt_of_le (by simp) b1.size
    have g0 : w1.cell? ⟨w.heap.size, 0, none⟩ = some (.string (str n)) := by rw [b1.cell (by simp)]; simp
    have g1 : w1.cell? ⟨w.heap.size, 1, none⟩ = some (.int .i64 k) := by rw [b1.cell (by simp)]; simp
    have r0 : ∀ z, Below w1.heap.size w1 z → z.cell? ⟨w.heap.size, 0, none⟩ = some (.string (str n)) := fun z hz2 => (hz2.cell hz).trans g0
    have r1 : ∀ z, Below w1.heap.size w1 z → z.cell? ⟨w.heap.size, 1, none⟩ = some (.int .i64 k) := fun z hz2 => (hz2.cell hz).trans g1
    clear g0 g1 hz
    have hv1 := Lib.hid hv
    clear hv
    have B1 := Lib.hid (trans9 K0.out b1)
    clear b1
    go_wp2_with fail
    refine (hco.out _ _ hv1.out).mono ?_; rintro e w2 ⟨rfl, rfl⟩
    go_wp2_with fail
    go_region_held3 (fun z => Below w1.heap.size w1 z)
      (((repeat' first | assumption | exact Below.refl _ _ | exact Nat.le_refl _ | apply kp_alloc | apply kp_set | apply Below.drew | omega); done))
      ((first | (go_at_call 30; refine (hsu.out _).mono ?_; rintro e w3 ⟨rfl, rfl⟩)))
    all_goals
      go_wp2_with fail
      go_ret2
      refine ⟨rfl, trans9 B1.out ?_⟩
      (repeat' first | assumption | exact Below.refl _ _ | exact Nat.le_refl _ | apply kp_alloc | apply kp_set | apply Below.drew | omega)

end Go.Proofs.YtjkaggkamcfahaaDoor
