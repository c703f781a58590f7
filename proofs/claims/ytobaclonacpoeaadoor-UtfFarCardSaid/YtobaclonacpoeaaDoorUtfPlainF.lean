/- Plain mathematics of UTF-8: up to where a text can become well-formed, some end makes it so; behind that no end does. -/
import Derived.Test.YtobaclonacpoeaaDoorUtfPlainE
namespace Go.Proofs.YtobaclonacpoeaaDoor.Utf

/-- a text that is not well-formed: what was gone through, and what stands there -/
theorem split_bad : ∀ (n : Nat) (l : List UInt8), l.length ≤ n → (steps l).2.2 = false →
    ∃ pre rest, l = pre ++ rest ∧ (steps pre).2.2 = true ∧ rest ≠ [] ∧ (front rest).2 = false ∧ (steps l).1 = pre.length + (front rest).1
  | 0, l, h, hb => by
    obtain rfl : l = [] := List.eq_nil_of_length_eq_zero (by omega)
    simp [steps_nil] at hb
  | n + 1, l, h, hb => by
    by_cases hl : l = []
    · subst hl; simp [steps_nil] at hb
    · cases hw : (front l).2 with
      | false => exact ⟨[], l, rfl, rfl, hl, hw, by rw [steps_not hl hw]; simp⟩
      | true =>
        have h1 := front_whole hw
        have hle := front_le l
        rw [steps_whole hl hw] at hb ⊢
        obtain ⟨pre, rest, e, hp, hr, hf, hn⟩ := split_bad n (l.drop (front l).1) (by simp; omega) hb
        have el : l = l.take (front l).1 ++ (pre ++ rest) := by rw [← e]; exact (List.take_append_drop _ _).symm
        refine ⟨l.take (front l).1 ++ pre, rest, by rw [List.append_assoc]; exact el, ?_, hr, hf, ?_⟩
        · have hwt := front_append (l.take (front l).1) (l.drop (front l).1)
          rw [List.take_append_drop] at hwt
          have e1 : (l.take (front l).1).length = (front l).1 := by simp; omega
          have fr : front (l.take (front l).1) = ((front l).1, true) := by
            rcases front_cases l with e0 | ⟨b, hb0, e0⟩
            · rw [e0] at hw; cases hw
            · have wb := whole_bytes hw
              have nn := (isScalar_iff _).1 wb.1
              have fb := (front_bytes (val (l.take (front l).1)).toNat (by omega) (by omega) []).1
              rw [List.append_nil] at fb
              have hbb : bytes (val (l.take (front l).1)) = bytesN (val (l.take (front l).1)).toNat := by simp [bytes, wb.1]
              rw [← hbb, wb.2, e1] at fb
              exact fb
          have sp : steps (l.take (front l).1) = ((front l).1, 1, true) := by
            have hne : l.take (front l).1 ≠ [] := by intro x; rw [x] at e1; simp at e1; omega
            rw [steps_whole hne (by rw [fr]), fr]
            simp only [List.drop_of_length_le (show (l.take (front l).1).length ≤ (front l).1 by omega), steps_nil]
            simp
          have := (steps_append _ (l.take (front l).1) pre (Nat.le_refl _)).1 (by rw [sp])
          rw [this]; exact hp
        · simp only [hn, List.length_append, List.length_take]; omega

theorem fits_take : ∀ (b : List (Int × Int)) (l t : List UInt8), fits b (l.take (fits b l).1 ++ t) = ((fits b l).1 + (fits (b.drop (fits b l).1) t).1, (fits (b.drop (fits b l).1) t).2)
  | [], l, t => by simp [fits]
  | x :: bs, [], t => by simp [fits]
  | x :: bs, c :: cs, t => by
    have ih := fits_take bs cs t
    simp only [fits]
    cases hc : inR x.1 x.2 c.toNat with
    | false => simp
    | true =>
      simp only [if_true, List.take_succ_cons, List.cons_append, List.drop_succ_cons, fits, hc, ih]
      simp; omega

theorem fits_past : ∀ (b : List (Int × Int)) (l t : List UInt8), (fits b l).2 = false → (fits b l).1 < l.length → fits b (l.take ((fits b l).1 + 1) ++ t) = fits b l
  | [], l, t, h, _ => by simp [fits] at h
  | x :: bs, [], t, _, h => by simp [fits] at h
  | x :: bs, c :: cs, t, h, hl => by
    have ih := fits_past bs cs t
    simp only [fits] at h hl ⊢
    cases hc : inR x.1 x.2 c.toNat with
    | false => simp [fits, hc]
    | true =>
      simp only [hc, if_true] at h hl ⊢
      simp only [List.length_cons] at hl
      rw [List.take_succ_cons, List.cons_append, fits, hc, if_pos rfl, ih h (by omega)]

/-- the ends that the law tries -/
def tries : List (List UInt8) := [[], [128], [160], [144], [128, 128], [160, 128], [144, 128], [128, 128, 128], [144, 128, 128]]

theorem tries_fit (b : List (Int × Int)) (hb : b ∈ shapes) (m : Nat) (h1 : 1 ≤ m) (h2 : m < b.length) : ∃ t, t ∈ tries ∧ fits (b.drop m) t = (b.length - m, true) ∧ t.length = b.length - m := by
  simp only [shapes, List.mem_cons, List.not_mem_nil, or_false] at hb
  rcases hb with rfl | rfl | rfl | rfl | rfl | rfl | rfl | rfl | rfl <;> simp only [List.length_cons, List.length_nil] at h2 <;>
    (rcases (by omega : m = 1 ∨ m = 2 ∨ m = 3) with rfl | rfl | rfl) <;> first | omega | skip
  · exact ⟨[128], by decide, by decide, rfl⟩
  · exact ⟨[160, 128], by decide, by decide, rfl⟩
  · exact ⟨[128], by decide, by decide, rfl⟩
  · exact ⟨[128, 128], by decide, by decide, rfl⟩
  · exact ⟨[128], by decide, by decide, rfl⟩
  · exact ⟨[128, 128], by decide, by decide, rfl⟩
  · exact ⟨[128], by decide, by decide, rfl⟩
  · exact ⟨[128, 128], by decide, by decide, rfl⟩
  · exact ⟨[128], by decide, by decide, rfl⟩
  · exact ⟨[144, 128, 128], by decide, by decide, rfl⟩
  · exact ⟨[128, 128], by decide, by decide, rfl⟩
  · exact ⟨[128], by decide, by decide, rfl⟩
  · exact ⟨[128, 128, 128], by decide, by decide, rfl⟩
  · exact ⟨[128, 128], by decide, by decide, rfl⟩
  · exact ⟨[128], by decide, by decide, rfl⟩
  · exact ⟨[128, 128, 128], by decide, by decide, rfl⟩
  · exact ⟨[128, 128], by decide, by decide, rfl⟩
  · exact ⟨[128], by decide, by decide, rfl⟩

theorem steps_pre {pre x : List UInt8} (h : (steps pre).2.2 = true) : steps (pre ++ x) = (pre.length + (steps x).1, (steps pre).2.1 + (steps x).2.1, (steps x).2.2) :=
  (steps_append _ pre x (Nat.le_refl _)).1 h

/-- the shape of what can begin a scalar -/
theorem front_find (l : List UInt8) (h : 1 ≤ (front l).1) : ∃ c cs b, l = c :: cs ∧ b ∈ shapes ∧ opens c b = true ∧ shapes.find? (opens c) = some b ∧ front l = fits b l := by
  cases l with
  | nil => simp [front] at h
  | cons c cs =>
    simp only [front] at h ⊢
    cases hf : shapes.find? (opens c) with
    | none => rw [hf] at h; simp at h
    | some b => exact ⟨c, cs, b, rfl, List.mem_of_find?_eq_some hf, List.find?_some hf, hf, rfl⟩

theorem far_closes (l : List UInt8) (hb : 0 ≤ bad l) : (tries.any fun t => bad (l.take (bad l).toNat ++ t) == -1) = true := by
  rcases bad_count l with ⟨_, _, hw, hk, _⟩ | ⟨_, h, _⟩
  · obtain ⟨pre, rest, rfl, hp, hr, hf, hn⟩ := split_bad _ l (Nat.le_refl _) hw
    have hkn : (bad (pre ++ rest)).toNat = pre.length + (front rest).1 := by omega
    have hle := front_le rest
    rw [hkn, List.take_length_add_append]
    rw [List.any_eq_true]
    have good : ∀ x, (steps x).2.2 = true → (bad (pre ++ x) == -1) = true := by
      intro x hx
      rw [beq_iff_eq, bad, steps_pre hp]
      simp [hx]
    by_cases hm : (front rest).1 = 0
    · exact ⟨[], by decide, by rw [hm]; simp; exact beq_iff_eq.1 (by have := good [] rfl; simpa using this)⟩
    · obtain ⟨c, cs, b, e, hb0, ho, hfi, hfr⟩ := front_find rest (by omega)
      have hlt : (front rest).1 < b.length := by rw [hfr] at hf ⊢; exact fits_half hf
      obtain ⟨t, ht, hft, htl⟩ := tries_fit b hb0 (front rest).1 (by omega) hlt
      refine ⟨t, ht, ?_⟩
      rw [List.append_assoc]
      refine good _ ?_
      have hfits := fits_take b rest t
      rw [← hfr, hft] at hfits
      have hx0 : ∃ ds, rest.take (front rest).1 ++ t = c :: ds := by
        rw [e]
        obtain ⟨j, hj⟩ : ∃ j, (front (c :: cs)).1 = j + 1 := ⟨(front (c :: cs)).1 - 1, by rw [e] at hm; omega⟩
        rw [hj]
        exact ⟨_, rfl⟩
      obtain ⟨ds, hx⟩ := hx0
      have hlen : (rest.take (front rest).1 ++ t).length = b.length := by simp [htl]; omega
      rw [hx] at hfits hlen ⊢
      have fr : front (c :: ds) = (b.length, true) := by
        rw [front_shape hb0 ho, hfits]
        simp; omega
      rw [steps_whole (by simp) (by rw [fr]), fr]
      simp only [List.drop_of_length_le (show (c :: ds).length ≤ b.length by omega), steps_nil]
  · omega

theorem far_past (l e : List UInt8) (hb : 0 ≤ bad l) (hl : bad l < l.length) : bad (l.take ((bad l).toNat + 1) ++ e) = bad l := by
  rcases bad_count l with ⟨_, _, hw, hk, _⟩ | ⟨_, h, _⟩
  · obtain ⟨pre, rest, rfl, hp, hr, hf, hn⟩ := split_bad _ l (Nat.le_refl _) hw
    have hkn : (bad (pre ++ rest)).toNat = pre.length + (front rest).1 := by omega
    have hlr : (front rest).1 < rest.length := by simp only [List.length_append] at hl; omega
    rw [hkn, Nat.add_assoc, List.take_length_add_append, List.append_assoc]
    have fr : front (rest.take ((front rest).1 + 1) ++ e) = front rest := by
      cases rest with
      | nil => exact absurd rfl hr
      | cons c cs =>
        cases hfi : shapes.find? (opens c) with
        | none =>
          have : front (c :: cs) = (0, false) := by simp only [front, hfi]
          rw [this]
          simp only [List.take_succ_cons, List.cons_append, front, hfi]
        | some b =>
          have e0 : front (c :: cs) = fits b (c :: cs) := by simp only [front, hfi]
          have e1 : front ((c :: cs).take ((front (c :: cs)).1 + 1) ++ e) = fits b ((c :: cs).take ((front (c :: cs)).1 + 1) ++ e) := by
            simp only [List.take_succ_cons, List.cons_append, front, hfi]
          rw [e1, e0, fits_past b (c :: cs) e (by rw [← e0]; exact hf) (by rw [← e0]; exact hlr)]
    have hne : rest.take ((front rest).1 + 1) ++ e ≠ [] := by
      cases rest with
      | nil => exact absurd rfl hr
      | cons c cs => simp
    have st := steps_not hne (by rw [fr]; exact hf)
    rw [fr] at st
    have e2 : bad (pre ++ (rest.take ((front rest).1 + 1) ++ e)) = (pre.length + (front rest).1 : Nat) := by
      rw [bad, steps_pre hp, st]; simp
    rw [e2, hk, hn]
  · omega

theorem far_good (l : List UInt8) (hb : bad l < 0) : bad (l ++ [97]) = -1 := by
  have hc : 0 ≤ count l := by
    rcases bad_count l with ⟨_, h, _⟩ | ⟨h, _⟩ <;> omega
  exact (joins_good l [97] hc (by decide)).2

end Go.Proofs.YtobaclonacpoeaaDoor.Utf
