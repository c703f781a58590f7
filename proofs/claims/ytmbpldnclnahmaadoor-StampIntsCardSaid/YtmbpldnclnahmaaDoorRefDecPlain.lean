/- Plain mathematics for the reference's decimals: a row's digits by their number; a text's digits, one behind the other. -/
import Derived.Test.YtmbpldnclnahmaaDoorDecPlainC
set_option linter.unusedVariables false
set_option linter.unusedSimpArgs false
namespace Go.Proofs.YtmbpldnclnahmaaDoor.Dc

theorem val_at (l : List Nat) (h : ∀ d ∈ l, d ≤ 9) : ∀ i d, l[i]? = some d → d = dgt (valN l) (l.length - 1 - i) := by
  induction l with
  | nil => intro i d e; simp at e
  | cons x t ih =>
    intro i d e
    have hx := h x (by simp)
    have hl := valN_lt t (fun y hy => h y (by simp [hy]))
    rw [valN_cons]
    cases i with
    | zero =>
      rw [List.getElem?_cons_zero] at e
      cases e
      unfold dgt
      rw [show (x :: t).length - 1 - 0 = t.length by simp]
      rw [Nat.mul_comm, Nat.mul_add_div (Nat.pow_pos (by omega)), Nat.div_eq_of_lt hl]
      omega
    | succ i =>
      rw [List.getElem?_cons_succ] at e
      have hi : i < t.length := (List.getElem?_eq_some_iff.1 e).1
      have := ih (fun y hy => h y (by simp [hy])) i d e
      rw [this]
      unfold dgt
      rw [show (x :: t).length - 1 - (i + 1) = t.length - 1 - i by simp; omega]
      generalize hk : t.length - 1 - i = k at *
      have hk2 : t.length = k + 1 + i := by omega
      rw [hk2, show x * 10 ^ (k + 1 + i) = 10 ^ k * (10 * (x * 10 ^ i)) by rw [Nat.pow_add, Nat.pow_succ]; simp only [Nat.mul_assoc, Nat.mul_comm, Nat.mul_left_comm]]
      rw [Nat.mul_add_div (Nat.pow_pos (by omega))]
      omega

/-- a text that is one, put together of its parts -/
theorem cut_ok_text {l : List UInt8} {neg : Bool} {d e : List UInt8} (h : cut l = .ok neg d e) : l = sgn neg ++ d ++ dot e ∧ l.drop (sg l) = d ++ dot e ∧ neg = decide (sg l = 1) := by
  have hs : l = sgn (decide (sg l = 1)) ++ l.drop (sg l) := by
    have := (List.take_append_drop (sg l) l).symm
    rwa [take_sg] at this
  unfold cut at h
  split at h
  · cases h
  split at h
  · rename_i hp
    cases h
    have h1 := take_pt l
    rw [hp, List.take_of_length_le (Nat.le_refl _)] at h1
    have h2 : l.drop (sg l) = (l.drop (sg l)).takeWhile dg := (List.append_cancel_left (h1.symm.trans hs)).symm
    refine ⟨?_, ?_, rfl⟩
    · simp only [dot, if_pos, List.append_nil]; exact h1
    · simp only [dot, if_pos, List.append_nil]; exact h2
  split at h
  · cases h
  rename_i hq
  split at h
  · cases h
  · rename_i hr
    cases h
    have h46 : l[pt l]? = some 46 := by simpa using hq
    have h1 := take_en l h46
    have hlt : pt l < l.length := (List.getElem?_eq_some_iff.1 h46).1
    have hen := en_le l hlt
    rw [show en l = l.length by omega, List.take_of_length_le (Nat.le_refl _)] at h1
    have hne : (l.drop (pt l + 1)).takeWhile dg ≠ [] := fun e => hr (Or.inl (by unfold en dgN; rw [e]; rfl))
    have hdot : dot ((l.drop (pt l + 1)).takeWhile dg) = 46 :: (l.drop (pt l + 1)).takeWhile dg := by unfold dot; rw [if_neg hne]
    rw [hdot]
    refine ⟨h1, ?_, rfl⟩
    have h3 := hs.symm.trans h1
    rw [List.append_assoc] at h3
    exact List.append_cancel_left h3
theorem filter_dg {l : List UInt8} (h : allDg l) : l.filter dg = l := List.filter_eq_self.2 h
theorem cut_digits {l : List UInt8} {neg : Bool} {d e : List UInt8} (h : cut l = .ok neg d e) : (l.drop (sg l)).filter dg = d ++ e := by
  obtain ⟨hd, he, _⟩ := cut_ok h
  rw [(cut_ok_text h).2.1, List.filter_append, filter_dg hd]
  congr 1
  unfold dot
  split
  · rename_i h0; rw [h0]; rfl
  · rw [List.filter_cons, if_neg (by decide), filter_dg he]
/-- how many digits are behind the point: the reference's reckoning -/
theorem cut_back {l : List UInt8} {neg : Bool} {d e : List UInt8} (h : cut l = .ok neg d e) : (pt l = l.length ∧ e = []) ∨ (pt l < l.length ∧ l[pt l]? = some 46 ∧ en l = l.length ∧ e.length + pt l + 1 = en l ∧ e ≠ []) := by
  unfold cut at h
  split at h
  · cases h
  split at h
  · rename_i hp; cases h; exact Or.inl ⟨hp, rfl⟩
  split at h
  · cases h
  rename_i hq
  split at h
  · cases h
  · rename_i hr
    cases h
    have h46 : l[pt l]? = some 46 := by simpa using hq
    have hlt : pt l < l.length := (List.getElem?_eq_some_iff.1 h46).1
    have hen := en_le l hlt
    refine Or.inr ⟨hlt, h46, by omega, ?_, fun e => hr (Or.inl (by unfold en dgN; rw [e]; rfl))⟩
    unfold en dgN
    omega

/-- what is left to print, with the point ahead of the next digit, where it belongs -/
def bdr (n s k : Nat) : List UInt8 := if 0 < k ∧ k = s then 46 :: bd n s k else bd n s k
theorem bd_bdr (n s k : Nat) : bd n s (k + 1) = ch n k :: bdr n s k := rfl
theorem bdr_top (n s k : Nat) (h : s < k) : bdr n s k = bd n s k := by unfold bdr; rw [if_neg (by omega)]
theorem bdr_zero (n s : Nat) : bdr n s 0 = [] := by unfold bdr; rw [if_neg (by omega)]; rfl
theorem pad_val (j n : Nat) : valN (List.replicate j 0 ++ digs n) = n := by rw [valN_zeros, digs_val]
theorem pad_le (j n : Nat) : ∀ d ∈ List.replicate j 0 ++ digs n, d ≤ 9 := by
  intro d hd
  rcases List.mem_append.1 hd with h | h
  · obtain ⟨_, rfl⟩ := List.mem_replicate.1 h; omega
  · exact digs_le n d h
theorem valN_take_le (l : List Nat) (i : Nat) : valN (l.take i) ≤ valN l := by
  have h := valN_app (l.take i) (l.drop i)
  rw [List.take_append_drop] at h
  have : 0 < 10 ^ (l.drop i).length := Nat.pow_pos (by omega)
  have h2 : valN (l.take i) * 1 ≤ valN (l.take i) * 10 ^ (l.drop i).length := Nat.mul_le_mul_left _ this
  omega
theorem valN_take_step (l : List Nat) (i : Nat) (d : Nat) (h : l[i]? = some d) : valN (l.take (i + 1)) = 10 * valN (l.take i) + d := by
  obtain ⟨hi, rfl⟩ := List.getElem?_eq_some_iff.1 h
  rw [List.take_succ_eq_append_getElem hi, valN_snoc]

end Go.Proofs.YtmbpldnclnahmaaDoor.Dc
