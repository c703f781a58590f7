/- Places in a text: lines and columns, as plain mathematics. -/
namespace Go.Proofs.Ytpejphfggfppdaa
namespace Sp
/-- how many line feeds -/
def lfs (l : List UInt8) : Nat := l.count 10
/-- how many bytes stand behind the last byte c (or from the beginning on) -/
def tailC (c : UInt8) (l : List UInt8) : Nat := (l.reverse.takeWhile (fun x => x != c)).length
theorem lfs_nil : lfs [] = 0 := rfl
theorem tailC_nil (c : UInt8) : tailC c [] = 0 := rfl
theorem lfs_snoc (l : List UInt8) (x : UInt8) : lfs (l ++ [x]) = lfs l + if x = 10 then 1 else 0 := by
  unfold lfs; rw [List.count_append, List.count_singleton]; simp [beq_iff_eq]
theorem tailC_snoc (c : UInt8) (l : List UInt8) (x : UInt8) : tailC c (l ++ [x]) = if x = c then 0 else tailC c l + 1 := by
  unfold tailC; rw [List.reverse_append, List.reverse_singleton, List.singleton_append, List.takeWhile_cons]
  by_cases h : x = c <;> simp [h]
theorem tailC_le (c : UInt8) (l : List UInt8) : tailC c l ≤ l.length := by
  unfold tailC
  have := (List.takeWhile_prefix (p := fun x => x != c) (l := l.reverse)).length_le
  simpa using this
theorem lfs_le (l : List UInt8) : lfs l ≤ l.length := List.count_le_length
theorem size_len (s : ByteArray) : s.data.toList.length = s.size := rfl
theorem take_snoc (s : ByteArray) (k : Nat) (h : k < s.size) : s.data.toList.take (k + 1) = s.data.toList.take k ++ [s[k]] := by
  rw [List.take_succ_eq_append_getElem (by simpa using h)]; rfl
theorem take_all (s : ByteArray) : s.data.toList.take s.size = s.data.toList := List.take_of_length_le (Nat.le_of_eq (size_len s))
/-- the offset that counts -/
def off (s : ByteArray) (i : Int) : Nat := (min (max i 0) (s.size : Int)).toNat
theorem off_le (s : ByteArray) (i : Int) : off s i ≤ s.size := by unfold off; omega
theorem off_cast (s : ByteArray) (i : Int) : min (max i 0) (s.size : Int) = (off s i : Int) := by unfold off; omega
theorem off_in (s : ByteArray) (k : Nat) (h : k ≤ s.size) : off s (k : Int) = k := by unfold off; omega
def line (s : ByteArray) (i : Int) : Nat := lfs (s.data.toList.take (off s i)) + 1
def col (s : ByteArray) (i : Int) : Nat := tailC 10 (s.data.toList.take (off s i)) + 1
theorem line_of (s : ByteArray) (k : Nat) (h : k ≤ s.size) : line s k = lfs (s.data.toList.take k) + 1 := by unfold line; rw [off_in s k h]
theorem col_of (s : ByteArray) (k : Nat) (h : k ≤ s.size) : col s k = tailC 10 (s.data.toList.take k) + 1 := by unfold col; rw [off_in s k h]
theorem col_le (s : ByteArray) (k : Nat) (h : k ≤ s.size) : col s k ≤ s.size + 1 := by
  rw [col_of s k h]
  have := tailC_le 10 (s.data.toList.take k)
  rw [List.length_take, size_len] at this
  omega
theorem line_le (s : ByteArray) (k : Nat) (h : k ≤ s.size) : line s k ≤ s.size + 1 := by
  rw [line_of s k h]
  have := lfs_le (s.data.toList.take k)
  rw [List.length_take, size_len] at this
  omega
theorem past (s : ByteArray) : off s ((s.size : Int) + 1) = s.size ∧ line s ((s.size : Int) + 1) = line s s.size ∧ col s ((s.size : Int) + 1) = col s s.size := by
  have e : off s ((s.size : Int) + 1) = off s s.size := by unfold off; omega
  refine ⟨by rw [e]; exact off_in s _ (Nat.le_refl _), ?_, ?_⟩
  · unfold line; rw [e]
  · unfold col; rw [e]
theorem at_zero (s : ByteArray) : line s (0 : Nat) = 1 ∧ col s (0 : Nat) = 1 := by
  rw [line_of s 0 (by omega), col_of s 0 (by omega)]; exact ⟨rfl, rfl⟩
/-- one place on -/
theorem on_one (s : ByteArray) (k : Nat) (h : k < s.size) :
    (s[k] = 10 ∧ line s (k + 1 : Nat) = line s k + 1 ∧ col s (k + 1 : Nat) = 1) ∨ (s[k] ≠ 10 ∧ line s (k + 1 : Nat) = line s k ∧ col s (k + 1 : Nat) = col s k + 1) := by
  rw [line_of s k (by omega), line_of s (k + 1) (by omega), col_of s k (by omega), col_of s (k + 1) (by omega), take_snoc s k h, lfs_snoc, tailC_snoc]
  by_cases e : s[k] = 10
  · rw [if_pos e, if_pos e]; exact Or.inl ⟨e, by omega, by omega⟩
  · rw [if_neg e, if_neg e]; exact Or.inr ⟨e, by omega, by omega⟩
/-- of two places in a text the one ahead has no greater line; in one line their columns part as they do -/
theorem ahead (s : ByteArray) (a : Nat) : ∀ d, a + d ≤ s.size → line s a < line s (a + d : Nat) ∨ (line s a = line s (a + d : Nat) ∧ col s (a + d : Nat) = col s a + d)
  | 0, _ => Or.inr ⟨rfl, rfl⟩
  | d + 1, h => by
    have ih := ahead s a d (by omega)
    have e : a + (d + 1) = (a + d) + 1 := by omega
    rw [e]
    rcases on_one s (a + d) (by omega) with ⟨_, h1, h2⟩ | ⟨_, h1, h2⟩
    · rw [h1]; omega
    · rw [h1, h2]; omega
end Sp
end Go.Proofs.Ytpejphfggfppdaa
