/- Plain mathematics: the reference's bounds of a first byte, and that they tell the same as the shapes. -/
import Derived.Test.YtaloimbffijalaaDoorUtfPlainD
set_option linter.unusedVariables false
set_option linter.unusedSimpArgs false
namespace Go.Proofs.YtaloimbffijalaaDoor.Utf

/-- of a first byte: how many bytes, from where to where the second one lies; 0: it is none -/
def spanI (c : Int) : Int × Int × Int :=
  if c < 128 then (1, 0, 0)
  else if c < 194 then (0, 0, 0)
  else if 244 < c then (0, 0, 0)
  else if c < 224 then (2, 128, 191)
  else if c = 224 then (3, 160, 191)
  else if c = 237 then (3, 128, 159)
  else if c < 240 then (3, 128, 191)
  else if c = 240 then (4, 144, 191)
  else if c = 244 then (4, 128, 143)
  else (4, 128, 191)

/-- the shape of a first byte, by the reference's bounds -/
def spanB (c : Int) : List (Int × Int) := (c, c) :: ([(spanI c).2, (128, 191), (128, 191)].take ((spanI c).1.toNat - 1))

theorem spanI_range (c : Int) : 0 ≤ (spanI c).1 ∧ (spanI c).1 ≤ 4 ∧ 0 ≤ (spanI c).2.1 ∧ (spanI c).2.1 ≤ 255 ∧ 0 ≤ (spanI c).2.2 ∧ (spanI c).2.2 ≤ 255 := by
  unfold spanI
  repeat' split
  all_goals simp

theorem spanB_len (c : Int) (h : (spanI c).1 ≠ 0) : (spanB c).length = (spanI c).1.toNat := by
  have := spanI_range c
  simp only [spanB, List.length_cons, List.length_take, List.length_nil]
  omega

/-- the same, with the first byte's own bounds -/
theorem fits_self (x : Int × Int) (bs : List (Int × Int)) (c : UInt8) (cs : List UInt8) (h : inR x.1 x.2 c.toNat = true) : fits (x :: bs) (c :: cs) = fits (((c.toNat : Int), (c.toNat : Int)) :: bs) (c :: cs) := by
  have h' : inR (c.toNat : Int) (c.toNat : Int) (c.toNat : Int) = true := by simp [inR]
  simp only [fits, h, h', if_true]

theorem front_span (c : UInt8) (cs : List UInt8) : front (c :: cs) = if (spanI c.toNat).1 = 0 then (0, false) else fits (spanB c.toNat) (c :: cs) := by
  have hc := UInt8.toNat_lt c
  have key : ∀ b, b ∈ shapes → inR (b.headD (0, 0)).1 (b.headD (0, 0)).2 c.toNat = true → (spanI c.toNat).1 ≠ 0 → b.drop 1 = (spanB c.toNat).drop 1 → front (c :: cs) = if (spanI c.toNat).1 = 0 then (0, false) else fits (spanB c.toNat) (c :: cs) := by
    intro b hb hi hn hd
    rw [if_neg hn]
    have hl := shapes_len b hb
    cases b with
    | nil => simp at hl
    | cons x bs =>
      rw [front_shape hb hi, fits_self x bs c cs hi]
      simp only [List.drop_succ_cons, List.drop_zero, spanB] at hd
      rw [hd]; rfl
  by_cases h1 : c.toNat < 128
  · have e : spanI c.toNat = (1, 0, 0) := by unfold spanI; rw [if_pos (by omega)]
    exact key [(0, 127)] (by simp [shapes]) (inR_true (by simp) (by simp; omega)) (by rw [e]; simp) (by simp [spanB, e])
  by_cases h2 : c.toNat < 194
  · have e : spanI c.toNat = (0, 0, 0) := by unfold spanI; rw [if_neg (by omega), if_pos (by omega)]
    rw [e, if_pos rfl]
    have hn : shapes.find? (opens c) = none := by
      rw [List.find?_eq_none]
      intro b hb ho
      simp only [shapes, List.mem_cons, List.not_mem_nil, or_false] at hb
      rcases hb with rfl | rfl | rfl | rfl | rfl | rfl | rfl | rfl | rfl <;> (have := inR_le ho; simp only at this; omega)
    simp only [front, hn]
  by_cases h3 : 244 < c.toNat
  · have e : spanI c.toNat = (0, 0, 0) := by unfold spanI; rw [if_neg (by omega), if_neg (by omega), if_pos (by omega)]
    rw [e, if_pos rfl]
    have hn : shapes.find? (opens c) = none := by
      rw [List.find?_eq_none]
      intro b hb ho
      simp only [shapes, List.mem_cons, List.not_mem_nil, or_false] at hb
      rcases hb with rfl | rfl | rfl | rfl | rfl | rfl | rfl | rfl | rfl <;> (have := inR_le ho; simp only at this; omega)
    simp only [front, hn]
  have e0 : spanI c.toNat = if (c.toNat : Int) < 224 then (2, 128, 191) else if (c.toNat : Int) = 224 then (3, 160, 191) else if (c.toNat : Int) = 237 then (3, 128, 159) else if (c.toNat : Int) < 240 then (3, 128, 191)
      else if (c.toNat : Int) = 240 then (4, 144, 191) else if (c.toNat : Int) = 244 then (4, 128, 143) else (4, 128, 191) := by
    unfold spanI; rw [if_neg (by omega), if_neg (by omega), if_neg (by omega)]
  by_cases h4 : c.toNat < 224
  · have e : spanI c.toNat = (2, 128, 191) := by rw [e0, if_pos (by omega)]
    exact key [(194, 223), (128, 191)] (by simp [shapes]) (inR_true (by simp; omega) (by simp; omega)) (by rw [e]; simp) (by simp [spanB, e])
  by_cases h5 : c.toNat = 224
  · have e : spanI c.toNat = (3, 160, 191) := by rw [e0, if_neg (by omega), if_pos (by omega)]
    exact key [(224, 224), (160, 191), (128, 191)] (by simp [shapes]) (inR_true (by simp; omega) (by simp; omega)) (by rw [e]; simp) (by simp [spanB, e])
  by_cases h6 : c.toNat = 237
  · have e : spanI c.toNat = (3, 128, 159) := by rw [e0, if_neg (by omega), if_neg (by omega), if_pos (by omega)]
    exact key [(237, 237), (128, 159), (128, 191)] (by simp [shapes]) (inR_true (by simp; omega) (by simp; omega)) (by rw [e]; simp) (by simp [spanB, e])
  by_cases h7 : c.toNat < 240
  · have e : spanI c.toNat = (3, 128, 191) := by rw [e0, if_neg (by omega), if_neg (by omega), if_neg (by omega), if_pos (by omega)]
    by_cases h8 : c.toNat < 237
    · exact key [(225, 236), (128, 191), (128, 191)] (by simp [shapes]) (inR_true (by simp; omega) (by simp; omega)) (by rw [e]; simp) (by simp [spanB, e])
    · exact key [(238, 239), (128, 191), (128, 191)] (by simp [shapes]) (inR_true (by simp; omega) (by simp; omega)) (by rw [e]; simp) (by simp [spanB, e])
  by_cases h8 : c.toNat = 240
  · have e : spanI c.toNat = (4, 144, 191) := by rw [e0, if_neg (by omega), if_neg (by omega), if_neg (by omega), if_neg (by omega), if_pos (by omega)]
    exact key [(240, 240), (144, 191), (128, 191), (128, 191)] (by simp [shapes]) (inR_true (by simp; omega) (by simp; omega)) (by rw [e]; simp) (by simp [spanB, e])
  by_cases h9 : c.toNat = 244
  · have e : spanI c.toNat = (4, 128, 143) := by rw [e0, if_neg (by omega), if_neg (by omega), if_neg (by omega), if_neg (by omega), if_neg (by omega), if_pos (by omega)]
    exact key [(244, 244), (128, 143), (128, 191), (128, 191)] (by simp [shapes]) (inR_true (by simp; omega) (by simp; omega)) (by rw [e]; simp) (by simp [spanB, e])
  have e : spanI c.toNat = (4, 128, 191) := by rw [e0, if_neg (by omega), if_neg (by omega), if_neg (by omega), if_neg (by omega), if_neg (by omega), if_neg (by omega)]
  exact key [(241, 243), (128, 191), (128, 191), (128, 191)] (by simp [shapes]) (inR_true (by simp; omega) (by simp; omega)) (by rw [e]; simp) (by simp [spanB, e])

/-- the first byte's bits, as the reference takes them: the same as its mark struck -/
def low (n c : Nat) : Nat := if n ≤ 1 then c else c % 2 ^ (7 - n)
theorem low_xor : ∀ c, c < 256 → (c < 128 → c ^^^ mark 1 = low 1 c) ∧ (194 ≤ c → c ≤ 223 → c ^^^ mark 2 = low 2 c) ∧ (224 ≤ c → c ≤ 239 → c ^^^ mark 3 = low 3 c) ∧ (240 ≤ c → c ≤ 244 → c ^^^ mark 4 = low 4 c) := by decide +kernel
theorem start_whole {l : List UInt8} (h : (front l).2 = true) (c : UInt8) (hc : l[0]? = some c) : c.toNat ^^^ mark (front l).1 = low (front l).1 c.toNat := by
  rcases front_cases l with e | ⟨b, hb, e⟩
  · rw [e] at h; cases h
  · rw [e] at h ⊢
    rw [fits_whole b l h]
    have lx := low_xor c.toNat (UInt8.toNat_lt c)
    simp only [shapes, List.mem_cons, List.not_mem_nil, or_false] at hb
    have ho : ∀ x bs, b = x :: bs → x.1 ≤ c.toNat ∧ (c.toNat : Int) ≤ x.2 := by
      intro x bs hx
      cases l with
      | nil => simp at hc
      | cons y ys =>
        simp at hc; subst hc
        rw [hx] at h
        cases hi : inR x.1 x.2 y.toNat with
        | false => simp [fits, hi] at h
        | true => exact inR_le hi
    rcases hb with rfl | rfl | rfl | rfl | rfl | rfl | rfl | rfl | rfl <;> (have := ho _ _ rfl; simp only at this)
    · exact lx.1 (by omega)
    · exact lx.2.1 (by omega) (by omega)
    · exact lx.2.2.1 (by omega) (by omega)
    · exact lx.2.2.1 (by omega) (by omega)
    · exact lx.2.2.1 (by omega) (by omega)
    · exact lx.2.2.1 (by omega) (by omega)
    · exact lx.2.2.2 (by omega) (by omega)
    · exact lx.2.2.2 (by omega) (by omega)
    · exact lx.2.2.2 (by omega) (by omega)

end Go.Proofs.YtaloimbffijalaaDoor.Utf
