/- The texts UtfPlain, UtfPlainB, UtfPlainC, UtfPlainD, LabelPlain, DecPlain, DecPlainB, DecPlainC, SumPlain, StampPlain, PointPlain, RefUtfPlain, one behind the other. -/
import Init
import Derived.Lib.Bytealg
import Derived.Sort.Walk0

/- Plain mathematics of UTF-8: what the bytes of a scalar are, how far a text can still become well-formed, how many scalars it has. Nothing of the program stands here. -/
set_option linter.unusedVariables false
set_option linter.unusedSimpArgs false
namespace Go.Proofs.YtgoibhbmndpgpaaGreatDoor.Utf

/-- a byte lies between two bounds -/
def inR (lo hi c : Int) : Bool := decide (lo ≤ c) && decide (c ≤ hi)

/-- how many of the bytes lie within the bounds, from the front; were all bounds met? -/
def fits : List (Int × Int) → List UInt8 → Nat × Bool
  | [], _ => (0, true)
  | _ :: _, [] => (0, false)
  | b :: bs, c :: cs => if inR b.1 b.2 c.toNat then ((fits bs cs).1 + 1, (fits bs cs).2) else (0, false)

/-- the bounds of each byte, by the range of the first one -/
def shapes : List (List (Int × Int)) := [
  [(0, 127)],
  [(194, 223), (128, 191)],
  [(224, 224), (160, 191), (128, 191)],
  [(225, 236), (128, 191), (128, 191)],
  [(237, 237), (128, 159), (128, 191)],
  [(238, 239), (128, 191), (128, 191)],
  [(240, 240), (144, 191), (128, 191), (128, 191)],
  [(241, 243), (128, 191), (128, 191), (128, 191)],
  [(244, 244), (128, 143), (128, 191), (128, 191)]]

/-- do these bounds begin with one that the byte meets? -/
def opens (c : UInt8) (b : List (Int × Int)) : Bool :=
  match b with
  | [] => false
  | x :: _ => inR x.1 x.2 c.toNat

/-- how many bytes a scalar can begin with; are they all of its bytes? -/
def front (l : List UInt8) : Nat × Bool :=
  match l with
  | [] => (0, false)
  | c :: _ =>
    match shapes.find? (opens c) with
    | some b => fits b l
    | none => (0, false)

/-- after k bytes that fit: what is left tells the rest -/
structure Upto (bs : List (Int × Int)) (l : List UInt8) (k : Nat) : Prop where
  inB : k ≤ bs.length
  inL : k ≤ l.length
  num : (fits bs l).1 = k + (fits (bs.drop k) (l.drop k)).1
  all : (fits bs l).2 = (fits (bs.drop k) (l.drop k)).2

theorem upto_zero (bs : List (Int × Int)) (l : List UInt8) : Upto bs l 0 := ⟨by omega, by omega, by simp, by simp⟩

theorem upto_end {bs : List (Int × Int)} {l : List UInt8} {k : Nat} (h : Upto bs l k) (hk : bs.length ≤ k) : fits bs l = (k, true) := by
  have h1 := h.num; have h2 := h.all
  rw [List.drop_of_length_le hk] at h1 h2
  simp only [fits] at h1 h2
  exact Prod.ext (by simpa using h1) h2

theorem upto_out {bs : List (Int × Int)} {l : List UInt8} {k : Nat} (h : Upto bs l k) (hk : k < bs.length) (hl : l.length ≤ k) : fits bs l = (k, false) := by
  have h1 := h.num; have h2 := h.all
  rw [List.drop_of_length_le hl, List.drop_eq_getElem_cons hk] at h1 h2
  simp only [fits] at h1 h2
  exact Prod.ext (by simpa using h1) h2

theorem upto_no {bs : List (Int × Int)} {l : List UInt8} {k : Nat} {lo hi : Int} {c : UInt8} (h : Upto bs l k) (hB : bs[k]? = some (lo, hi)) (hL : l[k]? = some c) (hn : inR lo hi (c.toNat : Int) = false) : fits bs l = (k, false) := by
  obtain ⟨hk, eB⟩ := List.getElem?_eq_some_iff.1 hB
  obtain ⟨hl, eL⟩ := List.getElem?_eq_some_iff.1 hL
  have h1 := h.num; have h2 := h.all
  rw [List.drop_eq_getElem_cons hl, List.drop_eq_getElem_cons hk] at h1 h2
  simp only [fits, eB, eL, hn] at h1 h2
  exact Prod.ext (by simpa using h1) (by simpa using h2)

theorem upto_yes {bs : List (Int × Int)} {l : List UInt8} {k : Nat} {lo hi : Int} {c : UInt8} (h : Upto bs l k) (hB : bs[k]? = some (lo, hi)) (hL : l[k]? = some c) (hn : inR lo hi (c.toNat : Int) = true) : Upto bs l (k + 1) := by
  obtain ⟨hk, eB⟩ := List.getElem?_eq_some_iff.1 hB
  obtain ⟨hl, eL⟩ := List.getElem?_eq_some_iff.1 hL
  have h1 := h.num; have h2 := h.all
  rw [List.drop_eq_getElem_cons hl, List.drop_eq_getElem_cons hk] at h1 h2
  simp only [fits, eB, eL, hn] at h1 h2
  exact ⟨hk, hl, by simp at h1; omega, by simpa using h2⟩

theorem take_opens (c : UInt8) (n : Nat) (hn : 1 ≤ n) (x : Int × Int) (r : List (Int × Int)) : opens c ((x :: r).take n) = inR x.1 x.2 c.toNat := by
  obtain ⟨m, rfl⟩ : ∃ m, n = m + 1 := ⟨n - 1, by omega⟩
  rfl

theorem find_no {c : UInt8} {k : Nat} {b : List (Int × Int)} (h : shapes.find? (opens c) = (shapes.drop k).find? (opens c)) (hB : shapes[k]? = some b) (hn : opens c b = false) :
    shapes.find? (opens c) = (shapes.drop (k + 1)).find? (opens c) := by
  obtain ⟨hk, eB⟩ := List.getElem?_eq_some_iff.1 hB
  rw [h, List.drop_eq_getElem_cons hk, List.find?_cons, eB, hn]

theorem find_yes {c : UInt8} {k : Nat} {b : List (Int × Int)} (h : shapes.find? (opens c) = (shapes.drop k).find? (opens c)) (hB : shapes[k]? = some b) (hn : opens c b = true) :
    shapes.find? (opens c) = some b := by
  obtain ⟨hk, eB⟩ := List.getElem?_eq_some_iff.1 hB
  rw [h, List.drop_eq_getElem_cons hk, List.find?_cons, eB, hn]

theorem front_some {l : List UInt8} {i : Nat} {c : UInt8} {b : List (Int × Int)} (hc : l[i]? = some c) (h : shapes.find? (opens c) = some b) : front (l.drop i) = fits b (l.drop i) := by
  obtain ⟨hi, e⟩ := List.getElem?_eq_some_iff.1 hc
  rw [List.drop_eq_getElem_cons hi, e]
  simp only [front, h]

theorem front_none {l : List UInt8} {i : Nat} {c : UInt8} (hc : l[i]? = some c) (h : shapes.find? (opens c) = none) : front (l.drop i) = (0, false) := by
  obtain ⟨hi, e⟩ := List.getElem?_eq_some_iff.1 hc
  rw [List.drop_eq_getElem_cons hi, e]
  simp only [front, h]

/-- a text's byte at a place, both ways of writing it -/
theorem byte_at (s : ByteArray) (k : Nat) (h : k < s.size) : s.data.toList[k]? = some s[k] := by
  have h' : k < s.data.toList.length := by simpa using h
  rw [List.getElem?_eq_getElem h']
  rfl

theorem size_len (s : ByteArray) : s.data.toList.length = s.size := by simp

end Go.Proofs.YtgoibhbmndpgpaaGreatDoor.Utf

/- Plain mathematics of UTF-8: scalars, the number that bytes spell. -/
set_option linter.unusedVariables false
set_option linter.unusedSimpArgs false
namespace Go.Proofs.YtgoibhbmndpgpaaGreatDoor.Utf

/-- is the number a scalar? -/
def isScalar (r : Int) : Bool := (decide (0 ≤ r) && decide (r < 55296)) || (decide (57343 < r) && decide (r < 1114112))

/-- the number that a scalar's bytes spell -/
def mark (n : Nat) : Nat := if n = 1 then 0 else if n = 2 then 192 else if n = 3 then 224 else 240
def joinOn : List UInt8 → Nat → Nat
  | [], r => r
  | c :: cs, r => joinOn cs (r * 64 + c.toNat % 64)
def val (l : List UInt8) : Int :=
  match l with
  | [] => 0
  | c :: cs => (joinOn cs (c.toNat ^^^ mark l.length) : Nat)

end Go.Proofs.YtgoibhbmndpgpaaGreatDoor.Utf

/- Plain mathematics of UTF-8: going through a text scalar by scalar. -/
set_option linter.unusedVariables false
set_option linter.unusedSimpArgs false
namespace Go.Proofs.YtgoibhbmndpgpaaGreatDoor.Utf

theorem fits_le : ∀ (b : List (Int × Int)) (l : List UInt8), (fits b l).1 ≤ l.length ∧ (fits b l).1 ≤ b.length
  | [], l => by simp [fits]
  | _ :: _, [] => by simp [fits]
  | x :: bs, c :: cs => by
    have := fits_le bs cs
    simp only [fits]
    split
    · simp; omega
    · simp

theorem fits_whole : ∀ (b : List (Int × Int)) (l : List UInt8), (fits b l).2 = true → (fits b l).1 = b.length
  | [], l => by simp [fits]
  | _ :: _, [] => by simp [fits]
  | x :: bs, c :: cs => by
    have := fits_whole bs cs
    simp only [fits]
    split
    · intro h; simp [this h]
    · simp

theorem shapes_len (b : List (Int × Int)) (h : b ∈ shapes) : 1 ≤ b.length ∧ b.length ≤ 4 := by
  simp only [shapes, List.mem_cons, List.not_mem_nil, or_false] at h
  rcases h with rfl | rfl | rfl | rfl | rfl | rfl | rfl | rfl | rfl <;> simp

theorem front_cases (l : List UInt8) : front l = (0, false) ∨ ∃ b, b ∈ shapes ∧ front l = fits b l := by
  cases l with
  | nil => left; rfl
  | cons c cs =>
    simp only [front]
    cases h : shapes.find? (opens c) with
    | none => left; rfl
    | some b => right; exact ⟨b, List.mem_of_find?_eq_some h, rfl⟩

theorem front_le (l : List UInt8) : (front l).1 ≤ l.length ∧ (front l).1 ≤ 4 := by
  rcases front_cases l with h | ⟨b, hb, h⟩ <;> rw [h]
  · simp
  · have := fits_le b l
    have := shapes_len b hb
    omega

theorem front_whole {l : List UInt8} (h : (front l).2 = true) : 1 ≤ (front l).1 := by
  rcases front_cases l with e | ⟨b, hb, e⟩
  · rw [e] at h; cases h
  · rw [e] at h ⊢
    have := fits_whole b l h
    have := shapes_len b hb
    omega

/-- through a text: how many bytes were gone through, how many scalars; is that the whole text? -/
def stepsF : Nat → List UInt8 → Nat × Nat × Bool
  | 0, l => (0, 0, l.isEmpty)
  | f + 1, l => if l.isEmpty then (0, 0, true) else if (front l).2 then ((front l).1 + (stepsF f (l.drop (front l).1)).1, (stepsF f (l.drop (front l).1)).2.1 + 1, (stepsF f (l.drop (front l).1)).2.2) else ((front l).1, 0, false)
def steps (l : List UInt8) : Nat × Nat × Bool := stepsF l.length l

theorem stepsF_eq : ∀ (f : Nat) (l : List UInt8), l.length ≤ f → stepsF f l = steps l := by
  have H : ∀ (n f g : Nat) (l : List UInt8), l.length ≤ n → l.length ≤ f → l.length ≤ g → stepsF f l = stepsF g l := by
    intro n
    induction n with
    | zero =>
      intro f g l hn hf hg
      obtain rfl : l = [] := List.eq_nil_of_length_eq_zero (by omega)
      cases f <;> cases g <;> simp [stepsF]
    | succ n ih =>
      intro f g l hn hf hg
      by_cases hl : l = []
      · subst hl; cases f <;> cases g <;> simp [stepsF]
      · have : l.length ≠ 0 := fun e => hl (List.eq_nil_of_length_eq_zero e)
        obtain ⟨f, rfl⟩ : ∃ k, f = k + 1 := ⟨f - 1, by omega⟩
        obtain ⟨g, rfl⟩ : ∃ k, g = k + 1 := ⟨g - 1, by omega⟩
        simp only [stepsF]
        by_cases hw : (front l).2 = true
        · have h1 := front_whole hw
          rw [ih f g (l.drop (front l).1) (by simp; omega) (by simp; omega) (by simp; omega)]
        · simp [hw]
  exact fun f l h => H l.length f l.length l (Nat.le_refl _) h (Nat.le_refl _)

theorem steps_nil : steps [] = (0, 0, true) := rfl
theorem steps_whole {l : List UInt8} (hl : l ≠ []) (hw : (front l).2 = true) :
    steps l = ((front l).1 + (steps (l.drop (front l).1)).1, (steps (l.drop (front l).1)).2.1 + 1, (steps (l.drop (front l).1)).2.2) := by
  have hp : l.length ≠ 0 := fun e => hl (List.eq_nil_of_length_eq_zero e)
  have h1 := front_whole hw
  obtain ⟨k, hk⟩ : ∃ k, l.length = k + 1 := ⟨l.length - 1, by omega⟩
  have e : l.isEmpty = false := by simpa using hl
  rw [steps, hk, stepsF, if_neg (by simp [e]), if_pos hw, stepsF_eq k _ (by simp; omega)]
theorem steps_not {l : List UInt8} (hl : l ≠ []) (hw : (front l).2 = false) : steps l = ((front l).1, 0, false) := by
  have hp : l.length ≠ 0 := fun e => hl (List.eq_nil_of_length_eq_zero e)
  obtain ⟨k, hk⟩ : ∃ k, l.length = k + 1 := ⟨l.length - 1, by omega⟩
  have e : l.isEmpty = false := by simpa using hl
  rw [steps, hk, stepsF, if_neg (by simp [e]), if_neg (by simp [hw])]

/-- the length of the longest beginning that a well-formed text can have; -1: the text is well-formed -/
def bad (l : List UInt8) : Int := if (steps l).2.2 then -1 else (steps l).1
/-- how many scalars; -1: the text is not well-formed -/
def count (l : List UInt8) : Int := if (steps l).2.2 then (steps l).2.1 else -1
/-- the scalar at a place, and how many bytes it has -/
def next (l : List UInt8) (i : Int) : Int × Nat × Bool :=
  if 0 ≤ i ∧ i < l.length ∧ (front (l.drop i.toNat)).2 = true then (val ((l.drop i.toNat).take (front (l.drop i.toNat)).1), (front (l.drop i.toNat)).1, true) else (0, 0, false)

/-- so far: i bytes and n scalars of the text are gone through -/
structure Far (l : List UInt8) (i n : Nat) : Prop where
  inL : i ≤ l.length
  num : (steps l).1 = i + (steps (l.drop i)).1
  cnt : (steps l).2.1 = n + (steps (l.drop i)).2.1
  all : (steps l).2.2 = (steps (l.drop i)).2.2
theorem far_zero (l : List UInt8) : Far l 0 0 := ⟨by omega, by simp, by simp, by simp⟩
theorem drop_ne {l : List UInt8} {i : Nat} (h : i < l.length) : l.drop i ≠ [] := by
  intro e
  have := congrArg List.length e
  simp at this
  omega
theorem far_yes {l : List UInt8} {i n : Nat} (h : Far l i n) (hi : i < l.length) (hw : (front (l.drop i)).2 = true) : Far l (i + (front (l.drop i)).1) (n + 1) := by
  have e := steps_whole (drop_ne hi) hw
  have hle := (front_le (l.drop i)).1
  have h1 := h.num; have h2 := h.cnt; have h3 := h.all
  rw [e] at h1 h2 h3
  simp only [List.drop_drop] at h1 h2 h3
  simp only [List.length_drop] at hle
  exact ⟨by omega, by omega, by omega, h3⟩
theorem far_no {l : List UInt8} {i n : Nat} (h : Far l i n) (hi : i < l.length) (hw : (front (l.drop i)).2 = false) : bad l = (i + (front (l.drop i)).1 : Nat) ∧ count l = -1 := by
  have e := steps_not (drop_ne hi) hw
  have h1 := h.num; have h3 := h.all
  rw [e] at h1 h3
  simp only at h1 h3
  simp [bad, count, h3, h1]
theorem far_end {l : List UInt8} {i n : Nat} (h : Far l i n) (hi : l.length ≤ i) : bad l = -1 ∧ count l = n := by
  have h2 := h.cnt; have h3 := h.all
  rw [List.drop_of_length_le hi, steps_nil] at h2 h3
  simp only at h2 h3
  simp [bad, count, h3, h2]

/-- the bytes of a scalar -/
def bytesN (n : Nat) : List UInt8 :=
  if n < 128 then [UInt8.ofNat n]
  else if n < 2048 then [UInt8.ofNat (192 + n / 64), UInt8.ofNat (128 + n % 64)]
  else if n < 65536 then [UInt8.ofNat (224 + n / 4096), UInt8.ofNat (128 + n / 64 % 64), UInt8.ofNat (128 + n % 64)]
  else [UInt8.ofNat (240 + n / 262144), UInt8.ofNat (128 + n / 4096 % 64), UInt8.ofNat (128 + n / 64 % 64), UInt8.ofNat (128 + n % 64)]
def bytes (r : Int) : List UInt8 := if isScalar r then bytesN r.toNat else []

end Go.Proofs.YtgoibhbmndpgpaaGreatDoor.Utf

/- Plain mathematics of UTF-8: a scalar's bytes are read as it; what is read whole is a scalar's bytes. -/
set_option linter.unusedVariables false
set_option linter.unusedSimpArgs false
namespace Go.Proofs.YtgoibhbmndpgpaaGreatDoor.Utf

theorem find_of {α : Type} {p : α → Bool} {b : α} : ∀ {l : List α}, b ∈ l → p b = true → (∀ x, x ∈ l → p x = true → x = b) → l.find? p = some b
  | [], h, _, _ => by cases h
  | a :: l, h, hp, hu => by
    rw [List.find?_cons]
    cases ha : p a with
    | true => simp [hu a (by simp) ha]
    | false =>
      simp only
      refine find_of (l := l) ?_ hp (fun x hx => hu x (by simp [hx]))
      rcases List.mem_cons.1 h with e | e
      · subst e; rw [hp] at ha; cases ha
      · exact e

theorem inR_true {lo hi c : Int} (h0 : lo ≤ c) (h1 : c ≤ hi) : inR lo hi c = true := by simp [inR, h0, h1]
theorem inR_le {lo hi c : Int} (h : inR lo hi c = true) : lo ≤ c ∧ c ≤ hi := by simpa [inR] using h

/-- the shape of a first byte is one alone -/
theorem shape_one {c : UInt8} {b : List (Int × Int)} (hb : b ∈ shapes) (ho : opens c b = true) : shapes.find? (opens c) = some b := by
  refine find_of hb ho (fun x hx hox => ?_)
  simp only [shapes, List.mem_cons, List.not_mem_nil, or_false] at hb hx
  rcases hb with rfl | rfl | rfl | rfl | rfl | rfl | rfl | rfl | rfl <;> rcases hx with rfl | rfl | rfl | rfl | rfl | rfl | rfl | rfl | rfl <;>
    first
    | rfl
    | (exfalso
       have h1 := inR_le ho
       have h2 := inR_le hox
       simp only at h1 h2
       omega)

theorem front_shape {c : UInt8} {cs : List UInt8} {b : List (Int × Int)} (hb : b ∈ shapes) (ho : opens c b = true) : front (c :: cs) = fits b (c :: cs) := by
  simp only [front, shape_one hb ho]

theorem fits_cons {x : Int × Int} {bs : List (Int × Int)} {c : UInt8} {cs : List UInt8} (h0 : x.1 ≤ c.toNat) (h1 : (c.toNat : Int) ≤ x.2) : fits (x :: bs) (c :: cs) = ((fits bs cs).1 + 1, (fits bs cs).2) := by
  simp only [fits, inR_true h0 h1, if_true]

theorem toNat_of {n : Nat} (h : n < 256) : (UInt8.ofNat n).toNat = n := by
  simp [Nat.mod_eq_of_lt h]

theorem xor_sub : ∀ c, c < 256 → (192 ≤ c → c < 224 → c ^^^ 192 = c - 192) ∧ (224 ≤ c → c < 240 → c ^^^ 224 = c - 224) ∧ (240 ≤ c → c < 248 → c ^^^ 240 = c - 240) := by decide +kernel

theorem val1 (a : UInt8) : val [a] = (a.toNat : Nat) := by simp [val, joinOn, mark]
theorem val2 (a b : UInt8) (h : 192 ≤ a.toNat) (h2 : a.toNat < 224) : val [a, b] = ((a.toNat - 192) * 64 + b.toNat % 64 : Nat) := by
  have := (xor_sub a.toNat (UInt8.toNat_lt a)).1 h h2
  simp [val, joinOn, mark, this]
theorem val3 (a b c : UInt8) (h : 224 ≤ a.toNat) (h2 : a.toNat < 240) : val [a, b, c] = (((a.toNat - 224) * 64 + b.toNat % 64) * 64 + c.toNat % 64 : Nat) := by
  have := (xor_sub a.toNat (UInt8.toNat_lt a)).2.1 h h2
  simp [val, joinOn, mark, this]
theorem val4 (a b c d : UInt8) (h : 240 ≤ a.toNat) (h2 : a.toNat < 248) : val [a, b, c, d] = ((((a.toNat - 240) * 64 + b.toNat % 64) * 64 + c.toNat % 64) * 64 + d.toNat % 64 : Nat) := by
  have := (xor_sub a.toNat (UInt8.toNat_lt a)).2.2 h h2
  simp [val, joinOn, mark, this]

/-- what a text that begins with a scalar's bytes begins with -/
theorem front_bytes (n : Nat) (hn : n < 1114112) (hs : n < 55296 ∨ 57343 < n) (r : List UInt8) : front (bytesN n ++ r) = ((bytesN n).length, true) ∧ val (bytesN n) = n := by
  unfold bytesN
  by_cases h1 : n < 128
  · rw [if_pos h1]
    have e := toNat_of (n := n) (by omega)
    refine ⟨?_, by rw [val1, e]⟩
    rw [List.cons_append, front_shape (b := [(0, 127)]) (by simp [shapes]) (inR_true (by rw [e]; simp) (by rw [e]; simp; omega)), fits_cons (by rw [e]; simp) (by rw [e]; simp; omega)]
    simp [fits]
  · rw [if_neg h1]
    by_cases h2 : n < 2048
    · rw [if_pos h2]
      have e := toNat_of (n := 192 + n / 64) (by omega)
      have f := toNat_of (n := 128 + n % 64) (by omega)
      refine ⟨?_, by rw [val2 _ _ (by omega) (by omega), e, f]; omega⟩
      rw [List.cons_append, List.cons_append, front_shape (b := [(194, 223), (128, 191)]) (by simp [shapes]) (inR_true (by rw [e]; simp; omega) (by rw [e]; simp; omega)),
        fits_cons (by rw [e]; simp; omega) (by rw [e]; simp; omega), fits_cons (by rw [f]; simp; omega) (by rw [f]; simp; omega)]
      simp [fits]
    · rw [if_neg h2]
      by_cases h3 : n < 65536
      · rw [if_pos h3]
        have e := toNat_of (n := 224 + n / 4096) (by omega)
        have f := toNat_of (n := 128 + n / 64 % 64) (by omega)
        have g := toNat_of (n := 128 + n % 64) (by omega)
        refine ⟨?_, by rw [val3 _ _ _ (by omega) (by omega), e, f, g]; omega⟩
        rw [List.cons_append, List.cons_append, List.cons_append]
        have key : ∃ lo hi lo2 hi2, [(lo, hi), (lo2, hi2), (128, 191)] ∈ shapes ∧ lo ≤ ((224 + n / 4096 : Nat) : Int) ∧ ((224 + n / 4096 : Nat) : Int) ≤ hi ∧ lo2 ≤ ((128 + n / 64 % 64 : Nat) : Int) ∧ ((128 + n / 64 % 64 : Nat) : Int) ≤ hi2 := by
          by_cases k1 : n < 4096
          · exact ⟨224, 224, 160, 191, by simp [shapes], by omega, by omega, by omega, by omega⟩
          · by_cases k2 : n < 53248
            · exact ⟨225, 236, 128, 191, by simp [shapes], by omega, by omega, by omega, by omega⟩
            · by_cases k3 : n < 57344
              · exact ⟨237, 237, 128, 159, by simp [shapes], by omega, by omega, by omega, by omega⟩
              · exact ⟨238, 239, 128, 191, by simp [shapes], by omega, by omega, by omega, by omega⟩
        obtain ⟨lo, hi, lo2, hi2, hm, a1, a2, a3, a4⟩ := key
        rw [front_shape hm (inR_true (by rw [e]; exact a1) (by rw [e]; exact a2)), fits_cons (by rw [e]; exact a1) (by rw [e]; exact a2), fits_cons (by rw [f]; exact a3) (by rw [f]; exact a4),
          fits_cons (by rw [g]; simp; omega) (by rw [g]; simp; omega)]
        simp [fits]
      · rw [if_neg h3]
        have e := toNat_of (n := 240 + n / 262144) (by omega)
        have f := toNat_of (n := 128 + n / 4096 % 64) (by omega)
        have g := toNat_of (n := 128 + n / 64 % 64) (by omega)
        have k := toNat_of (n := 128 + n % 64) (by omega)
        refine ⟨?_, by rw [val4 _ _ _ _ (by omega) (by omega), e, f, g, k]; omega⟩
        rw [List.cons_append, List.cons_append, List.cons_append, List.cons_append]
        have key : ∃ lo hi lo2 hi2, [(lo, hi), (lo2, hi2), (128, 191), (128, 191)] ∈ shapes ∧ lo ≤ ((240 + n / 262144 : Nat) : Int) ∧ ((240 + n / 262144 : Nat) : Int) ≤ hi ∧ lo2 ≤ ((128 + n / 4096 % 64 : Nat) : Int) ∧ ((128 + n / 4096 % 64 : Nat) : Int) ≤ hi2 := by
          by_cases k1 : n < 262144
          · exact ⟨240, 240, 144, 191, by simp [shapes], by omega, by omega, by omega, by omega⟩
          · by_cases k2 : n < 1048576
            · exact ⟨241, 243, 128, 191, by simp [shapes], by omega, by omega, by omega, by omega⟩
            · exact ⟨244, 244, 128, 143, by simp [shapes], by omega, by omega, by omega, by omega⟩
        obtain ⟨lo, hi, lo2, hi2, hm, a1, a2, a3, a4⟩ := key
        rw [front_shape hm (inR_true (by rw [e]; exact a1) (by rw [e]; exact a2)), fits_cons (by rw [e]; exact a1) (by rw [e]; exact a2), fits_cons (by rw [f]; exact a3) (by rw [f]; exact a4),
          fits_cons (by rw [g]; simp; omega) (by rw [g]; simp; omega), fits_cons (by rw [k]; simp; omega) (by rw [k]; simp; omega)]
        simp [fits]

theorem isScalar_iff (r : Int) : isScalar r = true ↔ (0 ≤ r ∧ r < 55296) ∨ (57343 < r ∧ r < 1114112) := by
  simp [isScalar]

theorem bytes_pos (r : Int) (h : isScalar r = true) : 1 ≤ (bytes r).length ∧ (bytes r).length ≤ 4 := by
  have e : bytes r = bytesN r.toNat := by simp [bytes, h]
  rw [e]; unfold bytesN
  repeat' split
  all_goals simp

/-- a scalar's bytes, wherever they stand, are read as it -/
theorem back (r : Int) (h : isScalar r = true) (a c : List UInt8) : next (a ++ bytes r ++ c) a.length = (r, (bytes r).length, true) ∧ bad (bytes r) = -1 ∧ count (bytes r) = 1 := by
  have hr := (isScalar_iff r).1 h
  have e : bytes r = bytesN r.toNat := by simp [bytes, h]
  have hp := bytes_pos r h
  have fb := fun t => front_bytes r.toNat (by omega) (by omega) t
  rw [← e] at fb
  have hd : (a ++ bytes r ++ c).drop a.length = bytes r ++ c := by rw [List.append_assoc, List.drop_left]
  refine ⟨?_, ?_⟩
  · unfold next
    rw [Int.toNat_natCast, hd, (fb c).1]
    rw [if_pos ⟨by omega, by simp; omega, rfl⟩]
    simp only [List.take_left]
    rw [(fb c).2]
    simp only [Prod.mk.injEq, and_true]
    omega
  · have hn : bytes r ≠ [] := by intro x; rw [x] at hp; simp at hp
    have f0 := (fb []).1
    rw [List.append_nil] at f0
    have s := steps_whole hn (by rw [f0])
    rw [f0] at s
    simp only [List.drop_length, steps_nil] at s
    simp [bad, count, s]

end Go.Proofs.YtgoibhbmndpgpaaGreatDoor.Utf

/- Labels as plain lists: the order of texts, of labels, of rows of labels; sorted rows. Nothing of the program stands here. -/
set_option maxRecDepth 100000
set_option linter.unusedVariables false
set_option linter.unusedSimpArgs false
namespace Go.Proofs.YtgoibhbmndpgpaaGreatDoor
open Go.Lib (compareBytes)

abbrev cb : List UInt8 → List UInt8 → Int := compareBytes
abbrev Lb := List UInt8 × List UInt8

theorem cb_refl : ∀ a, cb a a = 0
  | [] => rfl
  | x :: a => by
    show compareBytes (x :: a) (x :: a) = 0
    rw [compareBytes, if_neg (UInt8.lt_irrefl x), if_neg (UInt8.lt_irrefl x)]; exact cb_refl a
theorem cb_range : ∀ a b, cb a b = -1 ∨ cb a b = 0 ∨ cb a b = 1
  | [], [] => Or.inr (Or.inl rfl)
  | [], _ :: _ => Or.inl rfl
  | _ :: _, [] => Or.inr (Or.inr rfl)
  | x :: a, y :: b => by
    show compareBytes (x :: a) (y :: b) = -1 ∨ compareBytes (x :: a) (y :: b) = 0 ∨ compareBytes (x :: a) (y :: b) = 1
    rw [compareBytes]
    by_cases h : x < y
    · rw [if_pos h]; exact Or.inl rfl
    · rw [if_neg h]
      by_cases h2 : y < x
      · rw [if_pos h2]; exact Or.inr (Or.inr rfl)
      · rw [if_neg h2]; exact cb_range a b
theorem cb_neg : ∀ a b, cb b a = - cb a b
  | [], [] => rfl
  | [], _ :: _ => rfl
  | _ :: _, [] => rfl
  | x :: a, y :: b => by
    show compareBytes (y :: b) (x :: a) = - compareBytes (x :: a) (y :: b)
    rw [compareBytes, compareBytes]
    by_cases h : x < y
    · rw [if_pos h, if_neg (UInt8.lt_asymm h), if_pos h]; rfl
    · rw [if_neg h]
      by_cases h2 : y < x
      · rw [if_pos h2, if_pos h2, if_neg h]
      · rw [if_neg h2, if_neg h2, if_neg h]; exact cb_neg a b
theorem cb_eq : ∀ a b, cb a b = 0 → a = b
  | [], [] => fun _ => rfl
  | [], _ :: _ => fun h => absurd (show (-1 : Int) = 0 from h) (by decide)
  | _ :: _, [] => fun h => absurd (show (1 : Int) = 0 from h) (by decide)
  | x :: a, y :: b => fun h0 => by
    have h : compareBytes (x :: a) (y :: b) = 0 := h0
    rw [compareBytes] at h
    by_cases h1 : x < y
    · rw [if_pos h1] at h; exact absurd h (by decide)
    · rw [if_neg h1] at h
      by_cases h2 : y < x
      · rw [if_pos h2] at h; exact absurd h (by decide)
      · rw [if_neg h2] at h
        rw [UInt8.le_antisymm (UInt8.not_lt.1 h2) (UInt8.not_lt.1 h1), cb_eq a b h]
theorem cb_zero (a b : List UInt8) : cb a b = 0 ↔ a = b := ⟨cb_eq a b, fun h => by rw [h]; exact cb_refl b⟩
theorem cb_trans : ∀ a b c, cb a b < 0 → cb b c < 0 → cb a c < 0
  | [], [], _ => fun h _ => absurd (show (0 : Int) < 0 from h) (by decide)
  | [], _ :: _, [] => fun _ h => absurd (show (1 : Int) < 0 from h) (by decide)
  | [], _ :: _, _ :: _ => fun _ _ => show (-1 : Int) < 0 by decide
  | _ :: _, [], _ => fun h _ => absurd (show (1 : Int) < 0 from h) (by decide)
  | _ :: _, _ :: _, [] => fun _ h => absurd (show (1 : Int) < 0 from h) (by decide)
  | x :: a, y :: b, z :: c => fun h k => by
    have h1 : compareBytes (x :: a) (y :: b) < 0 := h
    have k1 : compareBytes (y :: b) (z :: c) < 0 := k
    show compareBytes (x :: a) (z :: c) < 0
    rw [compareBytes] at h1 k1 ⊢
    by_cases xy : x < y
    · by_cases yz : y < z
      · rw [if_pos (UInt8.lt_trans xy yz)]; decide
      · rw [if_neg yz] at k1
        by_cases zy : z < y
        · rw [if_pos zy] at k1; exact absurd k1 (by decide)
        · have e : y = z := UInt8.le_antisymm (UInt8.not_lt.1 zy) (UInt8.not_lt.1 yz)
          rw [← e, if_pos xy]; decide
    · rw [if_neg xy] at h1
      by_cases yx : y < x
      · rw [if_pos yx] at h1; exact absurd h1 (by decide)
      · rw [if_neg yx] at h1
        have e : x = y := UInt8.le_antisymm (UInt8.not_lt.1 yx) (UInt8.not_lt.1 xy)
        subst e
        by_cases yz : x < z
        · rw [if_pos yz]; decide
        · rw [if_neg yz] at k1 ⊢
          by_cases zy : z < x
          · rw [if_pos zy] at k1; exact absurd k1 (by decide)
          · rw [if_neg zy] at k1 ⊢
            exact cb_trans a b c h1 k1
theorem bl_cb : ∀ a b : List UInt8, Op.bytesLess a b = decide (cb a b < 0)
  | [], [] => by rfl
  | _ :: _, [] => by rfl
  | [], _ :: _ => by rfl
  | x :: a, y :: b => by
    show _ = decide (compareBytes (x :: a) (y :: b) < 0)
    rw [Op.bytesLess, compareBytes, bl_cb a b]
    by_cases h : x < y
    · rw [if_pos h]; simp [h]
    · rw [if_neg h]
      by_cases h2 : y < x
      · rw [if_pos h2]
        have : (x == y) = false := by
          rw [beq_eq_false_iff_ne]; intro e; subst e; exact h h2
        simp [h, this]
      · rw [if_neg h2]
        have e : x = y := UInt8.le_antisymm (UInt8.not_lt.1 h2) (UInt8.not_lt.1 h)
        subst e
        simp [UInt8.lt_irrefl]
theorem cb_le_trans {a b c : List UInt8} (h : cb a b ≤ 0) (k : cb b c ≤ 0) : cb a c ≤ 0 := by
  rcases cb_range a b with h1 | h1 | h1
  · rcases cb_range b c with k1 | k1 | k1
    · exact Int.le_of_lt (cb_trans a b c (by omega) (by omega))
    · rw [← cb_eq b c k1]; omega
    · omega
  · rw [cb_eq a b h1]; exact k
  · omega

/-- of two labels the lesser by the names, then by the values -/
def lbc (x y : Lb) : Int := if cb x.1 y.1 = 0 then cb x.2 y.2 else cb x.1 y.1
theorem lbc_range (x y : Lb) : lbc x y = -1 ∨ lbc x y = 0 ∨ lbc x y = 1 := by unfold lbc; split <;> exact cb_range _ _
theorem lbc_neg (x y : Lb) : lbc y x = - lbc x y := by
  unfold lbc
  rw [cb_neg x.1 y.1, cb_neg x.2 y.2]
  by_cases h : cb x.1 y.1 = 0
  · rw [if_pos h, if_pos (by omega)]
  · rw [if_neg h, if_neg (by omega)]
theorem lbc_eq {x y : Lb} (h : lbc x y = 0) : x = y := by
  unfold lbc at h
  by_cases h1 : cb x.1 y.1 = 0
  · rw [if_pos h1] at h
    exact Prod.ext (cb_eq _ _ h1) (cb_eq _ _ h)
  · rw [if_neg h1] at h; exact absurd h h1
theorem lbc_refl (x : Lb) : lbc x x = 0 := by unfold lbc; rw [if_pos (cb_refl _), cb_refl]
theorem lbc_trans {x y z : Lb} (h : lbc x y < 0) (k : lbc y z < 0) : lbc x z < 0 := by
  unfold lbc at h k ⊢
  by_cases h1 : cb x.1 y.1 = 0
  · rw [if_pos h1] at h
    have e := cb_eq _ _ h1
    rw [e]
    by_cases k1 : cb y.1 z.1 = 0
    · rw [if_pos k1] at k ⊢; exact cb_trans _ _ _ h k
    · rw [if_neg k1] at k ⊢; exact k
  · rw [if_neg h1] at h
    by_cases k1 : cb y.1 z.1 = 0
    · rw [← cb_eq _ _ k1, if_neg h1]; exact h
    · rw [if_neg k1] at k
      have t := cb_trans _ _ _ h k
      rw [if_neg (by omega)]; exact t
/-- of two rows of labels -/
def cmpL : List Lb → List Lb → Int
  | [], [] => 0
  | [], _ :: _ => -1
  | _ :: _, [] => 1
  | x :: a, y :: b => if lbc x y = 0 then cmpL a b else lbc x y
theorem cmpL_range : ∀ a b, cmpL a b = -1 ∨ cmpL a b = 0 ∨ cmpL a b = 1
  | [], [] => Or.inr (Or.inl rfl)
  | [], _ :: _ => Or.inl rfl
  | _ :: _, [] => Or.inr (Or.inr rfl)
  | x :: a, y :: b => by
    rw [cmpL]; split
    · exact cmpL_range a b
    · exact lbc_range x y
theorem cmpL_refl : ∀ a, cmpL a a = 0
  | [] => rfl
  | x :: a => by rw [cmpL, if_pos (lbc_refl x)]; exact cmpL_refl a
theorem cmpL_neg : ∀ a b, cmpL b a = - cmpL a b
  | [], [] => rfl
  | [], _ :: _ => rfl
  | _ :: _, [] => rfl
  | x :: a, y :: b => by
    rw [cmpL, cmpL, lbc_neg x y]
    by_cases h : lbc x y = 0
    · rw [if_pos h, if_pos (by omega)]; exact cmpL_neg a b
    · rw [if_neg h, if_neg (by omega)]
theorem cmpL_eq : ∀ a b, cmpL a b = 0 → a = b
  | [], [] => fun _ => rfl
  | [], _ :: _ => fun h => absurd (show (-1 : Int) = 0 from h) (by decide)
  | _ :: _, [] => fun h => absurd (show (1 : Int) = 0 from h) (by decide)
  | x :: a, y :: b => fun h => by
    rw [cmpL] at h
    by_cases h1 : lbc x y = 0
    · rw [if_pos h1] at h; rw [lbc_eq h1, cmpL_eq a b h]
    · rw [if_neg h1] at h; exact absurd h h1
theorem cmpL_trans : ∀ a b c, cmpL a b < 0 → cmpL b c < 0 → cmpL a c < 0
  | [], [], _ => fun h _ => absurd (show (0 : Int) < 0 from h) (by decide)
  | [], _ :: _, [] => fun _ h => absurd (show (1 : Int) < 0 from h) (by decide)
  | [], _ :: _, _ :: _ => fun _ _ => show (-1 : Int) < 0 by decide
  | _ :: _, [], _ => fun h _ => absurd (show (1 : Int) < 0 from h) (by decide)
  | _ :: _, _ :: _, [] => fun _ h => absurd (show (1 : Int) < 0 from h) (by decide)
  | x :: a, y :: b, z :: c => fun h k => by
    rw [cmpL] at h k ⊢
    by_cases h1 : lbc x y = 0
    · rw [if_pos h1] at h
      rw [lbc_eq h1]
      by_cases k1 : lbc y z = 0
      · rw [if_pos k1] at k ⊢; exact cmpL_trans a b c h k
      · rw [if_neg k1] at k ⊢; exact k
    · rw [if_neg h1] at h
      by_cases k1 : lbc y z = 0
      · rw [← lbc_eq k1, if_neg h1]; exact h
      · rw [if_neg k1] at k
        have t := lbc_trans h k
        rw [if_neg (by omega)]; exact t
theorem cmpL_le_trans (a b c : List Lb) (h : cmpL a b ≤ 0) (k : cmpL b c ≤ 0) : cmpL a c ≤ 0 := by
  rcases cmpL_range a b with h1 | h1 | h1
  · rcases cmpL_range b c with k1 | k1 | k1
    · exact Int.le_of_lt (cmpL_trans a b c (by omega) (by omega))
    · rw [← cmpL_eq b c k1]; omega
    · omega
  · rw [cmpL_eq a b h1]; exact k
  · omega
/-- one step of the comparison at a place -/
theorem cmpL_at {a b : List Lb} {i : Nat} (ha : i < a.length) (hb : i < b.length) (h : cmpL a b = cmpL (a.drop i) (b.drop i)) :
    (lbc a[i] b[i] = 0 → cmpL a b = cmpL (a.drop (i + 1)) (b.drop (i + 1))) ∧ (lbc a[i] b[i] ≠ 0 → cmpL a b = lbc a[i] b[i]) := by
  rw [List.drop_eq_getElem_cons ha, List.drop_eq_getElem_cons hb, cmpL] at h
  exact ⟨fun e => by rw [if_pos e] at h; exact h, fun e => by rw [if_neg e] at h; exact h⟩
theorem cmpL_end {a b : List Lb} {i : Nat} (h : cmpL a b = cmpL (a.drop i) (b.drop i)) :
    (a.length ≤ i → i < b.length → cmpL a b = -1) ∧ (b.length ≤ i → i < a.length → cmpL a b = 1) ∧ (a.length ≤ i → b.length ≤ i → cmpL a b = 0) := by
  refine ⟨fun h1 h2 => ?_, fun h1 h2 => ?_, fun h1 h2 => ?_⟩
  · rw [h, List.drop_eq_nil_of_le h1, List.drop_eq_getElem_cons h2]; rfl
  · rw [h, List.drop_eq_nil_of_le h1, List.drop_eq_getElem_cons h2]; rfl
  · rw [h, List.drop_eq_nil_of_le h1, List.drop_eq_nil_of_le h2]; rfl

/-- sorted by the names, each name once -/
abbrev StrictS (l : List Lb) : Prop := l.Pairwise fun x y => cb x.1 y.1 < 0
abbrev Nd (l : List Lb) : Prop := (l.map (·.1)).Nodup
theorem strict_nd {l : List Lb} (h : StrictS l) : Nd l := by
  unfold Nd
  rw [List.nodup_iff_pairwise_ne, List.pairwise_map]
  exact h.imp fun {a b} k e => by rw [e, cb_refl] at k; exact absurd k (by decide)
theorem nd_perm {l m : List Lb} (h : l.Perm m) : Nd l ↔ Nd m := (h.map _).nodup_iff
theorem strict_unique {l m : List Lb} (h : l.Perm m) (hl : StrictS l) (hm : StrictS m) : l = m :=
  List.Perm.eq_of_pairwise (fun a b _ _ h1 h2 => by rw [cb_neg] at h2; omega) hl hm h
def insB (x : Lb) : List Lb → List Lb
  | [] => [x]
  | y :: l => if cb x.1 y.1 < 0 then x :: y :: l else y :: insB x l
theorem insB_perm (x : Lb) : ∀ l, (insB x l).Perm (x :: l)
  | [] => List.Perm.refl _
  | y :: l => by
    rw [insB]; split
    · exact List.Perm.refl _
    · exact ((insB_perm x l).cons y).trans (List.Perm.swap x y l)
theorem insB_strict (x : Lb) : ∀ l, StrictS l → (∀ y ∈ l, y.1 ≠ x.1) → StrictS (insB x l)
  | [], _, _ => by simp [insB]
  | y :: l, h, hne => by
    rw [insB]
    rw [StrictS, List.pairwise_cons] at h
    by_cases c : cb x.1 y.1 < 0
    · rw [if_pos c, StrictS, List.pairwise_cons]
      refine ⟨fun z hz => ?_, by rw [List.pairwise_cons]; exact h⟩
      rcases List.mem_cons.1 hz with rfl | hz
      · exact c
      · exact cb_trans _ _ _ c (h.1 z hz)
    · rw [if_neg c, StrictS, List.pairwise_cons]
      refine ⟨fun z hz => ?_, insB_strict x l h.2 (fun z hz => hne z (List.mem_cons_of_mem _ hz))⟩
      rcases List.mem_cons.1 ((insB_perm x l).mem_iff.1 hz) with rfl | hz
      · have h0 : cb z.1 y.1 ≠ 0 := fun e => hne y List.mem_cons_self (cb_eq _ _ e).symm
        rw [cb_neg]; rcases cb_range z.1 y.1 with k | k | k <;> omega
      · exact h.1 z hz
def srtL : List Lb → List Lb
  | [] => []
  | x :: l => insB x (srtL l)
theorem srtL_perm : ∀ l, (srtL l).Perm l
  | [] => List.Perm.refl _
  | x :: l => (insB_perm x _).trans ((srtL_perm l).cons x)
theorem srtL_strict : ∀ l, Nd l → StrictS (srtL l)
  | [], _ => List.Pairwise.nil
  | x :: l, h => by
    unfold Nd at h
    rw [List.map_cons, List.nodup_cons] at h
    refine insB_strict x _ (srtL_strict l h.2) (fun y hy e => h.1 ?_)
    rw [← e]
    exact List.mem_map_of_mem ((srtL_perm l).mem_iff.1 hy)
/-- the sorted row, if no name is there twice -/
def srt (l : List Lb) : Option (List Lb) := if Nd l then some (srtL l) else none
theorem srt_is {l d : List Lb} (hp : d.Perm l) (hs : StrictS d) : srt l = some d := by
  have hn := (nd_perm hp).1 (strict_nd hs)
  unfold srt
  rw [if_pos hn, strict_unique ((srtL_perm l).trans hp.symm) (srtL_strict l hn) hs]
theorem srt_no {l : List Lb} (h : ¬ Nd l) : srt l = none := if_neg h
theorem srt_yes {l : List Lb} (h : Nd l) : ∃ d, srt l = some d ∧ d.Perm l ∧ StrictS d := ⟨srtL l, if_pos h, srtL_perm l, srtL_strict l h⟩
/-- a name, a value -/
def ctl (s : List UInt8) : Bool := s.any fun c => decide (c < 32) || decide (c = 127)
def nameOk (s : List UInt8) : Bool := decide (1 ≤ s.length) && decide (s.length ≤ 60) && decide (Utf.bad s < 0) && !ctl s
def valueOk (s : List UInt8) : Bool := decide (s.length ≤ 60) && decide (Utf.bad s < 0)
def lbAt (l : List Lb) (i : Nat) : Lb := l.getD i ([], [])
theorem lbAt_of {l : List Lb} {i : Nat} (h : i < l.length) : lbAt l i = l[i] := by
  unfold lbAt; rw [List.getD_eq_getElem?_getD, List.getElem?_eq_getElem h]; rfl
theorem at_get {l : List Lb} {i : Nat} (h : i < l.length) : l[i]? = some (lbAt l i) := by rw [lbAt_of h, List.getElem?_eq_getElem h]
theorem at_mem {l : List Lb} {i : Nat} (h : i < l.length) : lbAt l i ∈ l := by rw [lbAt_of h]; exact List.getElem_mem h
def goodAt (l : List Lb) (i : Nat) : Bool := nameOk (lbAt l i).1 && valueOk (lbAt l i).2 && (decide (i = 0) || decide (cb (lbAt l (i - 1)).1 (lbAt l i).1 < 0))
def goodTo (l : List Lb) (k : Nat) : Bool := (List.range k).all (goodAt l)
def goodL (l : List Lb) : Bool := decide (l.length ≤ 8) && goodTo l l.length
theorem goodTo_succ {l : List Lb} {k : Nat} (h : goodTo l k = true) : goodTo l (k + 1) = goodAt l k := by
  unfold goodTo at h ⊢
  rw [List.range_succ, List.all_append, h]; simp
theorem goodL_no {l : List Lb} {k : Nat} (hk : k < l.length) (h : goodAt l k = false) : goodL l = false := by
  unfold goodL goodTo
  rw [Bool.and_eq_false_iff]
  right
  rw [List.all_eq_false]
  exact ⟨k, List.mem_range.2 hk, by rw [h]; decide⟩
theorem goodL_yes {l : List Lb} (h : l.length ≤ 8) (k : goodTo l l.length = true) : goodL l = true := by
  unfold goodL; rw [k, decide_eq_true h]; rfl
theorem goodL_long {l : List Lb} (h : 8 < l.length) : goodL l = false := by
  unfold goodL; rw [decide_eq_false (by omega)]; rfl

/-- the value of the first label of that name -/
def getL (l : List Lb) (n : List UInt8) : List UInt8 × Bool :=
  match l with
  | [] => ([], false)
  | x :: l => if x.1 = n then (x.2, true) else getL l n
theorem getL_at {l : List Lb} {n : List UInt8} {i : Nat} (hi : i < l.length) (h : getL l n = getL (l.drop i) n) :
    ((lbAt l i).1 = n → getL l n = ((lbAt l i).2, true)) ∧ ((lbAt l i).1 ≠ n → getL l n = getL (l.drop (i + 1)) n) := by
  rw [List.drop_eq_getElem_cons hi, getL, ← lbAt_of hi] at h
  exact ⟨fun e => by rw [if_pos e] at h; exact h, fun e => by rw [if_neg e] at h; exact h⟩
theorem getL_end {l : List Lb} {n : List UInt8} {i : Nat} (hi : l.length ≤ i) (h : getL l n = getL (l.drop i) n) : getL l n = ([], false) := by
  rw [h, List.drop_eq_nil_of_le hi]; rfl
end Go.Proofs.YtgoibhbmndpgpaaGreatDoor

/- Plain mathematics: decimals: numbers by their digits, noughts taken off, texts taken apart. No program. -/
set_option linter.unusedVariables false
set_option linter.unusedSimpArgs false
namespace Go.Proofs.YtgoibhbmndpgpaaGreatDoor.Dc

/-! ### a number by its digits -/
def valN (l : List Nat) : Nat := l.foldl (fun n d => 10 * n + d) 0
theorem foldN (l : List Nat) : ∀ a, l.foldl (fun n d => 10 * n + d) a = a * 10 ^ l.length + valN l := by
  induction l with
  | nil => intro a; simp [valN]
  | cons d l ih =>
    intro a
    have h1 := ih (10 * a + d)
    have h2 := ih (10 * 0 + d)
    unfold valN at *
    simp only [List.foldl_cons, List.length_cons, Nat.pow_succ] at *
    rw [h1, h2]
    simp only [Nat.mul_zero, Nat.zero_add, Nat.add_mul]
    rw [Nat.add_assoc]
    congr 1
    rw [Nat.mul_comm 10 a, Nat.mul_assoc, Nat.mul_comm 10]
theorem valN_nil : valN [] = 0 := rfl
theorem valN_app (a b : List Nat) : valN (a ++ b) = valN a * 10 ^ b.length + valN b := by
  show (a ++ b).foldl _ 0 = _
  rw [List.foldl_append, foldN b]; rfl
theorem valN_cons (d : Nat) (l : List Nat) : valN (d :: l) = d * 10 ^ l.length + valN l := by
  have := valN_app [d] l
  simpa [valN] using this
theorem valN_snoc (l : List Nat) (d : Nat) : valN (l ++ [d]) = 10 * valN l + d := by
  rw [valN_app]; simp [valN]; omega
theorem valN_lt (l : List Nat) (h : ∀ d ∈ l, d ≤ 9) : valN l < 10 ^ l.length := by
  induction l with
  | nil => simp [valN]
  | cons d l ih =>
    rw [valN_cons, List.length_cons, Nat.pow_succ]
    have h1 := ih (fun x hx => h x (by simp [hx]))
    have h2 := h d (by simp)
    have h3 : d * 10 ^ l.length ≤ 9 * 10 ^ l.length := Nat.mul_le_mul_right _ h2
    omega
theorem valN_ge (d : Nat) (l : List Nat) (h : d ≠ 0) : 10 ^ l.length ≤ valN (d :: l) := by
  rw [valN_cons]
  have : 1 * 10 ^ l.length ≤ d * 10 ^ l.length := Nat.mul_le_mul_right _ (by omega)
  omega
theorem valN_zeros (n : Nat) (l : List Nat) : valN (List.replicate n 0 ++ l) = valN l := by
  induction n with
  | zero => simp
  | succ n ih => rw [List.replicate_succ, List.cons_append, valN_cons, ih]; simp
theorem valN_pad (l : List Nat) (n : Nat) : valN (l ++ List.replicate n 0) = valN l * 10 ^ n := by
  rw [valN_app]
  have := valN_zeros n []
  simp [valN] at this
  simp [valN, this]

/-- the digits of a number, the first one first; those of 0: none -/
def digs (n : Nat) : List Nat := if h : n = 0 then [] else digs (n / 10) ++ [n % 10]
termination_by n
decreasing_by omega
theorem digs_zero : digs 0 = [] := by unfold digs; simp
theorem digs_pos {n : Nat} (h : n ≠ 0) : digs n = digs (n / 10) ++ [n % 10] := by rw [digs]; simp [h]
theorem digs_le (n : Nat) : ∀ d ∈ digs n, d ≤ 9 := by
  induction n using Nat.strongRecOn with
  | ind n ih =>
    by_cases h : n = 0
    · subst h; rw [digs_zero]; simp
    · rw [digs_pos h]
      intro d hd
      rcases List.mem_append.1 hd with hd | hd
      · exact ih (n / 10) (by omega) d hd
      · obtain rfl : d = n % 10 := by simpa using hd
        omega
theorem digs_val (n : Nat) : valN (digs n) = n := by
  induction n using Nat.strongRecOn with
  | ind n ih =>
    by_cases h : n = 0
    · subst h; rw [digs_zero]; rfl
    · rw [digs_pos h, valN_snoc, ih (n / 10) (by omega)]; omega
theorem digs_head (n : Nat) : ∀ d l, digs n = d :: l → d ≠ 0 := by
  induction n using Nat.strongRecOn with
  | ind n ih =>
    by_cases h : n = 0
    · subst h; rw [digs_zero]; intro d l e; cases e
    · rw [digs_pos h]
      intro d l e
      by_cases h0 : n / 10 = 0
      · rw [h0, digs_zero] at e
        simp at e
        omega
      · cases hd : digs (n / 10) with
        | nil => have := digs_val (n / 10); rw [hd, valN_nil] at this; omega
        | cons x xs =>
          rw [hd] at e
          simp at e
          rw [← e.1]
          exact ih (n / 10) (by omega) x xs hd
theorem digs_len_le {n k : Nat} (h : n < 10 ^ k) : (digs n).length ≤ k := by
  induction k generalizing n with
  | zero => obtain rfl : n = 0 := by simpa using h
            rw [digs_zero]; simp
  | succ k ih =>
    by_cases h0 : n = 0
    · subst h0; rw [digs_zero]; simp
    · rw [digs_pos h0, List.length_append]
      have := ih (n := n / 10) (by rw [Nat.pow_succ] at h; omega)
      simp; omega
theorem digs_lt (n : Nat) : n < 10 ^ (digs n).length := by
  have := valN_lt (digs n) (digs_le n)
  rwa [digs_val] at this
theorem digs_ne {n : Nat} (h : n ≠ 0) : digs n ≠ [] := by
  intro e; have := digs_val n; rw [e, valN_nil] at this; exact h this.symm

/-- a row of digits without a nought ahead is its number's -/
theorem digs_of_head (l : List Nat) (h9 : ∀ d ∈ l, d ≤ 9) (hh : ∀ d r, l = d :: r → d ≠ 0) : digs (valN l) = l := by
  induction hn : l.length generalizing l with
  | zero => obtain rfl := List.eq_nil_of_length_eq_zero hn
            exact digs_zero
  | succ n ih =>
    have hne : l ≠ [] := by intro e; subst e; simp at hn
    obtain ⟨i, d, rfl⟩ : ∃ i d, l = i ++ [d] := ⟨l.dropLast, l.getLast hne, (List.dropLast_concat_getLast hne).symm⟩
    have hd : d ≤ 9 := h9 d (by simp)
    rw [valN_snoc]
    by_cases hi : i = []
    · subst hi
      have : d ≠ 0 := hh d [] rfl
      rw [valN_nil, digs_pos (by omega), show (10 * 0 + d) / 10 = 0 by omega, show (10 * 0 + d) % 10 = d by omega, digs_zero]
    · have hi2 := ih i (fun x hx => h9 x (by simp [hx])) (fun x r e => hh x (r ++ [d]) (by rw [e]; rfl)) (by simp at hn; omega)
      have hz : valN i ≠ 0 := by
        intro e; rw [e, digs_zero] at hi2; exact hi hi2.symm
      rw [digs_pos (by omega), show (10 * valN i + d) / 10 = valN i by omega, show (10 * valN i + d) % 10 = d by omega, hi2]

/-! ### which of two is greater, digit by digit -/
/-- of two rows of as many digits -/
def lexN : List Nat → List Nat → Int
  | a :: l, b :: r => if a < b then -1 else if b < a then 1 else lexN l r
  | _, _ => 0
def cmpN (l r : List Nat) : Int := if l.length ≠ r.length then (if l.length < r.length then -1 else 1) else lexN l r
theorem lexN_val : ∀ (l r : List Nat), l.length = r.length → (∀ d ∈ l, d ≤ 9) → (∀ d ∈ r, d ≤ 9) → lexN l r = (if valN l < valN r then -1 else if valN r < valN l then 1 else 0)
  | [], [], _, _, _ => rfl
  | [], _ :: _, h, _, _ => by simp at h
  | _ :: _, [], h, _, _ => by simp at h
  | a :: l, b :: r, h, ha, hb => by
    have hl : l.length = r.length := by simpa using h
    have la := valN_lt l (fun d hd => ha d (by simp [hd]))
    have lb := valN_lt r (fun d hd => hb d (by simp [hd]))
    have ih := lexN_val l r hl (fun d hd => ha d (by simp [hd])) (fun d hd => hb d (by simp [hd]))
    rw [valN_cons, valN_cons, lexN, hl]
    rw [hl] at la
    generalize 10 ^ r.length = p at *
    by_cases h1 : a < b
    · rw [if_pos h1]
      have : (a + 1) * p ≤ b * p := Nat.mul_le_mul_right _ h1
      rw [Nat.add_mul] at this
      rw [if_pos (by omega)]
    · rw [if_neg h1]
      by_cases h2 : b < a
      · rw [if_pos h2]
        have : (b + 1) * p ≤ a * p := Nat.mul_le_mul_right _ h2
        rw [Nat.add_mul] at this
        rw [if_neg (by omega), if_pos (by omega)]
      · rw [if_neg h2, ih]
        obtain rfl : a = b := by omega
        by_cases h3 : valN l < valN r
        · rw [if_pos h3, if_pos (show a * p + valN l < a * p + valN r by omega)]
        · rw [if_neg h3, if_neg (show ¬ a * p + valN l < a * p + valN r by omega)]
          by_cases h4 : valN r < valN l
          · rw [if_pos h4, if_pos (show a * p + valN r < a * p + valN l by omega)]
          · rw [if_neg h4, if_neg (show ¬ a * p + valN r < a * p + valN l by omega)]
theorem cmpN_val (l r : List Nat) (ha : ∀ d ∈ l, d ≤ 9) (hb : ∀ d ∈ r, d ≤ 9) (h1 : ∀ d t, l = d :: t → d ≠ 0) (h2 : ∀ d t, r = d :: t → d ≠ 0) :
    cmpN l r = (if valN l < valN r then -1 else if valN r < valN l then 1 else 0) := by
  unfold cmpN
  by_cases h : l.length = r.length
  · rw [if_neg (by simpa using h), lexN_val l r h ha hb]
  · rw [if_pos h]
    by_cases h3 : l.length < r.length
    · rw [if_pos h3]
      have := valN_lt l ha
      cases r with
      | nil => simp at h3
      | cons d t =>
        have h4 := valN_ge d t (h2 d t rfl)
        have h5 : 10 ^ l.length ≤ 10 ^ t.length := Nat.pow_le_pow_right (by omega) (by simp at h3; omega)
        rw [if_pos (by omega)]
    · rw [if_neg h3]
      have := valN_lt r hb
      cases l with
      | nil => simp at h h3; exact absurd (by rw [h3]; rfl) h
      | cons d t =>
        have h4 := valN_ge d t (h1 d t rfl)
        have h5 : 10 ^ r.length ≤ 10 ^ t.length := Nat.pow_le_pow_right (by omega) (by simp at h h3; omega)
        rw [if_neg (by omega), if_pos (by omega)]

/-! ### noughts behind the point taken off -/
/-- of a number with s digits behind the point: as few as need be -/
def strip : Nat → Nat → Nat × Nat
  | 0, n => (n, 0)
  | s + 1, n => if n % 10 = 0 then strip s (n / 10) else (n, s + 1)
theorem strip_id (s n : Nat) (h : s = 0 ∨ n % 10 ≠ 0) : strip s n = (n, s) := by
  cases s with
  | zero => rfl
  | succ s => rw [strip, if_neg (by omega)]
theorem strip_step (s n : Nat) (h : n % 10 = 0) : strip (s + 1) n = strip s (n / 10) := by rw [strip, if_pos h]
theorem strip_pad (s n k : Nat) : strip (s + k) (n * 10 ^ k) = strip s n := by
  induction k with
  | zero => simp
  | succ k ih => rw [← Nat.add_assoc, Nat.pow_succ, ← Nat.mul_assoc, strip_step _ _ (by omega), Nat.mul_div_cancel _ (by omega), ih]
theorem strip_is (s n : Nat) : (strip s n).2 ≤ s ∧ (strip s n).1 * 10 ^ (s - (strip s n).2) = n ∧ ((strip s n).2 = 0 ∨ (strip s n).1 % 10 ≠ 0) := by
  induction s generalizing n with
  | zero => simp [strip]
  | succ s ih =>
    rw [strip]
    split
    · rename_i h
      obtain ⟨a, b, c⟩ := ih (n / 10)
      refine ⟨by omega, ?_, c⟩
      rw [show s + 1 - (strip s (n / 10)).2 = s - (strip s (n / 10)).2 + 1 by omega, Nat.pow_succ, ← Nat.mul_assoc, b]
      omega
    · rename_i h
      exact ⟨Nat.le_refl _, by simp, Or.inr h⟩
theorem strip_le (s n : Nat) : (strip s n).1 ≤ n := by
  obtain ⟨_, h, _⟩ := strip_is s n
  have : 0 < 10 ^ (s - (strip s n).2) := Nat.pow_pos (by omega)
  generalize 10 ^ (s - (strip s n).2) = p at *
  calc (strip s n).1 = (strip s n).1 * 1 := by omega
    _ ≤ (strip s n).1 * p := Nat.mul_le_mul_left _ this
    _ = n := h
theorem strip_pos (s n : Nat) (h : n ≠ 0) : (strip s n).1 ≠ 0 := by
  intro e
  obtain ⟨_, h2, _⟩ := strip_is s n
  rw [e] at h2; simp at h2; exact h h2.symm

def big : Nat := 9223372036854775807
/-- the decimal of a sign, a number, how many of its digits are behind the point -/
def decOf (neg : Bool) (n : Nat) (s : Int) : Option (Int × Nat) :=
  if s < 0 then none
  else if n = 0 then some (0, 0)
  else if (strip s.toNat n).1 ≤ big ∧ (strip s.toNat n).2 ≤ 18 then some (if neg then -((strip s.toNat n).1 : Int) else ((strip s.toNat n).1 : Int), (strip s.toNat n).2) else none
def goodD (m s : Int) : Bool := decide (0 ≤ s) && decide (s ≤ 18) && decide (m ≠ -9223372036854775808) && (decide (s = 0) || decide (m.tmod 10 ≠ 0))
theorem goodD_iff (m s : Int) : goodD m s = true ↔ 0 ≤ s ∧ s ≤ 18 ∧ m ≠ -9223372036854775808 ∧ (s = 0 ∨ m.tmod 10 ≠ 0) := by
  unfold goodD
  simp [and_assoc]
theorem tmod_abs (m : Int) : m.tmod 10 = 0 ↔ m.natAbs % 10 = 0 := by
  obtain ⟨n, rfl | rfl⟩ := m.eq_nat_or_neg
  · rw [show ((n : Int)).tmod 10 = ((n % 10 : Nat) : Int) from rfl, Int.natAbs_natCast]; omega
  · rw [Int.neg_tmod, show ((n : Int)).tmod 10 = ((n % 10 : Nat) : Int) from rfl, Int.natAbs_neg, Int.natAbs_natCast]; omega
theorem tdiv_abs (m : Int) : (m.tdiv 10).natAbs = m.natAbs / 10 := by
  rw [Int.natAbs_tdiv]; rfl
theorem tdiv_sign (m : Int) (h : m.tmod 10 = 0) (h0 : m ≠ 0) : m.tdiv 10 ≠ 0 ∧ (m.tdiv 10 < 0 ↔ m < 0) := by
  have e := Int.tmod_add_mul_tdiv m 10
  rw [h] at e
  omega
/-- what is in its one form stays -/
theorem decOf_good (m s : Int) (hm : m.natAbs ≤ big) (h : goodD m s = true) : decOf (decide (m < 0)) m.natAbs s = some (m, s.toNat) := by
  obtain ⟨h0, h1, h2, h3⟩ := (goodD_iff m s).1 h
  unfold decOf
  rw [if_neg (by omega)]
  have hz : s = 0 ∨ m.natAbs % 10 ≠ 0 := h3.imp id (fun h e => h ((tmod_abs m).2 e))
  by_cases hm0 : m = 0
  · subst hm0
    rcases hz with rfl | hz
    · rfl
    · simp at hz
  · rw [if_neg (by omega), strip_id _ _ (hz.imp (by omega) id)]
    rw [if_pos ⟨hm, by show s.toNat ≤ 18; omega⟩]
    by_cases hn : m < 0
    · simp [hn]; omega
    · simp [hn]; omega
/-- what comes of it is in its one form, and that number -/
theorem decOf_is {neg : Bool} {n : Nat} {s : Int} {m : Int} {k : Nat} (h : decOf neg n s = some (m, k)) : goodD m k = true ∧ m.natAbs ≤ big ∧ 0 ≤ s ∧ (n = 0 → m = 0 ∧ k = 0) ∧ (n ≠ 0 → m.natAbs ≠ 0 ∧ decide (m < 0) = neg) := by
  unfold decOf at h
  split at h
  · cases h
  rename_i hs
  split at h
  · rename_i hn
    cases h
    exact ⟨by decide, by decide, by omega, fun _ => ⟨rfl, rfl⟩, fun e => absurd hn e⟩
  · rename_i hn
    split at h
    · rename_i hb
      have hp := strip_pos s.toNat n hn
      obtain ⟨_, _, h3⟩ := strip_is s.toNat n
      generalize strip s.toNat n = r at *
      simp only [Option.some.injEq, Prod.mk.injEq] at h
      obtain ⟨rfl, rfl⟩ := h
      have habs : (if neg = true then -(r.1 : Int) else (r.1 : Int)).natAbs = r.1 := by split <;> omega
      unfold big at hb
      refine ⟨(goodD_iff _ _).2 ⟨by omega, by omega, ?_, ?_⟩, by rw [habs]; exact hb.1, by omega, fun e => absurd e hn, fun _ => ⟨by rw [habs]; exact hp, ?_⟩⟩
      · split <;> omega
      · refine h3.imp (by omega) (fun h e => h ?_)
        have := (tmod_abs _).1 e
        rwa [habs] at this
      · cases neg
        · simp
        · simp; omega
    · cases h
/-- of whatever is no greater than may be there is one -/
theorem decOf_some (neg : Bool) (n : Nat) (s : Int) (hn : n ≤ big) (h0 : 0 ≤ s) (h1 : s ≤ 18) : ∃ r, decOf neg n s = some r := by
  unfold decOf
  rw [if_neg (by omega)]
  split
  · exact ⟨_, rfl⟩
  · have h2 := strip_le s.toNat n
    have h3 := (strip_is s.toNat n).1
    rw [if_pos ⟨by omega, by omega⟩]
    exact ⟨_, rfl⟩
theorem decOf_pad (neg : Bool) (n s k : Nat) : decOf neg (n * 10 ^ k) ((s + k : Nat) : Int) = decOf neg n (s : Int) := by
  unfold decOf
  have : 0 < 10 ^ k := Nat.pow_pos (by omega)
  by_cases hn : n = 0
  · subst hn
    rw [Nat.zero_mul, if_neg (show ¬ ((s + k : Nat) : Int) < 0 by omega), if_neg (show ¬ (s : Int) < 0 by omega), if_pos rfl, if_pos rfl]
  · have hne : n * 10 ^ k ≠ 0 := Nat.mul_ne_zero hn (by omega)
    rw [if_neg (show ¬ ((s + k : Nat) : Int) < 0 by omega), if_neg (show ¬ (s : Int) < 0 by omega), if_neg hne, if_neg hn, Int.toNat_natCast, Int.toNat_natCast, strip_pad]
/-- a number with its noughts off is told as the number -/
theorem decOf_strip (neg : Bool) (m : Int) (s : Nat) (n0 s0 : Nat) (h : strip s m.natAbs = strip s0 n0) (hs : m.natAbs = 0 ↔ n0 = 0) : decOf neg m.natAbs s = decOf neg n0 s0 := by
  unfold decOf
  rw [if_neg (show ¬ (s : Int) < 0 by omega), if_neg (show ¬ (s0 : Int) < 0 by omega), Int.toNat_natCast, Int.toNat_natCast, h]
  by_cases hn : n0 = 0
  · rw [if_pos (hs.2 hn), if_pos hn]
  · rw [if_neg (fun e => hn (hs.1 e)), if_neg hn]

end Go.Proofs.YtgoibhbmndpgpaaGreatDoor.Dc

/- Plain mathematics: the texts of decimals, taken apart and put together. No program. -/
set_option linter.unusedVariables false
set_option linter.unusedSimpArgs false
namespace Go.Proofs.YtgoibhbmndpgpaaGreatDoor.Dc

def dg (c : UInt8) : Bool := decide (48 ≤ c.toNat) && decide (c.toNat ≤ 57)
/-- how many digits a text begins with -/
def dgN (l : List UInt8) : Nat := (l.takeWhile dg).length
/-! ### a text taken apart -/
/-- how many bytes of sign -/
def sg (l : List UInt8) : Nat := match l with | 45 :: _ => 1 | _ => 0
/-- where the digits ahead of the point end; where those behind it end -/
def pt (l : List UInt8) : Nat := sg l + dgN (l.drop (sg l))
def en (l : List UInt8) : Nat := pt l + 1 + dgN (l.drop (pt l + 1))
/-- what a text is: none, and how far it may be one; or its sign, its digits ahead of and behind the point -/
inductive Cut where
  | bad (n : Nat)
  | ok (neg : Bool) (d e : List UInt8)
def cut (l : List UInt8) : Cut :=
  if pt l = sg l then .bad (pt l)
  else if pt l = l.length then .ok (decide (sg l = 1)) ((l.drop (sg l)).takeWhile dg) []
  else if l[pt l]? ≠ some 46 then .bad (pt l)
  else if en l = pt l + 1 ∨ en l < l.length then .bad (en l)
  else .ok (decide (sg l = 1)) ((l.drop (sg l)).takeWhile dg) ((l.drop (pt l + 1)).takeWhile dg)
def dot (e : List UInt8) : List UInt8 := if e = [] then [] else 46 :: e
/-! ### where a text can't go on -/
end Go.Proofs.YtgoibhbmndpgpaaGreatDoor.Dc

/- Plain mathematics: noughts taken off texts; a decimal's own text. No program. -/
set_option linter.unusedVariables false
set_option linter.unusedSimpArgs false
namespace Go.Proofs.YtgoibhbmndpgpaaGreatDoor.Dc

/-! ### a byte taken off a text's ends -/
/-! ### the number of a text's digits -/
/-! ### a decimal's text -/
def dgt (n i : Nat) : Nat := n / 10 ^ i % 10
def ch (n i : Nat) : UInt8 := UInt8.ofNat (48 + dgt n i)
def dh (n s : Nat) : Nat → List UInt8
  | 0 => []
  | j + 1 => ch n (s + j) :: dh n s j
theorem digs_small {n : Nat} (h : n ≤ big) : (digs n).length ≤ 19 := digs_len_le (by unfold big at h; omega)
end Go.Proofs.YtgoibhbmndpgpaaGreatDoor.Dc

/- Plain mathematics: numbers by their digits, the last one first: sums, differences, products, quotients, column by column. No program. -/
set_option linter.unusedVariables false
set_option linter.unusedSimpArgs false
namespace Go.Proofs.YtgoibhbmndpgpaaGreatDoor.Dc

theorem pw (i : Nat) : 0 < 10 ^ i := Nat.pow_pos (by omega)
theorem div_step (n i : Nat) : n / 10 ^ i = 10 * (n / 10 ^ (i + 1)) + dgt n i := by
  unfold dgt
  rw [Nat.pow_succ, ← Nat.div_div_eq_div_mul]; omega
theorem dgt_zero_of_lt {n i : Nat} (h : n < 10 ^ i) : dgt n i = 0 := by unfold dgt; rw [Nat.div_eq_of_lt h]
theorem dgt_of_le {n i k : Nat} (h : n < 10 ^ i) (hk : i ≤ k) : dgt n k = 0 := dgt_zero_of_lt (Nat.lt_of_lt_of_le h (Nat.pow_le_pow_right (by omega) hk))
theorem lt_pow_of_dgts {n k : Nat} (m : Nat) (h : n < 10 ^ (k + m)) (h0 : ∀ i, k ≤ i → i < k + m → dgt n i = 0) : n < 10 ^ k := by
  induction m with
  | zero => exact h
  | succ m ih =>
    refine ih ?_ (fun i h1 h2 => h0 i h1 (by omega))
    have h1 := h0 (k + m) (by omega) (by omega)
    have h2 := div_step n (k + m)
    rw [h1, Nat.div_eq_of_lt (show n < 10 ^ (k + m + 1) from h)] at h2
    rcases Nat.div_eq_zero_iff.1 h2 with h3 | h3
    · have := pw (k + m); omega
    · exact h3
/-- a digit moved up -/
theorem dgt_up (n u i : Nat) : dgt (n * 10 ^ u) i = if u ≤ i then dgt n (i - u) else 0 := by
  unfold dgt
  split
  · rename_i h
    obtain ⟨j, rfl⟩ : ∃ j, i = u + j := ⟨i - u, by omega⟩
    rw [Nat.pow_add, ← Nat.div_div_eq_div_mul, Nat.mul_div_cancel _ (pw u), show u + j - u = j by omega]
  · rename_i h
    obtain ⟨j, rfl⟩ : ∃ j, u = i + 1 + j := ⟨u - i - 1, by omega⟩
    rw [show n * 10 ^ (i + 1 + j) = (n * 10 ^ j * 10) * 10 ^ i by rw [show i + 1 + j = j + 1 + i by omega, Nat.pow_add, Nat.pow_succ]; simp only [Nat.mul_assoc], Nat.mul_div_cancel _ (pw i)]
    omega
/-! ### one column -/
/-! ### sums -/
/-! ### differences -/
/-! ### products -/
/-! ### quotients -/
/-! ### which of two is greater -/
def ord3 (x y : Int) : Int := if x < y then -1 else if y < x then 1 else 0
theorem ord3_lt {x y : Int} (h : x < y) : ord3 x y = -1 := by unfold ord3; rw [if_pos h]
theorem ord3_gt {x y : Int} (h : y < x) : ord3 x y = 1 := by unfold ord3; rw [if_neg (by omega), if_pos h]
theorem ord3_eq {x y : Int} (h : x = y) : ord3 x y = 0 := by unfold ord3; rw [if_neg (by omega), if_neg (by omega)]
theorem ord3_cases (x y : Int) : (x < y ∧ ord3 x y = -1) ∨ (y < x ∧ ord3 x y = 1) ∨ (x = y ∧ ord3 x y = 0) := by
  rcases Int.lt_trichotomy x y with h | h | h
  · exact Or.inl ⟨h, ord3_lt h⟩
  · exact Or.inr (Or.inr ⟨h, ord3_eq h⟩)
  · exact Or.inr (Or.inl ⟨h, ord3_gt h⟩)
theorem ord_lt_of_dgt {x y i : Nat} (he : x / 10 ^ (i + 1) = y / 10 ^ (i + 1)) (h : dgt x i < dgt y i) : x < y := by
  have h1 := div_step x i
  have h2 := div_step y i
  by_cases hc : x < y
  · exact hc
  · have := Nat.div_le_div_right (c := 10 ^ i) (show y ≤ x by omega)
    omega
theorem ord_eq_of_dgt {x y i : Nat} (he : x / 10 ^ (i + 1) = y / 10 ^ (i + 1)) (h : dgt x i = dgt y i) : x / 10 ^ i = y / 10 ^ i := by
  rw [div_step x i, div_step y i, he, h]

/-! ### decimals as whole numbers at the greatest scale -/
def lev (m s : Int) : Nat := m.natAbs * 10 ^ (18 - s).toNat
def zv (m s : Int) : Int := m * 10 ^ (18 - s).toNat
theorem zv_abs (m s : Int) : (zv m s).natAbs = lev m s := by
  unfold zv lev
  rw [Int.natAbs_mul, Int.natAbs_pow]; rfl
theorem pwI (i : Nat) : (0 : Int) < 10 ^ i := Int.pow_pos (by omega)
theorem zv_neg (m s : Int) : zv m s < 0 ↔ m < 0 := by
  unfold zv
  have := pwI (18 - s).toNat
  constructor
  · intro h
    by_cases hm : m < 0
    · exact hm
    · have := Int.mul_nonneg (show 0 ≤ m by omega) (Int.le_of_lt this); omega
  · intro h
    exact Int.mul_neg_of_neg_of_pos h this
theorem zv_zero (s : Int) : zv 0 s = 0 := by unfold zv; simp
theorem lev_zero {m s : Int} : lev m s = 0 ↔ m = 0 := by
  unfold lev
  have := pw (18 - s).toNat
  constructor
  · intro h
    rcases Nat.mul_eq_zero.1 h with h | h <;> omega
  · rintro rfl; simp
theorem zv_is (m s : Int) : zv m s = if m < 0 then -(lev m s : Int) else (lev m s : Int) := by
  have h1 := zv_abs m s
  have h2 := zv_neg m s
  split <;> omega
theorem lev_lt {m s : Int} (hm : m.natAbs ≤ big) (hs : 0 ≤ s) : lev m s < 10 ^ 37 := by
  unfold lev
  have h1 : (10 : Nat) ^ (18 - s).toNat ≤ 10 ^ 18 := Nat.pow_le_pow_right (by omega) (by omega)
  have h2 : m.natAbs * 10 ^ (18 - s).toNat ≤ big * 10 ^ 18 := Nat.mul_le_mul hm h1
  unfold big at h2
  omega

def decI (z : Int) : Option (Int × Nat) := decOf (decide (z < 0)) z.natAbs 18
theorem decOf_val {neg : Bool} {n : Nat} {s m : Int} {k : Nat} (h : decOf neg n s = some (m, k)) : (k : Int) ≤ s ∧ k ≤ 18 ∧ m.natAbs * 10 ^ (s.toNat - k) = n := by
  unfold decOf at h
  split at h
  · cases h
  rename_i hs
  split at h
  · rename_i hn
    cases h
    exact ⟨by omega, by omega, by rw [hn]; simp⟩
  · split at h
    · rename_i hb
      obtain ⟨h1, h2, _⟩ := strip_is s.toNat n
      generalize strip s.toNat n = r at *
      simp only [Option.some.injEq, Prod.mk.injEq] at h
      obtain ⟨rfl, rfl⟩ := h
      have habs : (if neg = true then -(r.1 : Int) else (r.1 : Int)).natAbs = r.1 := by split <;> omega
      exact ⟨by omega, hb.2, by rw [habs]; exact h2⟩
    · cases h
theorem decI_good {m s : Int} (hm : m.natAbs ≤ big) (h : goodD m s = true) : decI (zv m s) = some (m, s.toNat) := by
  obtain ⟨h0, h1, _⟩ := (goodD_iff m s).1 h
  have e := decOf_good m s hm h
  have hp := decOf_pad (decide (m < 0)) m.natAbs s.toNat (18 - s).toNat
  unfold decI
  rw [zv_abs, decide_eq_decide.2 (zv_neg m s)]
  unfold lev
  rw [show ((s.toNat + (18 - s).toNat : Nat) : Int) = 18 by omega] at hp
  rw [hp, show ((s.toNat : Nat) : Int) = s by omega, e]
theorem good_inj {m s n t : Int} (h1 : goodD m s = true) (h2 : goodD n t = true) (k1 : m.natAbs ≤ big) (k2 : n.natAbs ≤ big) (h : zv m s = zv n t) : m = n ∧ s = t := by
  have e1 := decI_good k1 h1
  rw [h, decI_good k2 h2] at e1
  simp only [Option.some.injEq, Prod.mk.injEq] at e1
  have := ((goodD_iff m s).1 h1).1
  have := ((goodD_iff n t).1 h2).1
  exact ⟨e1.1.symm, by omega⟩
/-! ### what the calls answer -/
def scaledO (m s k : Int) : Option Int :=
  if goodD m s = true ∧ s ≤ k ∧ k ≤ 18 ∧ m.natAbs * 10 ^ (k - s).toNat ≤ big then some (m * 10 ^ (k - s).toNat) else none
/-- what is not valid counts as 0 -/
def orZ (m s : Int) : Int × Int := if goodD m s = true then (m, s) else (0, 0)
def cmpO (m s n t : Int) : Int := ord3 (zv (orZ m s).1 (orZ m s).2) (zv (orZ n t).1 (orZ n t).2)
theorem orZ_good {m s : Int} (h : goodD m s = true) : orZ m s = (m, s) := by unfold orZ; rw [if_pos h]
theorem orZ_bad {m s : Int} (h : goodD m s = false) : orZ m s = (0, 0) := by unfold orZ; rw [if_neg (by simp [h])]
theorem big_of {m s : Int} (h : goodD m s = true) (h1 : -9223372036854775808 ≤ m) (h2 : m ≤ 9223372036854775807) : m.natAbs ≤ big := by
  have := ((goodD_iff m s).1 h).2.2.1
  unfold big; omega

end Go.Proofs.YtgoibhbmndpgpaaGreatDoor.Dc

/- Whole numbers and times as plain functions; what package stamp and the reference say of them is the same. -/
set_option maxRecDepth 100000
set_option linter.unusedVariables false
set_option linter.unusedSimpArgs false
namespace Go.Proofs.YtgoibhbmndpgpaaGreatDoor.Dc

/-- times -/
def isT (x : Int) : Bool := decide (-1125899906842624 ≤ x) && decide (x ≤ 1125899906842624)
theorem isT_iff (x : Int) : isT x = true ↔ -1125899906842624 ≤ x ∧ x ≤ 1125899906842624 := by unfold isT; simp
def isU (u : Int) : Bool := decide (0 ≤ u) && decide (u < 4)
theorem isU_iff (u : Int) : isU u = true ↔ 0 ≤ u ∧ u < 4 := by unfold isU; simp
def timeO (o : Option Int) : Option Int := match o with | some t => if isT t = true then some t else none | none => none
def secO (m s : Int) : Option Int := timeO (scaledO m s 3)
def msO (n u : Int) : Option Int :=
  if isU u = true then (match decOf (decide (n < 0)) n.natAbs (3 * u) with | some (m, k) => secO m k | none => none) else none
def sOf (x : Int) : Option (Int × Nat) := if isT x = true then decOf (decide (x < 0)) x.natAbs 3 else none
def ofO (x u : Int) : Option Int :=
  match sOf x with | some (m, k) => if isU u = true then scaledO m k (3 * u) else none | none => none
theorem timeO_iff (o : Option Int) (t : Int) : timeO o = some t ↔ o = some t ∧ isT t = true := by
  unfold timeO
  cases o with
  | none => simp
  | some x =>
    by_cases h : isT x = true
    · simp only [if_pos h, Option.some.injEq]; constructor
      · rintro rfl; exact ⟨rfl, h⟩
      · exact fun e => e.1
    · simp only [if_neg h, Option.some.injEq]; constructor
      · intro e; cases e
      · rintro ⟨rfl, e⟩; exact absurd e h

/-- a number at p digits behind the point, with what it is -/
theorem decOf_num {n : Int} {p : Nat} {m : Int} {k : Nat} (h : decOf (decide (n < 0)) n.natAbs p = some (m, k)) :
    k ≤ p ∧ k ≤ 18 ∧ m * 10 ^ (p - k) = n ∧ goodD m k = true ∧ m.natAbs ≤ big := by
  obtain ⟨hg, hb, _, h0, h1⟩ := decOf_is h
  obtain ⟨v1, v2, v3⟩ := decOf_val h
  rw [Int.toNat_natCast] at v3
  refine ⟨by omega, v2, ?_, hg, hb⟩
  have hpos : (0 : Int) < 10 ^ (p - k) := pwI _
  have habs : (m * 10 ^ (p - k)).natAbs = n.natAbs := by
    rw [Int.natAbs_mul, Int.natAbs_pow]; exact v3
  by_cases hn : n = 0
  · subst hn
    obtain ⟨rfl, _⟩ := h0 rfl
    simp
  · obtain ⟨hm, hs⟩ := h1 (by omega)
    rcases Int.natAbs_eq_natAbs_iff.1 habs with e | e
    · exact e
    · exfalso
      by_cases hlt : n < 0
      · have hml : m < 0 := by
          have : decide (m < 0) = true := by rw [hs]; simpa using hlt
          simpa using this
        have : m * 10 ^ (p - k) < 0 := Int.mul_neg_of_neg_of_pos hml hpos
        omega
      · have hml : ¬ m < 0 := by
          have : decide (m < 0) = false := by rw [hs]; simpa using hlt
          simpa using this
        have : 0 ≤ m * 10 ^ (p - k) := Int.mul_nonneg (by omega) (by omega)
        omega
theorem good_last {m : Int} {k : Nat} (h : goodD m k = true) (hk : k ≠ 0) : ¬ m % 10 = 0 := by
  obtain ⟨_, _, _, h⟩ := (goodD_iff m k).1 h
  rcases h with h | h
  · omega
  · intro e; exact h (by rw [tmod_abs]; omega)
theorem dec_some (n : Int) (p : Nat) (hn : n.natAbs ≤ big) (hp : p ≤ 18) : ∃ m k, decOf (decide (n < 0)) n.natAbs p = some (m, k) := by
  obtain ⟨⟨m, k⟩, h⟩ := decOf_some (decide (n < 0)) n.natAbs p hn (by omega) (by omega)
  exact ⟨m, k, h⟩
theorem pw10 (i : Nat) : (10 : Int) ^ i ≠ 0 := by have := pwI i; omega
/-- the number at q digits, where it is whole there -/
theorem at_iff {n : Int} {p q : Nat} (hq : q ≤ 18) {m : Int} {k : Nat} (h : decOf (decide (n < 0)) n.natAbs p = some (m, k)) (t : Int) :
    scaledO m k q = some t ↔ t * 10 ^ p = n * 10 ^ q ∧ t.natAbs ≤ big := by
  obtain ⟨h1, h2, h3, h4, h5⟩ := decOf_num h
  unfold scaledO
  constructor
  · intro e
    split at e
    · rename_i c
      obtain ⟨_, c2, _, c4⟩ := c
      cases e
      have hkq : k ≤ q := by omega
      rw [show ((q : Int) - k).toNat = q - k by omega] at c4 ⊢
      refine ⟨?_, by rw [Int.natAbs_mul, Int.natAbs_pow]; exact c4⟩
      rw [← h3, show p = (p - k) + k by omega, Int.pow_add, show (p - k) + k - k = p - k by omega]
      rw [show (10 : Int) ^ q = 10 ^ (q - k) * 10 ^ k by rw [← Int.pow_add]; congr 1; omega]
      simp only [Int.mul_assoc, Int.mul_left_comm, Int.mul_comm]
    · cases e
  · rintro ⟨e, hb⟩
    -- t * 10^p = m * 10^(p-k) * 10^q
    have e2 : t * 10 ^ k = m * 10 ^ q := by
      have : (t * 10 ^ k) * 10 ^ (p - k) = (m * 10 ^ q) * 10 ^ (p - k) := by
        rw [Int.mul_assoc, ← Int.pow_add, show k + (p - k) = p by omega, e, ← h3]
        simp only [Int.mul_assoc, Int.mul_left_comm, Int.mul_comm]
      exact Int.eq_of_mul_eq_mul_right (pw10 _) this
    have hkq : k ≤ q := by
      refine Classical.byContradiction fun hno => ?_
      have e3 : t * 10 ^ (k - q) = m := by
        have : (t * 10 ^ (k - q)) * 10 ^ q = m * 10 ^ q := by
          rw [Int.mul_assoc, ← Int.pow_add, show k - q + q = k by omega, e2]
        exact Int.eq_of_mul_eq_mul_right (pw10 _) this
      refine good_last h4 (by omega) ?_
      rw [← e3, show k - q = (k - q - 1) + 1 by omega, Int.pow_succ, ← Int.mul_assoc]
      omega
    have e3 : t = m * 10 ^ (q - k) := by
      have : t * 10 ^ k = (m * 10 ^ (q - k)) * 10 ^ k := by
        rw [Int.mul_assoc, ← Int.pow_add, show q - k + k = q by omega, e2]
      exact Int.eq_of_mul_eq_mul_right (pw10 _) this
    rw [show ((q : Int) - k).toNat = q - k by omega, if_pos ⟨h4, by omega, by omega, by rw [e3, Int.natAbs_mul, Int.natAbs_pow] at hb; exact hb⟩, e3]

theorem isT_abs {t : Int} (h : isT t = true) : t.natAbs ≤ 1125899906842624 := by have := (isT_iff t).1 h; omega
/-- what Ms says: the time t with t / 10^3 s = n / 10^(3u) s -/
theorem msO_iff (n : Int) (u : Nat) (hu : u < 4) (h1 : -9223372036854775808 ≤ n) (h2 : n ≤ 9223372036854775807) (t : Int) : msO n u = some t ↔ t * 10 ^ (3 * u) = n * 1000 ∧ isT t = true := by
  unfold msO
  rw [if_pos ((isU_iff _).2 ⟨by omega, by omega⟩)]
  have e3 : (3 : Int) * (u : Int) = ((3 * u : Nat) : Int) := by omega
  rw [e3]
  by_cases hm : n = -9223372036854775808
  · subst hm
    have hd : decOf (decide ((-9223372036854775808 : Int) < 0)) (-9223372036854775808 : Int).natAbs ((3 * u : Nat) : Int) = none := by
      unfold decOf
      rw [if_neg (by omega), if_neg (by decide), Int.toNat_natCast, strip_id _ _ (Or.inr (by decide)), if_neg (fun h => absurd (show (-9223372036854775808 : Int).natAbs ≤ big from h.1) (by decide))]
    rw [hd]
    constructor
    · intro h; cases h
    · rintro ⟨h, ht⟩
      have := (isT_iff t).1 ht
      exfalso
      have : u = 0 ∨ u = 1 ∨ u = 2 ∨ u = 3 := by omega
      rcases this with rfl | rfl | rfl | rfl <;> simp at h <;> omega
  · obtain ⟨m, k, hd⟩ := dec_some n (3 * u) (by unfold big; omega) (by omega)
    rw [hd]
    show secO m k = some t ↔ _
    have hi := at_iff (q := 3) (by omega) hd t
    unfold secO
    rw [timeO_iff, show (3 : Int) = ((3 : Nat) : Int) from rfl, hi]
    constructor
    · rintro ⟨⟨a, _⟩, b⟩; exact ⟨a, b⟩
    · rintro ⟨a, b⟩; exact ⟨⟨a, by have := isT_abs b; unfold big; omega⟩, b⟩
theorem sOf_some {x : Int} (h : isT x = true) : ∃ m k, sOf x = some (m, k) ∧ decOf (decide (x < 0)) x.natAbs ((3 : Nat) : Int) = some (m, k) := by
  have := isT_abs h
  obtain ⟨m, k, hd⟩ := dec_some x 3 (by unfold big; omega) (by omega)
  exact ⟨m, k, by unfold sOf; rw [if_pos h]; exact hd, hd⟩
theorem sOf_none {x : Int} (h : isT x = false) : sOf x = none := by unfold sOf; rw [h]; rfl
/-- what Of says -/
theorem ofO_iff (x : Int) (u : Nat) (hu : u < 4) (t : Int) : ofO x u = some t ↔ isT x = true ∧ t * 1000 = x * 10 ^ (3 * u) ∧ t.natAbs ≤ big := by
  unfold ofO
  cases hx : isT x with
  | false => rw [sOf_none hx]; simp
  | true =>
    obtain ⟨m, k, h1, h2⟩ := sOf_some hx
    rw [h1]
    show (if isU (u : Int) = true then scaledO m k (3 * (u : Int)) else none) = some t ↔ _
    rw [if_pos ((isU_iff _).2 ⟨by omega, by omega⟩), show (3 : Int) * (u : Int) = ((3 * u : Nat) : Int) by omega, at_iff (by omega) h2 t]
    simp
theorem ofO_none (x u : Int) (h : isT x = false ∨ ¬ (0 ≤ u ∧ u < 4)) : ofO x u = none := by
  unfold ofO
  rcases h with h | h
  · rw [sOf_none h]
  · cases sOf x with
    | none => rfl
    | some p => obtain ⟨m, k⟩ := p; show (if isU u = true then scaledO m k (3 * u) else none) = none; rw [if_neg (fun e => h ((isU_iff u).1 e))]

def rofO (x u : Int) : Option Int :=
  if isT x = true then
    if u = 0 then (if x.tmod 1000 = 0 then some (x.tdiv 1000) else none)
    else if u = 1 then some x
    else if u = 2 then some (x * 1000)
    else if u = 3 then (if -9223372036854 ≤ x ∧ x ≤ 9223372036854 then some (x * 1000000) else none)
    else none
  else none
theorem opt_ext {a b : Option Int} (h : ∀ t, a = some t ↔ b = some t) : a = b := by
  cases a with
  | some x => exact ((h x).1 rfl).symm
  | none =>
    cases b with
    | none => rfl
    | some y => exact (h y).2 rfl
theorem tdiv_iff (n t : Int) (d : Int) (hd : 0 < d) : (if n.tmod d = 0 then some (n.tdiv d) else none) = some t ↔ t * d = n := by
  by_cases h : n.tmod d = 0
  · rw [if_pos h]
    have h2 := Int.mul_tdiv_add_tmod n d
    rw [h, Int.add_zero] at h2
    constructor
    · intro e; cases e; rw [Int.mul_comm]; exact h2
    · intro e
      congr 1
      have : d * n.tdiv d = d * t := by rw [h2, Int.mul_comm d t, e]
      exact Int.eq_of_mul_eq_mul_left (by omega) this
  · rw [if_neg h]
    constructor
    · intro e; cases e
    · intro e; exfalso; rw [← e, Int.mul_tmod_left] at h; exact h rfl
theorem ofO_ref (x u : Int) : rofO x u = ofO x u := by
  cases hx : isT x with
  | false => rw [ofO_none x u (Or.inl hx)]; unfold rofO; rw [hx]; rfl
  | true =>
    have hb := (isT_iff x).1 hx
    by_cases hu : 0 ≤ u ∧ u < 4
    · obtain ⟨k, rfl⟩ : ∃ k : Nat, u = k := ⟨u.toNat, by omega⟩
      refine opt_ext fun t => ?_
      rw [ofO_iff x k (by omega) t]
      have : k = 0 ∨ k = 1 ∨ k = 2 ∨ k = 3 := by omega
      unfold rofO big
      rw [if_pos hx]
      rcases this with rfl | rfl | rfl | rfl
      · rw [if_pos (by rfl), tdiv_iff _ _ _ (by decide)]
        simp [hx]; omega
      · rw [if_neg (by decide), if_pos (by rfl)]
        simp [hx]; omega
      · rw [if_neg (by decide), if_neg (by decide), if_pos (by rfl)]
        simp [hx]; omega
      · rw [if_neg (by decide), if_neg (by decide), if_neg (by decide), if_pos (by rfl)]
        simp [hx]; omega
    · rw [ofO_none x u (Or.inr hu)]
      unfold rofO
      rw [if_pos hx, if_neg (by omega), if_neg (by omega), if_neg (by omega), if_neg (by omega)]
end Go.Proofs.YtgoibhbmndpgpaaGreatDoor.Dc

/- Points in plain words: what may be, their order. -/
set_option maxRecDepth 100000
set_option linter.unusedVariables false
set_option linter.unusedSimpArgs false
namespace Go.Proofs.YtgoibhbmndpgpaaGreatDoor
open Dc

/-- a point: its labels, role, bound, value, time -/
structure Pt where
  l : List Lb
  ro : Int
  inf : Bool
  bm : Int
  bs : Int
  m : Int
  s : Int
  td : Bool
  ti : Int

/-- the first that is not 0 -/
def orL : List Int → Int
  | [] => 0
  | x :: l => if x = 0 then orL l else x
theorem orL_yes {l : List Int} {k : Nat} {x : Int} (hk : l[k]? = some x) (h : orL l = orL (l.drop k)) (hx : x = 0) : orL l = orL (l.drop (k + 1)) := by
  obtain ⟨hl, rfl⟩ := List.getElem?_eq_some_iff.1 hk
  rw [h, List.drop_eq_getElem_cons hl, orL, if_pos hx]
theorem orL_no {l : List Int} {k : Nat} {x : Int} (hk : l[k]? = some x) (h : orL l = orL (l.drop k)) (hx : x ≠ 0) : orL l = x := by
  obtain ⟨hl, rfl⟩ := List.getElem?_eq_some_iff.1 hk
  rw [h, List.drop_eq_getElem_cons hl, orL, if_neg hx]
theorem orL_end {l : List Int} {k : Nat} (hk : l.length ≤ k) (h : orL l = orL (l.drop k)) : orL l = 0 := by
  rw [h, List.drop_of_length_le hk, orL]

/-- false ahead of true -/
def ffI (a b : Bool) : Int := if a = b then 0 else if b = true then -1 else 1
/-- the order of points -/
def cmpPL (p q : Pt) : List Int := [cmpL p.l q.l, ffI p.td q.td, ord3 p.ti q.ti, ord3 p.ro q.ro, ffI p.inf q.inf, cmpO p.bm p.bs q.bm q.bs]
def cmpP (p q : Pt) : Int := orL (cmpPL p q)
/-- the roles of a kind -/
def rolesL (k : Int) : List Int := if k = 0 ∨ k = 1 ∨ k = 2 then [0] else if k = 3 then [1, 3, 4] else if k = 4 then [2, 3, 4] else []
/-- is the number among them? -/
def memI : List Int → Int → Bool
  | [], _ => false
  | x :: l, y => decide (x = y) || memI l y
theorem memI_yes {l : List Int} {k : Nat} {x y : Int} (hk : l[k]? = some x) (h : memI l y = memI (l.drop k) y) (hx : x = y) : memI l y = true := by
  obtain ⟨hl, rfl⟩ := List.getElem?_eq_some_iff.1 hk
  rw [h, List.drop_eq_getElem_cons hl, memI, decide_eq_true hx]; rfl
theorem memI_no {l : List Int} {k : Nat} {x y : Int} (hk : l[k]? = some x) (h : memI l y = memI (l.drop k) y) (hx : ¬ x = y) : memI l y = memI (l.drop (k + 1)) y := by
  obtain ⟨hl, rfl⟩ := List.getElem?_eq_some_iff.1 hk
  rw [h, List.drop_eq_getElem_cons hl, memI, decide_eq_false hx]; rfl
theorem memI_end {l : List Int} {k : Nat} {y : Int} (hk : l.length ≤ k) (h : memI l y = memI (l.drop k) y) : memI l y = false := by
  rw [h, List.drop_of_length_le hk, memI]

def leB : List UInt8 := [108, 101]
def quB : List UInt8 := [113, 117, 97, 110, 116, 105, 108, 101]
def infOk (p : Pt) : Bool := !p.inf || decide (p.ro = 1)
def bndOk (p : Pt) : Bool :=
  if p.ro = 1 ∧ p.inf = false then goodD p.bm p.bs
  else if p.ro = 2 then goodD p.bm p.bs && !decide (cmpO p.bm p.bs 0 0 < 0) && decide (cmpO p.bm p.bs 1 0 ≤ 0)
  else decide (p.bm = 0 ∧ p.bs = 0)
def cntOf (k r : Int) : Bool := decide (k = 2) || decide (r = 1) || decide (r = 3)
def valOk (k : Int) (p : Pt) : Bool := goodD p.m p.s && !(cntOf k p.ro && decide (cmpO p.m p.s 0 0 < 0))
def timOk (p : Pt) : Bool := if p.td = true then isT p.ti else decide (p.ti = 0)
def hasB (p : Pt) : Bool := if p.ro = 1 then (getL p.l leB).2 else if p.ro = 2 then (getL p.l quB).2 else false
/-- may it be a point of that kind? -/
def ptOk (k : Int) (p : Pt) : Bool := memI (rolesL k) p.ro && goodL p.l && infOk p && bndOk p && valOk k p && timOk p && !hasB p

theorem good_zero : goodD 0 0 = true := by decide
theorem cmpO_zero {m s : Int} (h : goodD m s = true) : decide (cmpO m s 0 0 < 0) = decide (m < 0) := by
  unfold cmpO
  rw [orZ_good h, orZ_good good_zero]
  simp only [zv_zero]
  rw [decide_eq_decide, ← zv_neg m s]
  rcases ord3_cases (zv m s) 0 with ⟨a, b⟩ | ⟨a, b⟩ | ⟨a, b⟩ <;> rw [b] <;> omega
theorem ms_one (n : Int) (h1 : -9223372036854775808 ≤ n) (h2 : n ≤ 9223372036854775807) : msO n 1 = if isT n = true then some n else none := by
  refine opt_ext fun t => ?_
  have h := msO_iff n 1 (by omega) h1 h2 t
  rw [show ((1 : Nat) : Int) = 1 from rfl] at h
  rw [h, show (10 : Int) ^ (3 * 1) = 1000 by decide]
  constructor
  · rintro ⟨a, b⟩
    obtain rfl : t = n := by omega
    rw [if_pos b]
  · intro a
    split at a
    · rename_i hn
      obtain rfl : n = t := by simpa using a
      exact ⟨rfl, hn⟩
    · cases a

end Go.Proofs.YtgoibhbmndpgpaaGreatDoor

/- Plain mathematics: the reference's bounds of a first byte, and that they tell the same as the shapes. -/
set_option linter.unusedVariables false
set_option linter.unusedSimpArgs false
namespace Go.Proofs.YtgoibhbmndpgpaaGreatDoor.Utf

/-- of a first byte: how many bytes, from where to where the second one lies; 0: it is none -/
def spanI (c : Int) : Int × Int × Int :=
  if c < 128 then (1, 0, 0)
  else if c < 194 then (0, 0, 0)
  else if 244 < c then (0, 0, 0)
  else if c < 224 then (2, 128, 191)
  else if c = 224 then (3, 160, 191)
  else if c = 237 then (3, 128, 159)
  else if c < 240 then (3, 128, 191)
  else if c = 240 then (4, 144, 191)
  else if c = 244 then (4, 128, 143)
  else (4, 128, 191)

/-- the shape of a first byte, by the reference's bounds -/
def spanB (c : Int) : List (Int × Int) := (c, c) :: ([(spanI c).2, (128, 191), (128, 191)].take ((spanI c).1.toNat - 1))

theorem spanI_range (c : Int) : 0 ≤ (spanI c).1 ∧ (spanI c).1 ≤ 4 ∧ 0 ≤ (spanI c).2.1 ∧ (spanI c).2.1 ≤ 255 ∧ 0 ≤ (spanI c).2.2 ∧ (spanI c).2.2 ≤ 255 := by
  unfold spanI
  repeat' split
  all_goals simp

theorem spanB_len (c : Int) (h : (spanI c).1 ≠ 0) : (spanB c).length = (spanI c).1.toNat := by
  have := spanI_range c
  simp only [spanB, List.length_cons, List.length_take, List.length_nil]
  omega

/-- the same, with the first byte's own bounds -/
theorem fits_self (x : Int × Int) (bs : List (Int × Int)) (c : UInt8) (cs : List UInt8) (h : inR x.1 x.2 c.toNat = true) : fits (x :: bs) (c :: cs) = fits (((c.toNat : Int), (c.toNat : Int)) :: bs) (c :: cs) := by
  have h' : inR (c.toNat : Int) (c.toNat : Int) (c.toNat : Int) = true := by simp [inR]
  simp only [fits, h, h', if_true]

theorem front_span (c : UInt8) (cs : List UInt8) : front (c :: cs) = if (spanI c.toNat).1 = 0 then (0, false) else fits (spanB c.toNat) (c :: cs) := by
  have hc := UInt8.toNat_lt c
  have key : ∀ b, b ∈ shapes → inR (b.headD (0, 0)).1 (b.headD (0, 0)).2 c.toNat = true → (spanI c.toNat).1 ≠ 0 → b.drop 1 = (spanB c.toNat).drop 1 → front (c :: cs) = if (spanI c.toNat).1 = 0 then (0, false) else fits (spanB c.toNat) (c :: cs) := by
    intro b hb hi hn hd
    rw [if_neg hn]
    have hl := shapes_len b hb
    cases b with
    | nil => simp at hl
    | cons x bs =>
      rw [front_shape hb hi, fits_self x bs c cs hi]
      simp only [List.drop_succ_cons, List.drop_zero, spanB] at hd
      rw [hd]; rfl
  by_cases h1 : c.toNat < 128
  · have e : spanI c.toNat = (1, 0, 0) := by unfold spanI; rw [if_pos (by omega)]
    exact key [(0, 127)] (by simp [shapes]) (inR_true (by simp) (by simp; omega)) (by rw [e]; simp) (by simp [spanB, e])
  by_cases h2 : c.toNat < 194
  · have e : spanI c.toNat = (0, 0, 0) := by unfold spanI; rw [if_neg (by omega), if_pos (by omega)]
    rw [e, if_pos rfl]
    have hn : shapes.find? (opens c) = none := by
      rw [List.find?_eq_none]
      intro b hb ho
      simp only [shapes, List.mem_cons, List.not_mem_nil, or_false] at hb
      rcases hb with rfl | rfl | rfl | rfl | rfl | rfl | rfl | rfl | rfl <;> (have := inR_le ho; simp only at this; omega)
    simp only [front, hn]
  by_cases h3 : 244 < c.toNat
  · have e : spanI c.toNat = (0, 0, 0) := by unfold spanI; rw [if_neg (by omega), if_neg (by omega), if_pos (by omega)]
    rw [e, if_pos rfl]
    have hn : shapes.find? (opens c) = none := by
      rw [List.find?_eq_none]
      intro b hb ho
      simp only [shapes, List.mem_cons, List.not_mem_nil, or_false] at hb
      rcases hb with rfl | rfl | rfl | rfl | rfl | rfl | rfl | rfl | rfl <;> (have := inR_le ho; simp only at this; omega)
    simp only [front, hn]
  have e0 : spanI c.toNat = if (c.toNat : Int) < 224 then (2, 128, 191) else if (c.toNat : Int) = 224 then (3, 160, 191) else if (c.toNat : Int) = 237 then (3, 128, 159) else if (c.toNat : Int) < 240 then (3, 128, 191)
      else if (c.toNat : Int) = 240 then (4, 144, 191) else if (c.toNat : Int) = 244 then (4, 128, 143) else (4, 128, 191) := by
    unfold spanI; rw [if_neg (by omega), if_neg (by omega), if_neg (by omega)]
  by_cases h4 : c.toNat < 224
  · have e : spanI c.toNat = (2, 128, 191) := by rw [e0, if_pos (by omega)]
    exact key [(194, 223), (128, 191)] (by simp [shapes]) (inR_true (by simp; omega) (by simp; omega)) (by rw [e]; simp) (by simp [spanB, e])
  by_cases h5 : c.toNat = 224
  · have e : spanI c.toNat = (3, 160, 191) := by rw [e0, if_neg (by omega), if_pos (by omega)]
    exact key [(224, 224), (160, 191), (128, 191)] (by simp [shapes]) (inR_true (by simp; omega) (by simp; omega)) (by rw [e]; simp) (by simp [spanB, e])
  by_cases h6 : c.toNat = 237
  · have e : spanI c.toNat = (3, 128, 159) := by rw [e0, if_neg (by omega), if_neg (by omega), if_pos (by omega)]
    exact key [(237, 237), (128, 159), (128, 191)] (by simp [shapes]) (inR_true (by simp; omega) (by simp; omega)) (by rw [e]; simp) (by simp [spanB, e])
  by_cases h7 : c.toNat < 240
  · have e : spanI c.toNat = (3, 128, 191) := by rw [e0, if_neg (by omega), if_neg (by omega), if_neg (by omega), if_pos (by omega)]
    by_cases h8 : c.toNat < 237
    · exact key [(225, 236), (128, 191), (128, 191)] (by simp [shapes]) (inR_true (by simp; omega) (by simp; omega)) (by rw [e]; simp) (by simp [spanB, e])
    · exact key [(238, 239), (128, 191), (128, 191)] (by simp [shapes]) (inR_true (by simp; omega) (by simp; omega)) (by rw [e]; simp) (by simp [spanB, e])
  by_cases h8 : c.toNat = 240
  · have e : spanI c.toNat = (4, 144, 191) := by rw [e0, if_neg (by omega), if_neg (by omega), if_neg (by omega), if_neg (by omega), if_pos (by omega)]
    exact key [(240, 240), (144, 191), (128, 191), (128, 191)] (by simp [shapes]) (inR_true (by simp; omega) (by simp; omega)) (by rw [e]; simp) (by simp [spanB, e])
  by_cases h9 : c.toNat = 244
  · have e : spanI c.toNat = (4, 128, 143) := by rw [e0, if_neg (by omega), if_neg (by omega), if_neg (by omega), if_neg (by omega), if_neg (by omega), if_pos (by omega)]
    exact key [(244, 244), (128, 143), (128, 191), (128, 191)] (by simp [shapes]) (inR_true (by simp; omega) (by simp; omega)) (by rw [e]; simp) (by simp [spanB, e])
  have e : spanI c.toNat = (4, 128, 191) := by rw [e0, if_neg (by omega), if_neg (by omega), if_neg (by omega), if_neg (by omega), if_neg (by omega), if_neg (by omega)]
  exact key [(241, 243), (128, 191), (128, 191), (128, 191)] (by simp [shapes]) (inR_true (by simp; omega) (by simp; omega)) (by rw [e]; simp) (by simp [spanB, e])

end Go.Proofs.YtgoibhbmndpgpaaGreatDoor.Utf
