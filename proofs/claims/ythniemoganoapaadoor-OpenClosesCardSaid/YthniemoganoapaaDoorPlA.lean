/- The texts UtfPlain, UtfPlainB, UtfPlainC, UtfPlainD, RefUtfPlain, one behind the other. -/
import Init

/- Plain mathematics of UTF-8: what the bytes of a scalar are, how far a text can still become well-formed, how many scalars it has. Nothing of the program stands here. -/
set_option linter.unusedVariables false
set_option linter.unusedSimpArgs false
namespace Go.Proofs.YthniemoganoapaaDoor.Utf

/-- a byte lies between two bounds -/
def inR (lo hi c : Int) : Bool := decide (lo ≤ c) && decide (c ≤ hi)

/-- how many of the bytes lie within the bounds, from the front; were all bounds met? -/
def fits : List (Int × Int) → List UInt8 → Nat × Bool
  | [], _ => (0, true)
  | _ :: _, [] => (0, false)
  | b :: bs, c :: cs => if inR b.1 b.2 c.toNat then ((fits bs cs).1 + 1, (fits bs cs).2) else (0, false)

/-- the bounds of each byte, by the range of the first one -/
def shapes : List (List (Int × Int)) := [
  [(0, 127)],
  [(194, 223), (128, 191)],
  [(224, 224), (160, 191), (128, 191)],
  [(225, 236), (128, 191), (128, 191)],
  [(237, 237), (128, 159), (128, 191)],
  [(238, 239), (128, 191), (128, 191)],
  [(240, 240), (144, 191), (128, 191), (128, 191)],
  [(241, 243), (128, 191), (128, 191), (128, 191)],
  [(244, 244), (128, 143), (128, 191), (128, 191)]]

/-- do these bounds begin with one that the byte meets? -/
def opens (c : UInt8) (b : List (Int × Int)) : Bool :=
  match b with
  | [] => false
  | x :: _ => inR x.1 x.2 c.toNat

/-- how many bytes a scalar can begin with; are they all of its bytes? -/
def front (l : List UInt8) : Nat × Bool :=
  match l with
  | [] => (0, false)
  | c :: _ =>
    match shapes.find? (opens c) with
    | some b => fits b l
    | none => (0, false)

/-- after k bytes that fit: what is left tells the rest -/
structure Upto (bs : List (Int × Int)) (l : List UInt8) (k : Nat) : Prop where
  inB : k ≤ bs.length
  inL : k ≤ l.length
  num : (fits bs l).1 = k + (fits (bs.drop k) (l.drop k)).1
  all : (fits bs l).2 = (fits (bs.drop k) (l.drop k)).2

theorem upto_zero (bs : List (Int × Int)) (l : List UInt8) : Upto bs l 0 := ⟨by omega, by omega, by simp, by simp⟩

theorem upto_end {bs : List (Int × Int)} {l : List UInt8} {k : Nat} (h : Upto bs l k) (hk : bs.length ≤ k) : fits bs l = (k, true) := by
  have h1 := h.num; have h2 := h.all
  rw [List.drop_of_length_le hk] at h1 h2
  simp only [fits] at h1 h2
  exact Prod.ext (by simpa using h1) h2

theorem upto_out {bs : List (Int × Int)} {l : List UInt8} {k : Nat} (h : Upto bs l k) (hk : k < bs.length) (hl : l.length ≤ k) : fits bs l = (k, false) := by
  have h1 := h.num; have h2 := h.all
  rw [List.drop_of_length_le hl, List.drop_eq_getElem_cons hk] at h1 h2
  simp only [fits] at h1 h2
  exact Prod.ext (by simpa using h1) h2

theorem upto_no {bs : List (Int × Int)} {l : List UInt8} {k : Nat} {lo hi : Int} {c : UInt8} (h : Upto bs l k) (hB : bs[k]? = some (lo, hi)) (hL : l[k]? = some c) (hn : inR lo hi (c.toNat : Int) = false) : fits bs l = (k, false) := by
  obtain ⟨hk, eB⟩ := List.getElem?_eq_some_iff.1 hB
  obtain ⟨hl, eL⟩ := List.getElem?_eq_some_iff.1 hL
  have h1 := h.num; have h2 := h.all
  rw [List.drop_eq_getElem_cons hl, List.drop_eq_getElem_cons hk] at h1 h2
  simp only [fits, eB, eL, hn] at h1 h2
  exact Prod.ext (by simpa using h1) (by simpa using h2)

theorem upto_yes {bs : List (Int × Int)} {l : List UInt8} {k : Nat} {lo hi : Int} {c : UInt8} (h : Upto bs l k) (hB : bs[k]? = some (lo, hi)) (hL : l[k]? = some c) (hn : inR lo hi (c.toNat : Int) = true) : Upto bs l (k + 1) := by
  obtain ⟨hk, eB⟩ := List.getElem?_eq_some_iff.1 hB
  obtain ⟨hl, eL⟩ := List.getElem?_eq_some_iff.1 hL
  have h1 := h.num; have h2 := h.all
  rw [List.drop_eq_getElem_cons hl, List.drop_eq_getElem_cons hk] at h1 h2
  simp only [fits, eB, eL, hn] at h1 h2
  exact ⟨hk, hl, by simp at h1; omega, by simpa using h2⟩

theorem take_opens (c : UInt8) (n : Nat) (hn : 1 ≤ n) (x : Int × Int) (r : List (Int × Int)) : opens c ((x :: r).take n) = inR x.1 x.2 c.toNat := by
  obtain ⟨m, rfl⟩ : ∃ m, n = m + 1 := ⟨n - 1, by omega⟩
  rfl

theorem find_no {c : UInt8} {k : Nat} {b : List (Int × Int)} (h : shapes.find? (opens c) = (shapes.drop k).find? (opens c)) (hB : shapes[k]? = some b) (hn : opens c b = false) :
    shapes.find? (opens c) = (shapes.drop (k + 1)).find? (opens c) := by
  obtain ⟨hk, eB⟩ := List.getElem?_eq_some_iff.1 hB
  rw [h, List.drop_eq_getElem_cons hk, List.find?_cons, eB, hn]

theorem find_yes {c : UInt8} {k : Nat} {b : List (Int × Int)} (h : shapes.find? (opens c) = (shapes.drop k).find? (opens c)) (hB : shapes[k]? = some b) (hn : opens c b = true) :
    shapes.find? (opens c) = some b := by
  obtain ⟨hk, eB⟩ := List.getElem?_eq_some_iff.1 hB
  rw [h, List.drop_eq_getElem_cons hk, List.find?_cons, eB, hn]

theorem front_some {l : List UInt8} {i : Nat} {c : UInt8} {b : List (Int × Int)} (hc : l[i]? = some c) (h : shapes.find? (opens c) = some b) : front (l.drop i) = fits b (l.drop i) := by
  obtain ⟨hi, e⟩ := List.getElem?_eq_some_iff.1 hc
  rw [List.drop_eq_getElem_cons hi, e]
  simp only [front, h]

theorem front_none {l : List UInt8} {i : Nat} {c : UInt8} (hc : l[i]? = some c) (h : shapes.find? (opens c) = none) : front (l.drop i) = (0, false) := by
  obtain ⟨hi, e⟩ := List.getElem?_eq_some_iff.1 hc
  rw [List.drop_eq_getElem_cons hi, e]
  simp only [front, h]

/-- a text's byte at a place, both ways of writing it -/
theorem byte_at (s : ByteArray) (k : Nat) (h : k < s.size) : s.data.toList[k]? = some s[k] := by
  have h' : k < s.data.toList.length := by simpa using h
  rw [List.getElem?_eq_getElem h']
  rfl

theorem size_len (s : ByteArray) : s.data.toList.length = s.size := by simp

end Go.Proofs.YthniemoganoapaaDoor.Utf

/- Plain mathematics of UTF-8: scalars, the number that bytes spell. -/
set_option linter.unusedVariables false
set_option linter.unusedSimpArgs false
namespace Go.Proofs.YthniemoganoapaaDoor.Utf

/-- is the number a scalar? -/
def isScalar (r : Int) : Bool := (decide (0 ≤ r) && decide (r < 55296)) || (decide (57343 < r) && decide (r < 1114112))

/-- the number that a scalar's bytes spell -/
def mark (n : Nat) : Nat := if n = 1 then 0 else if n = 2 then 192 else if n = 3 then 224 else 240
def joinOn : List UInt8 → Nat → Nat
  | [], r => r
  | c :: cs, r => joinOn cs (r * 64 + c.toNat % 64)
def val (l : List UInt8) : Int :=
  match l with
  | [] => 0
  | c :: cs => (joinOn cs (c.toNat ^^^ mark l.length) : Nat)

theorem mark_lt (n : Nat) : mark n < 256 := by unfold mark; repeat' split
                                               all_goals omega
theorem val_start (l : List UInt8) (c : UInt8) (h : l[0]? = some c) : val l = (joinOn (l.drop 1) (c.toNat ^^^ mark l.length) : Nat) := by
  cases l with
  | nil => simp at h
  | cons x xs => simp at h; subst h; rfl
theorem joinOn_drop {l : List UInt8} {k : Nat} {c : UInt8} (h : l[k]? = some c) (r : Nat) : joinOn (l.drop k) r = joinOn (l.drop (k + 1)) (r * 64 + c.toNat % 64) := by
  obtain ⟨hk, e⟩ := List.getElem?_eq_some_iff.1 h
  rw [List.drop_eq_getElem_cons hk, e]; rfl
theorem join_room {k r n : Nat} (h1 : 1 ≤ k) (hk : k < n) (h4 : n ≤ 4) (hr : r < 256 * 64 ^ (k - 1)) : r < 1048576 ∧ ∀ d, d < 64 → r * 64 + d < 256 * 64 ^ (k + 1 - 1) := by
  rcases (by omega : k = 1 ∨ k = 2 ∨ k = 3) with rfl | rfl | rfl <;> (simp at hr; refine ⟨by omega, fun d hd => ?_⟩; simp; omega)

end Go.Proofs.YthniemoganoapaaDoor.Utf

/- Plain mathematics of UTF-8: going through a text scalar by scalar. -/
set_option linter.unusedVariables false
set_option linter.unusedSimpArgs false
namespace Go.Proofs.YthniemoganoapaaDoor.Utf

theorem fits_le : ∀ (b : List (Int × Int)) (l : List UInt8), (fits b l).1 ≤ l.length ∧ (fits b l).1 ≤ b.length
  | [], l => by simp [fits]
  | _ :: _, [] => by simp [fits]
  | x :: bs, c :: cs => by
    have := fits_le bs cs
    simp only [fits]
    split
    · simp; omega
    · simp

theorem fits_whole : ∀ (b : List (Int × Int)) (l : List UInt8), (fits b l).2 = true → (fits b l).1 = b.length
  | [], l => by simp [fits]
  | _ :: _, [] => by simp [fits]
  | x :: bs, c :: cs => by
    have := fits_whole bs cs
    simp only [fits]
    split
    · intro h; simp [this h]
    · simp

theorem shapes_len (b : List (Int × Int)) (h : b ∈ shapes) : 1 ≤ b.length ∧ b.length ≤ 4 := by
  simp only [shapes, List.mem_cons, List.not_mem_nil, or_false] at h
  rcases h with rfl | rfl | rfl | rfl | rfl | rfl | rfl | rfl | rfl <;> simp

theorem front_cases (l : List UInt8) : front l = (0, false) ∨ ∃ b, b ∈ shapes ∧ front l = fits b l := by
  cases l with
  | nil => left; rfl
  | cons c cs =>
    simp only [front]
    cases h : shapes.find? (opens c) with
    | none => left; rfl
    | some b => right; exact ⟨b, List.mem_of_find?_eq_some h, rfl⟩

theorem front_le (l : List UInt8) : (front l).1 ≤ l.length ∧ (front l).1 ≤ 4 := by
  rcases front_cases l with h | ⟨b, hb, h⟩ <;> rw [h]
  · simp
  · have := fits_le b l
    have := shapes_len b hb
    omega

theorem front_whole {l : List UInt8} (h : (front l).2 = true) : 1 ≤ (front l).1 := by
  rcases front_cases l with e | ⟨b, hb, e⟩
  · rw [e] at h; cases h
  · rw [e] at h ⊢
    have := fits_whole b l h
    have := shapes_len b hb
    omega

/-- through a text: how many bytes were gone through, how many scalars; is that the whole text? -/
def stepsF : Nat → List UInt8 → Nat × Nat × Bool
  | 0, l => (0, 0, l.isEmpty)
  | f + 1, l => if l.isEmpty then (0, 0, true) else if (front l).2 then ((front l).1 + (stepsF f (l.drop (front l).1)).1, (stepsF f (l.drop (front l).1)).2.1 + 1, (stepsF f (l.drop (front l).1)).2.2) else ((front l).1, 0, false)
def steps (l : List UInt8) : Nat × Nat × Bool := stepsF l.length l

theorem stepsF_eq : ∀ (f : Nat) (l : List UInt8), l.length ≤ f → stepsF f l = steps l := by
  have H : ∀ (n f g : Nat) (l : List UInt8), l.length ≤ n → l.length ≤ f → l.length ≤ g → stepsF f l = stepsF g l := by
    intro n
    induction n with
    | zero =>
      intro f g l hn hf hg
      obtain rfl : l = [] := List.eq_nil_of_length_eq_zero (by omega)
      cases f <;> cases g <;> simp [stepsF]
    | succ n ih =>
      intro f g l hn hf hg
      by_cases hl : l = []
      · subst hl; cases f <;> cases g <;> simp [stepsF]
      · have : l.length ≠ 0 := fun e => hl (List.eq_nil_of_length_eq_zero e)
        obtain ⟨f, rfl⟩ : ∃ k, f = k + 1 := ⟨f - 1, by omega⟩
        obtain ⟨g, rfl⟩ : ∃ k, g = k + 1 := ⟨g - 1, by omega⟩
        simp only [stepsF]
        by_cases hw : (front l).2 = true
        · have h1 := front_whole hw
          rw [ih f g (l.drop (front l).1) (by simp; omega) (by simp; omega) (by simp; omega)]
        · simp [hw]
  exact fun f l h => H l.length f l.length l (Nat.le_refl _) h (Nat.le_refl _)

theorem steps_nil : steps [] = (0, 0, true) := rfl
theorem steps_whole {l : List UInt8} (hl : l ≠ []) (hw : (front l).2 = true) :
    steps l = ((front l).1 + (steps (l.drop (front l).1)).1, (steps (l.drop (front l).1)).2.1 + 1, (steps (l.drop (front l).1)).2.2) := by
  have hp : l.length ≠ 0 := fun e => hl (List.eq_nil_of_length_eq_zero e)
  have h1 := front_whole hw
  obtain ⟨k, hk⟩ : ∃ k, l.length = k + 1 := ⟨l.length - 1, by omega⟩
  have e : l.isEmpty = false := by simpa using hl
  rw [steps, hk, stepsF, if_neg (by simp [e]), if_pos hw, stepsF_eq k _ (by simp; omega)]
theorem steps_not {l : List UInt8} (hl : l ≠ []) (hw : (front l).2 = false) : steps l = ((front l).1, 0, false) := by
  have hp : l.length ≠ 0 := fun e => hl (List.eq_nil_of_length_eq_zero e)
  obtain ⟨k, hk⟩ : ∃ k, l.length = k + 1 := ⟨l.length - 1, by omega⟩
  have e : l.isEmpty = false := by simpa using hl
  rw [steps, hk, stepsF, if_neg (by simp [e]), if_neg (by simp [hw])]

/-- the length of the longest beginning that a well-formed text can have; -1: the text is well-formed -/
def bad (l : List UInt8) : Int := if (steps l).2.2 then -1 else (steps l).1
/-- how many scalars; -1: the text is not well-formed -/
def count (l : List UInt8) : Int := if (steps l).2.2 then (steps l).2.1 else -1
/-- the scalar at a place, and how many bytes it has -/
def next (l : List UInt8) (i : Int) : Int × Nat × Bool :=
  if 0 ≤ i ∧ i < l.length ∧ (front (l.drop i.toNat)).2 = true then (val ((l.drop i.toNat).take (front (l.drop i.toNat)).1), (front (l.drop i.toNat)).1, true) else (0, 0, false)

/-- so far: i bytes and n scalars of the text are gone through -/
structure Far (l : List UInt8) (i n : Nat) : Prop where
  inL : i ≤ l.length
  num : (steps l).1 = i + (steps (l.drop i)).1
  cnt : (steps l).2.1 = n + (steps (l.drop i)).2.1
  all : (steps l).2.2 = (steps (l.drop i)).2.2
theorem far_zero (l : List UInt8) : Far l 0 0 := ⟨by omega, by simp, by simp, by simp⟩
theorem drop_ne {l : List UInt8} {i : Nat} (h : i < l.length) : l.drop i ≠ [] := by
  intro e
  have := congrArg List.length e
  simp at this
  omega
theorem far_yes {l : List UInt8} {i n : Nat} (h : Far l i n) (hi : i < l.length) (hw : (front (l.drop i)).2 = true) : Far l (i + (front (l.drop i)).1) (n + 1) := by
  have e := steps_whole (drop_ne hi) hw
  have hle := (front_le (l.drop i)).1
  have h1 := h.num; have h2 := h.cnt; have h3 := h.all
  rw [e] at h1 h2 h3
  simp only [List.drop_drop] at h1 h2 h3
  simp only [List.length_drop] at hle
  exact ⟨by omega, by omega, by omega, h3⟩
theorem far_no {l : List UInt8} {i n : Nat} (h : Far l i n) (hi : i < l.length) (hw : (front (l.drop i)).2 = false) : bad l = (i + (front (l.drop i)).1 : Nat) ∧ count l = -1 := by
  have e := steps_not (drop_ne hi) hw
  have h1 := h.num; have h3 := h.all
  rw [e] at h1 h3
  simp only at h1 h3
  simp [bad, count, h3, h1]
theorem far_end {l : List UInt8} {i n : Nat} (h : Far l i n) (hi : l.length ≤ i) : bad l = -1 ∧ count l = n := by
  have h2 := h.cnt; have h3 := h.all
  rw [List.drop_of_length_le hi, steps_nil] at h2 h3
  simp only at h2 h3
  simp [bad, count, h3, h2]

/-- the bytes of a scalar -/
def bytesN (n : Nat) : List UInt8 :=
  if n < 128 then [UInt8.ofNat n]
  else if n < 2048 then [UInt8.ofNat (192 + n / 64), UInt8.ofNat (128 + n % 64)]
  else if n < 65536 then [UInt8.ofNat (224 + n / 4096), UInt8.ofNat (128 + n / 64 % 64), UInt8.ofNat (128 + n % 64)]
  else [UInt8.ofNat (240 + n / 262144), UInt8.ofNat (128 + n / 4096 % 64), UInt8.ofNat (128 + n / 64 % 64), UInt8.ofNat (128 + n % 64)]
def bytes (r : Int) : List UInt8 := if isScalar r then bytesN r.toNat else []

end Go.Proofs.YthniemoganoapaaDoor.Utf

/- Plain mathematics of UTF-8: a scalar's bytes are read as it; what is read whole is a scalar's bytes. -/
set_option linter.unusedVariables false
set_option linter.unusedSimpArgs false
namespace Go.Proofs.YthniemoganoapaaDoor.Utf

theorem find_of {α : Type} {p : α → Bool} {b : α} : ∀ {l : List α}, b ∈ l → p b = true → (∀ x, x ∈ l → p x = true → x = b) → l.find? p = some b
  | [], h, _, _ => by cases h
  | a :: l, h, hp, hu => by
    rw [List.find?_cons]
    cases ha : p a with
    | true => simp [hu a (by simp) ha]
    | false =>
      simp only
      refine find_of (l := l) ?_ hp (fun x hx => hu x (by simp [hx]))
      rcases List.mem_cons.1 h with e | e
      · subst e; rw [hp] at ha; cases ha
      · exact e

theorem inR_true {lo hi c : Int} (h0 : lo ≤ c) (h1 : c ≤ hi) : inR lo hi c = true := by simp [inR, h0, h1]
theorem inR_le {lo hi c : Int} (h : inR lo hi c = true) : lo ≤ c ∧ c ≤ hi := by simpa [inR] using h

/-- the shape of a first byte is one alone -/
theorem shape_one {c : UInt8} {b : List (Int × Int)} (hb : b ∈ shapes) (ho : opens c b = true) : shapes.find? (opens c) = some b := by
  refine find_of hb ho (fun x hx hox => ?_)
  simp only [shapes, List.mem_cons, List.not_mem_nil, or_false] at hb hx
  rcases hb with rfl | rfl | rfl | rfl | rfl | rfl | rfl | rfl | rfl <;> rcases hx with rfl | rfl | rfl | rfl | rfl | rfl | rfl | rfl | rfl <;>
    first
    | rfl
    | (exfalso
       have h1 := inR_le ho
       have h2 := inR_le hox
       simp only at h1 h2
       omega)

theorem front_shape {c : UInt8} {cs : List UInt8} {b : List (Int × Int)} (hb : b ∈ shapes) (ho : opens c b = true) : front (c :: cs) = fits b (c :: cs) := by
  simp only [front, shape_one hb ho]

theorem fits_cons {x : Int × Int} {bs : List (Int × Int)} {c : UInt8} {cs : List UInt8} (h0 : x.1 ≤ c.toNat) (h1 : (c.toNat : Int) ≤ x.2) : fits (x :: bs) (c :: cs) = ((fits bs cs).1 + 1, (fits bs cs).2) := by
  simp only [fits, inR_true h0 h1, if_true]

theorem toNat_of {n : Nat} (h : n < 256) : (UInt8.ofNat n).toNat = n := by
  simp [Nat.mod_eq_of_lt h]

theorem xor_sub : ∀ c, c < 256 → (192 ≤ c → c < 224 → c ^^^ 192 = c - 192) ∧ (224 ≤ c → c < 240 → c ^^^ 224 = c - 224) ∧ (240 ≤ c → c < 248 → c ^^^ 240 = c - 240) := by decide +kernel

theorem val1 (a : UInt8) : val [a] = (a.toNat : Nat) := by simp [val, joinOn, mark]
theorem val2 (a b : UInt8) (h : 192 ≤ a.toNat) (h2 : a.toNat < 224) : val [a, b] = ((a.toNat - 192) * 64 + b.toNat % 64 : Nat) := by
  have := (xor_sub a.toNat (UInt8.toNat_lt a)).1 h h2
  simp [val, joinOn, mark, this]
theorem val3 (a b c : UInt8) (h : 224 ≤ a.toNat) (h2 : a.toNat < 240) : val [a, b, c] = (((a.toNat - 224) * 64 + b.toNat % 64) * 64 + c.toNat % 64 : Nat) := by
  have := (xor_sub a.toNat (UInt8.toNat_lt a)).2.1 h h2
  simp [val, joinOn, mark, this]
theorem val4 (a b c d : UInt8) (h : 240 ≤ a.toNat) (h2 : a.toNat < 248) : val [a, b, c, d] = ((((a.toNat - 240) * 64 + b.toNat % 64) * 64 + c.toNat % 64) * 64 + d.toNat % 64 : Nat) := by
  have := (xor_sub a.toNat (UInt8.toNat_lt a)).2.2 h h2
  simp [val, joinOn, mark, this]

/-- what a text that begins with a scalar's bytes begins with -/
theorem front_bytes (n : Nat) (hn : n < 1114112) (hs : n < 55296 ∨ 57343 < n) (r : List UInt8) : front (bytesN n ++ r) = ((bytesN n).length, true) ∧ val (bytesN n) = n := by
  unfold bytesN
  by_cases h1 : n < 128
  · rw [if_pos h1]
    have e := toNat_of (n := n) (by omega)
    refine ⟨?_, by rw [val1, e]⟩
    rw [List.cons_append, front_shape (b := [(0, 127)]) (by simp [shapes]) (inR_true (by rw [e]; simp) (by rw [e]; simp; omega)), fits_cons (by rw [e]; simp) (by rw [e]; simp; omega)]
    simp [fits]
  · rw [if_neg h1]
    by_cases h2 : n < 2048
    · rw [if_pos h2]
      have e := toNat_of (n := 192 + n / 64) (by omega)
      have f := toNat_of (n := 128 + n % 64) (by omega)
      refine ⟨?_, by rw [val2 _ _ (by omega) (by omega), e, f]; omega⟩
      rw [List.cons_append, List.cons_append, front_shape (b := [(194, 223), (128, 191)]) (by simp [shapes]) (inR_true (by rw [e]; simp; omega) (by rw [e]; simp; omega)),
        fits_cons (by rw [e]; simp; omega) (by rw [e]; simp; omega), fits_cons (by rw [f]; simp; omega) (by rw [f]; simp; omega)]
      simp [fits]
    · rw [if_neg h2]
      by_cases h3 : n < 65536
      · rw [if_pos h3]
        have e := toNat_of (n := 224 + n / 4096) (by omega)
        have f := toNat_of (n := 128 + n / 64 % 64) (by omega)
        have g := toNat_of (n := 128 + n % 64) (by omega)
        refine ⟨?_, by rw [val3 _ _ _ (by omega) (by omega), e, f, g]; omega⟩
        rw [List.cons_append, List.cons_append, List.cons_append]
        have key : ∃ lo hi lo2 hi2, [(lo, hi), (lo2, hi2), (128, 191)] ∈ shapes ∧ lo ≤ ((224 + n / 4096 : Nat) : Int) ∧ ((224 + n / 4096 : Nat) : Int) ≤ hi ∧ lo2 ≤ ((128 + n / 64 % 64 : Nat) : Int) ∧ ((128 + n / 64 % 64 : Nat) : Int) ≤ hi2 := by
          by_cases k1 : n < 4096
          · exact ⟨224, 224, 160, 191, by simp [shapes], by omega, by omega, by omega, by omega⟩
          · by_cases k2 : n < 53248
            · exact ⟨225, 236, 128, 191, by simp [shapes], by omega, by omega, by omega, by omega⟩
            · by_cases k3 : n < 57344
              · exact ⟨237, 237, 128, 159, by simp [shapes], by omega, by omega, by omega, by omega⟩
              · exact ⟨238, 239, 128, 191, by simp [shapes], by omega, by omega, by omega, by omega⟩
        obtain ⟨lo, hi, lo2, hi2, hm, a1, a2, a3, a4⟩ := key
        rw [front_shape hm (inR_true (by rw [e]; exact a1) (by rw [e]; exact a2)), fits_cons (by rw [e]; exact a1) (by rw [e]; exact a2), fits_cons (by rw [f]; exact a3) (by rw [f]; exact a4),
          fits_cons (by rw [g]; simp; omega) (by rw [g]; simp; omega)]
        simp [fits]
      · rw [if_neg h3]
        have e := toNat_of (n := 240 + n / 262144) (by omega)
        have f := toNat_of (n := 128 + n / 4096 % 64) (by omega)
        have g := toNat_of (n := 128 + n / 64 % 64) (by omega)
        have k := toNat_of (n := 128 + n % 64) (by omega)
        refine ⟨?_, by rw [val4 _ _ _ _ (by omega) (by omega), e, f, g, k]; omega⟩
        rw [List.cons_append, List.cons_append, List.cons_append, List.cons_append]
        have key : ∃ lo hi lo2 hi2, [(lo, hi), (lo2, hi2), (128, 191), (128, 191)] ∈ shapes ∧ lo ≤ ((240 + n / 262144 : Nat) : Int) ∧ ((240 + n / 262144 : Nat) : Int) ≤ hi ∧ lo2 ≤ ((128 + n / 4096 % 64 : Nat) : Int) ∧ ((128 + n / 4096 % 64 : Nat) : Int) ≤ hi2 := by
          by_cases k1 : n < 262144
          · exact ⟨240, 240, 144, 191, by simp [shapes], by omega, by omega, by omega, by omega⟩
          · by_cases k2 : n < 1048576
            · exact ⟨241, 243, 128, 191, by simp [shapes], by omega, by omega, by omega, by omega⟩
            · exact ⟨244, 244, 128, 143, by simp [shapes], by omega, by omega, by omega, by omega⟩
        obtain ⟨lo, hi, lo2, hi2, hm, a1, a2, a3, a4⟩ := key
        rw [front_shape hm (inR_true (by rw [e]; exact a1) (by rw [e]; exact a2)), fits_cons (by rw [e]; exact a1) (by rw [e]; exact a2), fits_cons (by rw [f]; exact a3) (by rw [f]; exact a4),
          fits_cons (by rw [g]; simp; omega) (by rw [g]; simp; omega), fits_cons (by rw [k]; simp; omega) (by rw [k]; simp; omega)]
        simp [fits]

theorem isScalar_iff (r : Int) : isScalar r = true ↔ (0 ≤ r ∧ r < 55296) ∨ (57343 < r ∧ r < 1114112) := by
  simp [isScalar]

theorem bytes_pos (r : Int) (h : isScalar r = true) : 1 ≤ (bytes r).length ∧ (bytes r).length ≤ 4 := by
  have e : bytes r = bytesN r.toNat := by simp [bytes, h]
  rw [e]; unfold bytesN
  repeat' split
  all_goals simp

/-- a scalar's bytes, wherever they stand, are read as it -/
theorem back (r : Int) (h : isScalar r = true) (a c : List UInt8) : next (a ++ bytes r ++ c) a.length = (r, (bytes r).length, true) ∧ bad (bytes r) = -1 ∧ count (bytes r) = 1 := by
  have hr := (isScalar_iff r).1 h
  have e : bytes r = bytesN r.toNat := by simp [bytes, h]
  have hp := bytes_pos r h
  have fb := fun t => front_bytes r.toNat (by omega) (by omega) t
  rw [← e] at fb
  have hd : (a ++ bytes r ++ c).drop a.length = bytes r ++ c := by rw [List.append_assoc, List.drop_left]
  refine ⟨?_, ?_⟩
  · unfold next
    rw [Int.toNat_natCast, hd, (fb c).1]
    rw [if_pos ⟨by omega, by simp; omega, rfl⟩]
    simp only [List.take_left]
    rw [(fb c).2]
    simp only [Prod.mk.injEq, and_true]
    omega
  · have hn : bytes r ≠ [] := by intro x; rw [x] at hp; simp at hp
    have f0 := (fb []).1
    rw [List.append_nil] at f0
    have s := steps_whole hn (by rw [f0])
    rw [f0] at s
    simp only [List.drop_length, steps_nil] at s
    simp [bad, count, s]

end Go.Proofs.YthniemoganoapaaDoor.Utf

/- Plain mathematics: the reference's bounds of a first byte, and that they tell the same as the shapes. -/
set_option linter.unusedVariables false
set_option linter.unusedSimpArgs false
namespace Go.Proofs.YthniemoganoapaaDoor.Utf

/-- of a first byte: how many bytes, from where to where the second one lies; 0: it is none -/
def spanI (c : Int) : Int × Int × Int :=
  if c < 128 then (1, 0, 0)
  else if c < 194 then (0, 0, 0)
  else if 244 < c then (0, 0, 0)
  else if c < 224 then (2, 128, 191)
  else if c = 224 then (3, 160, 191)
  else if c = 237 then (3, 128, 159)
  else if c < 240 then (3, 128, 191)
  else if c = 240 then (4, 144, 191)
  else if c = 244 then (4, 128, 143)
  else (4, 128, 191)

/-- the shape of a first byte, by the reference's bounds -/
def spanB (c : Int) : List (Int × Int) := (c, c) :: ([(spanI c).2, (128, 191), (128, 191)].take ((spanI c).1.toNat - 1))

theorem spanI_range (c : Int) : 0 ≤ (spanI c).1 ∧ (spanI c).1 ≤ 4 ∧ 0 ≤ (spanI c).2.1 ∧ (spanI c).2.1 ≤ 255 ∧ 0 ≤ (spanI c).2.2 ∧ (spanI c).2.2 ≤ 255 := by
  unfold spanI
  repeat' split
  all_goals simp

theorem spanB_len (c : Int) (h : (spanI c).1 ≠ 0) : (spanB c).length = (spanI c).1.toNat := by
  have := spanI_range c
  simp only [spanB, List.length_cons, List.length_take, List.length_nil]
  omega

/-- the same, with the first byte's own bounds -/
theorem fits_self (x : Int × Int) (bs : List (Int × Int)) (c : UInt8) (cs : List UInt8) (h : inR x.1 x.2 c.toNat = true) : fits (x :: bs) (c :: cs) = fits (((c.toNat : Int), (c.toNat : Int)) :: bs) (c :: cs) := by
  have h' : inR (c.toNat : Int) (c.toNat : Int) (c.toNat : Int) = true := by simp [inR]
  simp only [fits, h, h', if_true]

theorem front_span (c : UInt8) (cs : List UInt8) : front (c :: cs) = if (spanI c.toNat).1 = 0 then (0, false) else fits (spanB c.toNat) (c :: cs) := by
  have hc := UInt8.toNat_lt c
  have key : ∀ b, b ∈ shapes → inR (b.headD (0, 0)).1 (b.headD (0, 0)).2 c.toNat = true → (spanI c.toNat).1 ≠ 0 → b.drop 1 = (spanB c.toNat).drop 1 → front (c :: cs) = if (spanI c.toNat).1 = 0 then (0, false) else fits (spanB c.toNat) (c :: cs) := by
    intro b hb hi hn hd
    rw [if_neg hn]
    have hl := shapes_len b hb
    cases b with
    | nil => simp at hl
    | cons x bs =>
      rw [front_shape hb hi, fits_self x bs c cs hi]
      simp only [List.drop_succ_cons, List.drop_zero, spanB] at hd
      rw [hd]; rfl
  by_cases h1 : c.toNat < 128
  · have e : spanI c.toNat = (1, 0, 0) := by unfold spanI; rw [if_pos (by omega)]
    exact key [(0, 127)] (by simp [shapes]) (inR_true (by simp) (by simp; omega)) (by rw [e]; simp) (by simp [spanB, e])
  by_cases h2 : c.toNat < 194
  · have e : spanI c.toNat = (0, 0, 0) := by unfold spanI; rw [if_neg (by omega), if_pos (by omega)]
    rw [e, if_pos rfl]
    have hn : shapes.find? (opens c) = none := by
      rw [List.find?_eq_none]
      intro b hb ho
      simp only [shapes, List.mem_cons, List.not_mem_nil, or_false] at hb
      rcases hb with rfl | rfl | rfl | rfl | rfl | rfl | rfl | rfl | rfl <;> (have := inR_le ho; simp only at this; omega)
    simp only [front, hn]
  by_cases h3 : 244 < c.toNat
  · have e : spanI c.toNat = (0, 0, 0) := by unfold spanI; rw [if_neg (by omega), if_neg (by omega), if_pos (by omega)]
    rw [e, if_pos rfl]
    have hn : shapes.find? (opens c) = none := by
      rw [List.find?_eq_none]
      intro b hb ho
      simp only [shapes, List.mem_cons, List.not_mem_nil, or_false] at hb
      rcases hb with rfl | rfl | rfl | rfl | rfl | rfl | rfl | rfl | rfl <;> (have := inR_le ho; simp only at this; omega)
    simp only [front, hn]
  have e0 : spanI c.toNat = if (c.toNat : Int) < 224 then (2, 128, 191) else if (c.toNat : Int) = 224 then (3, 160, 191) else if (c.toNat : Int) = 237 then (3, 128, 159) else if (c.toNat : Int) < 240 then (3, 128, 191)
      else if (c.toNat : Int) = 240 then (4, 144, 191) else if (c.toNat : Int) = 244 then (4, 128, 143) else (4, 128, 191) := by
    unfold spanI; rw [if_neg (by omega), if_neg (by omega), if_neg (by omega)]
  by_cases h4 : c.toNat < 224
  · have e : spanI c.toNat = (2, 128, 191) := by rw [e0, if_pos (by omega)]
    exact key [(194, 223), (128, 191)] (by simp [shapes]) (inR_true (by simp; omega) (by simp; omega)) (by rw [e]; simp) (by simp [spanB, e])
  by_cases h5 : c.toNat = 224
  · have e : spanI c.toNat = (3, 160, 191) := by rw [e0, if_neg (by omega), if_pos (by omega)]
    exact key [(224, 224), (160, 191), (128, 191)] (by simp [shapes]) (inR_true (by simp; omega) (by simp; omega)) (by rw [e]; simp) (by simp [spanB, e])
  by_cases h6 : c.toNat = 237
  · have e : spanI c.toNat = (3, 128, 159) := by rw [e0, if_neg (by omega), if_neg (by omega), if_pos (by omega)]
    exact key [(237, 237), (128, 159), (128, 191)] (by simp [shapes]) (inR_true (by simp; omega) (by simp; omega)) (by rw [e]; simp) (by simp [spanB, e])
  by_cases h7 : c.toNat < 240
  · have e : spanI c.toNat = (3, 128, 191) := by rw [e0, if_neg (by omega), if_neg (by omega), if_neg (by omega), if_pos (by omega)]
    by_cases h8 : c.toNat < 237
    · exact key [(225, 236), (128, 191), (128, 191)] (by simp [shapes]) (inR_true (by simp; omega) (by simp; omega)) (by rw [e]; simp) (by simp [spanB, e])
    · exact key [(238, 239), (128, 191), (128, 191)] (by simp [shapes]) (inR_true (by simp; omega) (by simp; omega)) (by rw [e]; simp) (by simp [spanB, e])
  by_cases h8 : c.toNat = 240
  · have e : spanI c.toNat = (4, 144, 191) := by rw [e0, if_neg (by omega), if_neg (by omega), if_neg (by omega), if_neg (by omega), if_pos (by omega)]
    exact key [(240, 240), (144, 191), (128, 191), (128, 191)] (by simp [shapes]) (inR_true (by simp; omega) (by simp; omega)) (by rw [e]; simp) (by simp [spanB, e])
  by_cases h9 : c.toNat = 244
  · have e : spanI c.toNat = (4, 128, 143) := by rw [e0, if_neg (by omega), if_neg (by omega), if_neg (by omega), if_neg (by omega), if_neg (by omega), if_pos (by omega)]
    exact key [(244, 244), (128, 143), (128, 191), (128, 191)] (by simp [shapes]) (inR_true (by simp; omega) (by simp; omega)) (by rw [e]; simp) (by simp [spanB, e])
  have e : spanI c.toNat = (4, 128, 191) := by rw [e0, if_neg (by omega), if_neg (by omega), if_neg (by omega), if_neg (by omega), if_neg (by omega), if_neg (by omega)]
  exact key [(241, 243), (128, 191), (128, 191), (128, 191)] (by simp [shapes]) (inR_true (by simp; omega) (by simp; omega)) (by rw [e]; simp) (by simp [spanB, e])

end Go.Proofs.YthniemoganoapaaDoor.Utf
