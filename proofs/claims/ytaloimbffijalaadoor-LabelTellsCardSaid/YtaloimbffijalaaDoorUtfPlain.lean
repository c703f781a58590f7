/- Plain mathematics of UTF-8: what the bytes of a scalar are, how far a text can still become well-formed, how many scalars it has. Nothing of the program stands here. -/
import Init
set_option linter.unusedVariables false
set_option linter.unusedSimpArgs false
namespace Go.Proofs.YtaloimbffijalaaDoor.Utf

/-- a byte lies between two bounds -/
def inR (lo hi c : Int) : Bool := decide (lo ≤ c) && decide (c ≤ hi)

/-- how many of the bytes lie within the bounds, from the front; were all bounds met? -/
def fits : List (Int × Int) → List UInt8 → Nat × Bool
  | [], _ => (0, true)
  | _ :: _, [] => (0, false)
  | b :: bs, c :: cs => if inR b.1 b.2 c.toNat then ((fits bs cs).1 + 1, (fits bs cs).2) else (0, false)

/-- the bounds of each byte, by the range of the first one -/
def shapes : List (List (Int × Int)) := [
  [(0, 127)],
  [(194, 223), (128, 191)],
  [(224, 224), (160, 191), (128, 191)],
  [(225, 236), (128, 191), (128, 191)],
  [(237, 237), (128, 159), (128, 191)],
  [(238, 239), (128, 191), (128, 191)],
  [(240, 240), (144, 191), (128, 191), (128, 191)],
  [(241, 243), (128, 191), (128, 191), (128, 191)],
  [(244, 244), (128, 143), (128, 191), (128, 191)]]

/-- do these bounds begin with one that the byte meets? -/
def opens (c : UInt8) (b : List (Int × Int)) : Bool :=
  match b with
  | [] => false
  | x :: _ => inR x.1 x.2 c.toNat

/-- how many bytes a scalar can begin with; are they all of its bytes? -/
def front (l : List UInt8) : Nat × Bool :=
  match l with
  | [] => (0, false)
  | c :: _ =>
    match shapes.find? (opens c) with
    | some b => fits b l
    | none => (0, false)

/-- after k bytes that fit: what is left tells the rest -/
structure Upto (bs : List (Int × Int)) (l : List UInt8) (k : Nat) : Prop where
  inB : k ≤ bs.length
  inL : k ≤ l.length
  num : (fits bs l).1 = k + (fits (bs.drop k) (l.drop k)).1
  all : (fits bs l).2 = (fits (bs.drop k) (l.drop k)).2

theorem upto_zero (bs : List (Int × Int)) (l : List UInt8) : Upto bs l 0 := ⟨by omega, by omega, by simp, by simp⟩

theorem upto_end {bs : List (Int × Int)} {l : List UInt8} {k : Nat} (h : Upto bs l k) (hk : bs.length ≤ k) : fits bs l = (k, true) := by
  have h1 := h.num; have h2 := h.all
  rw [List.drop_of_length_le hk] at h1 h2
  simp only [fits] at h1 h2
  exact Prod.ext (by simpa using h1) h2

theorem upto_out {bs : List (Int × Int)} {l : List UInt8} {k : Nat} (h : Upto bs l k) (hk : k < bs.length) (hl : l.length ≤ k) : fits bs l = (k, false) := by
  have h1 := h.num; have h2 := h.all
  rw [List.drop_of_length_le hl, List.drop_eq_getElem_cons hk] at h1 h2
  simp only [fits] at h1 h2
  exact Prod.ext (by simpa using h1) h2

theorem upto_no {bs : List (Int × Int)} {l : List UInt8} {k : Nat} {lo hi : Int} {c : UInt8} (h : Upto bs l k) (hB : bs[k]? = some (lo, hi)) (hL : l[k]? = some c) (hn : inR lo hi (c.toNat : Int) = false) : fits bs l = (k, false) := by
  obtain ⟨hk, eB⟩ := List.getElem?_eq_some_iff.1 hB
  obtain ⟨hl, eL⟩ := List.getElem?_eq_some_iff.1 hL
  have h1 := h.num; have h2 := h.all
  rw [List.drop_eq_getElem_cons hl, List.drop_eq_getElem_cons hk] at h1 h2
  simp only [fits, eB, eL, hn] at h1 h2
  exact Prod.ext (by simpa using h1) (by simpa using h2)

theorem upto_yes {bs : List (Int × Int)} {l : List UInt8} {k : Nat} {lo hi : Int} {c : UInt8} (h : Upto bs l k) (hB : bs[k]? = some (lo, hi)) (hL : l[k]? = some c) (hn : inR lo hi (c.toNat : Int) = true) : Upto bs l (k + 1) := by
  obtain ⟨hk, eB⟩ := List.getElem?_eq_some_iff.1 hB
  obtain ⟨hl, eL⟩ := List.getElem?_eq_some_iff.1 hL
  have h1 := h.num; have h2 := h.all
  rw [List.drop_eq_getElem_cons hl, List.drop_eq_getElem_cons hk] at h1 h2
  simp only [fits, eB, eL, hn] at h1 h2
  exact ⟨hk, hl, by simp at h1; omega, by simpa using h2⟩

theorem take_opens (c : UInt8) (n : Nat) (hn : 1 ≤ n) (x : Int × Int) (r : List (Int × Int)) : opens c ((x :: r).take n) = inR x.1 x.2 c.toNat := by
  obtain ⟨m, rfl⟩ : ∃ m, n = m + 1 := ⟨n - 1, by omega⟩
  rfl

theorem find_no {c : UInt8} {k : Nat} {b : List (Int × Int)} (h : shapes.find? (opens c) = (shapes.drop k).find? (opens c)) (hB : shapes[k]? = some b) (hn : opens c b = false) :
    shapes.find? (opens c) = (shapes.drop (k + 1)).find? (opens c) := by
  obtain ⟨hk, eB⟩ := List.getElem?_eq_some_iff.1 hB
  rw [h, List.drop_eq_getElem_cons hk, List.find?_cons, eB, hn]

theorem find_yes {c : UInt8} {k : Nat} {b : List (Int × Int)} (h : shapes.find? (opens c) = (shapes.drop k).find? (opens c)) (hB : shapes[k]? = some b) (hn : opens c b = true) :
    shapes.find? (opens c) = some b := by
  obtain ⟨hk, eB⟩ := List.getElem?_eq_some_iff.1 hB
  rw [h, List.drop_eq_getElem_cons hk, List.find?_cons, eB, hn]

theorem front_some {l : List UInt8} {i : Nat} {c : UInt8} {b : List (Int × Int)} (hc : l[i]? = some c) (h : shapes.find? (opens c) = some b) : front (l.drop i) = fits b (l.drop i) := by
  obtain ⟨hi, e⟩ := List.getElem?_eq_some_iff.1 hc
  rw [List.drop_eq_getElem_cons hi, e]
  simp only [front, h]

theorem front_none {l : List UInt8} {i : Nat} {c : UInt8} (hc : l[i]? = some c) (h : shapes.find? (opens c) = none) : front (l.drop i) = (0, false) := by
  obtain ⟨hi, e⟩ := List.getElem?_eq_some_iff.1 hc
  rw [List.drop_eq_getElem_cons hi, e]
  simp only [front, h]

/-- a text's byte at a place, both ways of writing it -/
theorem byte_at (s : ByteArray) (k : Nat) (h : k < s.size) : s.data.toList[k]? = some s[k] := by
  have h' : k < s.data.toList.length := by simpa using h
  rw [List.getElem?_eq_getElem h']
  rfl

theorem size_len (s : ByteArray) : s.data.toList.length = s.size := by simp

end Go.Proofs.YtaloimbffijalaaDoor.Utf
