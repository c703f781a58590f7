/- What the reference's tags leans on: a tag in a block; a label piece by piece (layer 17). -/
import Derived.Test.YthniemoganoapaaDoorRefOwG
import Derived.Test.YthniemoganoapaaDoorRefOwF
set_option maxRecDepth 100000
set_option linter.unusedVariables false
set_option linter.unusedSimpArgs false
namespace Go.Proofs.YthniemoganoapaaDoor
open Go.RowKit

structure TgAt (w : World) (c : Nat) (t : Ow.Tg) : Prop where
  c0 : w.cell? ⟨c, 0, none⟩ = some (.string (str t.n))
  c1 : w.cell? ⟨c, 1, none⟩ = some (.string (str t.v))
  c2 : w.cell? ⟨c, 2, none⟩ = some (.int .i64 (t.off : Nat))
  c3 : w.cell? ⟨c, 3, none⟩ = some (.int .i64 (t.at_ : Nat))
  fr : ∀ o, w.frozen? ⟨c, o, none⟩ = false
  lt : c < w.heap.size
theorem TgAt.new (w : World) (k : Nat) (ty : TypeId) : TgAt (w.alloc (.cells #[.string ⟨#[]⟩, .string ⟨#[]⟩, .int .i64 (k : Nat), .int .i64 0] ty)) w.heap.size ⟨[], [], k, 0⟩ :=
  ⟨by simp, by simp, by simp, by simp, fun o => by simp, by simp⟩
theorem TgAt.belowB {w w' : World} {c B : Nat} {t : Ow.Tg} (h : TgAt w c t) (hb : Below B w w') (hlt : c < B) : TgAt w' c t :=
  ⟨(hb.cell (p := ⟨c, 0, none⟩) hlt).trans h.c0, (hb.cell (p := ⟨c, 1, none⟩) hlt).trans h.c1, (hb.cell (p := ⟨c, 2, none⟩) hlt).trans h.c2, (hb.cell (p := ⟨c, 3, none⟩) hlt).trans h.c3, fun o => (hb.frozen (p := ⟨c, o, none⟩) hlt).trans (h.fr o), Nat.lt_of_lt_of_le h.lt hb.size⟩
theorem TgAt.grown {w w' : World} {c : Nat} {t : Ow.Tg} {row : Option Nat} (h : TgAt w c t) (hg : w.grownBy w' row) (hne : some c ≠ row) : TgAt w' c t :=
  ⟨(hg.cell_far ⟨c, 0, none⟩ h.lt hne).trans h.c0, (hg.cell_far ⟨c, 1, none⟩ h.lt hne).trans h.c1, (hg.cell_far ⟨c, 2, none⟩ h.lt hne).trans h.c2, (hg.cell_far ⟨c, 3, none⟩ h.lt hne).trans h.c3, fun o => (hg.frozen_far ⟨c, o, none⟩ h.lt hne).trans (h.fr o), Nat.lt_of_lt_of_le h.lt hg.size⟩
theorem TgAt.set0 {w : World} {c : Nat} {t : Ow.Tg} (h : TgAt w c t) (n : List UInt8) : TgAt (w.setCell ⟨c, 0, none⟩ (.string (str n))) c { t with n := n } := by
  obtain ⟨h0, h1, h2, h3, hf, hl⟩ := h
  exact ⟨by go_simp, by go_simp, by go_simp, by go_simp, fun o => by go_simp, by simpa [World.setCell] using hl⟩
theorem TgAt.set1 {w : World} {c : Nat} {t : Ow.Tg} (h : TgAt w c t) (n : List UInt8) : TgAt (w.setCell ⟨c, 1, none⟩ (.string (str n))) c { t with v := n } := by
  obtain ⟨h0, h1, h2, h3, hf, hl⟩ := h
  exact ⟨by go_simp, by go_simp, by go_simp, by go_simp, fun o => by go_simp, by simpa [World.setCell] using hl⟩
theorem TgAt.set3 {w : World} {c : Nat} {t : Ow.Tg} (h : TgAt w c t) (n : Nat) : TgAt (w.setCell ⟨c, 3, none⟩ (.int .i64 (n : Nat))) c { t with at_ := n } := by
  obtain ⟨h0, h1, h2, h3, hf, hl⟩ := h
  exact ⟨by go_simp, by go_simp, by go_simp, by go_simp, fun o => by go_simp, by simpa [World.setCell] using hl⟩
theorem RwAt.put3 {w : World} {c : Nat} {x : Rs} {u : Value} (h : RwAt w c x) : RwAt (w.setCell ⟨c, 3, none⟩ u) c (x.1, u) := by
  obtain ⟨h0, h1, h2, h3, h4, h5, h6, h7, h8, h9, hf, hl⟩ := h
  exact ⟨by go_simp, by go_simp, by go_simp, by go_simp, by go_simp, by go_simp, by go_simp, by go_simp, by go_simp, by go_simp, fun o => by go_simp, by simpa [World.setCell] using hl⟩
theorem tg_knew (w : World) (t : Ow.Tg) : KRow encTg 4 (w.alloc (.cells #[.string (str t.n), .string (str t.v), .int .i64 (t.off : Nat), .int .i64 (t.at_ : Nat)] 44)) (.slice (some ⟨w.heap.size, 0, none⟩) 1 1) [t] := by
  refine ⟨_, 1, rfl, Nat.le_refl _, by unfold maxLen; omega, (by rintro ⟨⟩), fun _ => ⟨w.heap.size, 0, rfl, by simp, fun i x hx j u hu => ?_⟩⟩
  have hi : i = 0 := by have := (List.getElem?_eq_some_iff.1 hx).1; simp at this; omega
  subst hi
  obtain rfl : t = x := by simpa using hx
  rw [cell_of_row _ _ _ _ _ _ (heap_alloc_new w _), Nat.zero_mul, Nat.zero_add]
  rw [← hu]
  simp [encTg]
/-- a text is what its bytes are -/
theorem text_is (x : ByteArray) : ∃ l, x = str l := ⟨x.data.toList, by apply ByteArray.ext; simp [str]⟩
theorem str_inj {a b : List UInt8} (h : str a = str b) : a = b := by
  have := congrArg (fun x : ByteArray => x.data.toList) h
  simpa [str] using this

namespace Ow
theorem tag1_parts {N : Nat} {l : List UInt8} {o1 : Out (List UInt8)} {o2 : Out Unit} {o3 : Out (List UInt8)} {o4 : Out Unit} (e1 : o1 = run 3 [] true l) (e2 : o2 = o1.bind fun _ r => lit [61, 34] r) (e3 : o3 = o2.bind fun _ r => str 34 [10] [92, 34, 110] 110 r) (e4 : o4 = o3.bind fun _ r => lit [34] r) :
    (∃ r, o4 = .fell r ∧ tag1 N l = .fell r) ∨ ∃ u r nm r1 v r3, o4 = .ok u r ∧ o1 = .ok nm r1 ∧ o3 = .ok v r3 ∧ tag1 N l = .ok ⟨nm, v, N - l.length, N - o2.rest.length⟩ r := by
  subst e4; subst e3; subst e2
  unfold tag1
  rw [← e1]
  cases o1 with
  | fell r => exact Or.inl ⟨r, rfl, rfl⟩
  | ok nm r1 =>
    show (∃ r, (((lit [61, 34] r1).bind _).bind _) = _ ∧ ((lit [61, 34] r1).bind _) = _) ∨ _
    cases h2 : lit [61, 34] r1 with
    | fell r => exact Or.inl ⟨r, by simp [Out.bind, h2], by simp [Out.bind]⟩
    | ok u2 r2 =>
      cases h3 : Ow.str 34 [10] [92, 34, 110] 110 r2 with
      | fell r => exact Or.inl ⟨r, by simp [Out.bind, h2, h3], by simp [Out.bind, h3]⟩
      | ok v r3 =>
        cases h4 : lit [34] r3 with
        | fell r => exact Or.inl ⟨r, by simp [Out.bind, h2, h3, h4], by simp [Out.bind, h3, h4]⟩
        | ok u4 r4 => exact Or.inr ⟨u4, r4, nm, r1, v, r3, by simp [Out.bind, h2, h3, h4], rfl, by simp [Out.bind, h2, h3], by simp [Out.bind, Out.rest, h2, h3, h4]⟩
end Ow

end Go.Proofs.YthniemoganoapaaDoor
