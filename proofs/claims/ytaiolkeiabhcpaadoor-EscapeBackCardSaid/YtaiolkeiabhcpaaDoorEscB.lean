/- The walks of package escape's Escape, and of strings.Index at "_x". -/
import Derived.Test.YtaiolkeiabhcpaaDoorEscA
import Derived.Test.YtaiolkeiabhcpaaDoorIdxLay
set_option maxRecDepth 100000
set_option linter.unusedVariables false
set_option linter.unusedSimpArgs false
namespace Go.Proofs.YtaiolkeiabhcpaaDoor
open Go.RowKit

theorem isb_kept {T e B b : Nat} {bs : List Value} {w w' : World} (h : Lib.IsBuilder T e B b bs w) (hb : Below w.heap.size w w') : Lib.IsBuilder T e B b bs w' := by
  have key : ∀ p, Lib.BuilderAt T e B b p bs w → Lib.BuilderAt T e B b p bs w' := fun p k => by
    obtain ⟨hB, v, h1, h2, h3⟩ := k
    exact ⟨hB, v, by rw [hb.block b (Array.getElem?_eq_some_iff.1 h1).1]; exact h1, own_below h2 hb, h3⟩
  rcases h with h | h
  · exact Or.inl (key _ h)
  · exact Or.inr (key _ h)
theorem isb_byte {B b : Nat} {l : List UInt8} {c : UInt8} {w : World} (h : Lib.BuilderAt 37 5 B b (.pointer (some ⟨b, 0, none⟩)) (Lib.byteCells l ++ [.int .u8 (c.toNat : Int)]) w) : Lib.IsBuilder 37 5 B b (Lib.byteCells (l ++ [c])) w := by
  have e : Lib.byteCells l ++ [.int .u8 (c.toNat : Int)] = Lib.byteCells (l ++ [c]) := by simp [Lib.byteCells]
  rw [e] at h; exact Or.inr h
theorem isb_text {B b : Nat} {l r : List UInt8} {w : World} (h : Lib.BuilderAt 37 5 B b (.pointer (some ⟨b, 0, none⟩)) (Lib.byteCells l ++ Lib.strCells (str r)) w) : Lib.IsBuilder 37 5 B b (Lib.byteCells (l ++ r)) w := by
  rw [Lib.strCells_eq, ← Lib.byteCells_append] at h; exact Or.inr h

/-- how long a needle the machine's own search takes: whatever it is -/
structure MxT (w : World) : Prop where
  cell : ∃ m, w.cell? ⟨2, 0, none⟩ = some (.int .i64 m)
  low : 2 < w.heap.size
theorem MxT.below {w w' : World} (h : MxT w) (hb : Below w.heap.size w w') : MxT w' := by
  obtain ⟨⟨m, hm⟩, hl⟩ := h
  exact ⟨⟨m, (hb.cell (p := ⟨2, 0, none⟩) hl).trans hm⟩, Nat.lt_of_lt_of_le hl hb.size⟩
theorem eidx_calls (l : List UInt8) (w : World) (hl : l.length < 4294967281) (hM : MxT w) :
    Calls Tryd.prog 23 #[.string (str l), .string ⟨#[95, 120]⟩] w fun e w' => e = .returned (.int .i64 (Lib.index l [95, 120])) ∧ w = w' := by
  obtain ⟨⟨m, hm⟩, _⟩ := hM
  have h := Any.strings_Index layIndex (str l) ⟨#[95, 120]⟩ m w (by rw [str_size]; exact hl) hm
  exact h.mono fun e w' ⟨h1, h2⟩ => ⟨h1, h2.symm⟩

namespace Ch
theorem esc_round (p w : Int) (l : List UInt8) (k : Nat) (hk : k < l.length) :
    escL p w (l.take k).getLast? (l.drop k) = (if leg p w l k && !isX (l.drop k) then [l[k]] else code l[k]) ++ escL p w (l.take (k + 1)).getLast? (l.drop (k + 1)) := by
  have e1 : l.drop k = l[k] :: l.drop (k + 1) := List.drop_eq_getElem_cons hk
  have e2 : (l.take (k + 1)).getLast? = some l[k] := by
    rw [List.take_succ_eq_append_getElem hk, List.getLast?_append, List.getLast?_singleton, Option.some_or]
  have e3 : leg p w l k = legC p w l[k] (l.take k).getLast?.isSome (midP (l.take k).getLast? (l.drop (k + 1))) := by
    have h := leg_split p w (l.take k) l[k] (l.drop (k + 1))
    rw [← e1, List.take_append_drop, List.length_take, Nat.min_eq_left (Nat.le_of_lt hk)] at h
    exact h
  rw [e2, e3, e1, isX_cons]
  conv => lhs; unfold escL
theorem esc_stop (p w : Int) (l : List UInt8) : escL p w (l.take l.length).getLast? (l.drop l.length) = [] := by
  rw [List.drop_length]; rfl
theorem code_len (c : UInt8) : (code c).length = 4 := rfl
end Ch

set_option maxHeartbeats 2000000 in
theorem escape_calls (p s : Int) (l : List UInt8) (w : World) (hl : l.length ≤ 4194304) (hT : ChT w) :
    Calls Tryd.prog 8 #[.int .i64 p, .int .i64 s, .string (str l)] w fun e w' => e = .returned (.string (str (Ch.esc p s l))) ∧ Below w.heap.size w w' := by
  have hsz := str_size l
  have H0 := Lib.hid (Lib.fresh_isBuilder 37 5 w)
  have B0 := Lib.hid ((Below.refl w.heap.size w).alloc (Nat.le_refl _) (.cells #[.pointer none, .slice none 0 0] 37))
  go_enter Tryd.func8, Tryd.ntmps8
  go_wp2_with fail
  go_loopw [11] (fun v wr => ∃ (k : Nat) (out : List UInt8), k ≤ l.length ∧ out.length ≤ 4 * k ∧ v = .int .i64 (k : Nat) ∧ Hid (Ch.esc p s l = out ++ Ch.escL p s (l.take k).getLast? (l.drop k) ∧ Below w.heap.size w wr ∧ Lib.IsBuilder 37 5 w.heap.size w.heap.size (Lib.byteCells out) wr)) (fun v _ => l.length - (intOf v).toNat)
  case atStart => exact ⟨0, [], by omega, by simp, rfl, rfl, B0.out, H0.out⟩
  case round =>
    obtain ⟨k, out, hk, ho, rfl, H⟩ := hrel
    by_cases h : k < l.length
    · have hk2 : k < (str l).size := by rw [hsz]; exact h
      have hlt : decide ((k : Int) < (l.length : Int)) = true := by simp; omega
      have hlt' : decide (k < l.length) = true := decide_eq_true h
      have hbyte : (str l)[k] = l[k] := rfl
      have hc := chlegal_calls p s l (k : Int) wr (by unfold maxLen; omega) (hT.below H.out.2.1)
      rw [Ch.legI_at] at hc
      have hsl := cut_from l (k : Int) k rfl (Nat.le_of_lt h)
      have hR := Lib.hid (Ch.esc_round p s l k h)
      cases hg : Ch.leg p s l k
      · rw [hg] at hc
        have HE := Lib.hid (show Ch.esc p s l = (out ++ Ch.code l[k]) ++ Ch.escL p s (l.take (k + 1)).getLast? (l.drop (k + 1)) by
          rw [H.out.1, hR.out, hg, List.append_assoc]; rfl)
        clear hR hg
        go_wp2_with fail
        refine hc.mono ?_; rintro e w1 ⟨rfl, b1⟩
        have B1 := Lib.hid (trans9 H.out.2.1 b1)
        have H1 := Lib.hid (isb_kept H.out.2.2 b1)
        clear H b1
        go_wp2_with fail
        refine (escaped_calls _ _).mono ?_; rintro e w2 ⟨rfl, b2⟩
        have B2 := Lib.hid (trans9 B1.out b2)
        have H2 := Lib.hid (isb_kept H1.out b2)
        clear b2 B1 H1
        go_wp2_with fail
        refine (bwrite_calls w.heap.size w.heap.size _ _ _ H2.out (by rw [Lib.byteCells_length, str_size, Ch.code_len]; omega) B2.out.size).mono ?_; rintro e w3 ⟨rfl, h3, b3⟩
        have B3 := Lib.hid (B2.out.trans b3)
        have H3 := Lib.hid (isb_text h3)
        clear h3 b3 B2 H2
        go_wp2_with fail
        go_roundw
        case rel => exact ⟨k + 1, _, h, by rw [List.length_append, Ch.code_len]; omega, by go_num, HE.out, B3.out, H3.out⟩
        case measure => simp [intOf]; omega
      · rw [hg] at hc
        cases hx : Ch.isX (l.drop k)
        · have hpc := epre_calls (l.drop k)
          rw [hx] at hpc
          have HE := Lib.hid (show Ch.esc p s l = (out ++ [l[k]]) ++ Ch.escL p s (l.take (k + 1)).getLast? (l.drop (k + 1)) by
            rw [H.out.1, hR.out, hg, hx, List.append_assoc]; rfl)
          clear hR hg hx
          go_wp2_with fail
          refine hc.mono ?_; rintro e w1 ⟨rfl, b1⟩
          have B1 := Lib.hid (trans9 H.out.2.1 b1)
          have H1 := Lib.hid (isb_kept H.out.2.2 b1)
          clear H b1
          go_wp2_with fail
          refine (hpc _).mono ?_; rintro e w2 ⟨rfl, rfl⟩
          go_wp2_with fail
          refine (bbyte_calls w.heap.size w.heap.size _ _ _ H1.out (by rw [Lib.byteCells_length]; omega) B1.out.size).mono ?_; rintro e w3 ⟨rfl, h3, b3, _⟩
          have B3 := Lib.hid (B1.out.trans b3)
          have H3 := Lib.hid (isb_byte h3)
          clear h3 b3 B1 H1
          go_wp2_with fail
          go_roundw
          case rel => exact ⟨k + 1, _, h, by rw [List.length_append]; simp; omega, by go_num, HE.out, B3.out, H3.out⟩
          case measure => simp [intOf]; omega
        · have hpc := epre_calls (l.drop k)
          rw [hx] at hpc
          have HE := Lib.hid (show Ch.esc p s l = (out ++ Ch.code l[k]) ++ Ch.escL p s (l.take (k + 1)).getLast? (l.drop (k + 1)) by
            rw [H.out.1, hR.out, hg, hx, List.append_assoc]; rfl)
          clear hR hg hx
          go_wp2_with fail
          refine hc.mono ?_; rintro e w1 ⟨rfl, b1⟩
          have B1 := Lib.hid (trans9 H.out.2.1 b1)
          have H1 := Lib.hid (isb_kept H.out.2.2 b1)
          clear H b1
          go_wp2_with fail
          refine (hpc _).mono ?_; rintro e w2 ⟨rfl, rfl⟩
          go_wp2_with fail
          refine (escaped_calls _ _).mono ?_; rintro e w2 ⟨rfl, b2⟩
          have B2 := Lib.hid (trans9 B1.out b2)
          have H2 := Lib.hid (isb_kept H1.out b2)
          clear b2 B1 H1
          go_wp2_with fail
          refine (bwrite_calls w.heap.size w.heap.size _ _ _ H2.out (by rw [Lib.byteCells_length, str_size, Ch.code_len]; omega) B2.out.size).mono ?_; rintro e w3 ⟨rfl, h3, b3⟩
          have B3 := Lib.hid (B2.out.trans b3)
          have H3 := Lib.hid (isb_text h3)
          clear h3 b3 B2 H2
          go_wp2_with fail
          go_roundw
          case rel => exact ⟨k + 1, _, h, by rw [List.length_append, Ch.code_len]; omega, by go_num, HE.out, B3.out, H3.out⟩
          case measure => simp [intOf]; omega
    · have hlt : decide ((k : Int) < (l.length : Int)) = false := by simp; omega
      have hlt' : decide (k < l.length) = false := decide_eq_false h
      have he : k = l.length := by omega
      have HE := Lib.hid (show Ch.esc p s l = out by rw [H.out.1, he, Ch.esc_stop, List.append_nil])
      clear he
      have hs := bstring_calls w.heap.size w.heap.size out wr H.out.2.2 H.out.2.1.size
      go_wp2_with fail
      refine hs.mono ?_; rintro e w2 ⟨rfl, b2⟩
      have B2 := Lib.hid (H.out.2.1.trans b2)
      go_wp2
      go_ret
      exact ⟨by rw [HE.out]; rfl, B2.out⟩

end Go.Proofs.YtaiolkeiabhcpaaDoor
