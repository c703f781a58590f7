/- The walks of package openword's escape, Quote, Help (layer 17). -/
import Derived.Test.YthniemoganoapaaDoorOpD
set_option maxRecDepth 100000
set_option linter.unusedVariables false
set_option linter.unusedSimpArgs false
namespace Go.Proofs.YthniemoganoapaaDoor
open Go.RowKit
attribute [local go_sem ↓] Go.wp_at_zero Go.wp_at_succ

theorem isb_by {B b : Nat} {l : List UInt8} {c : UInt8} {w : World} (h : Lib.BuilderAt 74 5 B b (.pointer (some ⟨b, 0, none⟩)) (Lib.byteCells l ++ [.int .u8 (c.toNat : Int)]) w) : Lib.IsBuilder 74 5 B b (Lib.byteCells (l ++ [c])) w := by
  have e : Lib.byteCells l ++ [.int .u8 (c.toNat : Int)] = Lib.byteCells (l ++ [c]) := by simp [Lib.byteCells]
  rw [e] at h; exact Or.inr h
namespace Ow
theorem esc_step {set : Nat} {q : Bool} (h : (set, q) = (224, true) ∨ (set, q) = (192, false)) (c : UInt8) (l : List UInt8) :
    quote q (c :: l) = (if inS set c = false then [c] else if c = 10 then [92, 110] else [92, c]) ++ quote q l := by
  have e : (if c = 92 then [92, 92] else if c = 34 ∧ q = true then [92, 34] else if c = 10 then [92, 110] else [c]) = (if inS set c = false then [c] else if c = 10 then [92, 110] else [92, c]) := by
    rcases h with h | h <;> (injection h with h1 h2; subst h1; subst h2)
    · rw [in224]
      by_cases h1 : c = 92
      · subst h1; rfl
      · by_cases h2 : c = 34
        · subst h2; rfl
        · by_cases h3 : c = 10
          · subst h3; rfl
          · simp [h1, h2, h3]
    · rw [in192]
      by_cases h1 : c = 92
      · subst h1; rfl
      · by_cases h3 : c = 10
        · subst h3; rfl
        · simp [h1, h3]
  rw [← e]; rfl
end Ow

set_option maxHeartbeats 8000000 in
theorem oescape_calls (set : Nat) (q : Bool) (hsq : (set, q) = (224, true) ∨ (set, q) = (192, false)) (l : List UInt8) (w : World) (hT : OwT w w.heap.size) (hl : l.length ≤ 1000000) :
    Calls Tryd.prog 26 #[.string (str l), .int .u8 (set : Nat)] w fun e w' => e = .returned (.string (str (Ow.quote q l))) ∧ Below w.heap.size w w' := by
  have hsz := str_size l
  have hset : set < 256 := by rcases hsq with h | h <;> (injection h with h1 h2; subst h1; decide)
  have HI := Lib.hid (fun c W (hW : OwT W w.heap.size) => oin_calls set c W w.heap.size hset hW)
  have HE := Lib.hid (fun c r => Ow.esc_step hsq c r)
  have H0 := Lib.hid (Lib.fresh_isBuilder 74 5 w)
  have B0 := Lib.hid ((Below.refl w.heap.size w).alloc (Nat.le_refl _) (.cells #[.pointer none, .slice none 0 0] 74))
  have HT := Lib.hid hT
  obtain ⟨Q, hQ⟩ : ∃ Q, Q = Ow.quote q l := ⟨_, rfl⟩
  rw [← hQ]
  have HQ := Lib.hid (show Q = [] ++ Ow.quote q (l.drop 0) from hQ)
  clear hQ hT hset hsq
  go_enter Tryd.func26, Tryd.ntmps26
  go_wp2_with fail
  go_loopw [9] (fun v wr => ∃ (i : Nat) (out : List UInt8), i ≤ l.length ∧ out.length ≤ 2 * i ∧ v = .int .i64 (i : Nat) ∧ Hid (Q = out ++ Ow.quote q (l.drop i)) ∧ Hid (Below w.heap.size w wr) ∧ Hid (Lib.IsBuilder 74 5 w.heap.size w.heap.size (Lib.byteCells out) wr)) (fun v _ => l.length - (intOf v).toNat)
  case atStart => exact ⟨0, [], Nat.zero_le _, Nat.zero_le _, rfl, HQ, B0, H0⟩
  case round =>
    clear HQ H0 B0
    obtain ⟨i, out, hi, ho, rfl, HQ, HB, HBu⟩ := hrel
    by_cases h : i < l.length
    · have hk2 : i < (str l).size := by rw [hsz]; exact h
      have d1 : decide ((i : Int) < (l.length : Int)) = true := decide_eq_true (by omega)
      have d1' : decide (i < l.length) = true := decide_eq_true h
      obtain ⟨c, hc⟩ : ∃ c, c = (str l)[i]'hk2 := ⟨_, rfl⟩
      have hI := HI.out c wr (HT.out.kept (fun j hj => HB.out.block j hj))
      have HS := Lib.hid (show Q = (out ++ (if Ow.inS set c = false then [c] else if c = 10 then [92, 110] else [92, c])) ++ Ow.quote q (l.drop (i + 1)) by
        rw [HQ.out, List.drop_eq_getElem_cons h, HE.out, hc, List.append_assoc]; rfl)
      clear HQ
      rw [hc] at hI
      have hw : IntKind.i64.wrap ((i : Int) + 1) = ((i + 1 : Nat) : Int) := by rw [show (i : Int) + 1 = ((i + 1 : Nat) : Int) by omega]; exact IntWalk.i64_in _ (by omega)
      cases g : Ow.inS set c with
      | false =>
        rw [g, if_pos rfl] at HS
        rw [← hc, g, hc] at hI
        have hcn := Lib.hid (show ((str l)[i]'hk2) = c from hc.symm)
        clear g hc
        go_wp2_with fail
        refine hI.mono ?_; rintro e w1 ⟨rfl, rfl⟩
        clear hI
        go_wp2_with fail
        refine (bbyte_calls w.heap.size w.heap.size (Lib.byteCells out) ((str l)[i]'hk2).toNat _ HBu.out (by rw [Lib.byteCells_length]; omega) HB.out.size).mono ?_; rintro e w3 ⟨rfl, h3, b3, _⟩
        have B3 := Lib.hid (HB.out.trans b3)
        have H3 := Lib.hid (show Lib.IsBuilder 74 5 w.heap.size w.heap.size (Lib.byteCells (out ++ [c])) w3 by rw [← hcn.out]; exact isb_by h3)
        clear h3 b3 HB HBu
        go_wp2_with fail
        go_roundw
        case rel => exact ⟨i + 1, _, h, by rw [List.length_append]; simp; omega, by go_num, HS, B3, H3⟩
        case measure => simp [intOf]; omega
      | true =>
        rw [g, if_neg (by decide)] at HS
        rw [← hc, g, hc] at hI
        clear g
        by_cases h10 : c = 10
        · rw [if_pos h10] at HS
          have e1 : ((((str l)[i]'hk2).toNat : Int) == 10) = true := by rw [← hc, h10]; rfl
          clear hc h10
          go_wp2_with fail
          refine hI.mono ?_; rintro e w1 ⟨rfl, rfl⟩
          clear hI
          go_wp2_with fail
          refine (bwrite_calls w.heap.size w.heap.size (Lib.byteCells out) (str [92, 110]) _ HBu.out (by rw [Lib.byteCells_length, str_size]; simp; omega) HB.out.size).mono ?_; rintro e w3 ⟨rfl, h3, b3⟩
          have B3 := Lib.hid (HB.out.trans b3)
          have H3 := Lib.hid (isb_tx h3)
          clear h3 b3 HB HBu
          go_wp2_with fail
          go_roundw
          case rel => exact ⟨i + 1, _, h, by rw [List.length_append]; simp; omega, by go_num, HS, B3, H3⟩
          case measure => simp [intOf]; omega
        · rw [if_neg h10] at HS
          have e1 : ((((str l)[i]'hk2).toNat : Int) == 10) = false := by rw [← hc]; exact beq_eq_false_iff_ne.2 (byte_ne h10)
          have hcn := Lib.hid (show ((str l)[i]'hk2) = c from hc.symm)
          clear hc h10
          go_wp2_with fail
          refine hI.mono ?_; rintro e w1 ⟨rfl, rfl⟩
          clear hI
          go_wp2_with fail
          refine (bbyte_calls w.heap.size w.heap.size (Lib.byteCells out) 92 _ HBu.out (by rw [Lib.byteCells_length]; omega) HB.out.size).mono ?_; rintro e w3 ⟨rfl, h3, b3, _⟩
          have B3 := Lib.hid (HB.out.trans b3)
          have H3 := Lib.hid (isb_by (c := 92) h3)
          clear h3 b3 HB HBu
          go_wp2_with fail
          refine (bbyte_calls w.heap.size w.heap.size (Lib.byteCells (out ++ [92])) ((str l)[i]'hk2).toNat _ H3.out (by rw [Lib.byteCells_length, List.length_append]; simp; omega) B3.out.size).mono ?_; rintro e w4 ⟨rfl, h4, b4, _⟩
          have B4 := Lib.hid (B3.out.trans b4)
          have H4 := Lib.hid (show Lib.IsBuilder 74 5 w.heap.size w.heap.size (Lib.byteCells (out ++ [92, c])) w4 by rw [← hcn.out, show out ++ [92, (str l)[i]'hk2] = out ++ [92] ++ [(str l)[i]'hk2] by simp]; exact isb_by h4)
          clear h4 b4 B3 H3
          go_wp2_with fail
          go_roundw
          case rel => exact ⟨i + 1, _, h, by rw [List.length_append]; simp; omega, by go_num, HS, B4, H4⟩
          case measure => simp [intOf]; omega
    · have d1 : decide ((i : Int) < (l.length : Int)) = false := decide_eq_false (by omega)
      have d1' : decide (i < l.length) = false := decide_eq_false h
      have HR := Lib.hid (show Q = out by rw [HQ.out, List.drop_eq_nil_iff.2 (by omega)]; show out ++ [] = out; rw [List.append_nil])
      clear HQ
      go_wp2_with fail
      refine (bstring_calls w.heap.size w.heap.size _ _ HBu.out HB.out.size).mono ?_; rintro e w4 ⟨rfl, b4⟩
      have B4 := Lib.hid (HB.out.trans b4)
      clear b4 HB HBu
      go_wp2
      go_ret
      exact ⟨by rw [HR.out]; rfl, B4.out⟩

set_option maxHeartbeats 1000000 in
theorem oquote_calls (l : List UInt8) (w : World) (hT : OwT w w.heap.size) (hl : l.length ≤ 1000000) :
    Calls Tryd.prog 13 #[.string (str l)] w fun e w' => e = .returned (.string (str (Ow.quote true l))) ∧ Below w.heap.size w w' := by
  have hC := oescape_calls 224 true (Or.inl rfl) l w hT hl
  generalize Ow.quote true l = R at *
  go_enter Tryd.func13, Tryd.ntmps13
  go_wp2_with fail
  refine hC.mono ?_; rintro e w1 ⟨rfl, b1⟩
  go_wp2
  go_ret
  exact ⟨rfl, b1⟩

set_option maxHeartbeats 1000000 in
theorem ohelp_calls (l : List UInt8) (w : World) (hT : OwT w w.heap.size) (hl : l.length ≤ 1000000) :
    Calls Tryd.prog 15 #[.string (str l)] w fun e w' => e = .returned (.string (str (Ow.quote false l))) ∧ Below w.heap.size w w' := by
  have hC := oescape_calls 192 false (Or.inr rfl) l w hT hl
  generalize Ow.quote false l = R at *
  go_enter Tryd.func15, Tryd.ntmps15
  go_wp2_with fail
  refine hC.mono ?_; rintro e w1 ⟨rfl, b1⟩
  go_wp2
  go_ret
  exact ⟨rfl, b1⟩

end Go.Proofs.YthniemoganoapaaDoor
