/- The walk of the law CharsetJoins. -/
import Derived.Test.YtaljohmiiigecaaDoorChK
import Derived.Laws.BytesArg
import Derived.Laws.OwnMore
import Derived.Lib.Builder
import Derived.Deep.DeepCutAuto
set_option maxRecDepth 100000
set_option linter.unusedVariables false
set_option linter.unusedSimpArgs false
namespace Go.Proofs.YtaljohmiiigecaaDoor
open Go.RowKit

namespace Ch
/-- n noughts -/
def nul (n : Nat) : List UInt8 := List.replicate n 0
theorem nul_text {w : World} {b n : Nat} (h : ∀ j, j < n → w.cell? ⟨b, j, none⟩ = some (.int .u8 0)) : (convert 27 9 (.slice (some ⟨b, 0, none⟩) n n)).run Tryd.prog w = .ok (.string (str (nul n))) w := by
  have e : strOfNums (List.replicate n 0) = str (nul n) := by
    unfold strOfNums nul
    rw [List.map_replicate]
    rfl
  rw [← e]
  exact run_convert_bytes_arg w 27 5 Tryd.underlying27 Tryd.underlying5 b 0 n n (List.replicate n 0) (by simp) (fun i hi => by
    rw [Nat.zero_add, h i hi]; simp [hi]) 9 Tryd.underlying9
theorem nul_made (w : World) (n : Nat) (t : TypeId) : ∀ j, j < n → (w.alloc (.cells (madeCells #[.int .u8 0] n) t)).cell? ⟨w.heap.size, j, none⟩ = some (.int .u8 0) := fun j hj => by
  have hb : (w.alloc (.cells (madeCells #[.int .u8 0] n) t)).heap[w.heap.size]? = some (.cells (madeCells #[.int .u8 0] n) t (0, 0)) := heap_alloc_new w _
  rw [Lib.cell_of_heap hb]
  rw [← Array.getElem?_toList, toList_madeCells_one]
  simp [hj]
theorem nul_make (n : Nat) (hn : n ≤ 20000) (w : World) : (Instr.makeSlice 27 (.int .i64 (n : Int)) (.int .i64 (n : Int))).run Tryd.prog w = .ok (.slice (some ⟨w.heap.size, 0, none⟩) n n) (w.alloc (.cells (madeCells #[.int .u8 0] n) 5)) := by
  obtain ⟨i, hi, hz, h1, h2⟩ := info_parts (P := Tryd.prog) (t := 5) (z := .int .u8 0) (n := 1) (m := 1) (by kernel_rfl)
  have h := run_make (P := Tryd.prog) w 27 5 i (.int .u8 0) Tryd.underlying27 hi hz .i64 .i64 n n (by omega) (by omega) (by rw [h2]; omega) (by omega)
  rw [h, h1]
  simp [Value.cells]
theorem isName_nil (p w : Int) : isName p w [] = false := rfl
theorem bad_nil (p w : Int) : bad p w [] = -1 := rfl
theorem isName_long {p w : Int} {l : List UInt8} (h : 60 < l.length) : isName p w l = false := by
  unfold isName; rw [decide_eq_false (show ¬ l.length ≤ 60 by omega)]; simp
end Ch

set_option maxHeartbeats 4000000 in
theorem joins_walk (y : Int) (a b : List UInt8) (what : Bool) (w : World) (hy : 0 ≤ y) (hy2 : y ≤ 255) (ha : a.length ≤ maxLen) (hb : b.length ≤ maxLen) (hT : ChT w) :
    Calls Tryd.prog 5 #[.int .u8 y, .string (str a), .string (str b), .bool what] w fun e w' => e = .returned (.bool true) ∧ Below w.heap.size w w' := by
  have hsa := str_size a
  have hsb := str_size b
  have ha' := ha
  have hb' := hb
  unfold maxLen at ha' hb'
  go_enter Tryd.func5, Tryd.ntmps5
  go_wp2_with fail
  refine (chknown_calls _ hT).mono ?_; rintro e w1 ⟨rfl, b1⟩
  have T1 := hT.below b1
  have B1 := Lib.hid b1
  clear b1 hT
  by_cases h1 : 80 < a.length
  · have d1 : decide ((80 : Int) < (a.length : Int)) = true := decide_eq_true (by omega)
    have d1' : decide (80 < a.length) = true := decide_eq_true h1
    go_wp2
    go_ret
    exact ⟨rfl, B1.out⟩
  have d1 : decide ((80 : Int) < (a.length : Int)) = false := decide_eq_false (by omega)
  have d1' : decide (80 < a.length) = false := decide_eq_false h1
  by_cases h2 : 80 < b.length
  · have d2 : decide ((80 : Int) < (b.length : Int)) = true := decide_eq_true (by omega)
    have d2' : decide (80 < b.length) = true := decide_eq_true h2
    go_wp2
    go_ret
    exact ⟨rfl, B1.out⟩
  have d2 : decide ((80 : Int) < (b.length : Int)) = false := decide_eq_false (by omega)
  have d2' : decide (80 < b.length) = false := decide_eq_false h2
  obtain ⟨P, hP1, hP4, HP⟩ : ∃ P : Int, 1 ≤ P ∧ P ≤ 4 ∧ Hid (1 + y % 4 = P) := ⟨1 + y % 4, by omega, by omega, rfl⟩
  go_upto_region 5 with (fail)
  go_cut [9, 10] (fun s9 s10 wx => s9 = .int .i64 P ∧ s10 = .int .i64 0 ∧ wx = w1)
  case first =>
    go_wp2_with fail
    go_meet
    exact ⟨by rw [HP.out], rfl, rfl⟩
  case rest =>
    obtain ⟨rfl, rfl, rfl⟩ := hcut
    have hmk : ∀ w : World, (Instr.makeSlice 27 (.int .i64 61) (.int .i64 61)).run Tryd.prog w = .ok (.slice (some ⟨w.heap.size, 0, none⟩) 61 61) (w.alloc (.cells (madeCells #[.int .u8 0] 61) 5)) := fun w => Ch.nul_make 61 (by omega) w
    have hw : ∃ S : Int, (S = 0 ∨ S = 1) ∧ Hid (S = if what then 1 else 0) := ⟨if what then 1 else 0, by cases what <;> simp, rfl⟩
    obtain ⟨S, hS, HS⟩ := hw
    go_upto_if 26 with (fail)
    go_cut [10] (fun s10 wx => s10 = .int .i64 S ∧ wx = wc)
    case first =>
      cases what
      all_goals
        go_wp2_with fail
        go_meet
        exact ⟨by rw [HS.out]; rfl, rfl⟩
    case rest =>
      obtain ⟨rfl, rfl⟩ := hcut
      have b2 := (Below.refl wc.heap.size wc).alloc (Nat.le_refl _) (.cells (madeCells #[.int .u8 0] 61) 5)
      have T2 := T1.below b2
      have B2 := Lib.hid (trans9 B1.out b2)
      have hcv := Ch.nul_text (Ch.nul_made wc 61 5)
      have HQ := Lib.hid (show 1 ≤ P ∧ P ≤ 4 ∧ (S = 0 ∨ S = 1) from ⟨hP1, hP4, hS⟩)
      have hn1 := fun W hW => chis_calls P S [] W (by decide) hW
      have hn2 := fun W hW => chis_calls P S (Ch.nul 61) W (by decide) hW
      have hn3 := fun W hW => chbad_calls P S [] W (by decide) hW
      rw [Ch.isName_nil] at hn1
      rw [Ch.isName_long (show 60 < (Ch.nul 61).length by decide)] at hn2
      rw [Ch.bad_nil] at hn3
      have hia := fun W hW => chis_calls P S a W ha hW
      have hib := fun W hW => chis_calls P S b W hb hW
      have hba := fun W hW => chbad_calls P S a W ha hW
      have hl3 : (a ++ b).length ≤ maxLen := by rw [List.length_append]; unfold maxLen; omega
      have hab := fun W hW => chis_calls P S (a ++ b) W hl3 hW
      have hadd := add_str a b (by omega)
      have hdef := Lib.hid (show Ch.isName P S a = (decide (1 ≤ a.length) && decide (a.length ≤ 60) && decide (Ch.bad P S a < 0)) from rfl)
      have hj := Lib.hid (fun x y => Ch.isName_join (p := P) (w := S) (a := a) (b := b) x y)
      clear hP1 hP4 hS HP HS HQ b2
      go_wp2_with fail
      clear hmk
      generalize wc.alloc (.cells (madeCells #[.int .u8 0] 61) 5) = W2 at *
      refine (hn1 _ T2).mono ?_; rintro e w3 ⟨rfl, b3⟩
      have T3 := T2.below b3
      have B3 := Lib.hid (trans9 B2.out b3)
      clear b3 hcv
      go_wp2_with fail
      refine (hn2 _ T3).mono ?_; rintro e w4 ⟨rfl, b4⟩
      have T4 := T3.below b4
      have B4 := Lib.hid (trans9 B3.out b4)
      clear b4
      go_wp2_with fail
      refine (hn3 _ T4).mono ?_; rintro e w5 ⟨rfl, b5⟩
      have T5 := T4.below b5
      have B5 := Lib.hid (trans9 B4.out b5)
      clear b5 hn1 hn2 hn3 T2 T3 T4 B1 B2 B3 B4
      go_wp2_with fail
      have hD := hdef.out
      generalize hV : Ch.bad P S a = V at *
      clear hV
      cases hx : Ch.isName P S a
      · rw [hx] at hia hD
        by_cases c3 : V < 0
        · by_cases c1 : 1 ≤ a.length
          · by_cases c2 : a.length ≤ 60
            · rw [decide_eq_true c3, decide_eq_true c1, decide_eq_true c2] at hD; cases hD
            · skip
              have d3 : decide (V < 0) = true := decide_eq_true c3
              have e1 : decide ((1 : Int) ≤ (a.length : Int)) = true := decide_eq_true (by omega)
              have e1' : decide (1 ≤ a.length) = true := decide_eq_true c1
              have e2 : decide ((a.length : Int) ≤ 60) = false := decide_eq_false (by omega)
              have e2' : decide (a.length ≤ 60) = false := decide_eq_false c2
              clear hdef hj hx hD
              refine (hia _ T5).mono ?_; rintro e w6 ⟨rfl, b6⟩
              have T6 := T5.below b6
              have B6 := Lib.hid (trans9 B5.out b6)
              clear b6
              go_wp2_with fail
              refine (hia _ T6).mono ?_; rintro e w7 ⟨rfl, b7⟩
              have T7 := T6.below b7
              have B7 := Lib.hid (trans9 B6.out b7)
              clear b7
              go_wp2_with fail
              refine (hba _ T7).mono ?_; rintro e w8 ⟨rfl, b8⟩
              have T8 := T7.below b8
              have B8 := Lib.hid (trans9 B7.out b8)
              clear b8
              go_wp2
              go_ret
              exact ⟨rfl, B8.out⟩
          · skip
            have d3 : decide (V < 0) = true := decide_eq_true c3
            have e1 : decide ((1 : Int) ≤ (a.length : Int)) = false := decide_eq_false (by omega)
            have e1' : decide (1 ≤ a.length) = false := decide_eq_false c1
            clear hdef hj hx hD
            refine (hia _ T5).mono ?_; rintro e w6 ⟨rfl, b6⟩
            have T6 := T5.below b6
            have B6 := Lib.hid (trans9 B5.out b6)
            clear b6
            go_wp2_with fail
            refine (hia _ T6).mono ?_; rintro e w7 ⟨rfl, b7⟩
            have T7 := T6.below b7
            have B7 := Lib.hid (trans9 B6.out b7)
            clear b7
            go_wp2_with fail
            refine (hba _ T7).mono ?_; rintro e w8 ⟨rfl, b8⟩
            have T8 := T7.below b8
            have B8 := Lib.hid (trans9 B7.out b8)
            clear b8
            go_wp2
            go_ret
            exact ⟨rfl, B8.out⟩
        · skip
          have d3 : decide (V < 0) = false := decide_eq_false c3
          clear hdef hj hx hD
          refine (hia _ T5).mono ?_; rintro e w6 ⟨rfl, b6⟩
          have T6 := T5.below b6
          have B6 := Lib.hid (trans9 B5.out b6)
          clear b6
          go_wp2_with fail
          refine (hia _ T6).mono ?_; rintro e w7 ⟨rfl, b7⟩
          have T7 := T6.below b7
          have B7 := Lib.hid (trans9 B6.out b7)
          clear b7
          go_wp2_with fail
          refine (hba _ T7).mono ?_; rintro e w8 ⟨rfl, b8⟩
          have T8 := T7.below b8
          have B8 := Lib.hid (trans9 B7.out b8)
          clear b8
          go_wp2
          go_ret
          exact ⟨rfl, B8.out⟩
      · cases hy : Ch.isName P S b
        · rw [hx] at hia hD
          rw [hy] at hib
          have hD' := hD.symm
          rw [Bool.and_eq_true, Bool.and_eq_true, decide_eq_true_eq, decide_eq_true_eq, decide_eq_true_eq] at hD'
          obtain ⟨⟨c1, c2⟩, c3⟩ := hD'
          clear hy
          have d3 : decide (V < 0) = true := decide_eq_true c3
          have e1 : decide ((1 : Int) ≤ (a.length : Int)) = true := decide_eq_true (by omega)
          have e1' : decide (1 ≤ a.length) = true := decide_eq_true c1
          have e2 : decide ((a.length : Int) ≤ 60) = true := decide_eq_true (by omega)
          have e2' : decide (a.length ≤ 60) = true := decide_eq_true c2
          clear hdef hj hx hD
          refine (hia _ T5).mono ?_; rintro e w6 ⟨rfl, b6⟩
          have T6 := T5.below b6
          have B6 := Lib.hid (trans9 B5.out b6)
          clear b6
          go_wp2_with fail
          refine (hib _ T6).mono ?_; rintro e w7 ⟨rfl, b7⟩
          have T7 := T6.below b7
          have B7 := Lib.hid (trans9 B6.out b7)
          clear b7
          go_wp2_with fail
          refine (hia _ T7).mono ?_; rintro e w8 ⟨rfl, b8⟩
          have T8 := T7.below b8
          have B8 := Lib.hid (trans9 B7.out b8)
          clear b8
          go_wp2_with fail
          refine (hba _ T8).mono ?_; rintro e w9 ⟨rfl, b9⟩
          have T9 := T8.below b9
          have B9 := Lib.hid (trans9 B8.out b9)
          clear b9
          go_wp2
          go_ret
          exact ⟨rfl, B9.out⟩
        · have hz := hj.out hx hy
          by_cases h6 : a.length + b.length ≤ 60
          · have d6 : decide ((a.length : Int) + (b.length : Int) ≤ 60) = true := decide_eq_true (by omega)
            have d6' : decide (a.length + b.length ≤ 60) = true := decide_eq_true h6
            rw [d6'] at hz
            rw [hx] at hia
            rw [hy] at hib
            rw [hz] at hab
            clear hdef hj hx hy hz hD
            refine (hia _ T5).mono ?_; rintro e w6 ⟨rfl, b6⟩
            have T6 := T5.below b6
            have B6 := Lib.hid (trans9 B5.out b6)
            clear b6
            go_wp2_with fail
            refine (hib _ T6).mono ?_; rintro e w7 ⟨rfl, b7⟩
            have T7 := T6.below b7
            have B7 := Lib.hid (trans9 B6.out b7)
            clear b7
            go_wp2_with fail
            refine (hab _ T7).mono ?_; rintro e w8 ⟨rfl, b8⟩
            have B8 := Lib.hid (trans9 B7.out b8)
            clear b8
            go_wp2
            go_ret
            exact ⟨rfl, B8.out⟩
          · have d6 : decide ((a.length : Int) + (b.length : Int) ≤ 60) = false := decide_eq_false (by omega)
            have d6' : decide (a.length + b.length ≤ 60) = false := decide_eq_false h6
            rw [d6'] at hz
            rw [hx] at hia
            rw [hy] at hib
            rw [hz] at hab
            clear hdef hj hx hy hz hD
            refine (hia _ T5).mono ?_; rintro e w6 ⟨rfl, b6⟩
            have T6 := T5.below b6
            have B6 := Lib.hid (trans9 B5.out b6)
            clear b6
            go_wp2_with fail
            refine (hib _ T6).mono ?_; rintro e w7 ⟨rfl, b7⟩
            have T7 := T6.below b7
            have B7 := Lib.hid (trans9 B6.out b7)
            clear b7
            go_wp2_with fail
            refine (hab _ T7).mono ?_; rintro e w8 ⟨rfl, b8⟩
            have B8 := Lib.hid (trans9 B7.out b8)
            clear b8
            go_wp2
            go_ret
            exact ⟨rfl, B8.out⟩
theorem joins_ba (y : Int) (a b : ByteArray) (what : Bool) (w : World) (hy : 0 ≤ y) (hy2 : y ≤ 255) (ha : a.size ≤ maxLen) (hb : b.size ≤ maxLen) (hT : ChT w) :
    Calls Tryd.prog 5 #[.int .u8 y, .string a, .string b, .bool what] w fun e w' => e = .returned (.bool true) ∧ Below w.heap.size w w' := by
  rw [str_self a, str_self b]
  exact joins_walk y _ _ what w hy hy2 (by rw [← str_size, ← str_self]; exact ha) (by rw [← str_size, ← str_self]; exact hb) hT

end Go.Proofs.YtaljohmiiigecaaDoor
