/- The walk of package lossy's Name. -/
import Derived.Test.YtgdhfmcipaoapaaDoorLossPlainB
import Derived.Test.YtgdhfmcipaoapaaDoorChB
import Derived.Test.YtgdhfmcipaoapaaDoorByRow
set_option maxRecDepth 100000
set_option linter.unusedVariables false
set_option linter.unusedSimpArgs false
namespace Go.Proofs.YtgdhfmcipaoapaaDoor
open Go.RowKit

set_option maxHeartbeats 2000000 in
theorem lname_calls (p s : Int) (l : List UInt8) (w : World) (hl : l.length ≤ maxLen) (hT : ChT w) :
    Calls Tryd.prog 11 #[.int .i64 p, .int .i64 s, .string (str l)] w fun e w' => e = .returned (.string (str (Ch.loss p s l))) ∧ Below w.heap.size w w' := by
  have hsz := str_size l
  have hl' := hl
  unfold maxLen at hl'
  obtain ⟨cap, w0, hconv, b0, T0⟩ := bytes_of l w
  have B0 := Lib.hid b0
  have T0 := Lib.hid T0
  clear b0
  go_enter Tryd.func11, Tryd.ntmps11
  go_wp2_with fail
  clear hconv
  go_loopw [13] (fun v wr => ∃ k : Nat, k ≤ l.length ∧ v = .int .i64 (k : Nat) ∧ Hid (Below w.heap.size w wr ∧ BtAt wr w.heap.size l.length (fun i => if i < k then Ch.lossB p s l i else l.getD i 0))) (fun v _ => l.length - (intOf v).toNat)
  case atStart => exact ⟨0, by omega, rfl, B0.out, T0.out.ext (fun i _ => by rw [if_neg (by omega)])⟩
  case round =>
    obtain ⟨k, hk, rfl, H⟩ := hrel
    by_cases h : k < l.length
    · have hlt : decide ((k : Int) < (l.length : Int)) = true := decide_eq_true (by omega)
      have hlt' : decide (k < l.length) = true := decide_eq_true h
      have hc := chlegal_calls p s l (k : Int) wr hl (hT.below H.out.1)
      rw [Ch.legI_at] at hc
      cases hg : Ch.leg p s l k
      · rw [hg] at hc
        have HB := Lib.hid (show Ch.lossB p s l k = 95 by unfold Ch.lossB; rw [hg]; rfl)
        go_wp2_with fail
        refine hc.mono ?_; rintro e w1 ⟨rfl, b1⟩
        have B1 := Lib.hid (trans9 H.out.1 b1)
        have T1 := H.out.2.below b1
        have c2 := T1.cell k h
        have f2 := T1.free k h
        have T2 := Lib.hid ((T1.set k (Ch.lossB p s l k) (.int .u8 95) (by rw [HB.out]; rfl)).ext (es' := fun i => if i < k + 1 then Ch.lossB p s l i else l.getD i 0) (fun i _ => by
          by_cases e : i = k
          · subst e; rw [if_pos rfl, if_pos (by omega)]
          · rw [if_neg e]
            by_cases h : i < k
            · rw [if_pos h, if_pos (by omega)]
            · rw [if_neg h, if_neg (by omega)]))
        clear T1 b1
        go_wp2_with fail
        go_roundw
        case rel => exact ⟨k + 1, h, by go_num, B1.out.setCell (Nat.le_refl _) _, T2.out⟩
        case measure => simp [intOf]; omega
      · rw [hg] at hc
        have HB := Lib.hid (show Ch.lossB p s l k = l.getD k 0 by unfold Ch.lossB; rw [hg]; rfl)
        go_wp2_with fail
        refine hc.mono ?_; rintro e w1 ⟨rfl, b1⟩
        have B1 := Lib.hid (trans9 H.out.1 b1)
        have T1 := H.out.2.below b1
        have T2 := Lib.hid (T1.ext (es' := fun i => if i < k + 1 then Ch.lossB p s l i else l.getD i 0) (fun i _ => by
          by_cases e : i = k
          · subst e; rw [if_neg (by omega), if_pos (by omega), HB.out]
          · by_cases h : i < k
            · rw [if_pos h, if_pos (by omega)]
            · rw [if_neg h, if_neg (by omega)]))
        clear T1 b1
        go_wp2_with fail
        go_roundw
        case rel => exact ⟨k + 1, h, by go_num, B1.out, T2.out⟩
        case measure => simp [intOf]; omega
    · have hlt : decide ((k : Int) < (l.length : Int)) = false := decide_eq_false (by omega)
      have hlt' : decide (k < l.length) = false := decide_eq_false h
      have T2 := H.out.2.ext (es' := fun i => (Ch.loss p s l).getD i 0) (fun i hi => by rw [if_pos (by omega), Ch.loss_at p s l i hi])
      rw [← Ch.loss_len p s l] at T2
      have hconv := text_of cap T2
      rw [Ch.loss_len p s l] at hconv
      have B1 := Lib.hid H.out.1
      clear T2 H
      go_wp2
      go_ret
      exact ⟨rfl, B1.out⟩

end Go.Proofs.YtgdhfmcipaoapaaDoor
