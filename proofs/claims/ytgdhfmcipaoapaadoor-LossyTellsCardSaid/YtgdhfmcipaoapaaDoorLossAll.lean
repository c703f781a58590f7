/- The walk of package lossy's All. -/
import Derived.Test.YtgdhfmcipaoapaaDoorLossA
import Derived.Test.YtgdhfmcipaoapaaDoorGrd
import Derived.Test.YtgdhfmcipaoapaaDoorTxRow
set_option maxRecDepth 100000
set_option linter.unusedVariables false
set_option linter.unusedSimpArgs false
namespace Go.Proofs.YtgdhfmcipaoapaaDoor
open Go.RowKit

/-- what the names become -/
def lossAll (p s : Int) (es : Nat → ByteArray) (i : Nat) : ByteArray := str (Ch.loss p s (es i).data.toList)

set_option maxHeartbeats 2000000 in
theorem lall_calls (p s : Int) (nv : Value) (n : Nat) (es : Nat → ByteArray) (w : World) (hn : n ≤ 10000) (hr : StrRow w nv n es) (hs : ∀ i, i < n → (es i).size ≤ 4194304) (hT : ChT w) :
    Calls Tryd.prog 10 #[.int .i64 p, .int .i64 s, nv] w fun e w' => e = .returned (.slice (some ⟨w.heap.size, 0, none⟩) n n) ∧ TxAt w' w.heap.size n (lossAll p s es) ∧ Below w.heap.size w w' := by
  obtain ⟨a, cap, rfl, h1, h2, h3⟩ := hr
  have Hcell := Lib.hid h3
  unfold maxLen at h2
  clear h3
  have hmk := make_texts n (by omega)
  go_enter Tryd.func10, Tryd.ntmps10
  go_wp2_with fail
  have b0 := (Below.refl w.heap.size w).alloc (Nat.le_refl _) (.cells (madeCells #[.string ⟨#[]⟩] n) 9)
  have T0 := Lib.hid (TxAt.new w n)
  have B0 := Lib.hid b0
  clear b0
  generalize w.alloc (.cells (madeCells #[.string ⟨#[]⟩] n) 9) = W0 at *
  go_loopw [15] (fun v wr => ∃ k : Nat, k ≤ n ∧ v = .int .i64 (k : Nat) ∧ Hid (Below w.heap.size w wr ∧ TxAt wr w.heap.size n (fun i => if i < k then lossAll p s es i else ⟨#[]⟩))) (fun v _ => n - (intOf v).toNat)
  case atStart => exact ⟨0, by omega, rfl, B0.out, T0.out.ext (fun i _ => by rw [if_neg (by omega)])⟩
  case round =>
    obtain ⟨k, hk, rfl, H⟩ := hrel
    by_cases h : k < n
    · obtain ⟨b, off, rfl, hbs, hcs⟩ := Hcell.out (by omega)
      have c0 := (H.out.1.cell (p := ⟨b, off + k, none⟩) hbs).trans (hcs k h).1
      have hlt : decide ((k : Int) < (n : Int)) = true := by simp; omega
      have hlt' : decide (k < n) = true := decide_eq_true h
      have he := lname_calls p s (es k).data.toList wr (by rw [← Lib.size_eq]; have := hs k h; unfold maxLen; omega) (hT.below H.out.1)
      rw [← str_self] at he
      clear hcs
      go_wp2_with fail
      refine he.mono ?_; rintro e w1 ⟨rfl, b1⟩
      have B1 := Lib.hid (trans9 H.out.1 b1)
      have T1 := H.out.2.below b1
      have c2 := T1.cell k h
      have f2 := T1.free k
      have T2 := Lib.hid ((T1.set k (lossAll p s es k)).ext (es' := fun i => if i < k + 1 then lossAll p s es i else ⟨#[]⟩) (fun i _ => by
        by_cases e : i = k
        · subst e; rw [if_pos rfl, if_pos (by omega)]
        · rw [if_neg e]
          by_cases h : i < k
          · rw [if_pos h, if_pos (by omega)]
          · rw [if_neg h, if_neg (by omega)]))
      clear T1 b1
      go_wp2_with fail
      go_roundw
      case rel => exact ⟨k + 1, h, by go_num, B1.out.setCell (Nat.le_refl _) _, T2.out⟩
      case measure => simp [intOf]; omega
    · have hlt : decide ((k : Int) < (n : Int)) = false := by simp; omega
      have hlt' : decide (k < n) = false := decide_eq_false h
      have T2 := Lib.hid (H.out.2.ext (es' := lossAll p s es) (fun i hi => by rw [if_pos (by omega)]))
      go_wp2
      go_ret
      exact ⟨rfl, T2.out, H.out.1⟩

end Go.Proofs.YtgdhfmcipaoapaaDoor
