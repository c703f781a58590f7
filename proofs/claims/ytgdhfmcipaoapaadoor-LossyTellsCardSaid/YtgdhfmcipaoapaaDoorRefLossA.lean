/- The walk of the reference's Lossy (layer 14). -/
import Derived.Test.YtgdhfmcipaoapaaDoorLossPlainB
import Derived.Test.YtgdhfmcipaoapaaDoorRefChA
import Derived.Test.YtgdhfmcipaoapaaDoorByRow
set_option maxRecDepth 100000
set_option linter.unusedVariables false
set_option linter.unusedSimpArgs false
namespace Go.Proofs.YtgdhfmcipaoapaaDoor
open Go.RowKit

set_option maxHeartbeats 2000000 in
theorem rloss_calls (p s : Int) (l : List UInt8) (w : World) (hl : l.length ≤ 4194304) :
    Calls Tryd.prog 12 #[.int .i64 p, .int .i64 s, .string (str l)] w fun e w' => e = .returned (.string (str (Ch.loss p s l))) ∧ Below w.heap.size w w' := by
  have hsz := str_size l
  have hlm : l.length ≤ maxLen := by unfold maxLen; omega
  obtain ⟨i0, hi, hz0, hz1, hz2⟩ := info_parts (P := Tryd.prog) (t := 5) (z := .int .u8 0) (n := 1) (m := 1) (by kernel_rfl)
  have Hi := Lib.hid (And.intro hi (And.intro hz0 (And.intro hz1 hz2)))
  clear hi hz0 hz1 hz2
  have HL := Lib.hid (Ch.loss_len p s l)
  go_enter Tryd.func12, Tryd.ntmps12
  go_wp2_with fail
  go_loopw [7, 8] (fun vo v wr => ∃ (k : Nat), k ≤ l.length ∧ v = .int .i64 (k : Nat) ∧ Hid (Below w.heap.size w wr ∧ wr.ownsRow w.heap.size 5 1 vo k (Lib.byteCells ((Ch.loss p s l).take k)))) (fun _ v _ => l.length - (intOf v).toNat)
  case atStart => exact ⟨0, by omega, rfl, Below.refl _ _, World.ownsRow_nil w w.heap.size 5 1⟩
  case round =>
    obtain ⟨k, hk, rfl, H⟩ := hrel
    by_cases h : k < l.length
    · have hk2 : k < (str l).size := by rw [hsz]; exact h
      have hlt : decide ((k : Int) < (l.length : Int)) = true := decide_eq_true (by omega)
      have hlt' : decide (k < l.length) = true := decide_eq_true h
      have hbyte : (str l)[k] = l[k] := rfl
      have hw := H.out.1.size
      obtain ⟨n, hn⟩ : ∃ n : Nat, l[k].toNat = n := ⟨_, rfl⟩
      have hbn : (l[k].toNat : Int) = (n : Int) := by rw [hn]
      have HN := Lib.hid hn
      clear hn
      have hP := Lib.hid (Ch.loss_put p s l k h)
      have hc := rlegal_calls p s l (k : Int) wr hlm
      rw [Ch.legI_at] at hc
      cases hg : Ch.leg p s l k
      · rw [hg] at hc
        have HB := Lib.hid (show (95 : Int) = ((Ch.lossB p s l k).toNat : Int) by unfold Ch.lossB; rw [hg]; rfl)
        go_wp2_with fail
        refine hc.mono ?_; rintro e w1 ⟨rfl, rfl⟩
        go_wp2_with (first
          | (at_builtin
             refine wpList_append_lies _ rfl _ _ _ (by rfl) w.heap.size 5 i0 _ 1 1 Tryd.underlying44 Hi.out.1 Hi.out.2.1 Hi.out.2.2.1 Hi.out.2.2.2 rfl (by omega) _ k _ (by rfl) (own_alloc H.out.2 _) _ 1 1 [.int .u8 95] (by rfl) rfl (World.news_of_block (heap_new _ _)) (by intro u hu; simp at hu; subst hu; rfl) (by omega) (by unfold maxLen; omega) (by omega) (by simp; omega) _ rfl ?_
             intro g cap w3 hown hgrow hat hlt3)
          | fail)
        go_roundw
        case rel => exact ⟨k + 1, h, by go_num, Below.grown (kb_alloc H.out.1 (Nat.le_refl _) _) hgrow (by simp; omega) (own_ge H.out.2), by
          rw [← hP.out]; refine own_put ?_; rw [← HB.out]; exact hown⟩
        case measure => simp [intOf]; omega
      · rw [hg] at hc
        have HB := Lib.hid (show (n : Int) = ((Ch.lossB p s l k).toNat : Int) by
          unfold Ch.lossB; rw [hg, if_pos rfl, List.getD_eq_getElem?_getD, List.getElem?_eq_getElem h, ← HN.out]; rfl)
        go_wp2_with fail
        refine hc.mono ?_; rintro e w1 ⟨rfl, rfl⟩
        go_wp2_with (first
          | (at_builtin
             refine wpList_append_lies _ rfl _ _ _ (by rfl) w.heap.size 5 i0 _ 1 1 Tryd.underlying44 Hi.out.1 Hi.out.2.1 Hi.out.2.2.1 Hi.out.2.2.2 rfl (by omega) _ k _ (by rfl) (own_alloc H.out.2 _) _ 1 1 [.int .u8 (n : Int)] (by rfl) rfl (World.news_of_block (heap_new _ _)) (by intro u hu; simp at hu; subst hu; rfl) (by omega) (by unfold maxLen; omega) (by omega) (by simp; omega) _ rfl ?_
             intro g cap w3 hown hgrow hat hlt3)
          | fail)
        go_roundw
        case rel => exact ⟨k + 1, h, by go_num, Below.grown (kb_alloc H.out.1 (Nat.le_refl _) _) hgrow (by simp; omega) (own_ge H.out.2), by
          rw [← hP.out]; refine own_put ?_; rw [← HB.out]; exact hown⟩
        case measure => simp [intOf]; omega
    · have hlt : decide ((k : Int) < (l.length : Int)) = false := decide_eq_false (by omega)
      have hlt' : decide (k < l.length) = false := decide_eq_false h
      have he : k = l.length := by omega
      have hE : (Ch.loss p s l).take k = Ch.loss p s l := by rw [he, ← HL.out, List.take_length]
      have hR := H.out.2
      rw [hE] at hR
      have hconv := econv_own hR
      clear he hE hR
      go_wp2
      go_ret
      exact ⟨rfl, H.out.1⟩

end Go.Proofs.YtgdhfmcipaoapaaDoor
