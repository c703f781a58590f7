/- The walks of package escape's Back and All. -/
import Derived.Test.YtaiolkeiabhcpaaDoorEscC
set_option maxRecDepth 100000
set_option linter.unusedVariables false
set_option linter.unusedSimpArgs false
namespace Go.Proofs.YtaiolkeiabhcpaaDoor
open Go.RowKit

namespace Ch
theorem undo_len : ∀ (n : Nat) (l t : List UInt8), l.length ≤ n → undo l = some t → t.length ≤ l.length
  | 0, l, t, h, hu => by
    obtain rfl : l = [] := List.length_eq_zero_iff.1 (by omega)
    cases hu; simp
  | n + 1, [], t, h, hu => by cases hu; simp
  | n + 1, c :: r, t, h, hu => by
    by_cases hx : isUx c r = true
    · unfold isUx at hx
      rw [Bool.and_eq_true] at hx
      have h1 : c = 95 := by simpa using hx.1
      have h2 : r.head? = some 120 := by simpa using hx.2
      subst h1
      cases r with
      | nil => cases h2
      | cons d q =>
        cases h2
        rw [undo_x] at hu
        cases hb : byteO q with
        | none => rw [hb] at hu; cases hu
        | some c =>
          rw [hb] at hu
          simp only [Option.map_eq_some_iff] at hu
          obtain ⟨t', h1, rfl⟩ := hu
          have hl : (q.drop 2).length = q.length - 2 := by simp
          simp only [List.length_cons] at h ⊢
          have := undo_len n (q.drop 2) t' (by omega) h1
          omega
    · have hx' : isUx c r = false := by simpa using hx
      rw [undo_keep c r hx', Option.map_eq_some_iff] at hu
      obtain ⟨t', h1, rfl⟩ := hu
      simp only [List.length_cons] at h ⊢
      have := undo_len n r t' (by omega) h1
      omega
theorem back_none {p w : Int} {s : List UInt8} (h : undo s = none) : back p w s = s := by unfold back; rw [h]
theorem back_yes {p w : Int} {s t : List UInt8} (h : undo s = some t) (e : esc p w t = s) : back p w s = t := by unfold back; rw [h]; exact if_pos e
theorem back_no {p w : Int} {s t : List UInt8} (h : undo s = some t) (e : ¬ esc p w t = s) : back p w s = s := by unfold back; rw [h]; exact if_neg e
end Ch

set_option maxHeartbeats 2000000 in
theorem back_calls (p s : Int) (l : List UInt8) (w : World) (hl : l.length ≤ 4194304) (hT : ChT w) (hM : MxT w) :
    Calls Tryd.prog 10 #[.int .i64 p, .int .i64 s, .string (str l)] w fun e w' => e = .returned (.string (str (Ch.back p s l))) ∧ Below w.heap.size w w' := by
  have hu := undo_calls l w hl hM
  cases ht : Ch.undo l with
  | none =>
    rw [ht, show undoV none = .tuple #[.string ⟨#[]⟩, .bool false] from rfl] at hu
    have HR := Lib.hid (Ch.back_none (p := p) (w := s) ht)
    go_enter Tryd.func10, Tryd.ntmps10
    go_wp2_with fail
    refine hu.mono ?_; rintro e w1 ⟨rfl, b1⟩
    go_wp2
    go_ret
    exact ⟨by rw [HR.out]; rfl, b1⟩
  | some t =>
    rw [ht, show undoV (some t) = .tuple #[.string (str t), .bool true] from rfl] at hu
    have htl := Ch.undo_len _ l t (Nat.le_refl _) ht
    have he := fun W hW => escape_calls p s t W (by omega) hW
    by_cases hq : Ch.esc p s t = l
    · have HR := Lib.hid (Ch.back_yes ht hq)
      rw [hq] at he
      clear ht hq
      go_enter Tryd.func10, Tryd.ntmps10
      go_wp2_with fail
      refine hu.mono ?_; rintro e w1 ⟨rfl, b1⟩
      have B1 := Lib.hid b1
      clear b1
      go_wp2_with fail
      refine (he _ (hT.below B1.out)).mono ?_; rintro e w2 ⟨rfl, b2⟩
      have B2 := Lib.hid (trans9 B1.out b2)
      clear b2
      go_wp2
      go_ret
      exact ⟨by rw [HR.out]; rfl, B2.out⟩
    · have HR := Lib.hid (Ch.back_no ht hq)
      have q1 : (Ch.esc p s t == l) = false := beq_eq_false_iff_ne.2 hq
      generalize Ch.esc p s t = x at *
      clear ht
      go_enter Tryd.func10, Tryd.ntmps10
      go_wp2_with fail
      refine hu.mono ?_; rintro e w1 ⟨rfl, b1⟩
      have B1 := Lib.hid b1
      clear b1
      go_wp2_with fail
      refine (he _ (hT.below B1.out)).mono ?_; rintro e w2 ⟨rfl, b2⟩
      have B2 := Lib.hid (trans9 B1.out b2)
      clear b2
      go_wp2
      go_ret
      exact ⟨by rw [HR.out]; rfl, B2.out⟩

end Go.Proofs.YtaiolkeiabhcpaaDoor
