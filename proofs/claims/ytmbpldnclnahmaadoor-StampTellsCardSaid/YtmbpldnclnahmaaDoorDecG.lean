/- The walk of package dec's Parse. -/
import Derived.Test.YtmbpldnclnahmaaDoorDecF
set_option linter.unusedVariables false
set_option linter.unusedSimpArgs false
namespace Go.Proofs.YtmbpldnclnahmaaDoor
open Go.RowKit Dc

def parseV (r : (Int × Int) × Int × Int) : Value := .tuple #[dv2 r.1.1 r.1.2, .int .i64 r.2.1, .int .i64 r.2.2]

set_option maxRecDepth 100000 in
set_option maxHeartbeats 4000000 in
theorem parse_calls (l : List UInt8) (w : World) (hl : l.length ≤ 140737488351232) :
    Calls Tryd.prog 39 #[.string (str l)] w fun e w' => e = .returned (parseV (parse l)) ∧ Below w.heap.size w w' := by
  have b0 := (Below.refl w.heap.size w).alloc (Nat.le_refl _) (.cells #[.int .i64 0, .int .i64 0] 23)
  have B0 := Lib.hid b0
  have hsp := Lib.hid (fun W => split_calls l W hl)
  clear b0
  go_enter Tryd.func39, Tryd.ntmps39
  go_wp2_with fail
  refine (hsp.out _).mono ?_; rintro e w1 ⟨rfl, b1⟩
  have B1 := Lib.hid (B0.out.trans (b1.mono B0.out.size))
  have c0 : w1.cell? ⟨w.heap.size, 0, none⟩ = some (.int .i64 0) := (b1.cell (p := ⟨w.heap.size, 0, none⟩) (by simp)).trans (by simp [go_sem])
  have c1 : w1.cell? ⟨w.heap.size, 1, none⟩ = some (.int .i64 0) := (b1.cell (p := ⟨w.heap.size, 1, none⟩) (by simp)).trans (by simp [go_sem])
  have f0 : w1.frozen? ⟨w.heap.size, 0, none⟩ = false := (b1.frozen (p := ⟨w.heap.size, 0, none⟩) (by simp)).trans (by simp [go_sem])
  have f1 : w1.frozen? ⟨w.heap.size, 1, none⟩ = false := (b1.frozen (p := ⟨w.heap.size, 1, none⟩) (by simp)).trans (by simp [go_sem])
  have hz : w.heap.size < w1.heap.size := by have := b1.size; simp at this; omega
  clear b1 hsp B0
  cases hc : cut l with
  | bad n =>
    have Hp := Lib.hid (parse_bad hc)
    rw [show cutV (.bad n) = Value.tuple #[.agg #[.bool false, .string ⟨#[]⟩, .string ⟨#[]⟩], .int .i64 (n : Nat), .bool false] from rfl]
    clear hc
    go_wp2_with fail
    refine bodyPost_ret (v := parseV ((0, 0), 11, (n : Int))) (by simp [results, Tryd.results39, go_sem, parseV, c0, c1, hz, Nat.ne_of_lt hz]) rfl ⟨by rw [Hp.out], ?_⟩
    exact kb_alloc ((B1.out.setCell (by simp) _).setCell (by simp) _) (Nat.le_refl _) _
  | ok neg d e =>
    obtain ⟨hd, he, _⟩ := cut_ok hc
    have hpo := parse_ok hc
    have hni := numOf_is neg d e hd he
    rw [← hni] at hpo
    have hdl : d.length ≤ l.length ∧ e.length ≤ l.length := by
      have h := hc
      unfold cut at h
      have k1 : ((l.drop (sg l)).takeWhile dg).length ≤ l.length := by
        have h1 := dgN_le (l.drop (sg l)); unfold dgN at h1; rw [List.length_drop] at h1; omega
      have k2 : ((l.drop (pt l + 1)).takeWhile dg).length ≤ l.length := by
        have h1 := dgN_le (l.drop (pt l + 1)); unfold dgN at h1; rw [List.length_drop] at h1; omega
      split at h
      · cases h
      split at h
      · cases h; exact ⟨k1, by simp⟩
      split at h
      · cases h
      split at h
      · cases h
      · cases h; exact ⟨k1, k2⟩
    have hnu := Lib.hid (fun W => number_calls neg d e W hd he (by omega) (by omega))
    have Hp := Lib.hid hpo
    rw [show cutV (.ok neg d e) = Value.tuple #[.agg #[.bool neg, .string (str d), .string (str e)], .int .i64 0, .bool true] from rfl]
    clear hc hpo hni hd he
    have b2 := (Below.refl w1.heap.size w1).alloc (Nat.le_refl _) (.cells #[.bool neg, .string (str d), .string (str e)] 80)
    have B2 := Lib.hid (B1.out.trans (b2.mono (Nat.le_of_lt hz)))
    have d0 := (b2.cell (p := ⟨w.heap.size, 0, none⟩) hz).trans c0
    have d1 := (b2.cell (p := ⟨w.heap.size, 1, none⟩) hz).trans c1
    have g0 := (b2.frozen (p := ⟨w.heap.size, 0, none⟩) hz).trans f0
    have g1 := (b2.frozen (p := ⟨w.heap.size, 1, none⟩) hz).trans f1
    have hz2 := Nat.lt_of_lt_of_le hz b2.size
    clear b2 B1
    go_wp2_with fail
    clear c0 c1 f0 f1 hz
    generalize w1.alloc (.cells #[.bool neg, .string (str d), .string (str e)] 80) = W2 at *
    refine (hnu.out _).mono ?_; rintro e' w3 ⟨rfl, b3⟩
    have B3 := Lib.hid (B2.out.trans (b3.mono (Nat.le_of_lt hz2)))
    have c0 := (b3.cell (p := ⟨w.heap.size, 0, none⟩) hz2).trans d0
    have c1 := (b3.cell (p := ⟨w.heap.size, 1, none⟩) hz2).trans d1
    have f0 := (b3.frozen (p := ⟨w.heap.size, 0, none⟩) hz2).trans g0
    have f1 := (b3.frozen (p := ⟨w.heap.size, 1, none⟩) hz2).trans g1
    have hz := Nat.lt_of_lt_of_le hz2 b3.size
    clear b3 B2 d0 d1 g0 g1 hz2 hnu
    cases ho : numOf neg d e with
    | none =>
      have hp := Hp.out
      rw [ho] at hp
      have Hp' := Lib.hid hp
      rw [show normV none = Value.tuple #[dv2 0 0, .bool false] from rfl]
      clear ho hp
      go_wp2_with fail
      refine bodyPost_ret (v := parseV ((0, 0), 12, 0)) (by simp [results, Tryd.results39, go_sem, parseV, c0, c1, hz, Nat.ne_of_lt hz]) rfl ⟨by rw [Hp'.out], ?_⟩
      exact kb_alloc ((B3.out.setCell (by simp) _).setCell (by simp) _) (Nat.le_refl _) _
    | some r =>
      obtain ⟨a, k⟩ := r
      have hp := Hp.out
      rw [ho] at hp
      have Hp' := Lib.hid hp
      rw [show normV (some (a, k)) = Value.tuple #[dv2 a k, .bool true] from rfl]
      clear ho hp
      go_wp2_with fail
      refine bodyPost_ret (v := parseV ((a, (k : Int)), 0, 0)) (by simp [results, Tryd.results39, go_sem, parseV, c0, c1, hz, Nat.ne_of_lt hz]) rfl ⟨by rw [Hp'.out], ?_⟩
      exact kb_alloc ((B3.out.setCell (by simp) _).setCell (by simp) _) (Nat.le_refl _) _

end Go.Proofs.YtmbpldnclnahmaaDoor
