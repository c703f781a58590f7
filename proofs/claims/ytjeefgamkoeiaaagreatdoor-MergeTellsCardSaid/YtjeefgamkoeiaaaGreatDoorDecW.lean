/- The texts DecA, DecN, DecAt, one behind the other. -/
import Derived.Test.YtjeefgamkoeiaaaGreatDoorDecP
import Derived.Test.YtjeefgamkoeiaaaGreatDoorGrd
import Derived.WalkKit
import Derived.Lib.Hide
import Derived.Lib.Strings
import Derived.IntWalk
import Derived.Below
import Derived.Deep.QuietTactic
import Derived.BigQuiet
import Derived.Deep.WholeRow

/- The walks of package dec's small functions and of what they call of package strings. -/
set_option linter.unusedVariables false
set_option linter.unusedSimpArgs false
namespace Go.Proofs.YtjeefgamkoeiaaaGreatDoor
open Go.RowKit Dc

/-- a decimal as a value -/
abbrev dv2 (m s : Int) : Value := .agg #[.int .i64 m, .int .i64 s]

set_option maxHeartbeats 1000000 in
theorem good_calls (m s : Int) (w : World) :
    Calls Tryz.prog 130 #[dv2 m s] w fun e w' => e = .returned (.bool (goodD m s)) ∧ Below w.heap.size w w' := by
  have b0 := (Below.refl w.heap.size w).alloc (Nat.le_refl _) (.cells #[.int .i64 m, .int .i64 s] 51)
  have B0 := Lib.hid b0
  clear b0
  by_cases h1 : s < 0
  · have e : goodD m s = false := by unfold goodD; simp; omega
    rw [e]; clear e
    go_enter Tryz.func130, Tryz.ntmps130
    go_wp2
    go_ret
    exact ⟨rfl, B0.out⟩
  by_cases h2 : s > 18
  · have e : goodD m s = false := by unfold goodD; simp; omega
    rw [e]; clear e
    go_enter Tryz.func130, Tryz.ntmps130
    go_wp2
    go_ret
    exact ⟨rfl, B0.out⟩
  by_cases h3 : m = -9223372036854775808
  · have e : goodD m s = false := by unfold goodD; simp; omega
    rw [e]; clear e
    subst h3
    go_enter Tryz.func130, Tryz.ntmps130
    go_wp2
    go_ret
    exact ⟨rfl, B0.out⟩
  have h3b : (m == -9223372036854775808) = false := by simpa using h3
  by_cases h4 : s = 0
  · have e : goodD m s = true := (goodD_iff m s).2 ⟨by omega, by omega, h3, Or.inl h4⟩
    rw [e]; clear e
    subst h4
    go_enter Tryz.func130, Tryz.ntmps130
    go_wp2
    go_ret
    exact ⟨rfl, B0.out⟩
  have h4b : (s == 0) = false := by simpa using h4
  by_cases h5 : m.tmod 10 = 0
  · have e : goodD m s = false := by unfold goodD; simp; omega
    rw [e]; clear e
    go_enter Tryz.func130, Tryz.ntmps130
    go_wp2
    go_ret
    exact ⟨rfl, B0.out⟩
  · have e : goodD m s = true := (goodD_iff m s).2 ⟨by omega, by omega, h3, Or.inr h5⟩
    rw [e]; clear e
    have h5b : (m.tmod 10 != 0) = true := by simpa using h5
    go_enter Tryz.func130, Tryz.ntmps130
    go_wp2
    go_ret
    exact ⟨rfl, B0.out⟩

end Go.Proofs.YtjeefgamkoeiaaaGreatDoor

/- The walk of package dec's Norm; what dec's and sum's digits share. -/
set_option linter.unusedVariables false
set_option linter.unusedSimpArgs false
namespace Go.Proofs.YtjeefgamkoeiaaaGreatDoor
open Go.RowKit Dc

theorem below_setRow {B : Nat} {a w : World} (h : Below B a w) {g : Nat} (hg : B ≤ g) (c : Array Value) : Below B a (w.setRow g c) :=
  ⟨h.os, h.tape, h.output, by show _ ≤ (Array.modify _ _ _).size; rw [Array.size_modify]; exact h.size, fun k hk => by rw [setRow_other w g k c (by omega)]; exact h.block k hk⟩
def joinV (t : Nat) : Value := if t ≤ big then .tuple #[.int .i64 (t : Nat), .bool true] else .tuple #[.int .i64 0, .bool false]
theorem joinV_le {t : Nat} (h : t ≤ big) : joinV t = .tuple #[.int .i64 (t : Nat), .bool true] := by unfold joinV; rw [if_pos h]
theorem joinV_gt {t : Nat} (h : ¬ t ≤ big) : joinV t = .tuple #[.int .i64 0, .bool false] := by unfold joinV; rw [if_neg h]
/-- a decimal, or that there is none, as Norm tells it -/
def normV : Option (Int × Nat) → Value
  | none => .tuple #[dv2 0 0, .bool false]
  | some (a, k) => .tuple #[dv2 a k, .bool true]
set_option maxHeartbeats 4000000 in
theorem norm_calls (m : Int) (s : Int) (w : World) (hm1 : -9223372036854775808 ≤ m) (hm2 : m ≤ 9223372036854775807) (hs2 : s ≤ 9223372036854775807) :
    Calls Tryz.prog 142 #[.int .i64 m, .int .i64 s] w fun e w' => e = .returned (normV (decOf (decide (m < 0)) m.natAbs s)) ∧ Below w.heap.size w w' := by
  have b1 := (Below.refl w.heap.size w).alloc (Nat.le_refl _) (.cells #[.int .i64 0, .int .i64 0] 51)
  by_cases hs : s < 0
  · have e : decOf (decide (m < 0)) m.natAbs s = none := by unfold decOf; rw [if_pos hs]
    rw [e]; clear e
    have B1 := Lib.hid b1
    clear b1
    go_enter Tryz.func142, Tryz.ntmps142
    go_wp2
    refine bodyPost_ret (v := normV none) (by simp [results, Tryz.results142, go_sem, normV]) rfl ⟨rfl, B1.out⟩
  by_cases hm0 : m = 0
  · subst hm0
    have e : decOf (decide ((0 : Int) < 0)) (0 : Int).natAbs s = some (0, 0) := by unfold decOf; rw [if_neg hs]; rfl
    rw [e]; clear e
    have B1 := Lib.hid b1
    clear b1
    go_enter Tryz.func142, Tryz.ntmps142
    go_wp2
    refine bodyPost_ret (v := normV (some (0, 0))) (by simp [results, Tryz.results142, go_sem, normV]) rfl ⟨rfl, B1.out⟩
  have hm0b : (m == 0) = false := by simpa using hm0
  obtain ⟨k0, rfl⟩ : ∃ k0 : Nat, s = k0 := ⟨s.toNat, by omega⟩
  have he : ∀ (m' : Int) (k : Nat), strip k m'.natAbs = strip k0 m.natAbs → m' ≠ 0 → decOf (decide (m < 0)) m.natAbs k0 = decOf (decide (m < 0)) m'.natAbs k := by
    intro m' k h1 h2
    exact (decOf_strip _ m' k m.natAbs k0 h1 (by omega)).symm
  have He := Lib.hid he
  have B1 := Lib.hid b1
  clear b1 he
  go_enter Tryz.func142, Tryz.ntmps142
  go_wp2_with fail
  go_loop [0, 1] (fun s0 s1 => ∃ (m' : Int) (k : Nat), k ≤ k0 ∧ m' ≠ 0 ∧ -9223372036854775808 ≤ m' ∧ m' ≤ 9223372036854775807 ∧ s0 = .int .i64 m' ∧ s1 = .int .i64 (k : Nat) ∧ Hid (strip k m'.natAbs = strip k0 m.natAbs ∧ (m' < 0 ↔ m < 0))) (fun _ s1 => (intOf s1).toNat)
  case atStart => exact ⟨m, k0, Nat.le_refl _, hm0, hm1, hm2, rfl, rfl, rfl, Iff.rfl⟩
  case round =>
    obtain ⟨m', k, hk, hz, h1, h2, rfl, rfl, H⟩ := hrel
    obtain ⟨hst, hsg⟩ := H.out
    have hzb : (m' == 0) = false := by simpa using hz
    by_cases hgo : 0 < k ∧ m'.tmod 10 = 0
    · obtain ⟨hk0, ht⟩ := hgo
      have htb : (m'.tmod 10 == 0) = true := by simpa using ht
      obtain ⟨hq0, hqs⟩ := tdiv_sign m' ht hz
      have hqa := tdiv_abs m'
      obtain ⟨j, rfl⟩ : ∃ j, k = j + 1 := ⟨k - 1, by omega⟩
      rw [strip_step _ _ ((tmod_abs m').1 ht), ← hqa] at hst
      have hb1 : -9223372036854775808 ≤ m'.tdiv 10 := by omega
      have hb2 : m'.tdiv 10 ≤ 9223372036854775807 := by omega
      have Hst := Lib.hid hst
      have Hsg := Lib.hid (show m'.tdiv 10 < 0 ↔ m < 0 from hqs.trans hsg)
      have ej : ((j + 1 : Nat) : Int) - 1 = (j : Int) := by omega
      have Hq0 := Lib.hid hq0
      clear hst hsg hqs hqa H hq0
      go_wp2_with fail
      go_round
      case rel => exact ⟨m'.tdiv 10, j, by omega, Hq0.out, hb1, hb2, rfl, rfl, Hst.out, Hsg.out⟩
      case measure => simp [intOf]
    · have hid : strip k m'.natAbs = (m'.natAbs, k) := strip_id _ _ (by
        by_cases hk0 : k = 0
        · exact Or.inl hk0
        · exact Or.inr (fun e => hgo ⟨by omega, (tmod_abs m').2 e⟩))
      have hdec := He.out m' k hst hz
      have Hdec := Lib.hid hdec
      have Hid' := Lib.hid hid
      have Hsg := Lib.hid hsg
      have hkb : 0 < k → (m'.tmod 10 == 0) = false := fun h0 => by
        have : ¬ m'.tmod 10 = 0 := fun e => hgo ⟨h0, e⟩
        simpa using this
      clear hst hdec hid H hsg hgo
      have hout : decOf (decide (m < 0)) m'.natAbs k = if goodD m' k = true then some (m', k) else none := by
        unfold decOf
        rw [if_neg (show ¬ (k : Int) < 0 by omega), if_neg (by omega), Int.toNat_natCast, Hid'.out]
        have hg := goodD_iff m' k
        by_cases hgd : goodD m' k = true
        · rw [if_pos hgd]
          obtain ⟨_, g1, g2, _⟩ := hg.1 hgd
          rw [if_pos ⟨by show m'.natAbs ≤ big; unfold big; omega, by show k ≤ 18; omega⟩]
          have : (if decide (m < 0) = true then -((m'.natAbs : Nat) : Int) else ((m'.natAbs : Nat) : Int)) = m' := by
            have := Hsg.out
            by_cases hn : m < 0
            · rw [if_pos (by simpa using hn)]; omega
            · rw [if_neg (by simpa using hn)]; omega
          simp only [this]
        · rw [if_neg hgd, if_neg]
          rintro ⟨g1, g2⟩
          have g1' : m'.natAbs ≤ big := g1
          have g2' : k ≤ 18 := g2
          unfold big at g1'
          refine hgd (hg.2 ⟨by omega, by omega, by omega, ?_⟩)
          by_cases hk0 : k = 0
          · exact Or.inl (by omega)
          · exact Or.inr (by have := hkb (by omega); simpa using this)
      have Hout := Lib.hid (Hdec.out.trans hout)
      clear hout
      by_cases hk0 : k = 0
      · subst hk0
        go_wp2_with fail
        refine (good_calls _ _ _).mono ?_; rintro e w1 ⟨rfl, b1⟩
        have B2 := Lib.hid (trans9 (kb_alloc B1.out (Nat.le_refl _) (.cells #[.int .i64 m', .int .i64 0] 51)) b1)
        obtain ⟨hcell, hfr⟩ := bcell b1
        have c0 : w1.cell? ⟨w.heap.size, 0, none⟩ = some (.int .i64 0) := (hcell w.heap.size 0 (by simp; omega)).trans (by simp [go_sem])
        have c1 : w1.cell? ⟨w.heap.size, 1, none⟩ = some (.int .i64 0) := (hcell w.heap.size 1 (by simp; omega)).trans (by simp [go_sem])
        clear b1
        cases hg : goodD m' 0 with
        | false =>
          have ho := Hout.out
          rw [if_neg (by simpa using hg)] at ho
          have Ho := Lib.hid ho
          clear ho
          go_wp2
          refine bodyPost_ret (v := normV none) (by simp [results, Tryz.results142, go_sem, normV, c0, c1]) rfl ⟨by rw [Ho.out], ?_⟩
          repeat (refine Below.setCell ?_ (by simp) _)
          exact B2.out
        | true =>
          have ho := Hout.out
          rw [if_pos (by simpa using hg)] at ho
          have Ho := Lib.hid ho
          clear ho
          go_wp2
          refine bodyPost_ret (v := normV (some (m', 0))) (by simp [results, Tryz.results142, go_sem, normV, c0, c1]) rfl ⟨by rw [Ho.out], ?_⟩
          repeat (refine Below.setCell ?_ (by simp) _)
          exact B2.out
      · have hkb' := hkb (by omega)
        have hkp : 0 < k := by omega
        clear hkb
        go_wp2_with fail
        refine (good_calls _ _ _).mono ?_; rintro e w1 ⟨rfl, b1⟩
        have B2 := Lib.hid (trans9 (kb_alloc B1.out (Nat.le_refl _) (.cells #[.int .i64 m', .int .i64 k] 51)) b1)
        obtain ⟨hcell, hfr⟩ := bcell b1
        have c0 : w1.cell? ⟨w.heap.size, 0, none⟩ = some (.int .i64 0) := (hcell w.heap.size 0 (by simp; omega)).trans (by simp [go_sem])
        have c1 : w1.cell? ⟨w.heap.size, 1, none⟩ = some (.int .i64 0) := (hcell w.heap.size 1 (by simp; omega)).trans (by simp [go_sem])
        clear b1
        cases hg : goodD m' ((k : Nat) : Int) with
        | false =>
          have ho := Hout.out
          rw [if_neg (by simpa using hg)] at ho
          have Ho := Lib.hid ho
          clear ho
          go_wp2
          refine bodyPost_ret (v := normV none) (by simp [results, Tryz.results142, go_sem, normV, c0, c1]) rfl ⟨by rw [Ho.out], ?_⟩
          repeat (refine Below.setCell ?_ (by simp) _)
          exact B2.out
        | true =>
          have ho := Hout.out
          rw [if_pos (by simpa using hg)] at ho
          have Ho := Lib.hid ho
          clear ho
          go_wp2
          refine bodyPost_ret (v := normV (some (m', k))) (by simp [results, Tryz.results142, go_sem, normV, c0, c1]) rfl ⟨by rw [Ho.out], ?_⟩
          repeat (refine Below.setCell ?_ (by simp) _)
          exact B2.out

end Go.Proofs.YtjeefgamkoeiaaaGreatDoor

/- A decimal in a block of its own; equality of decimals as one step. -/
set_option linter.unusedVariables false
set_option linter.unusedSimpArgs false
namespace Go.Proofs.YtjeefgamkoeiaaaGreatDoor
open Go.RowKit Dc

/-- a decimal lies in block b, where it may be written -/
structure DecAt (w : World) (b : Nat) (m s : Int) : Prop where
  c0 : w.cell? ⟨b, 0, none⟩ = some (.int .i64 m)
  c1 : w.cell? ⟨b, 1, none⟩ = some (.int .i64 s)
  f0 : w.frozen? ⟨b, 0, none⟩ = false
  f1 : w.frozen? ⟨b, 1, none⟩ = false
  lt : b < w.heap.size
theorem DecAt.below {w w' : World} {b : Nat} {m s : Int} (h : DecAt w b m s) (hb : Below w.heap.size w w') : DecAt w' b m s :=
  ⟨(hb.cell (p := ⟨b, 0, none⟩) h.lt).trans h.c0, (hb.cell (p := ⟨b, 1, none⟩) h.lt).trans h.c1, (hb.frozen (p := ⟨b, 0, none⟩) h.lt).trans h.f0, (hb.frozen (p := ⟨b, 1, none⟩) h.lt).trans h.f1, Nat.lt_of_lt_of_le h.lt hb.size⟩
theorem DecAt.new (w : World) (m s : Int) : DecAt (w.alloc (.cells #[.int .i64 m, .int .i64 s] 51)) w.heap.size m s :=
  ⟨by simp [go_sem], by simp [go_sem], by simp [go_sem], by simp [go_sem], by simp⟩
theorem DecAt.alloc {w : World} {b : Nat} {m s : Int} (h : DecAt w b m s) (o : Obj) : DecAt (w.alloc o) b m s := h.below ((Below.refl _ _).alloc (Nat.le_refl _) o)
theorem DecAt.drew {w : World} {b : Nat} {m s : Int} (h : DecAt w b m s) : DecAt w.drew b m s := ⟨h.c0, h.c1, h.f0, h.f1, h.lt⟩
theorem DecAt.row {w : World} {b g : Nat} {m s : Int} (h : DecAt w b m s) (c : Array Value) (hne : b ≠ g) : DecAt (w.setRow g c) b m s := by
  have e : (w.setRow g c).heap[b]? = w.heap[b]? := setRow_other w g b c (by omega)
  have hc : ∀ i, (w.setRow g c).cell? ⟨b, i, none⟩ = w.cell? ⟨b, i, none⟩ := fun i => by unfold World.cell?; rw [e]
  have hf : ∀ i, (w.setRow g c).frozen? ⟨b, i, none⟩ = w.frozen? ⟨b, i, none⟩ := fun i => by unfold World.frozen?; rw [e]
  exact ⟨(hc 0).trans h.c0, (hc 1).trans h.c1, (hf 0).trans h.f0, (hf 1).trans h.f1, by show b < (Array.modify _ _ _).size; rw [Array.size_modify]; exact h.lt⟩

theorem eql_dec (a b c d : Int) (W : World) : (binOp .eql 51 (dv2 a b) (dv2 c d)).run Tryz.prog W = .ok (.bool (decide (a = c ∧ b = d))) W := by
  by_cases h1 : a = c
  · subst h1
    by_cases h2 : b = d
    · subst h2
      go_simp
    · have h2b : (b == d) = false := by simpa using h2
      go_simp
  · have h1b : (a == c) = false := by simpa using h1
    go_simp

end Go.Proofs.YtjeefgamkoeiaaaGreatDoor
