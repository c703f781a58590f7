/- The texts DecA, DecN, SumA, SumB, SumB2, SumE, DecAt, SumG, SumT, SumS, SumX, StampA, StampB, one behind the other. -/
import Derived.Test.YtgoibhbmndpgpaaGreatDoorPlA
import Derived.Test.YtgoibhbmndpgpaaGreatDoorGrd
import Derived.WalkKit
import Derived.Lib.Hide
import Derived.Lib.Strings
import Derived.IntWalk
import Derived.Below
import Derived.Deep.QuietTactic
import Derived.BigQuiet
import Derived.Deep.WholeRow
import Derived.Lib.SmallJoins
import Derived.Lib.Builder
import Derived.Lib.Tables
import Derived.Laws.Bits64b
import Derived.Laws.MathBits
import Derived.Laws.BitsAllLaws
import Derived.Laws.Externs
import Derived.Deep.Cut
import Derived.Deep.RegionHeld3
import Derived.Deep.DrawnRows
import Derived.Laws.CopyRow
import Derived.Deep.DeepCutAuto
import Derived.OwnWalk

/- The walks of package dec's small functions and of what they call of package strings. -/
set_option linter.unusedVariables false
set_option linter.unusedSimpArgs false
namespace Go.Proofs.YtgoibhbmndpgpaaGreatDoor
open Go.RowKit Dc

/-- a decimal as a value -/
abbrev dv2 (m s : Int) : Value := .agg #[.int .i64 m, .int .i64 s]

set_option maxHeartbeats 1000000 in
theorem good_calls (m s : Int) (w : World) :
    Calls Tryz.prog 100 #[dv2 m s] w fun e w' => e = .returned (.bool (goodD m s)) ∧ Below w.heap.size w w' := by
  have b0 := (Below.refl w.heap.size w).alloc (Nat.le_refl _) (.cells #[.int .i64 m, .int .i64 s] 44)
  have B0 := Lib.hid b0
  clear b0
  by_cases h1 : s < 0
  · have e : goodD m s = false := by unfold goodD; simp; omega
    rw [e]; clear e
    go_enter Tryz.func100, Tryz.ntmps100
    go_wp2
    go_ret
    exact ⟨rfl, B0.out⟩
  by_cases h2 : s > 18
  · have e : goodD m s = false := by unfold goodD; simp; omega
    rw [e]; clear e
    go_enter Tryz.func100, Tryz.ntmps100
    go_wp2
    go_ret
    exact ⟨rfl, B0.out⟩
  by_cases h3 : m = -9223372036854775808
  · have e : goodD m s = false := by unfold goodD; simp; omega
    rw [e]; clear e
    subst h3
    go_enter Tryz.func100, Tryz.ntmps100
    go_wp2
    go_ret
    exact ⟨rfl, B0.out⟩
  have h3b : (m == -9223372036854775808) = false := by simpa using h3
  by_cases h4 : s = 0
  · have e : goodD m s = true := (goodD_iff m s).2 ⟨by omega, by omega, h3, Or.inl h4⟩
    rw [e]; clear e
    subst h4
    go_enter Tryz.func100, Tryz.ntmps100
    go_wp2
    go_ret
    exact ⟨rfl, B0.out⟩
  have h4b : (s == 0) = false := by simpa using h4
  by_cases h5 : m.tmod 10 = 0
  · have e : goodD m s = false := by unfold goodD; simp; omega
    rw [e]; clear e
    go_enter Tryz.func100, Tryz.ntmps100
    go_wp2
    go_ret
    exact ⟨rfl, B0.out⟩
  · have e : goodD m s = true := (goodD_iff m s).2 ⟨by omega, by omega, h3, Or.inr h5⟩
    rw [e]; clear e
    have h5b : (m.tmod 10 != 0) = true := by simpa using h5
    go_enter Tryz.func100, Tryz.ntmps100
    go_wp2
    go_ret
    exact ⟨rfl, B0.out⟩

end Go.Proofs.YtgoibhbmndpgpaaGreatDoor

/- The walk of package dec's Norm; what dec's and sum's digits share. -/
set_option linter.unusedVariables false
set_option linter.unusedSimpArgs false
namespace Go.Proofs.YtgoibhbmndpgpaaGreatDoor
open Go.RowKit Dc

theorem below_setRow {B : Nat} {a w : World} (h : Below B a w) {g : Nat} (hg : B ≤ g) (c : Array Value) : Below B a (w.setRow g c) :=
  ⟨h.os, h.tape, h.output, by show _ ≤ (Array.modify _ _ _).size; rw [Array.size_modify]; exact h.size, fun k hk => by rw [setRow_other w g k c (by omega)]; exact h.block k hk⟩
def joinV (t : Nat) : Value := if t ≤ big then .tuple #[.int .i64 (t : Nat), .bool true] else .tuple #[.int .i64 0, .bool false]
theorem joinV_le {t : Nat} (h : t ≤ big) : joinV t = .tuple #[.int .i64 (t : Nat), .bool true] := by unfold joinV; rw [if_pos h]
theorem joinV_gt {t : Nat} (h : ¬ t ≤ big) : joinV t = .tuple #[.int .i64 0, .bool false] := by unfold joinV; rw [if_neg h]
/-- a decimal, or that there is none, as Norm tells it -/
def normV : Option (Int × Nat) → Value
  | none => .tuple #[dv2 0 0, .bool false]
  | some (a, k) => .tuple #[dv2 a k, .bool true]
set_option maxHeartbeats 4000000 in
theorem norm_calls (m : Int) (s : Int) (w : World) (hm1 : -9223372036854775808 ≤ m) (hm2 : m ≤ 9223372036854775807) (hs2 : s ≤ 9223372036854775807) :
    Calls Tryz.prog 99 #[.int .i64 m, .int .i64 s] w fun e w' => e = .returned (normV (decOf (decide (m < 0)) m.natAbs s)) ∧ Below w.heap.size w w' := by
  have b1 := (Below.refl w.heap.size w).alloc (Nat.le_refl _) (.cells #[.int .i64 0, .int .i64 0] 44)
  by_cases hs : s < 0
  · have e : decOf (decide (m < 0)) m.natAbs s = none := by unfold decOf; rw [if_pos hs]
    rw [e]; clear e
    have B1 := Lib.hid b1
    clear b1
    go_enter Tryz.func99, Tryz.ntmps99
    go_wp2
    refine bodyPost_ret (v := normV none) (by simp [results, Tryz.results99, go_sem, normV]) rfl ⟨rfl, B1.out⟩
  by_cases hm0 : m = 0
  · subst hm0
    have e : decOf (decide ((0 : Int) < 0)) (0 : Int).natAbs s = some (0, 0) := by unfold decOf; rw [if_neg hs]; rfl
    rw [e]; clear e
    have B1 := Lib.hid b1
    clear b1
    go_enter Tryz.func99, Tryz.ntmps99
    go_wp2
    refine bodyPost_ret (v := normV (some (0, 0))) (by simp [results, Tryz.results99, go_sem, normV]) rfl ⟨rfl, B1.out⟩
  have hm0b : (m == 0) = false := by simpa using hm0
  obtain ⟨k0, rfl⟩ : ∃ k0 : Nat, s = k0 := ⟨s.toNat, by omega⟩
  have he : ∀ (m' : Int) (k : Nat), strip k m'.natAbs = strip k0 m.natAbs → m' ≠ 0 → decOf (decide (m < 0)) m.natAbs k0 = decOf (decide (m < 0)) m'.natAbs k := by
    intro m' k h1 h2
    exact (decOf_strip _ m' k m.natAbs k0 h1 (by omega)).symm
  have He := Lib.hid he
  have B1 := Lib.hid b1
  clear b1 he
  go_enter Tryz.func99, Tryz.ntmps99
  go_wp2_with fail
  go_loop [0, 1] (fun s0 s1 => ∃ (m' : Int) (k : Nat), k ≤ k0 ∧ m' ≠ 0 ∧ -9223372036854775808 ≤ m' ∧ m' ≤ 9223372036854775807 ∧ s0 = .int .i64 m' ∧ s1 = .int .i64 (k : Nat) ∧ Hid (strip k m'.natAbs = strip k0 m.natAbs ∧ (m' < 0 ↔ m < 0))) (fun _ s1 => (intOf s1).toNat)
  case atStart => exact ⟨m, k0, Nat.le_refl _, hm0, hm1, hm2, rfl, rfl, rfl, Iff.rfl⟩
  case round =>
    obtain ⟨m', k, hk, hz, h1, h2, rfl, rfl, H⟩ := hrel
    obtain ⟨hst, hsg⟩ := H.out
    have hzb : (m' == 0) = false := by simpa using hz
    by_cases hgo : 0 < k ∧ m'.tmod 10 = 0
    · obtain ⟨hk0, ht⟩ := hgo
      have htb : (m'.tmod 10 == 0) = true := by simpa using ht
      obtain ⟨hq0, hqs⟩ := tdiv_sign m' ht hz
      have hqa := tdiv_abs m'
      obtain ⟨j, rfl⟩ : ∃ j, k = j + 1 := ⟨k - 1, by omega⟩
      rw [strip_step _ _ ((tmod_abs m').1 ht), ← hqa] at hst
      have hb1 : -9223372036854775808 ≤ m'.tdiv 10 := by omega
      have hb2 : m'.tdiv 10 ≤ 9223372036854775807 := by omega
      have Hst := Lib.hid hst
      have Hsg := Lib.hid (show m'.tdiv 10 < 0 ↔ m < 0 from hqs.trans hsg)
      have ej : ((j + 1 : Nat) : Int) - 1 = (j : Int) := by omega
      have Hq0 := Lib.hid hq0
      clear hst hsg hqs hqa H hq0
      go_wp2_with fail
      go_round
      case rel => exact ⟨m'.tdiv 10, j, by omega, Hq0.out, hb1, hb2, rfl, rfl, Hst.out, Hsg.out⟩
      case measure => simp [intOf]
    · have hid : strip k m'.natAbs = (m'.natAbs, k) := strip_id _ _ (by
        by_cases hk0 : k = 0
        · exact Or.inl hk0
        · exact Or.inr (fun e => hgo ⟨by omega, (tmod_abs m').2 e⟩))
      have hdec := He.out m' k hst hz
      have Hdec := Lib.hid hdec
      have Hid' := Lib.hid hid
      have Hsg := Lib.hid hsg
      have hkb : 0 < k → (m'.tmod 10 == 0) = false := fun h0 => by
        have : ¬ m'.tmod 10 = 0 := fun e => hgo ⟨h0, e⟩
        simpa using this
      clear hst hdec hid H hsg hgo
      have hout : decOf (decide (m < 0)) m'.natAbs k = if goodD m' k = true then some (m', k) else none := by
        unfold decOf
        rw [if_neg (show ¬ (k : Int) < 0 by omega), if_neg (by omega), Int.toNat_natCast, Hid'.out]
        have hg := goodD_iff m' k
        by_cases hgd : goodD m' k = true
        · rw [if_pos hgd]
          obtain ⟨_, g1, g2, _⟩ := hg.1 hgd
          rw [if_pos ⟨by show m'.natAbs ≤ big; unfold big; omega, by show k ≤ 18; omega⟩]
          have : (if decide (m < 0) = true then -((m'.natAbs : Nat) : Int) else ((m'.natAbs : Nat) : Int)) = m' := by
            have := Hsg.out
            by_cases hn : m < 0
            · rw [if_pos (by simpa using hn)]; omega
            · rw [if_neg (by simpa using hn)]; omega
          simp only [this]
        · rw [if_neg hgd, if_neg]
          rintro ⟨g1, g2⟩
          have g1' : m'.natAbs ≤ big := g1
          have g2' : k ≤ 18 := g2
          unfold big at g1'
          refine hgd (hg.2 ⟨by omega, by omega, by omega, ?_⟩)
          by_cases hk0 : k = 0
          · exact Or.inl (by omega)
          · exact Or.inr (by have := hkb (by omega); simpa using this)
      have Hout := Lib.hid (Hdec.out.trans hout)
      clear hout
      by_cases hk0 : k = 0
      · subst hk0
        go_wp2_with fail
        refine (good_calls _ _ _).mono ?_; rintro e w1 ⟨rfl, b1⟩
        have B2 := Lib.hid (trans9 (kb_alloc B1.out (Nat.le_refl _) (.cells #[.int .i64 m', .int .i64 0] 44)) b1)
        obtain ⟨hcell, hfr⟩ := bcell b1
        have c0 : w1.cell? ⟨w.heap.size, 0, none⟩ = some (.int .i64 0) := (hcell w.heap.size 0 (by simp; omega)).trans (by simp [go_sem])
        have c1 : w1.cell? ⟨w.heap.size, 1, none⟩ = some (.int .i64 0) := (hcell w.heap.size 1 (by simp; omega)).trans (by simp [go_sem])
        clear b1
        cases hg : goodD m' 0 with
        | false =>
          have ho := Hout.out
          rw [if_neg (by simpa using hg)] at ho
          have Ho := Lib.hid ho
          clear ho
          go_wp2
          refine bodyPost_ret (v := normV none) (by simp [results, Tryz.results99, go_sem, normV, c0, c1]) rfl ⟨by rw [Ho.out], ?_⟩
          repeat (refine Below.setCell ?_ (by simp) _)
          exact B2.out
        | true =>
          have ho := Hout.out
          rw [if_pos (by simpa using hg)] at ho
          have Ho := Lib.hid ho
          clear ho
          go_wp2
          refine bodyPost_ret (v := normV (some (m', 0))) (by simp [results, Tryz.results99, go_sem, normV, c0, c1]) rfl ⟨by rw [Ho.out], ?_⟩
          repeat (refine Below.setCell ?_ (by simp) _)
          exact B2.out
      · have hkb' := hkb (by omega)
        have hkp : 0 < k := by omega
        clear hkb
        go_wp2_with fail
        refine (good_calls _ _ _).mono ?_; rintro e w1 ⟨rfl, b1⟩
        have B2 := Lib.hid (trans9 (kb_alloc B1.out (Nat.le_refl _) (.cells #[.int .i64 m', .int .i64 k] 44)) b1)
        obtain ⟨hcell, hfr⟩ := bcell b1
        have c0 : w1.cell? ⟨w.heap.size, 0, none⟩ = some (.int .i64 0) := (hcell w.heap.size 0 (by simp; omega)).trans (by simp [go_sem])
        have c1 : w1.cell? ⟨w.heap.size, 1, none⟩ = some (.int .i64 0) := (hcell w.heap.size 1 (by simp; omega)).trans (by simp [go_sem])
        clear b1
        cases hg : goodD m' ((k : Nat) : Int) with
        | false =>
          have ho := Hout.out
          rw [if_neg (by simpa using hg)] at ho
          have Ho := Lib.hid ho
          clear ho
          go_wp2
          refine bodyPost_ret (v := normV none) (by simp [results, Tryz.results99, go_sem, normV, c0, c1]) rfl ⟨by rw [Ho.out], ?_⟩
          repeat (refine Below.setCell ?_ (by simp) _)
          exact B2.out
        | true =>
          have ho := Hout.out
          rw [if_pos (by simpa using hg)] at ho
          have Ho := Lib.hid ho
          clear ho
          go_wp2
          refine bodyPost_ret (v := normV (some (m', k))) (by simp [results, Tryz.results99, go_sem, normV, c0, c1]) rfl ⟨by rw [Ho.out], ?_⟩
          repeat (refine Below.setCell ?_ (by simp) _)
          exact B2.out

end Go.Proofs.YtgoibhbmndpgpaaGreatDoor

/- The walks of package sum's digits: magnitude, signed, spread, join; what an array of fifty-five digits is. -/
set_option linter.unusedVariables false
set_option linter.unusedSimpArgs false
namespace Go.Proofs.YtgoibhbmndpgpaaGreatDoor
open Go.RowKit Dc

/-- fifty-five digits, the last one first -/
def sA (z : Nat → Nat) : Array Value := Array.ofFn (n := 55) fun i => .int .u8 (z i.1 : Nat)
theorem sA_size (z : Nat → Nat) : (sA z).size = 55 := by simp [sA]
theorem sA_at (z : Nat → Nat) (i : Nat) (h : i < 55) : (sA z)[i]? = some (.int .u8 (z i : Nat)) := by
  unfold sA
  rw [Array.getElem?_ofFn, dif_pos h]
theorem sA_one (z : Nat → Nat) : (sA z).all (·.oneCell') = true := by
  rw [Array.all_eq_true]
  intro i hi
  have h := sA_at z i (by rw [sA_size] at hi; exact hi)
  rw [Array.getElem?_eq_getElem hi] at h
  rw [Option.some.inj h]; rfl
theorem sA_set (z : Nat → Nat) (n d : Nat) : (sA z).setIfInBounds n (.int .u8 (d : Nat)) = sA (fun i => if i = n then d else z i) := by
  apply Array.ext_getElem?
  intro i
  rw [Array.getElem?_setIfInBounds]
  by_cases hi : i < 55
  · rw [sA_at _ _ hi, sA_at _ _ hi, sA_size]
    by_cases h : n = i
    · subst h; simp [hi]
    · rw [if_neg h, if_neg (fun e => h e.symm)]
  · rw [Array.getElem?_eq_none (by rw [sA_size]; omega), Array.getElem?_eq_none (by rw [sA_size]; omega), sA_size]
    split
    · rename_i h; subst h; rw [if_neg hi]
    · rfl
theorem sA_ext {z z' : Nat → Nat} (h : ∀ i, i < 55 → z i = z' i) : sA z = sA z' := by
  apply Array.ext_getElem?
  intro i
  by_cases hi : i < 55
  · rw [sA_at _ _ hi, sA_at _ _ hi, h i hi]
  · rw [Array.getElem?_eq_none (by rw [sA_size]; omega), Array.getElem?_eq_none (by rw [sA_size]; omega)]

/-- fifty-five digits lie in block b -/
structure SAt (w : World) (b : Nat) (z : Nat → Nat) : Prop where
  heap : w.heap[b]? = some (.cells (sA z) 98 (0, 0))
theorem SAt.lt {w : World} {b : Nat} {z : Nat → Nat} (h : SAt w b z) : b < w.heap.size := (Array.getElem?_eq_some_iff.1 h.heap).1
theorem SAt.cell {w : World} {b : Nat} {z : Nat → Nat} (h : SAt w b z) (i : Nat) (hi : i < 55) : w.cell? ⟨b, i, none⟩ = some (.int .u8 (z i : Nat)) := by
  rw [Lib.cell_of_heap h.heap, sA_at z i hi]
theorem SAt.free {w : World} {b : Nat} {z : Nat → Nat} (h : SAt w b z) (i : Nat) : w.frozen? ⟨b, i, none⟩ = false := Lib.frozen_of_heap h.heap i
theorem SAt.set {w : World} {b : Nat} {z : Nat → Nat} (h : SAt w b z) (n d : Nat) : SAt (w.setCell ⟨b, n, none⟩ (.int .u8 (d : Nat))) b (fun i => if i = n then d else z i) :=
  ⟨by rw [heap_setCell_same w b n _ _ _ h.heap, sA_set]⟩
theorem SAt.other {w : World} {b : Nat} {z : Nat → Nat} (h : SAt w b z) (a : Addr) (v : Value) (hne : b ≠ a.block) : SAt (w.setCell a v) b z :=
  ⟨by rw [Below.heap_setCell w a v b hne]; exact h.heap⟩
theorem SAt.below {w w' : World} {b B : Nat} {z : Nat → Nat} (h : SAt w b z) (hb : Below B w w') (hB : b < B) : SAt w' b z :=
  ⟨by rw [hb.block b hB]; exact h.heap⟩
theorem SAt.keep {w w' : World} {b : Nat} {z : Nat → Nat} (h : SAt w b z) (hb : Below w.heap.size w w') : SAt w' b z := h.below hb h.lt
theorem SAt.alloc {w : World} {b : Nat} {z : Nat → Nat} (h : SAt w b z) (o : Obj) : SAt (w.alloc o) b z := h.keep ((Below.refl _ _).alloc (Nat.le_refl _) o)
theorem SAt.new (w : World) (z : Nat → Nat) : SAt (w.alloc (.cells (sA z) 98)) w.heap.size z := ⟨heap_alloc_new w _⟩
theorem SAt.ext {w : World} {b : Nat} {z z' : Nat → Nat} (h : SAt w b z) (e : ∀ i, i < 55 → z i = z' i) : SAt w b z' := ⟨by rw [← sA_ext e]; exact h.heap⟩
theorem SAt.drew {w : World} {b n : Nat} {z : Nat → Nat} (h : SAt w b z) : SAt (w.drewN n) b z := ⟨h.heap⟩
set_option maxRecDepth 100000 in
theorem zeros_sA : (Obj.cells #[.int .u8 0, .int .u8 0, .int .u8 0, .int .u8 0, .int .u8 0, .int .u8 0, .int .u8 0, .int .u8 0, .int .u8 0, .int .u8 0, .int .u8 0, .int .u8 0, .int .u8 0, .int .u8 0, .int .u8 0, .int .u8 0, .int .u8 0, .int .u8 0, .int .u8 0, .int .u8 0, .int .u8 0, .int .u8 0, .int .u8 0, .int .u8 0, .int .u8 0, .int .u8 0, .int .u8 0, .int .u8 0, .int .u8 0, .int .u8 0, .int .u8 0, .int .u8 0, .int .u8 0, .int .u8 0, .int .u8 0, .int .u8 0, .int .u8 0, .int .u8 0, .int .u8 0, .int .u8 0, .int .u8 0, .int .u8 0, .int .u8 0, .int .u8 0, .int .u8 0, .int .u8 0, .int .u8 0, .int .u8 0, .int .u8 0, .int .u8 0, .int .u8 0, .int .u8 0, .int .u8 0, .int .u8 0, .int .u8 0] 98 (0, 0)) = .cells (sA (fun _ => 0)) 98 (0, 0) := by
  congr 1
theorem sum_info : (Tryz.prog.info? 98).map (·.size) = some 55 := by kernel_rfl
theorem SAt.row {w : World} {b : Nat} {z : Nat → Nat} (h : SAt w b z) (z' : Nat → Nat) : SAt (w.setRow b (sA z')) b z' := ⟨setRow_heap w b _ _ _ _ h.heap⟩
theorem SAt.value {w : World} {b : Nat} {z : Nat → Nat} (h : SAt w b z) : (loadVar 98 ⟨b, 0, none⟩).run Tryz.prog w = .ok (.agg (sA z)) w :=
  run_loadVar_row w b _ _ _ _ _ h.heap Tryz.underlying98 rfl (by rw [sA_size]; exact sum_info)

theorem magnitude_calls (m : Int) (w : World) (h1 : m.natAbs ≤ big) :
    Calls Tryz.prog 118 #[.int .i64 m] w fun e w' => e = .returned (.int .u64 (m.natAbs : Nat)) ∧ w = w' := by
  unfold big at h1
  by_cases h0 : m < 0
  · have e : ((m.natAbs : Nat) : Int) = -m := by omega
    rw [e]
    clear e
    go_enter Tryz.func118, Tryz.ntmps118
    go_wp2
    go_ret
    exact ⟨rfl, rfl⟩
  · have e : ((m.natAbs : Nat) : Int) = m := by omega
    rw [e]
    clear e
    go_enter Tryz.func118, Tryz.ntmps118
    go_wp2
    go_ret
    exact ⟨rfl, rfl⟩
def sgnV (neg : Bool) (n : Nat) : Int := if neg then -(n : Int) else (n : Int)
theorem signed_calls (neg : Bool) (n : Nat) (w : World) (h1 : n ≤ big) :
    Calls Tryz.prog 103 #[.bool neg, .int .i64 (n : Nat)] w fun e w' => e = .returned (.int .i64 (sgnV neg n)) ∧ w = w' := by
  unfold big at h1
  cases neg with
  | true =>
    go_enter Tryz.func103, Tryz.ntmps103
    go_wp2
    go_ret
    exact ⟨rfl, rfl⟩
  | false =>
    go_enter Tryz.func103, Tryz.ntmps103
    go_wp2
    go_ret
    exact ⟨rfl, rfl⟩

set_option maxRecDepth 100000 in
set_option maxHeartbeats 4000000 in
theorem sspread_calls (m : Int) (u : Nat) (w : World) (hm : m.natAbs ≤ big) (hu : u ≤ 36) :
    Calls Tryz.prog 101 #[.int .i64 m, .int .i64 (u : Nat)] w fun e w' => e = .returned (.agg (sA (dgt (m.natAbs * 10 ^ u)))) ∧ Below w.heap.size w w' := by
  have hl := Lib.hid (digs_small hm)
  have hmag := Lib.hid (fun W => magnitude_calls m W hm)
  generalize hM : m.natAbs = M at *
  unfold big at hm
  clear hM
  go_enter Tryz.func101, Tryz.ntmps101
  go_wp2_with fail
  rw [zeros_sA]
  have b1 := (Below.refl w.heap.size w).alloc (Nat.le_refl _) (.cells (sA (fun _ => 0)) 98)
  have b2 := kb_alloc b1 (Nat.le_refl _) (.cells (sA (fun _ => 0)) 98)
  have d1 := (SAt.new w (fun _ => 0)).alloc (.cells (sA (fun _ => 0)) 98)
  have d2 := SAt.new (w.alloc (.cells (sA (fun _ => 0)) 98)) (fun _ => 0)
  rw [show (w.alloc (.cells (sA (fun _ => 0)) 98)).heap.size = w.heap.size + 1 by simp] at d2
  generalize (w.alloc (.cells (sA (fun _ => 0)) 98)).alloc (.cells (sA (fun _ => 0)) 98) = W at *
  clear b1
  refine (hmag.out _).mono ?_; rintro e w1 ⟨rfl, rfl⟩
  clear hmag
  go_wp2_with fail
  go_loopw [1, 6] (fun s1 s6 wr => ∃ n q : Nat, n ≤ 19 ∧ q ≤ M ∧ s1 = .int .i64 ((u + n : Nat) : Int) ∧ s6 = .int .u64 (q : Nat) ∧ Hid (q = M / 10 ^ n ∧ (digs q).length + n = (digs M).length ∧ Below w.heap.size w wr ∧ SAt wr w.heap.size (fun _ => 0) ∧ SAt wr (w.heap.size + 1) (fun i => if u ≤ i ∧ i < u + n then dgt M (i - u) else 0))) (fun _ s6 _ => (intOf s6).toNat)
  case atStart => exact ⟨0, M, by omega, Nat.le_refl _, rfl, rfl, by simp, by simp, b2, d1, d2.ext (fun i _ => by rw [if_neg (by omega)])⟩
  case round =>
    obtain ⟨n, q, hn, hq, rfl, rfl, H⟩ := hrel
    obtain ⟨hq2, hql, hB, hd1, hd2⟩ := H.out
    by_cases h0 : q = 0
    · subst h0
      have Hq := Lib.hid hql
      clear hq2 hql d1 d2 b2 H
      go_wp2_with (first
        | (refine wpList_load_row rfl 98 _ rfl (w.heap.size + 1) rfl 98 _ (0, 0) _ hd2.heap Tryz.underlying98 rfl (by rw [sA_size]; exact sum_info) ?_)
        | (refine wpList_store_row rfl 98 _ _ rfl w.heap.size _ rfl rfl 98 _ hd1.heap (by rw [sA_size]; exact sum_info) (by rw [sA_size, sA_size]) (sA_one _) ?_))
      have hlen : n = (digs M).length := by have := Hq.out; rw [digs_zero] at this; simpa using this
      have hex : ∀ i, i < 55 → (fun i => if u ≤ i ∧ i < u + n then dgt M (i - u) else 0) i = dgt (M * 10 ^ u) i := fun i _ => by
        show (if u ≤ i ∧ i < u + n then dgt M (i - u) else 0) = _
        rw [dgt_up]
        by_cases h : u ≤ i
        · rw [if_pos h]
          by_cases h2 : i < u + n
          · rw [if_pos ⟨h, h2⟩]
          · rw [if_neg (fun e => h2 e.2)]
            have h1 := digs_lt M
            exact (dgt_of_le h1 (by omega)).symm
        · rw [if_neg h, if_neg (fun e => h e.1)]
      have hv := (hd1.row (fun i => if u ≤ i ∧ i < u + n then dgt M (i - u) else 0)).value
      rw [sA_ext hex] at hv ⊢
      refine bodyPost_ret (v := .agg (sA (dgt (M * 10 ^ u)))) (by simp [results, Tryz.results101, Act.put, asAddr, hv, Result.andThen]) rfl ⟨rfl, below_setRow hB (Nat.le_refl _) _⟩
    · have hn19 : n < 19 := by
        have := hl.out
        rw [digs_pos h0, List.length_append, List.length_singleton] at hql
        omega
      have hc := hd2.cell (u + n) (by omega)
      have hf := hd2.free (u + n)
      have Hq := Lib.hid hq2
      have Hl := Lib.hid hql
      have HB := Lib.hid hB
      have H1 := Lib.hid hd1
      have H2 := Lib.hid hd2
      clear hq2 hql hB hd1 hd2 H d1 d2 b2
      go_wp2_with fail
      go_roundw
      case rel =>
        have e1 : ((q : Int) % 10) = ((q % 10 : Nat) : Int) := by omega
        have e2 : ((q : Int) / 10) = ((q / 10 : Nat) : Int) := by omega
        have hq2 := Hq.out
        have hql := Hl.out
        rw [digs_pos h0, List.length_append, List.length_singleton] at hql
        rw [e1, e2]
        refine ⟨n + 1, q / 10, hn19, by omega, by go_num, rfl, by rw [hq2, Nat.div_div_eq_div_mul, Nat.pow_succ], by omega, HB.out.setCell (p := ⟨w.heap.size + 1, u + n, none⟩) (by simp) _, H1.out.other _ _ (by simp), (H2.out.set (u + n) (q % 10)).ext fun i _ => ?_⟩
        by_cases h : i = u + n
        · subst h; rw [if_pos rfl, if_pos (by omega), hq2, Nat.add_sub_cancel_left]; rfl
        · rw [if_neg h]
          by_cases h3 : u ≤ i ∧ i < u + n
          · rw [if_pos h3, if_pos (by omega)]
          · rw [if_neg h3, if_neg (by omega)]
      case measure => simp [intOf]; omega

end Go.Proofs.YtgoibhbmndpgpaaGreatDoor

/- The walks of package sum's digits: join, compare, plus, minus. -/
set_option linter.unusedVariables false
set_option linter.unusedSimpArgs false
namespace Go.Proofs.YtgoibhbmndpgpaaGreatDoor
open Go.RowKit Dc

set_option maxRecDepth 100000 in
set_option maxHeartbeats 4000000 in
theorem sjoin_calls (x : Nat) (hx : x < 10 ^ 55) (w : World) :
    Calls Tryz.prog 102 #[.agg (sA (dgt x))] w fun e w' => e = .returned (joinV x) ∧ Below w.heap.size w w' := by
  have b1 := (Below.refl w.heap.size w).alloc (Nat.le_refl _) (.cells (sA (dgt x)) 98)
  have d1 := SAt.new w (dgt x)
  have hs := sA_size (dgt x)
  have hone := sA_one (dgt x)
  have B1 := Lib.hid b1
  have D1 := Lib.hid d1
  have Hx := Lib.hid hx
  clear b1 d1 hx
  go_enter Tryz.func102, Tryz.ntmps102
  go_wp2_with fail
  generalize w.alloc (.cells (sA (dgt x)) 98) = W at *
  clear hs hone
  go_loop [10] (fun s10 => ∃ j : Nat, j ≤ 36 ∧ s10 = .int .i64 (j : Nat) ∧ Hid (∀ i, 19 ≤ i → i < 19 + j → dgt x i = 0)) (fun s10 => 36 - (intOf s10).toNat)
  case atStart => exact ⟨0, by omega, rfl, fun i h1 h2 => by omega⟩
  case round =>
    obtain ⟨j, hj, rfl, H⟩ := hrel
    by_cases h36 : j < 36
    · have hc := D1.out.cell (19 + j) (by omega)
      by_cases h0 : dgt x (19 + j) = 0
      · have hstep : Hid (∀ i, 19 ≤ i → i < 19 + (j + 1) → dgt x i = 0) := fun i h1 h2 => by
          by_cases h : i = 19 + j
          · rw [h]; exact h0
          · exact H.out i h1 (by omega)
        rw [h0] at hc
        clear h0 H
        go_wp2_with fail
        go_round
        case rel => exact ⟨j + 1, by omega, by go_num, hstep.out⟩
        case measure => simp [intOf]; omega
      · have hbig : Hid (¬ x ≤ big) := fun e => by
          unfold big at e
          exact h0 (dgt_of_le (i := 19) (by omega) (by omega))
        have hd : (0 : Int) < ((dgt x (19 + j) : Nat) : Int) := by omega
        clear h0 H
        generalize dgt x (19 + j) = d at *
        go_wp2_with fail
        go_ret2
        exact ⟨by rw [joinV_gt hbig.out]; rfl, B1.out⟩
    · obtain rfl : j = 36 := by omega
      have hlow : Hid (x < 10 ^ 19) := lt_pow_of_dgts (k := 19) 36 (by have := Hx.out; simpa using this) (fun i h1 h2 => H.out i h1 h2)
      rw [show ((36 : Nat) : Int) = 36 from rfl]
      clear H
      go_wp2_with fail
      go_loop [6, 7] (fun s6 s7 => ∃ j t : Nat, j ≤ 19 ∧ s7 = .int .i64 ((j : Int) - 1) ∧ s6 = .int .u64 (t : Nat) ∧ Hid (t = x / 10 ^ j)) (fun _ s7 => (intOf s7 + 1).toNat)
      case atStart => exact ⟨19, 0, Nat.le_refl _, rfl, rfl, (Nat.div_eq_of_lt hlow.out).symm⟩
      case round =>
        obtain ⟨j, t, hj, rfl, rfl, H⟩ := hrel
        rcases j with _ | j
        · have ht : t = x := by have := H.out; simpa using this
          have hb : t < 10000000000000000000 := by have := hlow.out; omega
          have Ht := Lib.hid ht
          clear ht H
          by_cases h : t ≤ 9223372036854775807
          · go_wp2_with fail
            go_ret2
            exact ⟨by rw [← Ht.out, joinV_le (show t ≤ big from h)]; rfl, B1.out⟩
          · go_wp2_with fail
            go_ret2
            exact ⟨by rw [← Ht.out, joinV_gt (show ¬ t ≤ big from h)]; rfl, B1.out⟩
        · have e : ((j + 1 : Nat) : Int) - 1 = (j : Int) := by omega
          rw [e]
          have hc := D1.out.cell j (by omega)
          have hstep : x / 10 ^ j = 10 * t + dgt x j := by rw [H.out]; exact div_step x j
          have hle : x / 10 ^ j ≤ x := Nat.div_le_self _ _
          have hb : 10 * t + dgt x j < 10000000000000000000 := by have := hlow.out; omega
          have Hs := Lib.hid hstep
          clear hstep hle e H
          generalize dgt x j = d at *
          go_wp2_with fail
          go_round
          case rel => exact ⟨j, 10 * t + d, by omega, rfl, by go_num, Hs.out.symm⟩
          case measure => simp [intOf]

end Go.Proofs.YtgoibhbmndpgpaaGreatDoor

/- The walk of package sum's compare of digits. -/
set_option linter.unusedVariables false
set_option linter.unusedSimpArgs false
namespace Go.Proofs.YtgoibhbmndpgpaaGreatDoor
open Go.RowKit Dc

set_option maxRecDepth 100000 in
set_option maxHeartbeats 4000000 in
theorem compare_calls (x y : Nat) (hx : x < 10 ^ 55) (hy : y < 10 ^ 55) (w : World) :
    Calls Tryz.prog 82 #[.agg (sA (dgt x)), .agg (sA (dgt y))] w fun e w' => e = .returned (.int .i64 (ord3 x y)) ∧ Below w.heap.size w w' := by
  have b1 := (Below.refl w.heap.size w).alloc (Nat.le_refl _) (.cells (sA (dgt x)) 98)
  have b2 := kb_alloc b1 (Nat.le_refl _) (.cells (sA (dgt y)) 98)
  have d1 := (SAt.new w (dgt x)).alloc (.cells (sA (dgt y)) 98)
  have d2 := SAt.new (w.alloc (.cells (sA (dgt x)) 98)) (dgt y)
  rw [show (w.alloc (.cells (sA (dgt x)) 98)).heap.size = w.heap.size + 1 by simp] at d2
  have hs := sA_size (dgt x)
  have hone := sA_one (dgt x)
  have hs2 := sA_size (dgt y)
  have hone2 := sA_one (dgt y)
  have B2 := Lib.hid b2
  have D1 := Lib.hid d1
  have D2 := Lib.hid d2
  have Hx := Lib.hid (show x / 10 ^ 55 = y / 10 ^ 55 by rw [Nat.div_eq_of_lt hx, Nat.div_eq_of_lt hy])
  clear b1 b2 d1 d2 hx hy
  go_enter Tryz.func82, Tryz.ntmps82
  go_wp2_with fail
  generalize (w.alloc (.cells (sA (dgt x)) 98)).alloc (.cells (sA (dgt y)) 98) = W at *
  clear hs hone hs2 hone2
  go_loopw [5] (fun s5 wr => ∃ j : Nat, j ≤ 55 ∧ s5 = .int .i64 ((j : Int) - 1) ∧ Hid (x / 10 ^ j = y / 10 ^ j ∧ Below w.heap.size w wr ∧ SAt wr w.heap.size (dgt x) ∧ SAt wr (w.heap.size + 1) (dgt y))) (fun s5 _ => (intOf s5 + 1).toNat)
  case atStart => exact ⟨55, Nat.le_refl _, rfl, Hx.out, B2.out, D1.out, D2.out⟩
  case round =>
    clear Hx B2 D1 D2
    obtain ⟨j, hj, rfl, H⟩ := hrel
    obtain ⟨he, hB, hd1, hd2⟩ := H.out
    rcases j with _ | j
    · have hxy : Hid (ord3 (x : Int) (y : Int) = 0) := ord3_eq (congrArg Int.ofNat (show x = y by simpa using he))
      have HB := Lib.hid hB
      clear he hB hd1 hd2 H
      go_wp2_with fail
      go_ret
      exact ⟨by rw [hxy.out]; rfl, HB.out⟩
    · have e : ((j + 1 : Nat) : Int) - 1 = (j : Int) := by omega
      rw [e]
      have c1 := hd1.cell j (by omega)
      have c2 := hd2.cell j (by omega)
      have HH := Lib.hid (⟨hB, hd1, hd2⟩ : _ ∧ _ ∧ _)
      have h3 : Hid (dgt x j < dgt y j → ord3 (x : Int) (y : Int) = -1) := fun h => ord3_lt (by have := ord_lt_of_dgt he h; omega)
      have h4 : Hid (dgt y j < dgt x j → ord3 (x : Int) (y : Int) = 1) := fun h => ord3_gt (by have := ord_lt_of_dgt he.symm h; omega)
      have h5 : Hid (dgt x j = dgt y j → x / 10 ^ j = y / 10 ^ j) := fun h => ord_eq_of_dgt he h
      clear he hB hd1 hd2 H e
      generalize dgt x j = a at *
      generalize dgt y j = b at *
      have hxy : a < b ∨ b < a ∨ a = b := by omega
      rcases hxy with hx | hx | hx
      · have q1 : decide ((a : Int) < (b : Int)) = true := by simp; omega
        have q2 : decide (a < b) = true := by simp; omega
        have H3 := Lib.hid (h3.out hx)
        clear hx h3 h4 h5
        go_wp2_with fail
        go_quiet (fail)
        go_wp2_with fail
        go_ret
        exact ⟨by rw [H3.out]; rfl, below_drewN HH.out.1 nq⟩
      · have q1 : decide ((a : Int) < (b : Int)) = false := by simp; omega
        have q2 : decide (a < b) = false := by simp; omega
        have q3 : decide ((b : Int) < (a : Int)) = true := by simp; omega
        have q4 : decide (b < a) = true := by simp; omega
        have H3 := Lib.hid (h4.out hx)
        clear hx h3 h4 h5
        go_wp2_with fail
        go_quiet (fail)
        go_wp2_with fail
        go_quiet (fail)
        go_wp2_with fail
        go_ret
        exact ⟨by rw [H3.out]; rfl, (by repeat (first | exact HH.out.1 | refine below_drewN ?_ _))⟩
      · subst hx
        have q1 : decide ((a : Int) < (a : Int)) = false := by simp
        have q2 : decide (a < a) = false := by simp
        have H3 := Lib.hid (h5.out rfl)
        clear h3 h4 h5
        go_wp2_with fail
        go_quiet (fail)
        go_wp2_with fail
        go_quiet (fail)
        go_wp2_with fail
        go_roundw
        case rel => exact ⟨j, by omega, rfl, H3.out, (by repeat (first | exact HH.out.1 | refine below_drewN ?_ _)), ⟨HH.out.2.1.heap⟩, ⟨HH.out.2.2.heap⟩⟩
        case measure => simp [intOf]

end Go.Proofs.YtgoibhbmndpgpaaGreatDoor

/- The walks of what package sum calls of math/bits, at the numbers that it hands over: Len64, LeadingZeros64, Mul64 by ten, Add64, Div64. -/
set_option linter.unusedVariables false
set_option linter.unusedSimpArgs false
namespace Go.Proofs.YtgoibhbmndpgpaaGreatDoor
open Go.RowKit Dc

set_option maxRecDepth 100000 in
theorem fold_len8 : ({ data := (([0, 1, 2, 2, 3, 3, 3, 3, 4, 4, 4, 4, 4, 4, 4, 4, 5, 5, 5, 5, 5, 5, 5, 5, 5, 5, 5, 5, 5, 5, 5, 5, 6, 6, 6, 6, 6, 6, 6, 6, 6, 6, 6, 6, 6, 6, 6, 6, 6, 6, 6, 6, 6, 6, 6, 6, 6, 6, 6, 6, 6, 6, 6, 6].append [7, 7, 7, 7, 7, 7, 7, 7, 7, 7, 7, 7, 7, 7, 7, 7, 7, 7, 7, 7, 7, 7, 7, 7, 7, 7, 7, 7, 7, 7, 7, 7, 7, 7, 7, 7, 7, 7, 7, 7, 7, 7, 7, 7, 7, 7, 7, 7, 7, 7, 7, 7, 7, 7, 7, 7, 7, 7, 7, 7, 7, 7, 7, 7]).append ([8, 8, 8, 8, 8, 8, 8, 8, 8, 8, 8, 8, 8, 8, 8, 8, 8, 8, 8, 8, 8, 8, 8, 8, 8, 8, 8, 8, 8, 8, 8, 8, 8, 8, 8, 8, 8, 8, 8, 8, 8, 8, 8, 8, 8, 8, 8, 8, 8, 8, 8, 8, 8, 8, 8, 8, 8, 8, 8, 8, 8, 8, 8, 8].append [8, 8, 8, 8, 8, 8, 8, 8, 8, 8, 8, 8, 8, 8, 8, 8, 8, 8, 8, 8, 8, 8, 8, 8, 8, 8, 8, 8, 8, 8, 8, 8, 8, 8, 8, 8, 8, 8, 8, 8, 8, 8, 8, 8, 8, 8, 8, 8, 8, 8, 8, 8, 8, 8, 8, 8, 8, 8, 8, 8, 8, 8, 8, 8])).toArray } : ByteArray) = Lib.len8tab := by decide +kernel
attribute [local go_sem ↓] fold_len8
end Go.Proofs.YtgoibhbmndpgpaaGreatDoor

/- A decimal in a block of its own; equality of decimals as one step. -/
set_option linter.unusedVariables false
set_option linter.unusedSimpArgs false
namespace Go.Proofs.YtgoibhbmndpgpaaGreatDoor
open Go.RowKit Dc

/-- a decimal lies in block b, where it may be written -/
structure DecAt (w : World) (b : Nat) (m s : Int) : Prop where
  c0 : w.cell? ⟨b, 0, none⟩ = some (.int .i64 m)
  c1 : w.cell? ⟨b, 1, none⟩ = some (.int .i64 s)
  f0 : w.frozen? ⟨b, 0, none⟩ = false
  f1 : w.frozen? ⟨b, 1, none⟩ = false
  lt : b < w.heap.size
theorem DecAt.below {w w' : World} {b : Nat} {m s : Int} (h : DecAt w b m s) (hb : Below w.heap.size w w') : DecAt w' b m s :=
  ⟨(hb.cell (p := ⟨b, 0, none⟩) h.lt).trans h.c0, (hb.cell (p := ⟨b, 1, none⟩) h.lt).trans h.c1, (hb.frozen (p := ⟨b, 0, none⟩) h.lt).trans h.f0, (hb.frozen (p := ⟨b, 1, none⟩) h.lt).trans h.f1, Nat.lt_of_lt_of_le h.lt hb.size⟩
theorem DecAt.new (w : World) (m s : Int) : DecAt (w.alloc (.cells #[.int .i64 m, .int .i64 s] 44)) w.heap.size m s :=
  ⟨by simp [go_sem], by simp [go_sem], by simp [go_sem], by simp [go_sem], by simp⟩
theorem DecAt.alloc {w : World} {b : Nat} {m s : Int} (h : DecAt w b m s) (o : Obj) : DecAt (w.alloc o) b m s := h.below ((Below.refl _ _).alloc (Nat.le_refl _) o)
theorem DecAt.drew {w : World} {b : Nat} {m s : Int} (h : DecAt w b m s) : DecAt w.drew b m s := ⟨h.c0, h.c1, h.f0, h.f1, h.lt⟩
theorem DecAt.row {w : World} {b g : Nat} {m s : Int} (h : DecAt w b m s) (c : Array Value) (hne : b ≠ g) : DecAt (w.setRow g c) b m s := by
  have e : (w.setRow g c).heap[b]? = w.heap[b]? := setRow_other w g b c (by omega)
  have hc : ∀ i, (w.setRow g c).cell? ⟨b, i, none⟩ = w.cell? ⟨b, i, none⟩ := fun i => by unfold World.cell?; rw [e]
  have hf : ∀ i, (w.setRow g c).frozen? ⟨b, i, none⟩ = w.frozen? ⟨b, i, none⟩ := fun i => by unfold World.frozen?; rw [e]
  exact ⟨(hc 0).trans h.c0, (hc 1).trans h.c1, (hf 0).trans h.f0, (hf 1).trans h.f1, by show b < (Array.modify _ _ _).size; rw [Array.size_modify]; exact h.lt⟩

theorem eql_dec (a b c d : Int) (W : World) : (binOp .eql 44 (dv2 a b) (dv2 c d)).run Tryz.prog W = .ok (.bool (decide (a = c ∧ b = d))) W := by
  by_cases h1 : a = c
  · subst h1
    by_cases h2 : b = d
    · subst h2
      go_simp
    · have h2b : (b == d) = false := by simpa using h2
      go_simp
  · have h1b : (a == c) = false := by simpa using h1
    go_simp

end Go.Proofs.YtgoibhbmndpgpaaGreatDoor

/- The walks of package sum's differ, level, orZero, decimal. -/
set_option linter.unusedVariables false
set_option linter.unusedSimpArgs false
namespace Go.Proofs.YtgoibhbmndpgpaaGreatDoor
open Go.RowKit Dc

set_option maxRecDepth 100000 in
set_option maxHeartbeats 2000000 in
theorem level_calls (m s : Int) (w : World) (hm : m.natAbs ≤ big) (hs0 : 0 ≤ s) (hs1 : s ≤ 18) :
    Calls Tryz.prog 81 #[dv2 m s] w fun e w' => e = .returned (.agg (sA (dgt (lev m s)))) ∧ Below w.heap.size w w' := by
  have b1 := (Below.refl w.heap.size w).alloc (Nat.le_refl _) (.cells #[.int .i64 m, .int .i64 s] 44)
  have b2 := Lib.hid (kb_alloc b1 (Nat.le_refl _) (.cells (sA (fun _ => 0)) 98))
  have d2 := Lib.hid (SAt.new (w.alloc (.cells #[.int .i64 m, .int .i64 s] 44)) (fun _ => 0))
  rw [show (w.alloc (.cells #[.int .i64 m, .int .i64 s] 44)).heap.size = w.heap.size + 1 by simp] at d2
  have hsp := Lib.hid (fun W => sspread_calls m (18 - s).toNat W hm (by omega))
  rw [show (((18 - s).toNat : Nat) : Int) = 18 - s by omega, show m.natAbs * 10 ^ (18 - s).toNat = lev m s from rfl] at hsp
  obtain ⟨x, hx⟩ : ∃ x, x = lev m s := ⟨_, rfl⟩
  rw [← hx] at hsp ⊢
  clear b1 hx
  go_enter Tryz.func81, Tryz.ntmps81
  go_wp2_with fail
  rw [zeros_sA]
  refine (hsp.out _).mono ?_; rintro e w1 ⟨rfl, c1⟩
  have D2 := d2.out.keep c1
  have B2 := Lib.hid (b2.out.trans (c1.mono b2.out.size))
  clear c1 b2 d2 hsp
  go_wp2_with (first
    | (refine wpList_store_row rfl 98 _ _ rfl (w.heap.size + 1) _ rfl rfl 98 _ D2.heap (by rw [sA_size]; exact sum_info) (by rw [sA_size, sA_size]) (sA_one _) ?_))
  have hv := (D2.row (dgt x)).value
  refine bodyPost_ret (v := .agg (sA (dgt x))) (by simp [results, Tryz.results81, Act.put, asAddr, hv, Result.andThen]) rfl ⟨rfl, below_setRow B2.out (by omega) _⟩

set_option maxHeartbeats 2000000 in
theorem orZero_calls (m s : Int) (w : World) :
    Calls Tryz.prog 80 #[dv2 m s] w fun e w' => e = .returned (dv2 (orZ m s).1 (orZ m s).2) ∧ Below w.heap.size w w' := by
  have b1 := (Below.refl w.heap.size w).alloc (Nat.le_refl _) (.cells #[.int .i64 m, .int .i64 s] 44)
  have b2 := Lib.hid (kb_alloc b1 (Nat.le_refl _) (.cells #[.int .i64 0, .int .i64 0] 44))
  have d1 := Lib.hid ((DecAt.new w m s).alloc (.cells #[.int .i64 0, .int .i64 0] 44))
  have d2 := Lib.hid (DecAt.new (w.alloc (.cells #[.int .i64 m, .int .i64 s] 44)) 0 0)
  rw [show (w.alloc (.cells #[.int .i64 m, .int .i64 s] 44)).heap.size = w.heap.size + 1 by simp] at d2
  clear b1
  go_enter Tryz.func80, Tryz.ntmps80
  go_wp2_with fail
  refine (good_calls _ _ _).mono ?_; rintro e w1 ⟨rfl, c1⟩
  have D1 := d1.out.below c1
  have D2 := d2.out.below c1
  have B2 := Lib.hid (b2.out.trans (c1.mono b2.out.size))
  obtain ⟨p0, p1, p2, p3, p4⟩ := D1
  obtain ⟨q0, q1, q2, q3, q4⟩ := D2
  clear c1 b2 d1 d2
  cases hg : goodD m s with
  | false =>
    have hz := Lib.hid (orZ_bad hg)
    clear hg
    go_wp2
    refine bodyPost_ret (v := dv2 0 0) (by simp [results, Tryz.results80, go_sem, q0, q1, q2, q3]) rfl ⟨by rw [hz.out], ?_⟩
    repeat (refine Below.setCell ?_ (by simp) _)
    exact B2.out
  | true =>
    have hz := Lib.hid (orZ_good hg)
    clear hg
    go_wp2
    refine bodyPost_ret (v := dv2 m s) (by simp [results, Tryz.results80, go_sem, q0, q1, q2, q3]) rfl ⟨by rw [hz.out], ?_⟩
    repeat (refine Below.setCell ?_ (by simp) _)
    exact B2.out

end Go.Proofs.YtgoibhbmndpgpaaGreatDoor

/- Steps of regions that draw their order, over arrays of digits and decimals in blocks of one's own. -/
set_option linter.unusedVariables false
set_option linter.unusedSimpArgs false
namespace Go.Proofs.YtgoibhbmndpgpaaGreatDoor
open Go.RowKit Dc

/-- a decimal stored in its block -/
def putDec (w : World) (b : Nat) (m s : Int) : World := (w.setCell ⟨b, 0, none⟩ (.int .i64 m)).setCell ⟨b, 1, none⟩ (.int .i64 s)
theorem DecAt.put {w : World} {b : Nat} {m s : Int} (h : DecAt w b m s) (m' s' : Int) : DecAt (putDec w b m' s') b m' s' := by
  obtain ⟨c0, c1, f0, f1, lt⟩ := h
  unfold putDec
  exact ⟨by simp [go_sem, c0, c1, f0, f1], by simp [go_sem, c0, c1, f0, f1], by simp [go_sem, c0, c1, f0, f1], by simp [go_sem, c0, c1, f0, f1], by simpa using lt⟩
theorem DecAt.putOther {w : World} {b g : Nat} {m s : Int} (h : DecAt w b m s) (hne : b ≠ g) (m' s' : Int) : DecAt (putDec w g m' s') b m s := by
  obtain ⟨c0, c1, f0, f1, lt⟩ := h
  have hne2 : ¬ g = b := fun e => hne e.symm
  unfold putDec
  exact ⟨by simp [go_sem, c0, hne, hne2], by simp [go_sem, c1, hne, hne2], by simp [go_sem, f0, hne, hne2], by simp [go_sem, f1, hne, hne2], by simpa using lt⟩
theorem SAt.putOther {w : World} {b g : Nat} {z : Nat → Nat} (h : SAt w b z) (hne : b ≠ g) (m s : Int) : SAt (putDec w g m s) b z := (h.other _ _ hne).other _ _ hne
theorem below_put {B : Nat} {a w : World} (h : Below B a w) {g : Nat} (hg : B ≤ g) (m s : Int) : Below B a (putDec w g m s) := (h.setCell (p := ⟨g, 0, none⟩) hg _).setCell (p := ⟨g, 1, none⟩) hg _

end Go.Proofs.YtgoibhbmndpgpaaGreatDoor

/- The walk of package sum's Scaled. -/
set_option linter.unusedVariables false
set_option linter.unusedSimpArgs false
namespace Go.Proofs.YtgoibhbmndpgpaaGreatDoor
open Go.RowKit Dc
attribute [local go_sem ↓] Go.wp_at_zero Go.wp_at_succ

/-- a whole number, or that there is none -/
def scaledV : Option Int → Value
  | none => .tuple #[.int .i64 0, .bool false]
  | some a => .tuple #[.int .i64 a, .bool true]
theorem scaledO_bad {m s k : Int} (h : goodD m s = false ∨ k < s ∨ 18 < k) : scaledO m s k = none := by
  unfold scaledO
  rw [if_neg]
  rintro ⟨h1, h2, h3, _⟩
  rcases h with h | h | h
  · rw [h] at h1; cases h1
  · omega
  · omega
set_option maxRecDepth 100000 in
set_option maxHeartbeats 4000000 in
theorem scaled_walk (m s k : Int) (w : World) (hm1 : -9223372036854775808 ≤ m) (hm2 : m ≤ 9223372036854775807) :
    Calls Tryz.prog 79 #[dv2 m s, .int .i64 k] w fun e w' => e = .returned (scaledV (scaledO m s k)) ∧ Below w.heap.size w w' := by
  have kB := kb_alloc (Below.refl w.heap.size w) (Nat.le_refl _) (.cells #[.int .i64 m, .int .i64 s] 44)
  have kd2 := DecAt.new w m s
  go_enter Tryz.func79, Tryz.ntmps79
  go_wp2_with fail
  refine (good_calls m s _).mono ?_; rintro e w1 ⟨rfl, b1⟩
  replace kB := kB.trans (b1.mono kB.size)
  replace kd2 := kd2.below b1
  clear b1
  have c0 := kd2.c0
  have c1 := kd2.c1
  cases hg : goodD m s with
  | false =>
    have hres : Hid (scaledO m s k = none) := scaledO_bad (Or.inl hg)
    clear hg
    go_wp2_with fail
    go_ret2
    exact ⟨by rw [hres.out]; rfl, kB⟩
  | true =>
    by_cases h1 : k < s
    · have hres : Hid (scaledO m s k = none) := scaledO_bad (Or.inr (Or.inl h1))
      clear hg
      go_wp2_with fail
      go_ret2
      exact ⟨by rw [hres.out]; rfl, kB⟩
    by_cases h2 : 18 < k
    · have hres : Hid (scaledO m s k = none) := scaledO_bad (Or.inr (Or.inr h2))
      clear hg
      go_wp2_with fail
      go_ret2
      exact ⟨by rw [hres.out]; rfl, kB⟩
    have hm := big_of hg hm1 hm2
    obtain ⟨gs0, gs1, _, _⟩ := (goodD_iff m s).1 hg
    have hsp := Lib.hid (fun W => sspread_calls m (k - s).toNat W hm (by omega))
    rw [show (((k - s).toNat : Nat) : Int) = k - s by omega] at hsp
    have hxb : m.natAbs * 10 ^ (k - s).toNat < 10 ^ 55 := by
      have h3 : (10 : Nat) ^ (k - s).toNat ≤ 10 ^ 18 := Nat.pow_le_pow_right (by omega) (by omega)
      have h4 : m.natAbs * 10 ^ (k - s).toNat ≤ big * 10 ^ 18 := Nat.mul_le_mul hm h3
      unfold big at h4
      omega
    have hj := Lib.hid (fun W => sjoin_calls (m.natAbs * 10 ^ (k - s).toNat) hxb W)
    have hno : Hid (¬ m.natAbs * 10 ^ (k - s).toNat ≤ big → scaledO m s k = none) := fun h => by
      unfold scaledO
      rw [if_neg (fun e => h e.2.2.2)]
    have hyes : Hid (m.natAbs * 10 ^ (k - s).toNat ≤ big → scaledO m s k = some (sgnV (decide (m < 0)) (m.natAbs * 10 ^ (k - s).toNat))) := fun h => by
      unfold scaledO
      rw [if_pos ⟨hg, by omega, by omega, h⟩]
      congr 1
      unfold sgnV
      by_cases h0 : m < 0
      · rw [if_pos (by simpa using h0), Int.natCast_mul, Int.natCast_pow, ← Int.neg_mul, show -((m.natAbs : Nat) : Int) = m by omega]; rfl
      · rw [if_neg (by simpa using h0), Int.natCast_mul, Int.natCast_pow, show ((m.natAbs : Nat) : Int) = m by omega]; rfl
    obtain ⟨x, hx⟩ : ∃ x, x = m.natAbs * 10 ^ (k - s).toNat := ⟨_, rfl⟩
    rw [← hx] at hsp hj hno hyes
    have hk0 : ¬ k < s := h1
    clear hg hm hxb hx hm1 hm2
    go_wp2_with fail
    refine (hsp.out _).mono ?_; rintro e w2 ⟨rfl, b2⟩
    replace kB := kB.trans (b2.mono kB.size)
    replace kd2 := kd2.below b2
    clear b2 hsp c0 c1
    go_wp2_with fail
    refine (hj.out _).mono ?_; rintro e w3 ⟨rfl, b3⟩
    replace kB := kB.trans (b3.mono kB.size)
    replace kd2 := kd2.below b3
    clear b3 hj
    have c0 := kd2.c0
    have c1 := kd2.c1
    by_cases hb : x ≤ big
    · have hres := Lib.hid (hyes.out hb)
      have hsg := Lib.hid (fun W => signed_calls (decide (m < 0)) x W hb)
      rw [joinV_le hb]
      clear hno hyes hb
      go_wp2_with fail
      refine (hsg.out _).mono ?_; rintro e w4 ⟨rfl, rfl⟩
      clear hsg
      obtain ⟨z, hz⟩ : ∃ z, z = sgnV (decide (m < 0)) x := ⟨_, rfl⟩
      rw [← hz] at hres ⊢
      clear hz
      go_wp2_with fail
      go_ret2
      exact ⟨by rw [hres.out]; rfl, kB⟩
    · have hres := Lib.hid (hno.out hb)
      rw [joinV_gt hb]
      clear hno hyes hb
      go_wp2_with fail
      go_ret2
      exact ⟨by rw [hres.out]; rfl, kB⟩

end Go.Proofs.YtgoibhbmndpgpaaGreatDoor

/- The walks of package sum's Compare, Neg, Scaled. -/
set_option linter.unusedVariables false
set_option linter.unusedSimpArgs false
namespace Go.Proofs.YtgoibhbmndpgpaaGreatDoor
open Go.RowKit Dc
attribute [local go_sem ↓] Go.wp_at_zero Go.wp_at_succ

theorem ord3_neg (x y : Int) : ord3 (-x) (-y) = - ord3 x y := by
  rcases ord3_cases x y with ⟨h, e⟩ | ⟨h, e⟩ | ⟨h, e⟩
  · rw [e]; exact ord3_gt (by omega)
  · rw [e]; exact ord3_lt (by omega)
  · rw [e]; exact ord3_eq (by omega)
theorem orZ_in {m s : Int} (h1 : -9223372036854775808 ≤ m) (h2 : m ≤ 9223372036854775807) : (orZ m s).1.natAbs ≤ big ∧ 0 ≤ (orZ m s).2 ∧ (orZ m s).2 ≤ 18 := by
  cases h : goodD m s with
  | true =>
    rw [orZ_good h]
    obtain ⟨a, b, _⟩ := (goodD_iff m s).1 h
    exact ⟨big_of h h1 h2, a, b⟩
  | false => rw [orZ_bad h]; exact ⟨by decide, by decide, by decide⟩
set_option maxRecDepth 100000 in
set_option maxHeartbeats 8000000 in
theorem compare_walk (m s n t : Int) (w : World) (hm1 : -9223372036854775808 ≤ m) (hm2 : m ≤ 9223372036854775807) (hn1 : -9223372036854775808 ≤ n) (hn2 : n ≤ 9223372036854775807) :
    Calls Tryz.prog 54 #[dv2 m s, dv2 n t] w fun e w' => e = .returned (.int .i64 (cmpO m s n t)) ∧ Below w.heap.size w w' := by
  have kB := kb_alloc (kb_alloc (Below.refl w.heap.size w) (Nat.le_refl _) (.cells #[.int .i64 m, .int .i64 s] 44)) (Nat.le_refl _) (.cells #[.int .i64 n, .int .i64 t] 44)
  have kd2 := (DecAt.new w m s).alloc (.cells #[.int .i64 n, .int .i64 t] 44)
  have kd3 := DecAt.new (w.alloc (.cells #[.int .i64 m, .int .i64 s] 44)) n t
  rw [show (w.alloc (.cells #[.int .i64 m, .int .i64 s] 44)).heap.size = w.heap.size + 1 by simp] at kd3
  have hz1 := Lib.hid (fun W => orZero_calls m s W)
  have hz2 := Lib.hid (fun W => orZero_calls n t W)
  obtain ⟨hp, hi0, hi1⟩ := orZ_in (s := s) hm1 hm2
  obtain ⟨hq, hj0, hj1⟩ := orZ_in (s := t) hn1 hn2
  have hcm0 : cmpO m s n t = ord3 (zv (orZ m s).1 (orZ m s).2) (zv (orZ n t).1 (orZ n t).2) := rfl
  obtain ⟨p, ep⟩ : ∃ p, p = (orZ m s).1 := ⟨_, rfl⟩
  obtain ⟨i, ei⟩ : ∃ i, i = (orZ m s).2 := ⟨_, rfl⟩
  obtain ⟨q, eq⟩ : ∃ q, q = (orZ n t).1 := ⟨_, rfl⟩
  obtain ⟨j, ej⟩ : ∃ j, j = (orZ n t).2 := ⟨_, rfl⟩
  rw [← ep, ← ei] at hz1 hcm0
  rw [← ep] at hp
  rw [← ei] at hi0 hi1
  rw [← eq, ← ej] at hz2 hcm0
  rw [← eq] at hq
  rw [← ej] at hj0 hj1
  have hl1 := Lib.hid (fun W => level_calls p i W hp hi0 hi1)
  have hl2 := Lib.hid (fun W => level_calls q j W hq hj0 hj1)
  have hb1 := lev_lt hp hi0
  have hb2 := lev_lt hq hj0
  have hcm := Lib.hid (fun W => compare_calls (lev p i) (lev q j) (by omega) (by omega) W)
  have hv1 := zv_is p i
  have hv2 := zv_is q j
  have hneg := ord3_neg (lev p i : Int) (lev q j : Int)
  obtain ⟨x, hx⟩ : ∃ x, x = lev p i := ⟨_, rfl⟩
  obtain ⟨y, hy⟩ : ∃ y, y = lev q j := ⟨_, rfl⟩
  rw [← hx] at hl1 hcm hv1 hneg
  rw [← hy] at hl2 hcm hv2 hneg
  obtain ⟨o, ho⟩ : ∃ o, o = ord3 (x : Int) (y : Int) := ⟨_, rfl⟩
  rw [← ho] at hcm hneg
  have hob : -1 ≤ o ∧ o ≤ 1 := by
    rcases ord3_cases (x : Int) (y : Int) with ⟨_, e⟩ | ⟨_, e⟩ | ⟨_, e⟩ <;> omega
  obtain ⟨hob1, hob2⟩ := hob
  have hresA : Hid (p < 0 → 0 ≤ q → cmpO m s n t = -1) := fun h1 h2 => by
    rw [hcm0, hv1, hv2, if_pos h1, if_neg (by omega)]
    refine ord3_lt ?_
    have h0 : x ≠ 0 := fun e => by
      rw [hx] at e
      have := lev_zero.1 e
      omega
    omega
  have hresB : Hid (0 ≤ p → q < 0 → cmpO m s n t = 1) := fun h1 h2 => by
    rw [hcm0, hv1, hv2, if_neg (by omega), if_pos h2]
    refine ord3_gt ?_
    have h0 : y ≠ 0 := fun e => by
      rw [hy] at e
      have := lev_zero.1 e
      omega
    omega
  have hresC : Hid (p < 0 → q < 0 → cmpO m s n t = -o) := fun h1 h2 => by
    rw [hcm0, hv1, hv2, if_pos h1, if_pos h2, hneg]
  have hresD : Hid (0 ≤ p → 0 ≤ q → cmpO m s n t = o) := fun h1 h2 => by
    rw [hcm0, hv1, hv2, if_neg (by omega), if_neg (by omega), ho]
  clear hcm0 hv1 hv2 hneg ho hx hy hb1 hb2 hp hq hi0 hi1 hj0 hj1 ep ei eq ej hm1 hm2 hn1 hn2
  go_enter Tryz.func54, Tryz.ntmps54
  go_upto_region 1 with (fail)
  obtain ⟨W1, hW1⟩ : ∃ W1 : World, W1 = ((w.alloc (.cells #[.int .i64 m, .int .i64 s] 44)).alloc (.cells #[.int .i64 n, .int .i64 t] 44)) := ⟨_, rfl⟩
  rw [← hW1] at kB kd2 kd3 ⊢
  clear hW1
  go_cut [2] (fun s2 wx => s2 = .pointer (some ⟨w.heap.size, 0, none⟩) ∧ Below w.heap.size w wx ∧ DecAt wx (w.heap.size) p i ∧ DecAt wx (w.heap.size + 1) q j)
  case first =>
    clear hl1 hl2 hcm hresA hresB hresC hresD
    refine wp_region_noPanic ?_
    refine wp_region_held_drew (S := fun X => Below w.heap.size w X) (by kernel_rfl) ?_ (fun hHeld => ?_)
    · exact Below.drew kB
    replace kB := Below.drew kB
    replace kd2 := DecAt.drew kd2
    replace kd3 := DecAt.drew kd3
    obtain ⟨qw, hcur⟩ : ∃ uu, uu = W1.drew := ⟨_, rfl⟩
    rw [← hcur] at hHeld kB kd2 kd3 ⊢
    clear hcur
    refine wpAnyH_ready (rs := [0, 2]) (by kernel_rfl) (by simp) ?_
    refine AllReadyH.cons (by simp only [List.getElem?_toArray, List.getElem?_cons_succ, List.getElem?_cons_zero]; rfl) (fun K hK => ?_) ?_
    · have c0d2 := kd2.c0; have c1d2 := kd2.c1; have c0d3 := kd3.c0; have c1d3 := kd3.c1
      go_simp
      clear c0d2 c1d2 c0d3 c1d3
      refine hK.out _ _ ?_ (fun hHeld => ?_)
      · exact kB
      clear hK K
      try simp only [Act.put, List.setIfInBounds_toArray, List.set_cons_zero, List.set_cons_succ]
      refine wpAnyH_ready (rs := [1, 2]) (by kernel_rfl) (by simp) ?_
      refine AllReadyH.cons (by simp only [List.getElem?_toArray, List.getElem?_cons_succ, List.getElem?_cons_zero]; rfl) (fun K hK => ?_) ?_
      · try go_simp
        refine (hz1.out _).mono ?_; rintro e wq1 ⟨rfl, q1⟩
        replace kB := kB.trans (q1.mono kB.size)
        replace kd2 := kd2.below q1
        replace kd3 := kd3.below q1
        clear q1
        try go_wp2_with fail
        refine hK.out _ _ ?_ (fun hHeld => ?_)
        · exact kB
        clear hK K
        try simp only [Act.put, List.setIfInBounds_toArray, List.set_cons_zero, List.set_cons_succ]
        refine wpAnyH_ready (rs := [2]) (by kernel_rfl) (by simp) ?_
        refine AllReadyH.cons (by simp only [List.getElem?_toArray, List.getElem?_cons_succ, List.getElem?_cons_zero]; rfl) (fun K hK => ?_) AllReadyH.nil
        have c0d2 := kd2.c0; have c1d2 := kd2.c1; have c0d3 := kd3.c0; have c1d3 := kd3.c1
        go_simp
        clear c0d2 c1d2 c0d3 c1d3
        refine hK.out _ _ ?_ (fun hHeld => ?_)
        · exact kB
        clear hK K
        try simp only [Act.put, List.setIfInBounds_toArray, List.set_cons_zero, List.set_cons_succ]
        refine wpAnyH_ready (rs := [3]) (by kernel_rfl) (by simp) ?_
        refine AllReadyH.cons (by simp only [List.getElem?_toArray, List.getElem?_cons_succ, List.getElem?_cons_zero]; rfl) (fun K hK => ?_) AllReadyH.nil
        try go_simp
        refine (hz2.out _).mono ?_; rintro e wq2 ⟨rfl, q2⟩
        replace kB := kB.trans (q2.mono kB.size)
        replace kd2 := kd2.below q2
        replace kd3 := kd3.below q2
        clear q2
        try go_wp2_with fail
        refine hK.out _ _ ?_ (fun hHeld => ?_)
        · exact kB
        clear hK K
        try simp only [Act.put, List.setIfInBounds_toArray, List.set_cons_zero, List.set_cons_succ]
        refine wpAnyH_ready (rs := [4]) (by kernel_rfl) (by simp) ?_
        refine AllReadyH.cons (by simp only [List.getElem?_toArray, List.getElem?_cons_succ, List.getElem?_cons_zero]; rfl) (fun K hK => ?_) AllReadyH.nil
        have sc0 := kd2.c0; have sc1 := kd2.c1; have sf0 := kd2.f0; have sf1 := kd2.f1
        go_simp
        clear sc0 sc1 sf0 sf1
        replace kB := below_put (g := (w.heap.size)) kB (by omega) (p) (i)
        replace kd2 := kd2.put (p) (i)
        replace kd3 := kd3.putOther (g := (w.heap.size)) (by omega) (p) (i)
        unfold putDec at kB kd2 kd3
        refine hK.out _ _ ?_ (fun hHeld => ?_)
        · exact kB
        clear hK K
        try simp only [Act.put, List.setIfInBounds_toArray, List.set_cons_zero, List.set_cons_succ]
        refine wpAnyH_ready (rs := [5]) (by kernel_rfl) (by simp) ?_
        refine AllReadyH.cons (by simp only [List.getElem?_toArray, List.getElem?_cons_succ, List.getElem?_cons_zero]; rfl) (fun K hK => ?_) AllReadyH.nil
        have sc0 := kd3.c0; have sc1 := kd3.c1; have sf0 := kd3.f0; have sf1 := kd3.f1
        go_simp
        clear sc0 sc1 sf0 sf1
        replace kB := below_put (g := (w.heap.size + 1)) kB (by omega) (q) (j)
        replace kd2 := kd2.putOther (g := (w.heap.size + 1)) (by omega) (q) (j)
        replace kd3 := kd3.put (q) (j)
        unfold putDec at kB kd2 kd3
        refine hK.out _ _ ?_ (fun hHeld => ?_)
        · exact kB
        clear hK K
        try simp only [Act.put, List.setIfInBounds_toArray, List.set_cons_zero, List.set_cons_succ]
        refine wpAnyH_done (by kernel_rfl) ?_ _
        refine NoPanic.normal ?_
        go_wp2_with fail
        go_meet
        exact ⟨rfl, kB, kd2, kd3⟩
      refine AllReadyH.cons (by simp only [List.getElem?_toArray, List.getElem?_cons_succ, List.getElem?_cons_zero]; rfl) (fun K hK => ?_) AllReadyH.nil
      have c0d2 := kd2.c0; have c1d2 := kd2.c1; have c0d3 := kd3.c0; have c1d3 := kd3.c1
      go_simp
      clear c0d2 c1d2 c0d3 c1d3
      refine hK.out _ _ ?_ (fun hHeld => ?_)
      · exact kB
      clear hK K
      try simp only [Act.put, List.setIfInBounds_toArray, List.set_cons_zero, List.set_cons_succ]
      refine wpAnyH_ready (rs := [1]) (by kernel_rfl) (by simp) ?_
      refine AllReadyH.cons (by simp only [List.getElem?_toArray, List.getElem?_cons_succ, List.getElem?_cons_zero]; rfl) (fun K hK => ?_) AllReadyH.nil
      try go_simp
      refine (hz1.out _).mono ?_; rintro e wq3 ⟨rfl, q3⟩
      replace kB := kB.trans (q3.mono kB.size)
      replace kd2 := kd2.below q3
      replace kd3 := kd3.below q3
      clear q3
      try go_wp2_with fail
      refine hK.out _ _ ?_ (fun hHeld => ?_)
      · exact kB
      clear hK K
      try simp only [Act.put, List.setIfInBounds_toArray, List.set_cons_zero, List.set_cons_succ]
      refine wpAnyH_ready (rs := [3]) (by kernel_rfl) (by simp) ?_
      refine AllReadyH.cons (by simp only [List.getElem?_toArray, List.getElem?_cons_succ, List.getElem?_cons_zero]; rfl) (fun K hK => ?_) AllReadyH.nil
      try go_simp
      refine (hz2.out _).mono ?_; rintro e wq4 ⟨rfl, q4⟩
      replace kB := kB.trans (q4.mono kB.size)
      replace kd2 := kd2.below q4
      replace kd3 := kd3.below q4
      clear q4
      try go_wp2_with fail
      refine hK.out _ _ ?_ (fun hHeld => ?_)
      · exact kB
      clear hK K
      try simp only [Act.put, List.setIfInBounds_toArray, List.set_cons_zero, List.set_cons_succ]
      refine wpAnyH_ready (rs := [4]) (by kernel_rfl) (by simp) ?_
      refine AllReadyH.cons (by simp only [List.getElem?_toArray, List.getElem?_cons_succ, List.getElem?_cons_zero]; rfl) (fun K hK => ?_) AllReadyH.nil
      have sc0 := kd2.c0; have sc1 := kd2.c1; have sf0 := kd2.f0; have sf1 := kd2.f1
      go_simp
      clear sc0 sc1 sf0 sf1
      replace kB := below_put (g := (w.heap.size)) kB (by omega) (p) (i)
      replace kd2 := kd2.put (p) (i)
      replace kd3 := kd3.putOther (g := (w.heap.size)) (by omega) (p) (i)
      unfold putDec at kB kd2 kd3
      refine hK.out _ _ ?_ (fun hHeld => ?_)
      · exact kB
      clear hK K
      try simp only [Act.put, List.setIfInBounds_toArray, List.set_cons_zero, List.set_cons_succ]
      refine wpAnyH_ready (rs := [5]) (by kernel_rfl) (by simp) ?_
      refine AllReadyH.cons (by simp only [List.getElem?_toArray, List.getElem?_cons_succ, List.getElem?_cons_zero]; rfl) (fun K hK => ?_) AllReadyH.nil
      have sc0 := kd3.c0; have sc1 := kd3.c1; have sf0 := kd3.f0; have sf1 := kd3.f1
      go_simp
      clear sc0 sc1 sf0 sf1
      replace kB := below_put (g := (w.heap.size + 1)) kB (by omega) (q) (j)
      replace kd2 := kd2.putOther (g := (w.heap.size + 1)) (by omega) (q) (j)
      replace kd3 := kd3.put (q) (j)
      unfold putDec at kB kd2 kd3
      refine hK.out _ _ ?_ (fun hHeld => ?_)
      · exact kB
      clear hK K
      try simp only [Act.put, List.setIfInBounds_toArray, List.set_cons_zero, List.set_cons_succ]
      refine wpAnyH_done (by kernel_rfl) ?_ _
      refine NoPanic.normal ?_
      go_wp2_with fail
      go_meet
      exact ⟨rfl, kB, kd2, kd3⟩
    refine AllReadyH.cons (by simp only [List.getElem?_toArray, List.getElem?_cons_succ, List.getElem?_cons_zero]; rfl) (fun K hK => ?_) AllReadyH.nil
    have c0d2 := kd2.c0; have c1d2 := kd2.c1; have c0d3 := kd3.c0; have c1d3 := kd3.c1
    go_simp
    clear c0d2 c1d2 c0d3 c1d3
    refine hK.out _ _ ?_ (fun hHeld => ?_)
    · exact kB
    clear hK K
    try simp only [Act.put, List.setIfInBounds_toArray, List.set_cons_zero, List.set_cons_succ]
    refine wpAnyH_ready (rs := [0]) (by kernel_rfl) (by simp) ?_
    refine AllReadyH.cons (by simp only [List.getElem?_toArray, List.getElem?_cons_succ, List.getElem?_cons_zero]; rfl) (fun K hK => ?_) AllReadyH.nil
    have c0d2 := kd2.c0; have c1d2 := kd2.c1; have c0d3 := kd3.c0; have c1d3 := kd3.c1
    go_simp
    clear c0d2 c1d2 c0d3 c1d3
    refine hK.out _ _ ?_ (fun hHeld => ?_)
    · exact kB
    clear hK K
    try simp only [Act.put, List.setIfInBounds_toArray, List.set_cons_zero, List.set_cons_succ]
    refine wpAnyH_ready (rs := [1]) (by kernel_rfl) (by simp) ?_
    refine AllReadyH.cons (by simp only [List.getElem?_toArray, List.getElem?_cons_succ, List.getElem?_cons_zero]; rfl) (fun K hK => ?_) AllReadyH.nil
    try go_simp
    refine (hz1.out _).mono ?_; rintro e wq5 ⟨rfl, q5⟩
    replace kB := kB.trans (q5.mono kB.size)
    replace kd2 := kd2.below q5
    replace kd3 := kd3.below q5
    clear q5
    try go_wp2_with fail
    refine hK.out _ _ ?_ (fun hHeld => ?_)
    · exact kB
    clear hK K
    try simp only [Act.put, List.setIfInBounds_toArray, List.set_cons_zero, List.set_cons_succ]
    refine wpAnyH_ready (rs := [3]) (by kernel_rfl) (by simp) ?_
    refine AllReadyH.cons (by simp only [List.getElem?_toArray, List.getElem?_cons_succ, List.getElem?_cons_zero]; rfl) (fun K hK => ?_) AllReadyH.nil
    try go_simp
    refine (hz2.out _).mono ?_; rintro e wq6 ⟨rfl, q6⟩
    replace kB := kB.trans (q6.mono kB.size)
    replace kd2 := kd2.below q6
    replace kd3 := kd3.below q6
    clear q6
    try go_wp2_with fail
    refine hK.out _ _ ?_ (fun hHeld => ?_)
    · exact kB
    clear hK K
    try simp only [Act.put, List.setIfInBounds_toArray, List.set_cons_zero, List.set_cons_succ]
    refine wpAnyH_ready (rs := [4]) (by kernel_rfl) (by simp) ?_
    refine AllReadyH.cons (by simp only [List.getElem?_toArray, List.getElem?_cons_succ, List.getElem?_cons_zero]; rfl) (fun K hK => ?_) AllReadyH.nil
    have sc0 := kd2.c0; have sc1 := kd2.c1; have sf0 := kd2.f0; have sf1 := kd2.f1
    go_simp
    clear sc0 sc1 sf0 sf1
    replace kB := below_put (g := (w.heap.size)) kB (by omega) (p) (i)
    replace kd2 := kd2.put (p) (i)
    replace kd3 := kd3.putOther (g := (w.heap.size)) (by omega) (p) (i)
    unfold putDec at kB kd2 kd3
    refine hK.out _ _ ?_ (fun hHeld => ?_)
    · exact kB
    clear hK K
    try simp only [Act.put, List.setIfInBounds_toArray, List.set_cons_zero, List.set_cons_succ]
    refine wpAnyH_ready (rs := [5]) (by kernel_rfl) (by simp) ?_
    refine AllReadyH.cons (by simp only [List.getElem?_toArray, List.getElem?_cons_succ, List.getElem?_cons_zero]; rfl) (fun K hK => ?_) AllReadyH.nil
    have sc0 := kd3.c0; have sc1 := kd3.c1; have sf0 := kd3.f0; have sf1 := kd3.f1
    go_simp
    clear sc0 sc1 sf0 sf1
    replace kB := below_put (g := (w.heap.size + 1)) kB (by omega) (q) (j)
    replace kd2 := kd2.putOther (g := (w.heap.size + 1)) (by omega) (q) (j)
    replace kd3 := kd3.put (q) (j)
    unfold putDec at kB kd2 kd3
    refine hK.out _ _ ?_ (fun hHeld => ?_)
    · exact kB
    clear hK K
    try simp only [Act.put, List.setIfInBounds_toArray, List.set_cons_zero, List.set_cons_succ]
    refine wpAnyH_done (by kernel_rfl) ?_ _
    refine NoPanic.normal ?_
    go_wp2_with fail
    go_meet
    exact ⟨rfl, kB, kd2, kd3⟩
  case rest =>
    clear kB kd2 kd3 hz1 hz2
    obtain ⟨rfl, kB, kd2, kd3⟩ := hcut
    have c0d2 := kd2.c0; have c1d2 := kd2.c1; have c0d3 := kd3.c0; have c1d3 := kd3.c1
    by_cases hp : p < 0
    · by_cases hq : q < 0
      · have hres := Lib.hid (hresC.out hp hq)
        have hnq : ¬ 0 ≤ q := by omega
        clear hresA hresB hresC hresD
        go_upto_region 6 with (fail)
        clear c0d2 c1d2 c0d3 c1d3
        refine wp_region_noPanic ?_
        refine wp_region_held_drew (S := fun X => Below w.heap.size w X ∧ DecAt X (w.heap.size) p i ∧ DecAt X (w.heap.size + 1) q j) (by kernel_rfl) ?_ (fun hHeld => ?_)
        · exact ⟨Below.drew kB, DecAt.drew kd2, DecAt.drew kd3⟩
        replace kB := Below.drew kB
        replace kd2 := DecAt.drew kd2
        replace kd3 := DecAt.drew kd3
        obtain ⟨qw, hcur⟩ : ∃ uu, uu = wc.drew := ⟨_, rfl⟩
        rw [← hcur] at hHeld kB kd2 kd3 ⊢
        clear hcur
        refine tk9 0 hHeld ?_ (hy := Or.inl ⟨by rfl, by intro x hSw; (try dsimp only at hSw); obtain ⟨_, hd2, hd3⟩ := hSw; have c0d2 := hd2.c0; have c1d2 := hd2.c1; have c0d3 := hd3.c0; have c1d3 := hd3.c1; first | (go_simp; done) | (go_simp; with_reducible rfl)⟩)
        refine tk9 2 hHeld ?_ (hy := Or.inl ⟨by rfl, by intro x hSw; (try dsimp only at hSw); obtain ⟨_, hd2, hd3⟩ := hSw; have c0d2 := hd2.c0; have c1d2 := hd2.c1; have c0d3 := hd3.c0; have c1d3 := hd3.c1; first | (go_simp; done) | (go_simp; with_reducible rfl)⟩)
        refine wpAnyH_ready (rs := [1]) (by kernel_rfl) (by simp) ?_
        refine AllReadyH.cons (by simp only [List.getElem?_toArray, List.getElem?_cons_succ, List.getElem?_cons_zero]; rfl) (fun K hK => ?_) AllReadyH.nil
        try go_simp
        refine (hl1.out _).mono ?_; rintro e wq1 ⟨rfl, q1⟩
        replace kB := kB.trans (q1.mono kB.size)
        replace kd2 := kd2.below q1
        replace kd3 := kd3.below q1
        clear q1
        try go_wp2_with fail
        refine hK.out _ _ ?_ (fun hHeld => ?_)
        · exact ⟨kB, kd2, kd3⟩
        clear hK K
        try simp only [Act.put, List.setIfInBounds_toArray, List.set_cons_zero, List.set_cons_succ]
        refine wpAnyH_ready (rs := [3]) (by kernel_rfl) (by simp) ?_
        refine AllReadyH.cons (by simp only [List.getElem?_toArray, List.getElem?_cons_succ, List.getElem?_cons_zero]; rfl) (fun K hK => ?_) AllReadyH.nil
        try go_simp
        refine (hl2.out _).mono ?_; rintro e wq2 ⟨rfl, q2⟩
        replace kB := kB.trans (q2.mono kB.size)
        replace kd2 := kd2.below q2
        replace kd3 := kd3.below q2
        clear q2
        try go_wp2_with fail
        refine hK.out _ _ ?_ (fun hHeld => ?_)
        · exact ⟨kB, kd2, kd3⟩
        clear hK K
        try simp only [Act.put, List.setIfInBounds_toArray, List.set_cons_zero, List.set_cons_succ]
        refine wpAnyH_ready (rs := [4]) (by kernel_rfl) (by simp) ?_
        refine AllReadyH.cons (by simp only [List.getElem?_toArray, List.getElem?_cons_succ, List.getElem?_cons_zero]; rfl) (fun K hK => ?_) AllReadyH.nil
        try go_simp
        refine (hcm.out _).mono ?_; rintro e wq3 ⟨rfl, q3⟩
        replace kB := kB.trans (q3.mono kB.size)
        replace kd2 := kd2.below q3
        replace kd3 := kd3.below q3
        clear q3
        try go_wp2_with fail
        refine hK.out _ _ ?_ (fun hHeld => ?_)
        · exact ⟨kB, kd2, kd3⟩
        clear hK K
        try simp only [Act.put, List.setIfInBounds_toArray, List.set_cons_zero, List.set_cons_succ]
        refine tk9 5 hHeld ?_
        refine wpAnyH_done (by kernel_rfl) ?_ _
        refine NoPanic.normal ?_
        have c0d2 := kd2.c0
        have c1d2 := kd2.c1
        go_wp2_with fail
        go_ret
        exact ⟨by rw [hres.out]; rfl, kB⟩
      · have hres := Lib.hid (hresA.out hp (by omega))
        have hnq : 0 ≤ q := by omega
        clear hresA hresB hresC hresD hl1 hl2 hcm
        go_wp2_with fail
        go_ret
        exact ⟨by rw [hres.out]; rfl, kB⟩
    · have hp0 : 0 ≤ p := by omega
      by_cases hq : q < 0
      · have hres := Lib.hid (hresB.out hp0 hq)
        clear hresA hresB hresC hresD hl1 hl2 hcm
        go_wp2_with fail
        go_ret
        exact ⟨by rw [hres.out]; rfl, kB⟩
      · have hres := Lib.hid (hresD.out hp0 (by omega))
        have hnq : 0 ≤ q := by omega
        clear hresA hresB hresC hresD
        go_upto_region 6 with (fail)
        clear c0d2 c1d2 c0d3 c1d3
        refine wp_region_noPanic ?_
        refine wp_region_held_drew (S := fun X => Below w.heap.size w X ∧ DecAt X (w.heap.size) p i ∧ DecAt X (w.heap.size + 1) q j) (by kernel_rfl) ?_ (fun hHeld => ?_)
        · exact ⟨Below.drew kB, DecAt.drew kd2, DecAt.drew kd3⟩
        replace kB := Below.drew kB
        replace kd2 := DecAt.drew kd2
        replace kd3 := DecAt.drew kd3
        obtain ⟨qw, hcur⟩ : ∃ uu, uu = wc.drew := ⟨_, rfl⟩
        rw [← hcur] at hHeld kB kd2 kd3 ⊢
        clear hcur
        refine tk9 0 hHeld ?_ (hy := Or.inl ⟨by rfl, by intro x hSw; (try dsimp only at hSw); obtain ⟨_, hd2, hd3⟩ := hSw; have c0d2 := hd2.c0; have c1d2 := hd2.c1; have c0d3 := hd3.c0; have c1d3 := hd3.c1; first | (go_simp; done) | (go_simp; with_reducible rfl)⟩)
        refine tk9 2 hHeld ?_ (hy := Or.inl ⟨by rfl, by intro x hSw; (try dsimp only at hSw); obtain ⟨_, hd2, hd3⟩ := hSw; have c0d2 := hd2.c0; have c1d2 := hd2.c1; have c0d3 := hd3.c0; have c1d3 := hd3.c1; first | (go_simp; done) | (go_simp; with_reducible rfl)⟩)
        refine wpAnyH_ready (rs := [1]) (by kernel_rfl) (by simp) ?_
        refine AllReadyH.cons (by simp only [List.getElem?_toArray, List.getElem?_cons_succ, List.getElem?_cons_zero]; rfl) (fun K hK => ?_) AllReadyH.nil
        try go_simp
        refine (hl1.out _).mono ?_; rintro e wq1 ⟨rfl, q1⟩
        replace kB := kB.trans (q1.mono kB.size)
        replace kd2 := kd2.below q1
        replace kd3 := kd3.below q1
        clear q1
        try go_wp2_with fail
        refine hK.out _ _ ?_ (fun hHeld => ?_)
        · exact ⟨kB, kd2, kd3⟩
        clear hK K
        try simp only [Act.put, List.setIfInBounds_toArray, List.set_cons_zero, List.set_cons_succ]
        refine wpAnyH_ready (rs := [3]) (by kernel_rfl) (by simp) ?_
        refine AllReadyH.cons (by simp only [List.getElem?_toArray, List.getElem?_cons_succ, List.getElem?_cons_zero]; rfl) (fun K hK => ?_) AllReadyH.nil
        try go_simp
        refine (hl2.out _).mono ?_; rintro e wq2 ⟨rfl, q2⟩
        replace kB := kB.trans (q2.mono kB.size)
        replace kd2 := kd2.below q2
        replace kd3 := kd3.below q2
        clear q2
        try go_wp2_with fail
        refine hK.out _ _ ?_ (fun hHeld => ?_)
        · exact ⟨kB, kd2, kd3⟩
        clear hK K
        try simp only [Act.put, List.setIfInBounds_toArray, List.set_cons_zero, List.set_cons_succ]
        refine wpAnyH_ready (rs := [4]) (by kernel_rfl) (by simp) ?_
        refine AllReadyH.cons (by simp only [List.getElem?_toArray, List.getElem?_cons_succ, List.getElem?_cons_zero]; rfl) (fun K hK => ?_) AllReadyH.nil
        try go_simp
        refine (hcm.out _).mono ?_; rintro e wq3 ⟨rfl, q3⟩
        replace kB := kB.trans (q3.mono kB.size)
        replace kd2 := kd2.below q3
        replace kd3 := kd3.below q3
        clear q3
        try go_wp2_with fail
        refine hK.out _ _ ?_ (fun hHeld => ?_)
        · exact ⟨kB, kd2, kd3⟩
        clear hK K
        try simp only [Act.put, List.setIfInBounds_toArray, List.set_cons_zero, List.set_cons_succ]
        refine tk9 5 hHeld ?_
        refine wpAnyH_done (by kernel_rfl) ?_ _
        refine NoPanic.normal ?_
        have c0d2 := kd2.c0
        have c1d2 := kd2.c1
        go_wp2_with fail
        go_ret
        exact ⟨by rw [hres.out]; rfl, kB⟩

def negO (m s : Int) : Value := dv2 (-(orZ m s).1) (orZ m s).2
end Go.Proofs.YtgoibhbmndpgpaaGreatDoor

/- The walks of package stamp's small functions: whole, Int, Uint, isTime, isUnit; the table of units. -/
set_option maxRecDepth 100000
set_option linter.unusedVariables false
set_option linter.unusedSimpArgs false
namespace Go.Proofs.YtgoibhbmndpgpaaGreatDoor
open Go.RowKit Dc

/-- the table of units, as it is laid -/
structure Pl (w : World) : Prop where
  cells : ∀ i : Nat, i < 4 → w.cell? ⟨0, i, none⟩ = some (.int .i64 (3 * i : Nat))
  room : 0 < w.heap.size
theorem Pl.below {w w' : World} (h : Pl w) (hb : Below w.heap.size w w') : Pl w' :=
  ⟨fun i hi => (hb.cell (p := ⟨0, i, none⟩) h.room).trans (h.cells i hi), Nat.lt_of_lt_of_le h.room hb.size⟩
theorem Pl.alloc {w : World} (h : Pl w) (o : Obj) : Pl (w.alloc o) := h.below ((Below.refl _ _).alloc (Nat.le_refl _) o)
theorem Pl.drew {w : World} (h : Pl w) : Pl w.drew := ⟨h.cells, h.room⟩

set_option maxHeartbeats 2000000 in
theorem isTime_calls (x : Int) (w : World) :
    Calls Tryz.prog 98 #[.int .i64 x] w fun e w' => e = .returned (.bool (isT x)) ∧ w = w' := by
  by_cases h1 : -1125899906842624 ≤ x
  · by_cases h2 : x ≤ 1125899906842624
    · have e : isT x = true := (isT_iff x).2 ⟨h1, h2⟩
      rw [e]; clear e
      go_enter Tryz.func98, Tryz.ntmps98
      go_wp2
      go_ret
      exact ⟨rfl, rfl⟩
    · have e : isT x = false := by unfold isT; simp; omega
      rw [e]; clear e
      go_enter Tryz.func98, Tryz.ntmps98
      go_wp2
      go_ret
      exact ⟨rfl, rfl⟩
  · have e : isT x = false := by unfold isT; simp; omega
    rw [e]; clear e
    go_enter Tryz.func98, Tryz.ntmps98
    go_wp2
    go_ret
    exact ⟨rfl, rfl⟩
set_option maxHeartbeats 2000000 in
theorem isUnit_calls (x : Int) (w : World) :
    Calls Tryz.prog 78 #[.int .i64 x] w fun e w' => e = .returned (.bool (isU x)) ∧ w = w' := by
  by_cases h1 : 0 ≤ x
  · by_cases h2 : x < 4
    · have e : isU x = true := (isU_iff x).2 ⟨h1, h2⟩
      rw [e]; clear e
      go_enter Tryz.func78, Tryz.ntmps78
      go_wp2
      go_ret
      exact ⟨rfl, rfl⟩
    · have e : isU x = false := by unfold isU; simp; omega
      rw [e]; clear e
      go_enter Tryz.func78, Tryz.ntmps78
      go_wp2
      go_ret
      exact ⟨rfl, rfl⟩
  · have e : isU x = false := by unfold isU; simp; omega
    rw [e]; clear e
    go_enter Tryz.func78, Tryz.ntmps78
    go_wp2
    go_ret
    exact ⟨rfl, rfl⟩

end Go.Proofs.YtgoibhbmndpgpaaGreatDoor

/- The walks of package stamp's times: seconds, Seconds, Text, Ms, Of. -/
set_option maxRecDepth 100000
set_option linter.unusedVariables false
set_option linter.unusedSimpArgs false
namespace Go.Proofs.YtgoibhbmndpgpaaGreatDoor
open Go.RowKit Dc
attribute [local go_sem ↓] Go.wp_at_zero Go.wp_at_succ

theorem Pl.at {w : World} (h : Pl w) (i : Nat) (hi : i < 4) (z : Int) (hz : z = (3 * i : Nat)) : w.cell? ⟨0, i, none⟩ = some (.int .i64 z) := by rw [hz]; exact h.cells i hi
theorem sOf_b {x m : Int} {k : Nat} (h : sOf x = some (m, k)) : -9223372036854775808 ≤ m ∧ m ≤ 9223372036854775807 := by
  unfold sOf at h
  split at h
  · obtain ⟨_, hb, _⟩ := decOf_is h; unfold big at hb; omega
  · cases h

set_option maxHeartbeats 2000000 in
theorem seconds_calls (x : Int) (w : World) (hp : Pl w) (h1 : -9223372036854775808 ≤ x) (h2 : x ≤ 9223372036854775807) :
    Calls Tryz.prog 77 #[.int .i64 x] w fun e w' => e = .returned (normV (sOf x)) ∧ Below w.heap.size w w' := by
  have kB := kb_alloc (Below.refl w.heap.size w) (Nat.le_refl _) (.cells #[.int .i64 0, .int .i64 0] 44)
  have kd := DecAt.new w 0 0
  have kp := hp.alloc (.cells #[.int .i64 0, .int .i64 0] 44)
  go_enter Tryz.func77, Tryz.ntmps77
  go_wp2_with fail
  refine (isTime_calls x _).mono ?_; rintro e w1 ⟨rfl, rfl⟩
  generalize w.alloc (.cells #[.int .i64 0, .int .i64 0] 44) = W at *
  obtain ⟨p0, p1, p2, p3, p4⟩ := kd
  cases hx : isT x with
  | false =>
    have hs := Lib.hid (sOf_none hx)
    clear hx kp hp
    go_wp2_with fail
    refine bodyPost_ret (v := normV none) (by simp [results, Tryz.results77, go_sem, normV, p0, p1, p2, p3]) rfl ⟨by rw [hs.out], ?_⟩
    repeat (refine Below.setCell ?_ (by first | (simp; done) | (simp; omega)) _)
    exact kB
  | true =>
    have hs : Hid (sOf x = decOf (decide (x < 0)) x.natAbs 3) := by show _ = _; unfold sOf; rw [if_pos hx]
    have c3 := kp.at 1 (by omega) 3 rfl
    clear hx kp hp
    go_wp2_with fail
    refine (norm_calls x 3 _ h1 h2 (by omega)).mono ?_; rintro e w2 ⟨rfl, b2⟩
    have kd : DecAt w2 w.heap.size 0 0 := (DecAt.mk p0 p1 p2 p3 p4).below b2
    replace kB := kB.trans (b2.mono kB.size)
    clear b2 c3 p0 p1 p2 p3 p4
    obtain ⟨p0, p1, p2, p3, p4⟩ := kd
    rw [← hs.out]
    cases ho : sOf x with
    | none =>
      have Ho := Lib.hid ho
      clear ho
      rw [show normV none = Value.tuple #[dv2 0 0, .bool false] from rfl]
      go_wp2_with fail
      refine bodyPost_ret (v := normV none) (by simp [results, Tryz.results77, go_sem, normV, p0, p1, p2, p3]) rfl ⟨by rw [Ho.out], ?_⟩
      repeat (refine Below.setCell ?_ (by first | (simp; done) | (simp; omega)) _)
      exact kB
    | some r =>
      obtain ⟨m, k⟩ := r
      have Ho := Lib.hid ho
      clear ho
      rw [show normV (some (m, k)) = Value.tuple #[dv2 m k, .bool true] from rfl]
      go_wp2_with fail
      refine bodyPost_ret (v := normV (some (m, k))) (by simp [results, Tryz.results77, go_sem, normV, p0, p1, p2, p3]) rfl ⟨by rw [Ho.out], ?_⟩
      repeat (refine Below.setCell ?_ (by first | (simp; done) | (simp; omega)) _)
      exact kB

set_option maxHeartbeats 2000000 in
theorem sec_calls (m s : Int) (w : World) (hp : Pl w) (h1 : -9223372036854775808 ≤ m) (h2 : m ≤ 9223372036854775807) :
    Calls Tryz.prog 127 #[dv2 m s] w fun e w' => e = .returned (scaledV (secO m s)) ∧ Below w.heap.size w w' := by
  have kB := kb_alloc (Below.refl w.heap.size w) (Nat.le_refl _) (.cells #[.int .i64 m, .int .i64 s] 44)
  have kd := DecAt.new w m s
  have kp := hp.alloc (.cells #[.int .i64 m, .int .i64 s] 44)
  go_enter Tryz.func127, Tryz.ntmps127
  have c3 := kp.at 1 (by omega) 3 rfl
  obtain ⟨p0, p1, p2, p3, p4⟩ := kd
  clear kp hp
  go_wp2_with fail
  refine (scaled_walk m s 3 _ h1 h2).mono ?_; rintro e w2 ⟨rfl, b2⟩
  replace kB := kB.trans (b2.mono kB.size)
  clear b2 c3 p0 p1 p2 p3 p4
  cases ho : scaledO m s 3 with
  | none =>
    have hr : Hid (secO m s = none) := by show _ = _; unfold secO; rw [ho]; rfl
    clear ho
    rw [show scaledV none = .tuple #[.int .i64 0, .bool false] from rfl]
    go_wp2_with fail
    go_ret2
    exact ⟨by rw [hr.out]; rfl, kB⟩
  | some t =>
    have hq : Hid (secO m s = timeO (some t)) := by show _ = _; unfold secO; rw [ho]
    clear ho
    rw [show scaledV (some t) = .tuple #[.int .i64 t, .bool true] from rfl]
    go_wp2_with fail
    refine (isTime_calls t _).mono ?_; rintro e w3 ⟨rfl, rfl⟩
    cases hx : isT t with
    | true =>
      have hr : Hid (secO m s = some t) := by show _ = _; rw [hq.out]; unfold timeO; simp [hx]
      clear hx
      go_wp2_with fail
      go_ret2
      exact ⟨by rw [hr.out]; rfl, kB⟩
    | false =>
      have hr : Hid (secO m s = none) := by show _ = _; rw [hq.out]; unfold timeO; simp [hx]
      clear hx
      go_wp2_with fail
      go_ret2
      exact ⟨by rw [hr.out]; rfl, kB⟩

theorem of_bad {x u : Int} (h : sOf x = none ∨ isU u = false) : ofO x u = none := by
  unfold ofO
  rcases h with h | h
  · rw [h]
  · cases sOf x with
    | none => rfl
    | some p => obtain ⟨m, k⟩ := p; show (if isU u = true then scaledO m k (3 * u) else none) = none; rw [h]; rfl
set_option maxHeartbeats 2000000 in
theorem ms_calls (n u : Int) (w : World) (hp : Pl w) (h1 : -9223372036854775808 ≤ n) (h2 : n ≤ 9223372036854775807) :
    Calls Tryz.prog 121 #[.int .i64 n, .int .i64 u] w fun e w' => e = .returned (scaledV (msO n u)) ∧ Below w.heap.size w w' := by
  have b0 := Below.refl w.heap.size w
  go_enter Tryz.func121, Tryz.ntmps121
  go_wp2_with fail
  refine (isUnit_calls u _).mono ?_; rintro e w1 ⟨rfl, rfl⟩
  cases hu : isU u with
  | false =>
    have hr : Hid (msO n u = none) := by show _ = _; unfold msO; rw [hu]; rfl
    clear hu hp
    go_wp2_with fail
    go_ret2
    exact ⟨by rw [hr.out]; rfl, b0⟩
  | true =>
    obtain ⟨hu0, hu4⟩ := (isU_iff u).1 hu
    obtain ⟨k, rfl⟩ : ∃ k : Nat, u = k := ⟨u.toNat, by omega⟩
    have hk4 : k < 4 := by omega
    have hr : Hid (msO n k = match decOf (decide (n < 0)) n.natAbs (3 * (k : Int)) with | some (m, j) => secO m j | none => none) := by show _ = _; unfold msO; rw [if_pos hu]; rfl
    have c3 := hp.at k hk4 (3 * (k : Int)) (by omega)
    have hnorm := Lib.hid (fun W => norm_calls n (3 * (k : Int)) W h1 h2 (by omega))
    have hdb : Hid (∀ m j, decOf (decide (n < 0)) n.natAbs (3 * (k : Int)) = some (m, j) → -9223372036854775808 ≤ m ∧ m ≤ 9223372036854775807) := fun m j h => by
      obtain ⟨_, hb, _⟩ := decOf_is h; unfold big at hb; omega
    clear hu
    generalize decOf (decide (n < 0)) n.natAbs (3 * (k : Int)) = o at *
    obtain ⟨z, hz⟩ : ∃ z : Int, z = 3 * (k : Int) := ⟨_, rfl⟩
    rw [← hz] at c3 hnorm
    clear hz
    go_wp2_with fail
    refine (hnorm.out _).mono ?_; rintro e w2 ⟨rfl, kB⟩
    replace hp := hp.below kB
    clear c3 hnorm b0
    cases o with
    | none =>
      rw [show normV none = Value.tuple #[dv2 0 0, .bool false] from rfl]
      go_wp2_with fail
      go_ret2
      exact ⟨by rw [hr.out]; rfl, kb_alloc kB (Nat.le_refl _) _⟩
    | some r =>
      obtain ⟨m, j⟩ := r
      obtain ⟨hm1, hm2⟩ := hdb.out m j rfl
      have hr2 : Hid (msO n k = secO m j) := hr.out
      rw [show normV (some (m, j)) = Value.tuple #[dv2 m j, .bool true] from rfl]
      have kB2 := kb_alloc kB (Nat.le_refl _) (.cells #[.int .i64 m, .int .i64 j] 44)
      have hp2 := hp.alloc (.cells #[.int .i64 m, .int .i64 j] 44)
      have kd := DecAt.new w2 m j
      obtain ⟨p0, p1, p2, p3, p4⟩ := kd
      clear hdb hr hp
      go_wp2_with fail
      refine (sec_calls m j _ hp2 hm1 hm2).mono ?_; rintro e w3 ⟨rfl, b3⟩
      replace kB2 := kB2.trans (b3.mono kB2.size)
      rw [← hr2.out]
      clear hp2 p0 p1 p2 p3 p4 b3
      cases ho : msO n k with
      | none =>
        have Ho := Lib.hid ho
        clear ho
        rw [show scaledV none = .tuple #[.int .i64 0, .bool false] from rfl]
        go_wp2_with fail
        go_ret2
        exact ⟨by rw [Ho.out]; rfl, kB2⟩
      | some t =>
        have Ho := Lib.hid ho
        clear ho
        rw [show scaledV (some t) = .tuple #[.int .i64 t, .bool true] from rfl]
        go_wp2_with fail
        go_ret2
        exact ⟨by rw [Ho.out]; rfl, kB2⟩

set_option maxHeartbeats 4000000 in
theorem stof_calls (x u : Int) (w : World) (hp : Pl w) (h1 : -9223372036854775808 ≤ x) (h2 : x ≤ 9223372036854775807) :
    Calls Tryz.prog 53 #[.int .i64 x, .int .i64 u] w fun e w' => e = .returned (scaledV (ofO x u)) ∧ Below w.heap.size w w' := by
  go_enter Tryz.func53, Tryz.ntmps53
  go_wp2_with fail
  refine (seconds_calls x _ hp h1 h2).mono ?_; rintro e w1 ⟨rfl, kB⟩
  replace hp := hp.below kB
  cases ho : sOf x with
  | none =>
    have hr : Hid (ofO x u = none) := of_bad (Or.inl ho)
    clear ho hp
    rw [show normV none = Value.tuple #[dv2 0 0, .bool false] from rfl]
    go_wp2_with fail
    go_ret2
    exact ⟨by rw [hr.out]; rfl, kb_alloc kB (Nat.le_refl _) _⟩
  | some r =>
    obtain ⟨m, j⟩ := r
    obtain ⟨hm1, hm2⟩ := sOf_b ho
    have kB2 := kb_alloc kB (Nat.le_refl _) (.cells #[.int .i64 m, .int .i64 j] 44)
    have hp2 := hp.alloc (.cells #[.int .i64 m, .int .i64 j] 44)
    have kd := DecAt.new w1 m j
    have Ho := Lib.hid ho
    clear ho
    rw [show normV (some (m, j)) = Value.tuple #[dv2 m j, .bool true] from rfl]
    go_wp2_with fail
    refine (isUnit_calls u _).mono ?_; rintro e w2 ⟨rfl, rfl⟩
    generalize w1.alloc (.cells #[.int .i64 m, .int .i64 j] 44) = W at *
    obtain ⟨p0, p1, p2, p3, p4⟩ := kd
    cases hu : isU u with
    | false =>
      have hr : Hid (ofO x u = none) := of_bad (Or.inr hu)
      clear hu hp hp2
      go_wp2_with fail
      go_ret2
      exact ⟨by rw [hr.out]; rfl, kB2⟩
    | true =>
      obtain ⟨hu0, hu4⟩ := (isU_iff u).1 hu
      obtain ⟨k, rfl⟩ : ∃ k : Nat, u = k := ⟨u.toNat, by omega⟩
      have hk4 : k < 4 := by omega
      have c3 := hp2.at k hk4 (3 * (k : Int)) (by omega)
      have hr : Hid (ofO x k = scaledO m j (3 * (k : Int))) := by show _ = _; unfold ofO; rw [Ho.out]; show (if isU (k : Int) = true then _ else _) = _; rw [if_pos hu]
      have hsc := Lib.hid (fun W => scaled_walk m j (3 * (k : Int)) W hm1 hm2)
      rw [← hr.out] at hsc
      have hroom := hp2.room
      clear hu hp hp2
      obtain ⟨z, hz⟩ : ∃ z : Int, z = 3 * (k : Int) := ⟨_, rfl⟩
      rw [← hz] at c3 hsc
      clear hz hr
      go_wp2_with fail
      have r0 : ∀ y, Below W.heap.size W y → y.cell? ⟨w1.heap.size, 0, none⟩ = some (.int .i64 m) := fun y hy => (hy.cell (p := ⟨w1.heap.size, 0, none⟩) p4).trans p0
      have r1 : ∀ y, Below W.heap.size W y → y.cell? ⟨w1.heap.size, 1, none⟩ = some (.int .i64 j) := fun y hy => (hy.cell (p := ⟨w1.heap.size, 1, none⟩) p4).trans p1
      have r3 : ∀ y, Below W.heap.size W y → y.cell? ⟨0, k, none⟩ = some (.int .i64 z) := fun y hy => (hy.cell (p := ⟨0, k, none⟩) hroom).trans c3
      cases ho : ofO x k with
      | none =>
        have Ho := Lib.hid ho
        rw [ho, show scaledV none = .tuple #[.int .i64 0, .bool false] from rfl] at hsc
        clear ho p0 p1 p2 p3 p4 c3 hroom
        go_region_held3 (fun y => Below W.heap.size W y)
          (((repeat' first | assumption | exact Below.refl _ _ | exact Nat.le_refl _ | apply kp_alloc | apply kp_set | apply Below.drew | omega); done))
          ((go_at_call 79; refine (hsc.out _).mono ?_; rintro e w3 ⟨rfl, b3⟩; have k3 : Below W.heap.size W w3 := (by refine trans9 ?_ b3; (repeat' first | assumption | exact Below.refl _ _ | exact Nat.le_refl _ | apply kp_alloc | apply kp_set | apply Below.drew | omega)); clear b3))
        all_goals
          go_wp2_with fail
          go_ret2
          exact ⟨by rw [Ho.out]; rfl, kB2.trans (k3.mono kB2.size)⟩
      | some t =>
        have Ho := Lib.hid ho
        rw [ho, show scaledV (some t) = .tuple #[.int .i64 t, .bool true] from rfl] at hsc
        clear ho p0 p1 p2 p3 p4 c3 hroom
        go_region_held3 (fun y => Below W.heap.size W y)
          (((repeat' first | assumption | exact Below.refl _ _ | exact Nat.le_refl _ | apply kp_alloc | apply kp_set | apply Below.drew | omega); done))
          ((go_at_call 79; refine (hsc.out _).mono ?_; rintro e w3 ⟨rfl, b3⟩; have k3 : Below W.heap.size W w3 := (by refine trans9 ?_ b3; (repeat' first | assumption | exact Below.refl _ _ | exact Nat.le_refl _ | apply kp_alloc | apply kp_set | apply Below.drew | omega)); clear b3))
        all_goals
          go_wp2_with fail
          go_ret2
          exact ⟨by rw [Ho.out]; rfl, kB2.trans (k3.mono kB2.size)⟩

end Go.Proofs.YtgoibhbmndpgpaaGreatDoor
