/- The texts DecA, DecN, DecAt, DecB, DecC, DecE, DecF, DecG, DecD, one behind the other. -/
import Derived.Test.YtkmcjmpdmgdcoaaGreatDoorDecP
import Derived.Test.YtkmcjmpdmgdcoaaGreatDoorGrd
import Derived.WalkKit
import Derived.Lib.Hide
import Derived.Lib.Strings
import Derived.IntWalk
import Derived.Below
import Derived.Deep.QuietTactic
import Derived.BigQuiet
import Derived.Deep.WholeRow
import Derived.Lib.Builder
import Derived.Lib.SmallJoins
import Derived.Deep.DeepCutAuto

/- The walks of package dec's small functions and of what they call of package strings. -/
set_option linter.unusedVariables false
set_option linter.unusedSimpArgs false
namespace Go.Proofs.YtkmcjmpdmgdcoaaGreatDoor
open Go.RowKit Dc

/-- a decimal as a value -/
abbrev dv2 (m s : Int) : Value := .agg #[.int .i64 m, .int .i64 s]

set_option maxHeartbeats 1000000 in
theorem good_calls (m s : Int) (w : World) :
    Calls Tryz.prog 125 #[dv2 m s] w fun e w' => e = .returned (.bool (goodD m s)) ∧ Below w.heap.size w w' := by
  have b0 := (Below.refl w.heap.size w).alloc (Nat.le_refl _) (.cells #[.int .i64 m, .int .i64 s] 44)
  have B0 := Lib.hid b0
  clear b0
  by_cases h1 : s < 0
  · have e : goodD m s = false := by unfold goodD; simp; omega
    rw [e]; clear e
    go_enter Tryz.func125, Tryz.ntmps125
    go_wp2
    go_ret
    exact ⟨rfl, B0.out⟩
  by_cases h2 : s > 18
  · have e : goodD m s = false := by unfold goodD; simp; omega
    rw [e]; clear e
    go_enter Tryz.func125, Tryz.ntmps125
    go_wp2
    go_ret
    exact ⟨rfl, B0.out⟩
  by_cases h3 : m = -9223372036854775808
  · have e : goodD m s = false := by unfold goodD; simp; omega
    rw [e]; clear e
    subst h3
    go_enter Tryz.func125, Tryz.ntmps125
    go_wp2
    go_ret
    exact ⟨rfl, B0.out⟩
  have h3b : (m == -9223372036854775808) = false := by simpa using h3
  by_cases h4 : s = 0
  · have e : goodD m s = true := (goodD_iff m s).2 ⟨by omega, by omega, h3, Or.inl h4⟩
    rw [e]; clear e
    subst h4
    go_enter Tryz.func125, Tryz.ntmps125
    go_wp2
    go_ret
    exact ⟨rfl, B0.out⟩
  have h4b : (s == 0) = false := by simpa using h4
  by_cases h5 : m.tmod 10 = 0
  · have e : goodD m s = false := by unfold goodD; simp; omega
    rw [e]; clear e
    go_enter Tryz.func125, Tryz.ntmps125
    go_wp2
    go_ret
    exact ⟨rfl, B0.out⟩
  · have e : goodD m s = true := (goodD_iff m s).2 ⟨by omega, by omega, h3, Or.inr h5⟩
    rw [e]; clear e
    have h5b : (m.tmod 10 != 0) = true := by simpa using h5
    go_enter Tryz.func125, Tryz.ntmps125
    go_wp2
    go_ret
    exact ⟨rfl, B0.out⟩

end Go.Proofs.YtkmcjmpdmgdcoaaGreatDoor

/- The walk of package dec's Norm; what dec's and sum's digits share. -/
set_option linter.unusedVariables false
set_option linter.unusedSimpArgs false
namespace Go.Proofs.YtkmcjmpdmgdcoaaGreatDoor
open Go.RowKit Dc

theorem below_setRow {B : Nat} {a w : World} (h : Below B a w) {g : Nat} (hg : B ≤ g) (c : Array Value) : Below B a (w.setRow g c) :=
  ⟨h.os, h.tape, h.output, by show _ ≤ (Array.modify _ _ _).size; rw [Array.size_modify]; exact h.size, fun k hk => by rw [setRow_other w g k c (by omega)]; exact h.block k hk⟩
def joinV (t : Nat) : Value := if t ≤ big then .tuple #[.int .i64 (t : Nat), .bool true] else .tuple #[.int .i64 0, .bool false]
theorem joinV_le {t : Nat} (h : t ≤ big) : joinV t = .tuple #[.int .i64 (t : Nat), .bool true] := by unfold joinV; rw [if_pos h]
theorem joinV_gt {t : Nat} (h : ¬ t ≤ big) : joinV t = .tuple #[.int .i64 0, .bool false] := by unfold joinV; rw [if_neg h]
/-- a decimal, or that there is none, as Norm tells it -/
def normV : Option (Int × Nat) → Value
  | none => .tuple #[dv2 0 0, .bool false]
  | some (a, k) => .tuple #[dv2 a k, .bool true]
theorem cells2 (m s : Int) (b : Nat) (w : World) (t : TypeId) (h0 : w.cell? ⟨b, 0, none⟩ = some (.int .i64 m)) (h1 : w.cell? ⟨b, 1, none⟩ = some (.int .i64 s)) : w.cell? ⟨b, 0, none⟩ = some (.int .i64 m) ∧ w.cell? ⟨b, 1, none⟩ = some (.int .i64 s) := ⟨h0, h1⟩

set_option maxHeartbeats 4000000 in
theorem norm_calls (m : Int) (s : Int) (w : World) (hm1 : -9223372036854775808 ≤ m) (hm2 : m ≤ 9223372036854775807) (hs2 : s ≤ 9223372036854775807) :
    Calls Tryz.prog 136 #[.int .i64 m, .int .i64 s] w fun e w' => e = .returned (normV (decOf (decide (m < 0)) m.natAbs s)) ∧ Below w.heap.size w w' := by
  have b1 := (Below.refl w.heap.size w).alloc (Nat.le_refl _) (.cells #[.int .i64 0, .int .i64 0] 44)
  by_cases hs : s < 0
  · have e : decOf (decide (m < 0)) m.natAbs s = none := by unfold decOf; rw [if_pos hs]
    rw [e]; clear e
    have B1 := Lib.hid b1
    clear b1
    go_enter Tryz.func136, Tryz.ntmps136
    go_wp2
    refine bodyPost_ret (v := normV none) (by simp [results, Tryz.results136, go_sem, normV]) rfl ⟨rfl, B1.out⟩
  by_cases hm0 : m = 0
  · subst hm0
    have e : decOf (decide ((0 : Int) < 0)) (0 : Int).natAbs s = some (0, 0) := by unfold decOf; rw [if_neg hs]; rfl
    rw [e]; clear e
    have B1 := Lib.hid b1
    clear b1
    go_enter Tryz.func136, Tryz.ntmps136
    go_wp2
    refine bodyPost_ret (v := normV (some (0, 0))) (by simp [results, Tryz.results136, go_sem, normV]) rfl ⟨rfl, B1.out⟩
  have hm0b : (m == 0) = false := by simpa using hm0
  obtain ⟨k0, rfl⟩ : ∃ k0 : Nat, s = k0 := ⟨s.toNat, by omega⟩
  have he : ∀ (m' : Int) (k : Nat), strip k m'.natAbs = strip k0 m.natAbs → m' ≠ 0 → decOf (decide (m < 0)) m.natAbs k0 = decOf (decide (m < 0)) m'.natAbs k := by
    intro m' k h1 h2
    exact (decOf_strip _ m' k m.natAbs k0 h1 (by omega)).symm
  have He := Lib.hid he
  have B1 := Lib.hid b1
  clear b1 he
  go_enter Tryz.func136, Tryz.ntmps136
  go_wp2_with fail
  go_loop [0, 1] (fun s0 s1 => ∃ (m' : Int) (k : Nat), k ≤ k0 ∧ m' ≠ 0 ∧ -9223372036854775808 ≤ m' ∧ m' ≤ 9223372036854775807 ∧ s0 = .int .i64 m' ∧ s1 = .int .i64 (k : Nat) ∧ Hid (strip k m'.natAbs = strip k0 m.natAbs ∧ (m' < 0 ↔ m < 0))) (fun _ s1 => (intOf s1).toNat)
  case atStart => exact ⟨m, k0, Nat.le_refl _, hm0, hm1, hm2, rfl, rfl, rfl, Iff.rfl⟩
  case round =>
    obtain ⟨m', k, hk, hz, h1, h2, rfl, rfl, H⟩ := hrel
    obtain ⟨hst, hsg⟩ := H.out
    have hzb : (m' == 0) = false := by simpa using hz
    by_cases hgo : 0 < k ∧ m'.tmod 10 = 0
    · obtain ⟨hk0, ht⟩ := hgo
      have htb : (m'.tmod 10 == 0) = true := by simpa using ht
      obtain ⟨hq0, hqs⟩ := tdiv_sign m' ht hz
      have hqa := tdiv_abs m'
      obtain ⟨j, rfl⟩ : ∃ j, k = j + 1 := ⟨k - 1, by omega⟩
      rw [strip_step _ _ ((tmod_abs m').1 ht), ← hqa] at hst
      have hb1 : -9223372036854775808 ≤ m'.tdiv 10 := by omega
      have hb2 : m'.tdiv 10 ≤ 9223372036854775807 := by omega
      have Hst := Lib.hid hst
      have Hsg := Lib.hid (show m'.tdiv 10 < 0 ↔ m < 0 from hqs.trans hsg)
      have ej : ((j + 1 : Nat) : Int) - 1 = (j : Int) := by omega
      have Hq0 := Lib.hid hq0
      clear hst hsg hqs hqa H hq0
      go_wp2_with fail
      go_round
      case rel => exact ⟨m'.tdiv 10, j, by omega, Hq0.out, hb1, hb2, rfl, rfl, Hst.out, Hsg.out⟩
      case measure => simp [intOf]
    · have hid : strip k m'.natAbs = (m'.natAbs, k) := strip_id _ _ (by
        by_cases hk0 : k = 0
        · exact Or.inl hk0
        · exact Or.inr (fun e => hgo ⟨by omega, (tmod_abs m').2 e⟩))
      have hdec := He.out m' k hst hz
      have Hdec := Lib.hid hdec
      have Hid' := Lib.hid hid
      have Hsg := Lib.hid hsg
      have hkb : 0 < k → (m'.tmod 10 == 0) = false := fun h0 => by
        have : ¬ m'.tmod 10 = 0 := fun e => hgo ⟨h0, e⟩
        simpa using this
      clear hst hdec hid H hsg hgo
      have hout : decOf (decide (m < 0)) m'.natAbs k = if goodD m' k = true then some (m', k) else none := by
        unfold decOf
        rw [if_neg (show ¬ (k : Int) < 0 by omega), if_neg (by omega), Int.toNat_natCast, Hid'.out]
        have hg := goodD_iff m' k
        by_cases hgd : goodD m' k = true
        · rw [if_pos hgd]
          obtain ⟨_, g1, g2, _⟩ := hg.1 hgd
          rw [if_pos ⟨by show m'.natAbs ≤ big; unfold big; omega, by show k ≤ 18; omega⟩]
          have : (if decide (m < 0) = true then -((m'.natAbs : Nat) : Int) else ((m'.natAbs : Nat) : Int)) = m' := by
            have := Hsg.out
            by_cases hn : m < 0
            · rw [if_pos (by simpa using hn)]; omega
            · rw [if_neg (by simpa using hn)]; omega
          simp only [this]
        · rw [if_neg hgd, if_neg]
          rintro ⟨g1, g2⟩
          have g1' : m'.natAbs ≤ big := g1
          have g2' : k ≤ 18 := g2
          unfold big at g1'
          refine hgd (hg.2 ⟨by omega, by omega, by omega, ?_⟩)
          by_cases hk0 : k = 0
          · exact Or.inl (by omega)
          · exact Or.inr (by have := hkb (by omega); simpa using this)
      have Hout := Lib.hid (Hdec.out.trans hout)
      clear hout
      by_cases hk0 : k = 0
      · subst hk0
        go_wp2_with fail
        refine (good_calls _ _ _).mono ?_; rintro e w1 ⟨rfl, b1⟩
        have B2 := Lib.hid (trans9 (kb_alloc B1.out (Nat.le_refl _) (.cells #[.int .i64 m', .int .i64 0] 44)) b1)
        obtain ⟨hcell, hfr⟩ := bcell b1
        have c0 : w1.cell? ⟨w.heap.size, 0, none⟩ = some (.int .i64 0) := (hcell w.heap.size 0 (by simp; omega)).trans (by simp [go_sem])
        have c1 : w1.cell? ⟨w.heap.size, 1, none⟩ = some (.int .i64 0) := (hcell w.heap.size 1 (by simp; omega)).trans (by simp [go_sem])
        clear b1
        cases hg : goodD m' 0 with
        | false =>
          have ho := Hout.out
          rw [if_neg (by simpa using hg)] at ho
          have Ho := Lib.hid ho
          clear ho
          go_wp2
          refine bodyPost_ret (v := normV none) (by simp [results, Tryz.results136, go_sem, normV, c0, c1]) rfl ⟨by rw [Ho.out], ?_⟩
          repeat (refine Below.setCell ?_ (by simp) _)
          exact B2.out
        | true =>
          have ho := Hout.out
          rw [if_pos (by simpa using hg)] at ho
          have Ho := Lib.hid ho
          clear ho
          go_wp2
          refine bodyPost_ret (v := normV (some (m', 0))) (by simp [results, Tryz.results136, go_sem, normV, c0, c1]) rfl ⟨by rw [Ho.out], ?_⟩
          repeat (refine Below.setCell ?_ (by simp) _)
          exact B2.out
      · have hkb' := hkb (by omega)
        have hkp : 0 < k := by omega
        clear hkb
        go_wp2_with fail
        refine (good_calls _ _ _).mono ?_; rintro e w1 ⟨rfl, b1⟩
        have B2 := Lib.hid (trans9 (kb_alloc B1.out (Nat.le_refl _) (.cells #[.int .i64 m', .int .i64 k] 44)) b1)
        obtain ⟨hcell, hfr⟩ := bcell b1
        have c0 : w1.cell? ⟨w.heap.size, 0, none⟩ = some (.int .i64 0) := (hcell w.heap.size 0 (by simp; omega)).trans (by simp [go_sem])
        have c1 : w1.cell? ⟨w.heap.size, 1, none⟩ = some (.int .i64 0) := (hcell w.heap.size 1 (by simp; omega)).trans (by simp [go_sem])
        clear b1
        cases hg : goodD m' ((k : Nat) : Int) with
        | false =>
          have ho := Hout.out
          rw [if_neg (by simpa using hg)] at ho
          have Ho := Lib.hid ho
          clear ho
          go_wp2
          refine bodyPost_ret (v := normV none) (by simp [results, Tryz.results136, go_sem, normV, c0, c1]) rfl ⟨by rw [Ho.out], ?_⟩
          repeat (refine Below.setCell ?_ (by simp) _)
          exact B2.out
        | true =>
          have ho := Hout.out
          rw [if_pos (by simpa using hg)] at ho
          have Ho := Lib.hid ho
          clear ho
          go_wp2
          refine bodyPost_ret (v := normV (some (m', k))) (by simp [results, Tryz.results136, go_sem, normV, c0, c1]) rfl ⟨by rw [Ho.out], ?_⟩
          repeat (refine Below.setCell ?_ (by simp) _)
          exact B2.out

end Go.Proofs.YtkmcjmpdmgdcoaaGreatDoor

/- A decimal in a block of its own; equality of decimals as one step. -/
set_option linter.unusedVariables false
set_option linter.unusedSimpArgs false
namespace Go.Proofs.YtkmcjmpdmgdcoaaGreatDoor
open Go.RowKit Dc

/-- a decimal lies in block b, where it may be written -/
structure DecAt (w : World) (b : Nat) (m s : Int) : Prop where
  c0 : w.cell? ⟨b, 0, none⟩ = some (.int .i64 m)
  c1 : w.cell? ⟨b, 1, none⟩ = some (.int .i64 s)
  f0 : w.frozen? ⟨b, 0, none⟩ = false
  f1 : w.frozen? ⟨b, 1, none⟩ = false
  lt : b < w.heap.size
theorem DecAt.below {w w' : World} {b : Nat} {m s : Int} (h : DecAt w b m s) (hb : Below w.heap.size w w') : DecAt w' b m s :=
  ⟨(hb.cell (p := ⟨b, 0, none⟩) h.lt).trans h.c0, (hb.cell (p := ⟨b, 1, none⟩) h.lt).trans h.c1, (hb.frozen (p := ⟨b, 0, none⟩) h.lt).trans h.f0, (hb.frozen (p := ⟨b, 1, none⟩) h.lt).trans h.f1, Nat.lt_of_lt_of_le h.lt hb.size⟩
theorem DecAt.new (w : World) (m s : Int) : DecAt (w.alloc (.cells #[.int .i64 m, .int .i64 s] 44)) w.heap.size m s :=
  ⟨by simp [go_sem], by simp [go_sem], by simp [go_sem], by simp [go_sem], by simp⟩
theorem DecAt.alloc {w : World} {b : Nat} {m s : Int} (h : DecAt w b m s) (o : Obj) : DecAt (w.alloc o) b m s := h.below ((Below.refl _ _).alloc (Nat.le_refl _) o)
theorem DecAt.drew {w : World} {b : Nat} {m s : Int} (h : DecAt w b m s) : DecAt w.drew b m s := ⟨h.c0, h.c1, h.f0, h.f1, h.lt⟩
theorem DecAt.row {w : World} {b g : Nat} {m s : Int} (h : DecAt w b m s) (c : Array Value) (hne : b ≠ g) : DecAt (w.setRow g c) b m s := by
  have e : (w.setRow g c).heap[b]? = w.heap[b]? := setRow_other w g b c (by omega)
  have hc : ∀ i, (w.setRow g c).cell? ⟨b, i, none⟩ = w.cell? ⟨b, i, none⟩ := fun i => by unfold World.cell?; rw [e]
  have hf : ∀ i, (w.setRow g c).frozen? ⟨b, i, none⟩ = w.frozen? ⟨b, i, none⟩ := fun i => by unfold World.frozen?; rw [e]
  exact ⟨(hc 0).trans h.c0, (hc 1).trans h.c1, (hf 0).trans h.f0, (hf 1).trans h.f1, by show b < (Array.modify _ _ _).size; rw [Array.size_modify]; exact h.lt⟩

theorem eql_dec (a b c d : Int) (W : World) : (binOp .eql 44 (dv2 a b) (dv2 c d)).run Tryz.prog W = .ok (.bool (decide (a = c ∧ b = d))) W := by
  by_cases h1 : a = c
  · subst h1
    by_cases h2 : b = d
    · subst h2
      go_simp
    · have h2b : (b == d) = false := by simpa using h2
      go_simp
  · have h1b : (a == c) = false := by simpa using h1
    go_simp

end Go.Proofs.YtkmcjmpdmgdcoaaGreatDoor

/- The walks of package dec's skip, and of strings.HasPrefix, TrimLeft, TrimRight at one byte. -/
set_option linter.unusedVariables false
set_option linter.unusedSimpArgs false
namespace Go.Proofs.YtkmcjmpdmgdcoaaGreatDoor
open Go.RowKit Dc

theorem drop_at (s : ByteArray) (k : Nat) (h : k < s.size) : s.data.toList.drop k = s[k] :: s.data.toList.drop (k + 1) := by
  have hl : k < s.data.toList.length := by rw [← Lib.size_eq]; exact h
  rw [List.drop_eq_getElem_cons hl]; rfl
theorem byte_lt (c : UInt8) : (c.toNat : Int) ≤ 255 := by have := UInt8.toNat_lt c; omega

theorem tl (b : ByteArray) : b.toList = b.data.toList := by cases b; exact ByteArray.toList_mk _
theorem sg_ne (c : UInt8) (l : List UInt8) (h : c ≠ 45) : sg (c :: l) = 0 := by
  rcases sg_cases (c :: l) with ⟨r, e, _⟩ | ⟨h1, _⟩
  · injection e with e1 e2; exact absurd e1 h
  · exact h1
theorem pre_bool (s : ByteArray) (h : 1 ≤ s.size) : ((s.extract 0 1).toList == [45]) = decide (sg s.data.toList = 1) := by
  rw [tl, ext_list, List.drop_zero]
  have hd := drop_at s 0 h
  rw [List.drop_zero] at hd
  rw [hd, List.take_succ_cons, List.take_zero]
  by_cases hc : s[0] = 45
  · rw [hc]; rfl
  · rw [sg_ne _ _ hc]
    simpa using hc
theorem str_nil_bool (l : List UInt8) (h : l ≠ []) : l.isEmpty = false := by
  cases l with
  | nil => exact absurd rfl h
  | cons x l => rfl
end Go.Proofs.YtkmcjmpdmgdcoaaGreatDoor

/- The walks of package dec's digits: spread, join, gather. -/
set_option linter.unusedVariables false
set_option linter.unusedSimpArgs false
namespace Go.Proofs.YtkmcjmpdmgdcoaaGreatDoor
open Go.RowKit Dc

/-- the nineteen digits of a number, the last one first -/
def dA (z : Nat → Nat) : Array Value := Array.ofFn (n := 19) fun i => .int .u8 (z i.1 : Nat)
theorem dA_size (z : Nat → Nat) : (dA z).size = 19 := by simp [dA]
theorem dA_at (z : Nat → Nat) (i : Nat) (h : i < 19) : (dA z)[i]? = some (.int .u8 (z i : Nat)) := by
  unfold dA
  rw [Array.getElem?_ofFn, dif_pos h]
theorem dA_one (z : Nat → Nat) : (dA z).all (·.oneCell') = true := by
  rw [Array.all_eq_true]
  intro i hi
  have h := dA_at z i (by rw [dA_size] at hi; exact hi)
  rw [Array.getElem?_eq_getElem hi] at h
  rw [Option.some.inj h]; rfl
theorem dA_set (z : Nat → Nat) (n d : Nat) : (dA z).setIfInBounds n (.int .u8 (d : Nat)) = dA (fun i => if i = n then d else z i) := by
  apply Array.ext_getElem?
  intro i
  rw [Array.getElem?_setIfInBounds]
  by_cases hi : i < 19
  · rw [dA_at _ _ hi, dA_at _ _ hi, dA_size]
    by_cases h : n = i
    · subst h; simp [hi]
    · rw [if_neg h, if_neg (fun e => h e.symm)]
  · rw [Array.getElem?_eq_none (by rw [dA_size]; omega), Array.getElem?_eq_none (by rw [dA_size]; omega), dA_size]
    split
    · rename_i h; subst h; rw [if_neg hi]
    · rfl
theorem dA_ext {z z' : Nat → Nat} (h : ∀ i, i < 19 → z i = z' i) : dA z = dA z' := by
  apply Array.ext_getElem?
  intro i
  by_cases hi : i < 19
  · rw [dA_at _ _ hi, dA_at _ _ hi, h i hi]
  · rw [Array.getElem?_eq_none (by rw [dA_size]; omega), Array.getElem?_eq_none (by rw [dA_size]; omega)]

/-- the number of the first k digits, the highest one first -/
def topN (z : Nat → Nat) : Nat → Nat
  | 0 => 0
  | k + 1 => 10 * topN z k + z (18 - k)
theorem topN_lt (z : Nat → Nat) (hz : ∀ i, i < 19 → z i ≤ 9) (k : Nat) : topN z k < 10 ^ k := by
  induction k with
  | zero => exact Nat.one_pos
  | succ k ih =>
    have := hz (18 - k) (by omega)
    rw [topN, Nat.pow_succ]; omega

/-- the digits of a text, the last one first -/
def zOf (l : List UInt8) (i : Nat) : Nat := if i < l.length then dv (l.getD (l.length - 1 - i) 0) else 0
theorem zOf_le (l : List UInt8) (h : allDg l) (i : Nat) : zOf l i ≤ 9 := by
  unfold zOf
  split
  · rename_i hi
    have : l.length - 1 - i < l.length := by omega
    rw [List.getD_eq_getElem?_getD, List.getElem?_eq_getElem this]
    have := (dg_iff _).1 (h _ (List.getElem_mem this))
    show dv _ ≤ 9
    unfold dv
    simp only [Option.getD_some]
    omega
  · omega
theorem zOf_top (l : List UInt8) (h : l.length ≤ 19) : topN (zOf l) 19 = valN (vals l) := by
  have h0 : ∀ k, k ≤ 19 - l.length → topN (zOf l) k = 0 := by
    intro k
    induction k with
    | zero => intro _; rfl
    | succ k ih =>
      intro hk
      rw [topN, ih (by omega)]
      unfold zOf
      rw [if_neg (by omega)]
  have h1 : ∀ j, j ≤ l.length → topN (zOf l) (19 - l.length + j) = valN (vals (l.take j)) := by
    intro j
    induction j with
    | zero => intro _; rw [Nat.add_zero, h0 _ (Nat.le_refl _)]; rfl
    | succ j ih =>
      intro hj
      rw [← Nat.add_assoc, topN, ih (by omega), List.take_succ_eq_append_getElem (by omega : j < l.length), vals_app]
      have e : vals [l[j]] = [dv l[j]] := rfl
      rw [e, valN_snoc]
      unfold zOf
      rw [if_pos (by omega), show l.length - 1 - (18 - (19 - l.length + j)) = j by omega, List.getD_eq_getElem?_getD, List.getElem?_eq_getElem (by omega : j < l.length)]
      rfl
  have := h1 l.length (Nat.le_refl _)
  rw [show 19 - l.length + l.length = 19 by omega, List.take_of_length_le (Nat.le_refl _)] at this
  exact this

end Go.Proofs.YtkmcjmpdmgdcoaaGreatDoor

/- The walks of package dec's split, number and Parse. -/
set_option linter.unusedVariables false
set_option linter.unusedSimpArgs false
namespace Go.Proofs.YtkmcjmpdmgdcoaaGreatDoor
open Go.RowKit Dc

/-- what split tells -/
def cutV : Cut → Value
  | .bad n => .tuple #[.agg #[.bool false, .string ⟨#[]⟩, .string ⟨#[]⟩], .int .i64 (n : Nat), .bool false]
  | .ok neg d e => .tuple #[.agg #[.bool neg, .string (str d), .string (str e)], .int .i64 0, .bool true]
theorem cut_head (l : List UInt8) : (str l).extract (sg l) (pt l) = str ((l.drop (sg l)).takeWhile dg) :=
  str_ext (by rw [ext_list]; unfold pt; show (l.take _).drop _ = _; rw [List.drop_take, Nat.add_sub_cancel_left, dgN_take])
theorem cut_tail (l : List UInt8) : (str l).extract (pt l + 1) (en l) = str ((l.drop (pt l + 1)).takeWhile dg) :=
  str_ext (by rw [ext_list]; unfold en; show (l.take _).drop _ = _; rw [List.drop_take, Nat.add_sub_cancel_left, dgN_take])

end Go.Proofs.YtkmcjmpdmgdcoaaGreatDoor

/- The walks of package dec's number and Parse. -/
set_option linter.unusedVariables false
set_option linter.unusedSimpArgs false
namespace Go.Proofs.YtkmcjmpdmgdcoaaGreatDoor
open Go.RowKit Dc

def numAt (neg : Bool) (L B : List UInt8) : Option (Int × Nat) :=
  if 19 < L.length ∨ 19 < L.length + B.length then none
  else if big < valN (vals (L ++ B)) then none
  else decOf (decide ((if neg then -(valN (vals (L ++ B)) : Int) else (valN (vals (L ++ B)) : Int)) < 0)) (valN (vals (L ++ B))) B.length
theorem numOf_at (neg : Bool) (d e : List UInt8) : numOf neg d e = numAt neg (trimL 48 d) (trimR 48 e) := rfl

end Go.Proofs.YtkmcjmpdmgdcoaaGreatDoor

/- The walk of package dec's Parse. -/
set_option linter.unusedVariables false
set_option linter.unusedSimpArgs false
namespace Go.Proofs.YtkmcjmpdmgdcoaaGreatDoor
open Go.RowKit Dc

def parseV (r : (Int × Int) × Int × Int) : Value := .tuple #[dv2 r.1.1 r.1.2, .int .i64 r.2.1, .int .i64 r.2.2]

end Go.Proofs.YtkmcjmpdmgdcoaaGreatDoor

/- The walk of package dec's Print. -/
set_option linter.unusedVariables false
set_option linter.unusedSimpArgs false
namespace Go.Proofs.YtkmcjmpdmgdcoaaGreatDoor
open Go.RowKit Dc

theorem isb_below {T e B b : Nat} {bs : List Value} {w w' : World} (h : Lib.IsBuilder T e B b bs w) (hb : Below w.heap.size w w') : Lib.IsBuilder T e B b bs w' := by
  have key : ∀ p, Lib.BuilderAt T e B b p bs w → Lib.BuilderAt T e B b p bs w' := fun p k => by
    obtain ⟨hB, v, h1, h2, h3⟩ := k
    exact ⟨hB, v, by rw [hb.block b (Array.getElem?_eq_some_iff.1 h1).1]; exact h1, own_below h2 hb, h3⟩
  rcases h with h | h
  · exact Or.inl (key _ h)
  · exact Or.inr (key _ h)
theorem byteCells_snoc (l : List UInt8) (c : UInt8) (v : Int) (h : v = c.toNat) : Lib.byteCells l ++ [.int .u8 v] = Lib.byteCells (l ++ [c]) := by
  subst h; simp [Lib.byteCells]

end Go.Proofs.YtkmcjmpdmgdcoaaGreatDoor
