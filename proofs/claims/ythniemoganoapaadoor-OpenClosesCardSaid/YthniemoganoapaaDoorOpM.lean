/- The walks of package openword's each, Bad, Rows (layer 17). -/
import Derived.Test.YthniemoganoapaaDoorOpL
set_option maxRecDepth 100000
set_option linter.unusedVariables false
set_option linter.unusedSimpArgs false
namespace Go.Proofs.YthniemoganoapaaDoor
open Go.RowKit
attribute [local go_sem ↓] Go.wp_at_zero Go.wp_at_succ

theorem Cur.fresh {w : World} (s : List UInt8) (ty : TypeId) (hT : OwT w w.heap.size) : Cur (w.alloc (.cells #[.string (str s), .int .i64 0] ty)) w.heap.size s 0 :=
  ⟨by simp, by simp, fun o => by simp, by simp, Nat.zero_le _, hT.kept (fun j hj => ((Below.refl w.heap.size w).alloc (Nat.le_refl _) _).block j hj)⟩
theorem Ow.bad_rows (s : List UInt8) (j : Nat) (hj : (Ow.rows s.length s).rest = s.drop j) (hl : j ≤ s.length) : Ow.bad s = if Ow.okB (Ow.rows s.length s) = true then -1 else (j : Int) := by
  unfold Ow.bad
  cases h : Ow.rows s.length s with
  | fell r =>
    rw [h] at hj
    obtain rfl : r = s.drop j := hj
    show ((s.length - (s.drop j).length : Nat) : Int) = if false = true then -1 else (j : Int)
    rw [if_neg (by decide), List.length_drop]; omega
  | ok v r => rfl
theorem Ow.bad_neg (s : List UInt8) : (Ow.okB (Ow.rows s.length s) = true → Ow.bad s = -1) ∧ (Ow.okB (Ow.rows s.length s) = false → 0 ≤ Ow.bad s) := by
  unfold Ow.bad
  cases h : Ow.rows s.length s with
  | fell r => exact ⟨fun e => (by cases e), fun _ => by simp⟩
  | ok v r => exact ⟨fun _ => rfl, fun e => (by cases e)⟩

set_option maxHeartbeats 4000000 in
theorem eachb_calls (s : List UInt8) (w : World) (hT : OwT w w.heap.size) (hs : s.length ≤ 1900) :
    Calls Tryd.prog 19 #[.string (str s), .func (.func 25) #[] #[]] w fun e w' => e = .returned (.int .i64 (Ow.bad s)) ∧ Below w.heap.size w w' := by
  have C0 := Lib.hid (Cur.fresh s 64 hT)
  have B0 := Lib.hid ((Below.refl w.heap.size w).alloc (Nat.le_refl _) (.cells #[.string (str s), .int .i64 0] 64))
  have hP := payb_calls w.heap.size s _ C0.out hs
  have HBd := Lib.hid (fun j => Ow.bad_rows s j)
  clear hT
  go_enter Tryd.func19, Tryd.ntmps19
  go_wp2_with fail
  refine hP.mono ?_; rintro e w1 ⟨rfl, ⟨j, hj, C1⟩, b1⟩
  have HR := Lib.hid (HBd.out j hj C1.le)
  have B1 := Lib.hid (B0.out.trans b1)
  obtain ⟨c0, c1, cf, cl, -, -⟩ := C1
  clear hP hj HBd b1
  generalize Ow.okB (Ow.rows s.length s) = q at *
  cases q
  · go_wp2
    go_ret
    exact ⟨by rw [HR.out]; rfl, B1.out⟩
  · go_wp2
    go_ret
    exact ⟨by rw [HR.out]; rfl, B1.out⟩

set_option maxHeartbeats 4000000 in
theorem bad0_calls (s : List UInt8) (w : World) (hT : OwT w w.heap.size) (hs : s.length ≤ 1900) :
    Calls Tryd.prog 11 #[.string (str s)] w fun e w' => e = .returned (.int .i64 (Ow.bad s)) ∧ Below w.heap.size w w' := by
  have hC := eachb_calls s w hT hs
  generalize Ow.bad s = R at *
  go_enter Tryd.func11, Tryd.ntmps11
  go_wp2_with fail
  refine hC.mono ?_; rintro e w1 ⟨rfl, b1⟩
  go_wp2
  go_ret
  exact ⟨rfl, b1⟩

set_option maxHeartbeats 4000000 in
theorem eachr_calls (c : Nat) (s : List UInt8) (w : World) (hR : RowsAt w w.heap.size c []) (hT : OwT w c) (hs : s.length ≤ 1900) :
    Calls Tryd.prog 19 #[.string (str s), .func (.func 20) #[] #[.pointer (some ⟨c, 0, none⟩)]] w fun e w' => e = .returned (.int .i64 (Ow.bad s)) ∧ Below c w w' ∧ ∃ L, RowsAt w' w.heap.size c L ∧ ∀ M r, Ow.rows s.length s = .ok M r → L.map (·.1) = M := by
  have hc := hR.lt
  have hT2 : OwT w w.heap.size := ⟨hT.cls, hT.sts, hT.shp, hT.mks, by have := hT.l0; omega, by have := hT.l1; omega, by have := hT.l2; omega, by have := hT.l3; omega⟩
  have C0 := Lib.hid (Cur.fresh s 64 hT2)
  have A0 := (Below.refl w.heap.size w).alloc (Nat.le_refl _) (.cells #[.string (str s), .int .i64 0] 64)
  have B0 := Lib.hid (A0.mono (Nat.le_of_lt hc))
  have R0 : RowsAt (w.alloc (.cells #[.string (str s), .int .i64 0] 64)) (w.heap.size + 1) c [] := by
    have r := hR.below A0
    obtain ⟨⟨v, h1, h2⟩, -, hf, hl, hB⟩ := r
    exact ⟨⟨v, h1, by
      obtain ⟨hl2, h2⟩ := h2
      refine ⟨hl2, ?_⟩
      rcases h2 with h2 | ⟨g, cap, cur, hv, hg, hb, h3⟩
      · exact Or.inl h2
      · exact Or.inr ⟨g, cap, cur, hv, by
          rcases Nat.lt_or_ge w.heap.size g with h | h
          · omega
          · exfalso
            obtain rfl : g = w.heap.size := by omega
            rw [heap_alloc_new] at hb
            injection hb with hb
            injection hb with _ hb _
            exact absurd hb (by decide), hb, h3⟩⟩, fun x hx => (by cases hx), hf, by omega, by rw [al_size]; omega⟩
  have hP := payr_calls w.heap.size c (w.heap.size + 1) s _ C0.out R0 hc (by omega) (hT.kept (fun j hj => A0.block j (by omega))) hs
  have HBd := Lib.hid (fun j => Ow.bad_rows s j)
  clear hT R0 A0 hT2
  go_enter Tryd.func19, Tryd.ntmps19
  go_wp2_with fail
  refine hP.mono ?_; rintro e w1 ⟨rfl, ⟨j, hj, C1⟩, b1, L, hL, hM⟩
  have HR := Lib.hid (HBd.out j hj C1.le)
  have B1 := Lib.hid (B0.out.trans b1)
  have HL := Lib.hid (show RowsAt w1 w.heap.size c L from ⟨by obtain ⟨v, h1, h2⟩ := hL.own; exact ⟨v, h1, KOwn.mono h2 (Nat.le_succ _)⟩, fun x hx => KOwn.mono (hL.tgs x hx) (Nat.le_succ _), hL.fr, hc, by have := hL.le; omega⟩)
  have HM := Lib.hid hM
  obtain ⟨c0, c1, cf, cl, -, -⟩ := C1
  clear hP hj HBd b1 hL hM
  generalize Ow.okB (Ow.rows s.length s) = q at *
  cases q
  · go_wp2
    go_ret
    exact ⟨by rw [HR.out]; rfl, B1.out, L, HL.out, HM.out⟩
  · go_wp2
    go_ret
    exact ⟨by rw [HR.out]; rfl, B1.out, L, HL.out, HM.out⟩

/-- what Rows returns: a new slice of rows with new tags, or nil -/
def RowsP (s : List UInt8) (w : World) (e : Ending) (w' : World) : Prop :=
  ∃ A n cap L, e = .returned (.tuple #[.slice A n cap, .bool (decide (Ow.bad s < 0))]) ∧ Below w.heap.size w w' ∧ KOwn encRw 42 10 w' w.heap.size (.slice A n cap) L ∧ (∀ x ∈ L, TgOwn w' w.heap.size x.2 x.1.tags) ∧
    (Ow.bad s < 0 → ∃ r, Ow.rows s.length s = .ok (L.map (·.1)) r) ∧ (0 ≤ Ow.bad s → L = [])

set_option maxHeartbeats 4000000 in
theorem rows0_calls (s : List UInt8) (w : World) (hT : OwT w w.heap.size) (hs : s.length ≤ 1900) :
    Calls Tryd.prog 9 #[.string (str s)] w fun e w' => RowsP s w e w' := by
  have A0 := (Below.refl w.heap.size w).alloc (Nat.le_refl _) (.cells #[.slice none 0 0] 23)
  have B0 := Lib.hid A0
  have R0 : RowsAt (w.alloc (.cells #[.slice none 0 0] 23)) (w.heap.size + 1) w.heap.size [] := ⟨⟨.slice none 0 0, by simp, KOwn.nil _ _ _ _ _⟩, fun x hx => (by cases hx), by simp, by omega, by rw [al_size]; omega⟩
  have hE := eachr_calls w.heap.size s (w.alloc (.cells #[.slice none 0 0] 23)) (by rw [al_size]; exact R0) (hT.kept (fun j hj => A0.block j hj)) hs
  rw [al_size] at hE
  have HN := Lib.hid (Ow.bad_neg s)
  obtain ⟨Bd, hBd⟩ : ∃ B, B = Ow.bad s := ⟨_, rfl⟩
  unfold RowsP
  rw [← hBd] at hE HN ⊢
  clear hBd hT A0 R0
  go_enter Tryd.func9, Tryd.ntmps9
  go_wp2_with fail
  refine hE.mono ?_; rintro e w1 ⟨rfl, b1, L, hL, hM⟩
  have B1 := Lib.hid (B0.out.trans b1)
  obtain ⟨⟨v, hc, hk⟩, ht, hf, hl, hB⟩ := hL
  obtain ⟨A1, n1, cap1, rfl⟩ : ∃ A n cap, v = .slice A n cap := (by obtain ⟨A, cap, he, _⟩ := KOwn.row encRw_len hk; exact ⟨A, _, cap, he⟩)
  have HK := Lib.hid (KOwn.mono hk (Nat.le_succ _))
  have HTg := Lib.hid (fun x hx => KOwn.mono (ht x hx) (Nat.le_succ w.heap.size))
  have HM := Lib.hid hM
  clear hE hk ht hM b1
  by_cases h0 : 0 ≤ Bd
  · have d0 : decide (0 ≤ Bd) = true := decide_eq_true h0
    have d1 := Lib.hid (show decide (Bd < 0) = false from decide_eq_false (by omega))
    go_wp2
    go_ret2
    exact ⟨none, 0, 0, [], by rw [d1.out]; rfl, B1.out, KOwn.nil _ _ _ _ _, fun x hx => (by cases hx), fun h => (by exfalso; omega), fun _ => rfl⟩
  · have d0 : decide (0 ≤ Bd) = false := decide_eq_false h0
    have d1 := Lib.hid (show decide (Bd < 0) = true from decide_eq_true (by omega))
    have hq := Lib.hid (show ∃ r, Ow.rows s.length s = .ok (L.map (·.1)) r by
      cases hr : Ow.rows s.length s with
      | fell r => rw [hr] at HN; exact absurd (HN.out.2 rfl) h0
      | ok M r => rw [HM.out M r hr]; exact ⟨r, rfl⟩)
    go_wp2
    go_ret2
    exact ⟨A1, n1, cap1, L, by rw [d1.out]; rfl, B1.out, HK.out, HTg.out, fun _ => hq.out, fun h => (by exfalso; omega)⟩

end Go.Proofs.YthniemoganoapaaDoor
