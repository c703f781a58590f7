/- The library's iterator over a row of texts from its end on (slices.Backward): each round is handed a place and the text there. -/
import Derived.RangeFuncBox
import Derived.RangeFuncLeaves
import Derived.RangeFuncWrites
import Derived.Shelf.Abstract
import Derived.WalkKit
import Derived.OwnWalkIn
import Derived.TacticsInMore
import Derived.LoopNIn
import Derived.LoopIn
import Derived.Test.YtgdhfmcipaoapaaDoorChecked
import Derived.Lib.Hide
set_option maxRecDepth 100000
set_option linter.unusedVariables false
set_option linter.unusedSimpArgs false
namespace Go.Proofs.YtgdhfmcipaoapaaDoor
open Go.RowKit Go.Shelf

attribute [local go_sem] Oper.semAt_some

/-- what has come when k rounds are over -/
def upto {α : Type} (f : Nat → α) (k : Nat) : List α := (List.range k).map f
theorem upto_succ {α : Type} (f : Nat → α) (k : Nat) : upto f (k + 1) = upto f k ++ [f k] := by simp [upto, List.range_succ]
theorem upto_length {α : Type} (f : Nat → α) (k : Nat) : (upto f k).length = k := by simp [upto]

/-- two blocks lie as they lay -/
def Kq (x y : Nat) (W W' : World) : Prop := W'.heap[x]? = W.heap[x]? ∧ W'.heap[y]? = W.heap[y]?
theorem Kq.refl (x y : Nat) (W : World) : Kq x y W W := ⟨rfl, rfl⟩
theorem Kq.trans {x y : Nat} {A B C : World} (h : Kq x y A B) (k : Kq x y B C) : Kq x y A C := ⟨k.1.trans h.1, k.2.trans h.2⟩
theorem kq_put {x y n : Nat} (hx : x < n) (hy : y < n) : ∀ (W : World) (l : Nat) (o o' : Obj), n ≤ l → W.heap[l]? = some o → o.isCells = false → o.isWalk = false → Kq x y W (W.putObj l o') :=
  fun W l o o' hl _ _ _ => ⟨World.putObj_heap_other (by omega), World.putObj_heap_other (by omega)⟩
theorem Kq.cell1 {x y : Nat} {A B : World} (h : Kq x y A B) (i : Nat) : B.cell? ⟨x, i, none⟩ = A.cell? ⟨x, i, none⟩ := World.cell?_of_block (w := A) h.1
theorem Kq.cell2 {x y : Nat} {A B : World} (h : Kq x y A B) (i : Nat) : B.cell? ⟨y, i, none⟩ = A.cell? ⟨y, i, none⟩ := World.cell?_of_block (w := A) h.2

/-- the row has n texts, s i the i-th, in block b; or it is nil and there are none -/
def BRow (b : Nat) (W : World) (sv : Value) (n : Nat) (s : Nat → ByteArray) : Prop :=
  (sv = .slice none 0 0 ∧ n = 0) ∨ ∃ cap, sv = .slice (some ⟨b, 0, none⟩) n cap ∧ ∀ j, j < n → W.cell? ⟨b, j, none⟩ = some (.string (s j))
theorem BRow.below {b : Nat} {A B : World} (h : Below A.heap.size A B) (hb : b < A.heap.size) {sv : Value} {n : Nat} {s : Nat → ByteArray} : BRow b A sv n s → BRow b B sv n s
  | .inl e => .inl e
  | .inr ⟨cap, e, hc⟩ => .inr ⟨cap, e, fun j hj => (h.cell (p := ⟨b, j, none⟩) hb).trans (hc j hj)⟩

set_option maxHeartbeats 2000000 in
theorem backw_in (F : Fence) (n : Nat) (h7 : F.fn 22) (hro : F.round = none) (hn : 1 ≤ n) (l Bs b len cap : Nat) (s : Nat → ByteArray) (hreach : len ≤ 20000) (J Jx : List Nat → World → Prop)
    (hY : ∀ pre (x : Nat) W, J pre W → pre.length < len → YieldAt F (n - 1) Tryd.prog l #[.int .i64 ((min x (len - 1) : Nat) : Int), .string (s (min x (len - 1)))] W fun e W' =>
      (e = .returned (.bool true) ∧ J (pre ++ [x]) W' ∧ Kq Bs b W W') ∨ (e = .returned (.bool false) ∧ Jx (pre ++ [x]) W'))
    (W : World) (hBs : W.cell? ⟨Bs, 0, none⟩ = some (.slice (some ⟨b, 0, none⟩) len cap)) (hc : ∀ j, j < len → W.cell? ⟨b, j, none⟩ = some (.string (s j))) (h0 : J [] W) :
    CallsIn F n Tryd.prog 22 #[.func (.yield l) #[] #[], .pointer (some ⟨Bs, 0, none⟩)] W fun e W' => (∃ v, e = .returned v) ∧
      ((∃ ys, ys = upto (fun j => len - 1 - j) len ∧ J ys W') ∨ (∃ pre, (∃ k, k ≤ len ∧ pre = upto (fun j => len - 1 - j) k) ∧ Jx pre W')) := by
  refine callsIn_of_wp Tryd.func22 rfl h7 ?_ hro
  simp only [Tryd.ntmps22, List.size_toArray, List.length_cons, List.length_nil, Nat.reduceAdd, Nat.reduceSub, Array.replicate_succ, Array.replicate_zero, List.push_toArray, List.append_toArray, List.nil_append, List.cons_append]
  gi_wp2
  gi_loopw [3] (fun i wr => ∃ k : Nat, k ≤ len ∧ i = .int .i64 ((len : Int) - 1 - (k : Int)) ∧ J (upto (fun j => len - 1 - j) k) wr ∧ Kq Bs b W wr)
    (fun i _ => (intOf i + 1).toNat)
  case atStart => exact ⟨0, Nat.zero_le _, by simp, h0, Kq.refl _ _ _⟩
  case round =>
    obtain ⟨k, hk, rfl, hJs, hnx⟩ := hrel
    have hbs := (hnx.cell1 0).trans hBs
    by_cases hlt : k < len
    · have hcx' := (hnx.cell2 (len - 1 - k)).trans (hc (len - 1 - k) (by omega))
      have hY' := hY _ (len - 1 - k) wr hJs (by rw [upto_length]; exact hlt)
      rw [show min (len - 1 - k) (len - 1) = len - 1 - k by omega] at hY'
      obtain ⟨fn, tmps, assign, body, hy, hR⟩ := hY'
      have HU := Lib.hid (upto_succ (fun j => len - 1 - j) k)
      obtain ⟨m, hm⟩ : ∃ m : Nat, len - 1 - k = m := ⟨_, rfl⟩
      have hmi : (len : Int) - 1 - (k : Int) = (m : Int) := by omega
      have hml : m < len := by omega
      have HM := Lib.hid (show m + 1 + k = len by omega)
      rw [hm] at hcx' hy hR HU
      rw [hmi]
      clear hm hmi hlt
      gi_wp2
      refine hR.mono ?_
      rintro e W3 (⟨rfl, hJ3, hk3⟩ | ⟨rfl, hJx3⟩)
      · gi_wp2
        go_roundw
        case rel => exact ⟨k + 1, by have := HM.out; omega, by have := HM.out; rw [show (len : Int) - 1 - ((k + 1 : Nat) : Int) = (m : Int) - 1 by omega], by rw [HU.out]; exact hJ3, hnx.trans hk3⟩
        case measure => simp [intOf]
      · gi_wp2
        refine bodyPost_ret (results_none rfl _ _ _) rfl ?_
        exact ⟨⟨_, rfl⟩, .inr ⟨_, ⟨k + 1, by have := HM.out; omega, HU.out.symm⟩, hJx3⟩⟩
    · obtain rfl : k = len := by omega
      rw [show (k : Int) - 1 - (k : Int) = -1 by omega]
      gi_wp2
      go_end0
      exact ⟨⟨_, rfl⟩, .inl ⟨_, rfl, hJs⟩⟩

set_option maxHeartbeats 1000000 in
theorem backw_nil_in (F : Fence) (n : Nat) (h7 : F.fn 22) (hro : F.round = none) (l Bs : Nat) (J : List Nat → World → Prop) (W : World) (hBs : W.cell? ⟨Bs, 0, none⟩ = some (.slice none 0 0)) (h0 : J [] W) :
    CallsIn F n Tryd.prog 22 #[.func (.yield l) #[] #[], .pointer (some ⟨Bs, 0, none⟩)] W fun e W' => (∃ v, e = .returned v) ∧ J [] W' := by
  refine callsIn_of_wp Tryd.func22 rfl h7 ?_ hro
  simp only [Tryd.ntmps22, List.size_toArray, List.length_cons, List.length_nil, Nat.reduceAdd, Nat.reduceSub, Array.replicate_succ, Array.replicate_zero, List.push_toArray, List.append_toArray, List.nil_append, List.cons_append]
  gi_wp2
  gi_loopw [3] (fun i wr => i = .int .i64 (-1) ∧ J [] wr) (fun _ _ => 0)
  case atStart => exact ⟨rfl, h0⟩
  case round =>
    obtain ⟨rfl, hJs⟩ := hrel
    gi_wp2
    go_end0
    exact ⟨⟨_, rfl⟩, hJs⟩

set_option maxHeartbeats 1000000 in
/-- slices.Backward: the row is boxed; the function value captures the box -/
theorem backward_in (F : Fence) (n : Nat) (h5 : F.fn 17) (hro : F.round = none) (a : Option Addr) (len cap : Nat) (w : World) :
    CallsIn F n Tryd.prog 17 #[.slice a len cap] w fun e w' => e = .returned (.func (.func 22) #[] #[.pointer (some ⟨w.heap.size, 0, none⟩)]) ∧ w' = w.alloc (.cells #[.slice a len cap] 22) := by
  refine callsIn_of_wp Tryd.func17 rfl h5 ?_ hro
  simp only [Tryd.ntmps17, List.size_toArray, List.length_cons, List.length_nil, Nat.reduceAdd, Nat.reduceSub, Array.replicate_succ, Array.replicate_zero, List.push_toArray, List.append_toArray, List.nil_append, List.cons_append]
  gi_wp2
  go_ret
  exact ⟨rfl, rfl⟩

/-- ████ slices.Backward hands back a value that gives the row's places and texts, from its end on -/
theorem backward_stops (F : Fence) (n : Nat) (h8 : F.fn 22) (hro : F.round = none) (hn : 1 ≤ n) (Bs b : Nat) (sv : Value) (len : Nat) (s : Nat → ByteArray) (hreach : len ≤ 20000) (w : World) (hBs : Bs < w.heap.size) (hb : b < w.heap.size)
    (hc : w.cell? ⟨Bs, 0, none⟩ = some sv) (hI : BRow b w sv len s) :
    SeqStopsK F n Tryd.prog 22 #[.pointer (some ⟨Bs, 0, none⟩)] (fun x : Nat => #[Value.int .i64 ((min x (len - 1) : Nat) : Int), Value.string (s (min x (len - 1)))]) (Kq Bs b) (fun ys => ys = upto (fun j => len - 1 - j) len)
      (fun pre => ∃ k, k ≤ len ∧ pre = upto (fun j => len - 1 - j) k) len w := fun l J Jx W hW _ _ hY h0 => by
  have hc' := (hW.cell (p := ⟨Bs, 0, none⟩) hBs).trans hc
  rcases hI.below hW hb with ⟨rfl, rfl⟩ | ⟨cap, rfl, hcs⟩
  · exact (backw_nil_in F n h8 hro l Bs J W hc' h0).mono fun e W' ⟨he, hj⟩ => ⟨he, .inl ⟨_, rfl, hj⟩⟩
  · exact backw_in F n h8 hro hn l Bs b len cap s hreach J Jx hY W hc' hcs h0

end Go.Proofs.YtgdhfmcipaoapaaDoor
