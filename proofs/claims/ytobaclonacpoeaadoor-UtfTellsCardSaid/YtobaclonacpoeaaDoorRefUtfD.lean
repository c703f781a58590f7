/- The reference's function on UTF-8: Bytes. -/
import Derived.Test.YtobaclonacpoeaaDoorRefUtfA
import Derived.Test.YtobaclonacpoeaaDoorUtfPlainC
import Derived.Laws.BytesArg
namespace Go.Proofs.YtobaclonacpoeaaDoor
open Go.RowKit

theorem conv_lit (w : World) (t : TypeId) (xs : List Int) (n : Nat) (hn : xs.length = n) :
    (convert 45 9 (.slice (some ⟨w.heap.size, 0, none⟩) n n)).run Tryd.prog (w.alloc (.cells (xs.map (Value.int .u8)).toArray t)) =
      .ok (.string (strOfNums xs)) (w.alloc (.cells (xs.map (Value.int .u8)).toArray t)) := by
  refine run_convert_bytes_arg _ 45 5 Tryd.underlying45 Tryd.underlying5 _ 0 n n xs hn (fun i hi => ?_) 9 Tryd.underlying9
  rw [cell_of_row (w.alloc (.cells (xs.map (Value.int .u8)).toArray t)) w.heap.size (0 + i) _ t (0, 0) (heap_alloc_new w _)]
  simp [List.getD, List.getElem?_eq_getElem (show i < xs.length by omega)]

theorem low6i (x : Int) (h0 : 0 ≤ x) (h1 : x < 2147483648) : bits .or .i32 128 (bits .and .i32 x 63) % 256 = 128 + x % 64 := by
  have e : bits .and .i32 x 63 = x % 64 := bits_mask .i32 31 (by decide) wraps_i32 6 (by decide) x h0 (by omega)
  rw [e, bits_join .i32 31 (by decide) wraps_i32 6 _ _ (by omega) (by omega) (by omega) (by omega) (by omega) (by omega)]
  omega
theorem top3 (x : Int) (h0 : 0 ≤ x) (h1 : x < 16) : bits .or .i32 224 x % 256 = 224 + x := by
  rw [bits_join .i32 31 (by decide) wraps_i32 4 _ _ (by omega) (by omega) (by omega) (by omega) (by omega) (by omega)]; omega
theorem top4 (x : Int) (h0 : 0 ≤ x) (h1 : x < 8) : bits .or .i32 240 x % 256 = 240 + x := by
  rw [bits_join .i32 31 (by decide) wraps_i32 3 _ _ (by omega) (by omega) (by omega) (by omega) (by omega) (by omega)]; omega
theorem str_of {xs : List Int} {l : List UInt8} (h : xs.map (fun n => UInt8.ofNat n.toNat) = l) : strOfNums xs = ⟨l.toArray⟩ := by
  rw [← h]; rfl

set_option maxHeartbeats 1000000 in
theorem bytes_ref_one (r : Int) (w : World) (h0 : 0 ≤ r) (h1 : r < 128) (hsc : r < 55296 ∨ 57343 < r) :
    Calls Tryd.prog 12 #[.int .i32 r] w fun e w' => e = .returned (.string ⟨(Utf.bytesN r.toNat).toArray⟩) ∧ Below w.heap.size w w' := by
  have hs : strOfNums [r] = ⟨(Utf.bytesN r.toNat).toArray⟩ := by
    refine str_of ?_
    unfold Utf.bytesN
    rw [if_pos (by omega)]
    rfl
  have Hs := Lib.hid hs
  have c1 : ∀ x0 : Int, (convert 45 9 (.slice (some ⟨w.heap.size, 0, none⟩) 1 1)).run Tryd.prog (w.alloc (.cells #[.int .u8 x0] 5)) = .ok (.string (strOfNums [x0])) (w.alloc (.cells #[.int .u8 x0] 5)) := fun x0 => conv_lit w 5 [x0] 1 rfl
  have d0 : decide (r < 0) = false := by simp; omega
  have d1 : decide (1114111 < r) = false := by simp; omega
  have d2 : decide (55296 ≤ r) = false := by simp; omega
  clear hs hsc
  go_enter Tryd.func12, Tryd.ntmps12
  go_wp2
  go_ret
  exact ⟨by rw [← Hs.out]; rfl, (Below.refl _ _).alloc (Nat.le_refl _) _⟩

set_option maxHeartbeats 1000000 in
theorem bytes_ref_two (r : Int) (w : World) (h0 : 128 ≤ r) (h1 : r < 2048) (hsc : r < 55296 ∨ 57343 < r) :
    Calls Tryd.prog 12 #[.int .i32 r] w fun e w' => e = .returned (.string ⟨(Utf.bytesN r.toNat).toArray⟩) ∧ Below w.heap.size w w' := by
  have hs : strOfNums [192 + r / 64, bits BinOp.or IntKind.i32 128 (bits BinOp.and IntKind.i32 r 63) % 256] = ⟨(Utf.bytesN r.toNat).toArray⟩ := by
    refine str_of ?_
    rw [low6i _ (by omega) (by omega)]
    unfold Utf.bytesN
    rw [if_neg (by omega), if_pos (by omega)]
    simp only [List.map_cons, List.map_nil]
    rw [show (192 + r / 64).toNat = 192 + r.toNat / 64 from by omega, show (128 + r % 64).toNat = 128 + r.toNat % 64 from by omega]
  have Hs := Lib.hid hs
  have c1 : ∀ x0 x1 : Int, (convert 45 9 (.slice (some ⟨w.heap.size, 0, none⟩) 2 2)).run Tryd.prog (w.alloc (.cells #[.int .u8 x0, .int .u8 x1] 5)) = .ok (.string (strOfNums [x0, x1])) (w.alloc (.cells #[.int .u8 x0, .int .u8 x1] 5)) := fun x0 x1 => conv_lit w 5 [x0, x1] 2 rfl
  have d0 : decide (r < 0) = false := by simp; omega
  have d1 : decide (1114111 < r) = false := by simp; omega
  have n128 : ¬ r < 128 := by omega
  have d2 : decide (55296 ≤ r) = false := by simp; omega
  clear hs hsc
  go_enter Tryd.func12, Tryd.ntmps12
  go_wp2
  go_ret
  exact ⟨by rw [← Hs.out]; rfl, (Below.refl _ _).alloc (Nat.le_refl _) _⟩

set_option maxHeartbeats 1000000 in
theorem bytes_ref_three (r : Int) (w : World) (h0 : 2048 ≤ r) (h1 : r < 65536) (hsc : r < 55296 ∨ 57343 < r) :
    Calls Tryd.prog 12 #[.int .i32 r] w fun e w' => e = .returned (.string ⟨(Utf.bytesN r.toNat).toArray⟩) ∧ Below w.heap.size w w' := by
  have hs : strOfNums [bits BinOp.or IntKind.i32 224 (r / 4096) % 256, bits BinOp.or IntKind.i32 128 (bits BinOp.and IntKind.i32 (r / 64) 63) % 256, bits BinOp.or IntKind.i32 128 (bits BinOp.and IntKind.i32 r 63) % 256] = ⟨(Utf.bytesN r.toNat).toArray⟩ := by
    refine str_of ?_
    rw [top3 _ (by omega) (by omega), low6i _ (by omega) (by omega), low6i _ (by omega) (by omega)]
    unfold Utf.bytesN
    rw [if_neg (by omega), if_neg (by omega), if_pos (by omega)]
    simp only [List.map_cons, List.map_nil]
    rw [show (224 + r / 4096).toNat = 224 + r.toNat / 4096 from by omega, show (128 + r / 64 % 64).toNat = 128 + r.toNat / 64 % 64 from by omega, show (128 + r % 64).toNat = 128 + r.toNat % 64 from by omega]
  have Hs := Lib.hid hs
  have c1 : ∀ x0 x1 x2 : Int, (convert 45 9 (.slice (some ⟨w.heap.size, 0, none⟩) 3 3)).run Tryd.prog (w.alloc (.cells #[.int .u8 x0, .int .u8 x1, .int .u8 x2] 5)) = .ok (.string (strOfNums [x0, x1, x2])) (w.alloc (.cells #[.int .u8 x0, .int .u8 x1, .int .u8 x2] 5)) := fun x0 x1 x2 => conv_lit w 5 [x0, x1, x2] 3 rfl
  have d0 : decide (r < 0) = false := by simp; omega
  have d1 : decide (1114111 < r) = false := by simp; omega
  have n128 : ¬ r < 128 := by omega
  have n2048 : ¬ r < 2048 := by omega
  have hsc' : (decide (55296 ≤ r) = true ∧ decide (r ≤ 57343) = false) ∨ (decide (55296 ≤ r) = false ∧ r < 55296) := by
    by_cases h : r < 55296
    · exact Or.inr ⟨by simp; omega, h⟩
    · exact Or.inl ⟨by simp; omega, by simp; omega⟩
  clear hs hsc
  rcases hsc' with ⟨d2, d3⟩ | ⟨d2, d3⟩
  all_goals
    go_enter Tryd.func12, Tryd.ntmps12
    go_wp2
    go_ret
    exact ⟨by rw [← Hs.out]; rfl, (Below.refl _ _).alloc (Nat.le_refl _) _⟩

set_option maxHeartbeats 1000000 in
theorem bytes_ref_four (r : Int) (w : World) (h0 : 65536 ≤ r) (h1 : r < 1114112) (hsc : r < 55296 ∨ 57343 < r) :
    Calls Tryd.prog 12 #[.int .i32 r] w fun e w' => e = .returned (.string ⟨(Utf.bytesN r.toNat).toArray⟩) ∧ Below w.heap.size w w' := by
  have hs : strOfNums [bits BinOp.or IntKind.i32 240 (r / 262144) % 256, bits BinOp.or IntKind.i32 128 (bits BinOp.and IntKind.i32 (r / 4096) 63) % 256, bits BinOp.or IntKind.i32 128 (bits BinOp.and IntKind.i32 (r / 64) 63) % 256, bits BinOp.or IntKind.i32 128 (bits BinOp.and IntKind.i32 r 63) % 256] = ⟨(Utf.bytesN r.toNat).toArray⟩ := by
    refine str_of ?_
    rw [top4 _ (by omega) (by omega), low6i _ (by omega) (by omega), low6i _ (by omega) (by omega), low6i _ (by omega) (by omega)]
    unfold Utf.bytesN
    rw [if_neg (by omega), if_neg (by omega), if_neg (by omega)]
    simp only [List.map_cons, List.map_nil]
    rw [show (240 + r / 262144).toNat = 240 + r.toNat / 262144 from by omega, show (128 + r / 4096 % 64).toNat = 128 + r.toNat / 4096 % 64 from by omega, show (128 + r / 64 % 64).toNat = 128 + r.toNat / 64 % 64 from by omega, show (128 + r % 64).toNat = 128 + r.toNat % 64 from by omega]
  have Hs := Lib.hid hs
  have c1 : ∀ x0 x1 x2 x3 : Int, (convert 45 9 (.slice (some ⟨w.heap.size, 0, none⟩) 4 4)).run Tryd.prog (w.alloc (.cells #[.int .u8 x0, .int .u8 x1, .int .u8 x2, .int .u8 x3] 5)) = .ok (.string (strOfNums [x0, x1, x2, x3])) (w.alloc (.cells #[.int .u8 x0, .int .u8 x1, .int .u8 x2, .int .u8 x3] 5)) := fun x0 x1 x2 x3 => conv_lit w 5 [x0, x1, x2, x3] 4 rfl
  have d0 : decide (r < 0) = false := by simp; omega
  have d1 : decide (1114111 < r) = false := by simp; omega
  have n128 : ¬ r < 128 := by omega
  have n2048 : ¬ r < 2048 := by omega
  have n65536 : ¬ r < 65536 := by omega
  have d2 : decide (55296 ≤ r) = true := by simp; omega
  have d3 : decide (r ≤ 57343) = false := by simp; omega
  clear hs hsc
  go_enter Tryd.func12, Tryd.ntmps12
  go_wp2
  go_ret
  exact ⟨by rw [← Hs.out]; rfl, (Below.refl _ _).alloc (Nat.le_refl _) _⟩

set_option maxHeartbeats 1000000 in
theorem bytes_ref (r : Int) (w : World) :
    Calls Tryd.prog 12 #[.int .i32 r] w fun e w' => e = .returned (.string ⟨(Utf.bytes r).toArray⟩) ∧ Below w.heap.size w w' := by
  cases hsc : Utf.isScalar r
  · have hb : Utf.bytes r = [] := by simp [Utf.bytes, hsc]
    rw [hb]
    have hr : r < 0 ∨ (0 ≤ r ∧ 1114111 < r) ∨ (0 ≤ r ∧ r ≤ 1114111 ∧ decide (55296 ≤ r) = true ∧ decide (r ≤ 57343) = true) := by
      have : ¬ ((0 ≤ r ∧ r < 55296) ∨ (57343 < r ∧ r < 1114112)) := by
        intro h
        have : Utf.isScalar r = true := by simp only [Utf.isScalar, Bool.or_eq_true, Bool.and_eq_true, decide_eq_true_eq]; exact h
        rw [this] at hsc; cases hsc
      by_cases h0 : r < 0
      · exact Or.inl h0
      · by_cases h1 : 1114111 < r
        · exact Or.inr (Or.inl ⟨by omega, h1⟩)
        · exact Or.inr (Or.inr ⟨by omega, by omega, by simp; omega, by simp; omega⟩)
    clear hb hsc
    rcases hr with h | ⟨h, h1⟩ | ⟨h, h1, h2, h3⟩
    all_goals
      go_enter Tryd.func12, Tryd.ntmps12
      go_wp2
      go_ret
      exact ⟨rfl, Below.refl _ _⟩
  · have hb : Utf.bytes r = Utf.bytesN r.toNat := by simp [Utf.bytes, hsc]
    rw [hb]
    have hr : (0 ≤ r ∧ r < 55296) ∨ (57343 < r ∧ r < 1114112) := by
      simpa only [Utf.isScalar, Bool.or_eq_true, Bool.and_eq_true, decide_eq_true_eq] using hsc
    by_cases h1 : r < 128
    · exact bytes_ref_one r w (by omega) h1 (by omega)
    · by_cases h2 : r < 2048
      · exact bytes_ref_two r w (by omega) h2 (by omega)
      · by_cases h3 : r < 65536
        · exact bytes_ref_three r w (by omega) h3 (by omega)
        · exact bytes_ref_four r w (by omega) (by omega) (by omega)

end Go.Proofs.YtobaclonacpoeaaDoor
