/- The walk of package utf's Encode. -/
import Derived.Test.YtobaclonacpoeaaDoorUtfC
import Derived.Test.YtobaclonacpoeaaDoorUtfPlainC
import Derived.Laws.BytesArg
namespace Go.Proofs.YtobaclonacpoeaaDoor
open Go.RowKit

theorem low6 (x : Int) (h0 : 0 ≤ x) (h1 : x < 2147483648) : bits .or .u8 128 (bits .and .i32 x 63 % 256) = 128 + x % 64 := by
  have e : bits .and .i32 x 63 = x % 64 := bits_mask .i32 31 (by decide) wraps_i32 6 (by decide) x h0 (by omega)
  rw [e, Int.emod_eq_of_lt (by omega : 0 ≤ x % 64) (by omega), u8_or128 _ (by omega) (by omega)]

theorem or0 (x : Int) (h0 : 0 ≤ x) (h1 : x < 256) : bits .or .u8 0 x = x := by
  obtain ⟨a, rfl⟩ := Int.eq_ofNat_of_zero_le h0
  have := (bits_nat .u8 8 (by decide) wraps_u8 0 a (by decide) (by omega)).2
  rw [show ((0 : Nat) : Int) = 0 from rfl] at this
  rw [this]; simp

theorem conv_row (w : World) (n : Nat) (hn : n ≤ 4) (x0 x1 x2 x3 : Int) :
    (convert 45 9 (.slice (some ⟨w.heap.size, 0, none⟩) n 4)).run Tryd.prog (w.alloc (.cells #[.int .u8 x0, .int .u8 x1, .int .u8 x2, .int .u8 x3] 44)) =
      .ok (.string (strOfNums ([x0, x1, x2, x3].take n))) (w.alloc (.cells #[.int .u8 x0, .int .u8 x1, .int .u8 x2, .int .u8 x3] 44)) := by
  refine run_convert_bytes_arg _ 45 5 Tryd.underlying45 Tryd.underlying5 _ 0 n 4 _ (by simp; omega) (fun i hi => ?_) 9 Tryd.underlying9
  rcases (by omega : i = 0 ∨ i = 1 ∨ i = 2 ∨ i = 3) with rfl | rfl | rfl | rfl <;> simp [hi]

theorem str_eq {xs : List Int} {l : List UInt8} (h : xs.map (fun n => UInt8.ofNat n.toNat) = l) : strOfNums xs = ⟨l.toArray⟩ := by
  rw [← h]; rfl

set_option maxHeartbeats 1000000 in
theorem encode_one (r : Int) (w : World) (hE : EndsIn w) (hM : MarksIn w) (h0 : 0 ≤ r) (h1 : r < 128) (hsc : Utf.isScalar r = true) :
    Calls Tryd.prog 11 #[.int .i32 r] w fun e w' =>
      e = .returned (.tuple #[.string ⟨(Utf.bytesN r.toNat).toArray⟩, .bool true]) ∧ Below w.heap.size w w' := by
  have hs : strOfNums [bits BinOp.or IntKind.u8 0 r] = ⟨(Utf.bytesN r.toNat).toArray⟩ := by
    refine str_eq ?_
    rw [or0 _ (by omega) (by omega)]
    unfold Utf.bytesN
    rw [if_pos (by omega)]
    rfl
  have Hs := Lib.hid hs
  clear hs
  have sc := scalar_calls r w hE
  rw [hsc] at sc
  have Sc := Lib.hid sc
  obtain ⟨t, fr, h⟩ := hE
  have e0 : w.cell? ⟨0, 0, none⟩ = some (.int .i32 128) := cell_in h 0 rfl
  have e1 : w.cell? ⟨0, 1, none⟩ = some (.int .i32 2048) := cell_in h 1 rfl
  have e2 : w.cell? ⟨0, 2, none⟩ = some (.int .i32 65536) := cell_in h 2 rfl
  have e3 : w.cell? ⟨0, 3, none⟩ = some (.int .i32 1114112) := cell_in h 3 rfl
  have z0 : 0 < w.heap.size := (Array.getElem?_eq_some_iff.1 h).1
  clear h fr t sc hsc
  obtain ⟨t, fr, h⟩ := hM
  have c0 : w.cell? ⟨1, 0, none⟩ = some (.int .u8 0) := cell_in h 0 rfl
  have c1 : w.cell? ⟨1, 1, none⟩ = some (.int .u8 192) := cell_in h 1 rfl
  have c2 : w.cell? ⟨1, 2, none⟩ = some (.int .u8 224) := cell_in h 2 rfl
  have c3 : w.cell? ⟨1, 3, none⟩ = some (.int .u8 240) := cell_in h 3 rfl
  have z1 : 1 < w.heap.size := (Array.getElem?_eq_some_iff.1 h).1
  clear h fr t
  have cv := fun x0 x1 x2 x3 => conv_row w 1 (by omega) x0 x1 x2 x3
  go_enter Tryd.func11, Tryd.ntmps11
  go_wp2_with (go_at_call 20; refine Sc.out.mono ?_; rintro e w1 ⟨rfl, rfl⟩)
  refine wp_loop_rounds 5 ?_
  repeat (rw [rounds_succ]; go_wp2)
  refine wp_loop_rounds 5 ?_
  repeat (rw [rounds_succ]; go_wp2)
  go_ret2
  exact ⟨by rw [← Hs.out]; rfl, (Below.refl _ _).alloc (Nat.le_refl _) _⟩

set_option maxHeartbeats 1000000 in
theorem encode_two (r : Int) (w : World) (hE : EndsIn w) (hM : MarksIn w) (h0 : 128 ≤ r) (h1 : r < 2048) (hsc : Utf.isScalar r = true) :
    Calls Tryd.prog 11 #[.int .i32 r] w fun e w' =>
      e = .returned (.tuple #[.string ⟨(Utf.bytesN r.toNat).toArray⟩, .bool true]) ∧ Below w.heap.size w w' := by
  have hs : strOfNums [192 + r / 64, bits BinOp.or IntKind.u8 128 (bits BinOp.and IntKind.i32 r 63 % 256)] = ⟨(Utf.bytesN r.toNat).toArray⟩ := by
    refine str_eq ?_
    rw [low6 _ (by omega) (by omega)]
    unfold Utf.bytesN
    rw [if_neg (by omega), if_pos (by omega)]
    simp only [List.map_cons, List.map_nil]
    rw [show (192 + r / 64).toNat = 192 + r.toNat / 64 from by omega, show (128 + r % 64).toNat = 128 + r.toNat % 64 from by omega]
  have Hs := Lib.hid hs
  clear hs
  have sc := scalar_calls r w hE
  rw [hsc] at sc
  have Sc := Lib.hid sc
  obtain ⟨t, fr, h⟩ := hE
  have e0 : w.cell? ⟨0, 0, none⟩ = some (.int .i32 128) := cell_in h 0 rfl
  have e1 : w.cell? ⟨0, 1, none⟩ = some (.int .i32 2048) := cell_in h 1 rfl
  have e2 : w.cell? ⟨0, 2, none⟩ = some (.int .i32 65536) := cell_in h 2 rfl
  have e3 : w.cell? ⟨0, 3, none⟩ = some (.int .i32 1114112) := cell_in h 3 rfl
  have z0 : 0 < w.heap.size := (Array.getElem?_eq_some_iff.1 h).1
  clear h fr t sc hsc
  obtain ⟨t, fr, h⟩ := hM
  have c0 : w.cell? ⟨1, 0, none⟩ = some (.int .u8 0) := cell_in h 0 rfl
  have c1 : w.cell? ⟨1, 1, none⟩ = some (.int .u8 192) := cell_in h 1 rfl
  have c2 : w.cell? ⟨1, 2, none⟩ = some (.int .u8 224) := cell_in h 2 rfl
  have c3 : w.cell? ⟨1, 3, none⟩ = some (.int .u8 240) := cell_in h 3 rfl
  have z1 : 1 < w.heap.size := (Array.getElem?_eq_some_iff.1 h).1
  clear h fr t
  have cv := fun x0 x1 x2 x3 => conv_row w 2 (by omega) x0 x1 x2 x3
  have n0 : ¬ r < 128 := by omega
  go_enter Tryd.func11, Tryd.ntmps11
  go_wp2_with (go_at_call 20; refine Sc.out.mono ?_; rintro e w1 ⟨rfl, rfl⟩)
  refine wp_loop_rounds 5 ?_
  repeat (rw [rounds_succ]; go_wp2)
  refine wp_loop_rounds 5 ?_
  repeat (rw [rounds_succ]; go_wp2)
  go_ret2
  exact ⟨by rw [← Hs.out]; rfl, (Below.refl _ _).alloc (Nat.le_refl _) _⟩

set_option maxHeartbeats 1000000 in
theorem encode_three (r : Int) (w : World) (hE : EndsIn w) (hM : MarksIn w) (h0 : 2048 ≤ r) (h1 : r < 65536) (hsc : Utf.isScalar r = true) :
    Calls Tryd.prog 11 #[.int .i32 r] w fun e w' =>
      e = .returned (.tuple #[.string ⟨(Utf.bytesN r.toNat).toArray⟩, .bool true]) ∧ Below w.heap.size w w' := by
  have hs : strOfNums [224 + r / 64 / 64, bits BinOp.or IntKind.u8 128 (bits BinOp.and IntKind.i32 (r / 64) 63 % 256), bits BinOp.or IntKind.u8 128 (bits BinOp.and IntKind.i32 r 63 % 256)] = ⟨(Utf.bytesN r.toNat).toArray⟩ := by
    refine str_eq ?_
    rw [low6 _ (by omega) (by omega), low6 _ (by omega) (by omega)]
    unfold Utf.bytesN
    rw [if_neg (by omega), if_neg (by omega), if_pos (by omega)]
    simp only [List.map_cons, List.map_nil]
    rw [show (224 + r / 64 / 64).toNat = 224 + r.toNat / 4096 from by omega, show (128 + r / 64 % 64).toNat = 128 + r.toNat / 64 % 64 from by omega, show (128 + r % 64).toNat = 128 + r.toNat % 64 from by omega]
  have Hs := Lib.hid hs
  clear hs
  have sc := scalar_calls r w hE
  rw [hsc] at sc
  have Sc := Lib.hid sc
  obtain ⟨t, fr, h⟩ := hE
  have e0 : w.cell? ⟨0, 0, none⟩ = some (.int .i32 128) := cell_in h 0 rfl
  have e1 : w.cell? ⟨0, 1, none⟩ = some (.int .i32 2048) := cell_in h 1 rfl
  have e2 : w.cell? ⟨0, 2, none⟩ = some (.int .i32 65536) := cell_in h 2 rfl
  have e3 : w.cell? ⟨0, 3, none⟩ = some (.int .i32 1114112) := cell_in h 3 rfl
  have z0 : 0 < w.heap.size := (Array.getElem?_eq_some_iff.1 h).1
  clear h fr t sc hsc
  obtain ⟨t, fr, h⟩ := hM
  have c0 : w.cell? ⟨1, 0, none⟩ = some (.int .u8 0) := cell_in h 0 rfl
  have c1 : w.cell? ⟨1, 1, none⟩ = some (.int .u8 192) := cell_in h 1 rfl
  have c2 : w.cell? ⟨1, 2, none⟩ = some (.int .u8 224) := cell_in h 2 rfl
  have c3 : w.cell? ⟨1, 3, none⟩ = some (.int .u8 240) := cell_in h 3 rfl
  have z1 : 1 < w.heap.size := (Array.getElem?_eq_some_iff.1 h).1
  clear h fr t
  have cv := fun x0 x1 x2 x3 => conv_row w 3 (by omega) x0 x1 x2 x3
  have n0 : ¬ r < 128 := by omega
  have n1 : ¬ r < 2048 := by omega
  go_enter Tryd.func11, Tryd.ntmps11
  go_wp2_with (go_at_call 20; refine Sc.out.mono ?_; rintro e w1 ⟨rfl, rfl⟩)
  refine wp_loop_rounds 5 ?_
  repeat (rw [rounds_succ]; go_wp2)
  refine wp_loop_rounds 5 ?_
  repeat (rw [rounds_succ]; go_wp2)
  go_ret2
  exact ⟨by rw [← Hs.out]; rfl, (Below.refl _ _).alloc (Nat.le_refl _) _⟩

set_option maxHeartbeats 1000000 in
theorem encode_four (r : Int) (w : World) (hE : EndsIn w) (hM : MarksIn w) (h0 : 65536 ≤ r) (h1 : r < 1114112) (hsc : Utf.isScalar r = true) :
    Calls Tryd.prog 11 #[.int .i32 r] w fun e w' =>
      e = .returned (.tuple #[.string ⟨(Utf.bytesN r.toNat).toArray⟩, .bool true]) ∧ Below w.heap.size w w' := by
  have hs : strOfNums [240 + r / 64 / 64 / 64, bits BinOp.or IntKind.u8 128 (bits BinOp.and IntKind.i32 (r / 64 / 64) 63 % 256), bits BinOp.or IntKind.u8 128 (bits BinOp.and IntKind.i32 (r / 64) 63 % 256), bits BinOp.or IntKind.u8 128 (bits BinOp.and IntKind.i32 r 63 % 256)] = ⟨(Utf.bytesN r.toNat).toArray⟩ := by
    refine str_eq ?_
    rw [low6 _ (by omega) (by omega), low6 _ (by omega) (by omega), low6 _ (by omega) (by omega)]
    unfold Utf.bytesN
    rw [if_neg (by omega), if_neg (by omega), if_neg (by omega)]
    simp only [List.map_cons, List.map_nil]
    rw [show (240 + r / 64 / 64 / 64).toNat = 240 + r.toNat / 262144 from by omega, show (128 + r / 64 / 64 % 64).toNat = 128 + r.toNat / 4096 % 64 from by omega, show (128 + r / 64 % 64).toNat = 128 + r.toNat / 64 % 64 from by omega, show (128 + r % 64).toNat = 128 + r.toNat % 64 from by omega]
  have Hs := Lib.hid hs
  clear hs
  have sc := scalar_calls r w hE
  rw [hsc] at sc
  have Sc := Lib.hid sc
  obtain ⟨t, fr, h⟩ := hE
  have e0 : w.cell? ⟨0, 0, none⟩ = some (.int .i32 128) := cell_in h 0 rfl
  have e1 : w.cell? ⟨0, 1, none⟩ = some (.int .i32 2048) := cell_in h 1 rfl
  have e2 : w.cell? ⟨0, 2, none⟩ = some (.int .i32 65536) := cell_in h 2 rfl
  have e3 : w.cell? ⟨0, 3, none⟩ = some (.int .i32 1114112) := cell_in h 3 rfl
  have z0 : 0 < w.heap.size := (Array.getElem?_eq_some_iff.1 h).1
  clear h fr t sc hsc
  obtain ⟨t, fr, h⟩ := hM
  have c0 : w.cell? ⟨1, 0, none⟩ = some (.int .u8 0) := cell_in h 0 rfl
  have c1 : w.cell? ⟨1, 1, none⟩ = some (.int .u8 192) := cell_in h 1 rfl
  have c2 : w.cell? ⟨1, 2, none⟩ = some (.int .u8 224) := cell_in h 2 rfl
  have c3 : w.cell? ⟨1, 3, none⟩ = some (.int .u8 240) := cell_in h 3 rfl
  have z1 : 1 < w.heap.size := (Array.getElem?_eq_some_iff.1 h).1
  clear h fr t
  have cv := fun x0 x1 x2 x3 => conv_row w 4 (by omega) x0 x1 x2 x3
  have n0 : ¬ r < 128 := by omega
  have n1 : ¬ r < 2048 := by omega
  have n2 : ¬ r < 65536 := by omega
  go_enter Tryd.func11, Tryd.ntmps11
  go_wp2_with (go_at_call 20; refine Sc.out.mono ?_; rintro e w1 ⟨rfl, rfl⟩)
  refine wp_loop_rounds 5 ?_
  repeat (rw [rounds_succ]; go_wp2)
  refine wp_loop_rounds 5 ?_
  repeat (rw [rounds_succ]; go_wp2)
  go_ret2
  exact ⟨by rw [← Hs.out]; rfl, (Below.refl _ _).alloc (Nat.le_refl _) _⟩

theorem encode_calls (r : Int) (w : World) (hE : EndsIn w) (hM : MarksIn w) :
    Calls Tryd.prog 11 #[.int .i32 r] w fun e w' =>
      e = .returned (.tuple #[.string ⟨(Utf.bytes r).toArray⟩, .bool (Utf.isScalar r)]) ∧ Below w.heap.size w w' := by
  cases hsc : Utf.isScalar r
  · have sc := scalar_calls r w hE
    rw [hsc] at sc
    have Sc := Lib.hid sc
    have hb : Utf.bytes r = [] := by simp [Utf.bytes, hsc]
    rw [hb]
    clear sc hsc hb
    go_enter Tryd.func11, Tryd.ntmps11
    go_wp2_with (go_at_call 20; refine Sc.out.mono ?_; rintro e w1 ⟨rfl, rfl⟩)
    go_ret2
    exact ⟨rfl, Below.refl _ _⟩
  · have hb : Utf.bytes r = Utf.bytesN r.toNat := by simp [Utf.bytes, hsc]
    rw [hb]
    have hr : 0 ≤ r ∧ r < 1114112 := by
      simp only [Utf.isScalar, Bool.or_eq_true, Bool.and_eq_true, decide_eq_true_eq] at hsc
      omega
    by_cases h1 : r < 128
    · exact encode_one r w hE hM hr.1 h1 hsc
    · by_cases h2 : r < 2048
      · exact encode_two r w hE hM (by omega) h2 hsc
      · by_cases h3 : r < 65536
        · exact encode_three r w hE hM (by omega) h3 hsc
        · exact encode_four r w hE hM (by omega) hr.2 hsc

end Go.Proofs.YtobaclonacpoeaaDoor
