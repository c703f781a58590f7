/- Package utf's functions over a world that holds its tables; the law's own look ('known') is passed. -/
import Derived.Test.YtobaclonacpoeaaDoorUtfD
import Derived.Test.YtobaclonacpoeaaDoorUtfE
namespace Go.Proofs.YtobaclonacpoeaaDoor
open Go.RowKit

/-- the package's tables, as its text lays them -/
structure Tabs (w : World) : Prop where
  shapes : ShapesIn w
  marks : MarksIn w
  ends : EndsIn w
theorem MarksIn.room {w : World} (h : MarksIn w) : 1 < w.heap.size := by
  obtain ⟨t, fr, h⟩ := h
  exact (Array.getElem?_eq_some_iff.1 h).1
theorem EndsIn.room {w : World} (h : EndsIn w) : 0 < w.heap.size := by
  obtain ⟨t, fr, h⟩ := h
  exact (Array.getElem?_eq_some_iff.1 h).1
theorem Tabs.below {w w' : World} (h : Tabs w) (hb : Below w.heap.size w w') : Tabs w' := ⟨h.shapes.below hb h.shapes.room, h.marks.below hb h.marks.room, h.ends.below hb h.ends.room⟩

theorem next_tabs (s : ByteArray) (i : Int) (w : World) (hs : s.size ≤ maxLen) (hT : Tabs w) :
    Calls Tryd.prog 9 #[.string s, .int .i64 i] w fun e w' =>
      e = .returned (.tuple #[.int .i32 (Utf.next s.data.toList i).1, .int .i64 (Utf.next s.data.toList i).2.1, .bool (Utf.next s.data.toList i).2.2]) ∧ Below w.heap.size w w' ∧ Tabs w' :=
  (next_calls s i w hs hT.shapes hT.marks).mono fun _ _ ⟨h, hb⟩ => ⟨h, hb, hT.below hb⟩
theorem encode_tabs (r : Int) (w : World) (hT : Tabs w) :
    Calls Tryd.prog 11 #[.int .i32 r] w fun e w' => e = .returned (.tuple #[.string ⟨(Utf.bytes r).toArray⟩, .bool (Utf.isScalar r)]) ∧ Below w.heap.size w w' ∧ Tabs w' :=
  (encode_calls r w hT.ends hT.marks).mono fun _ _ ⟨h, hb⟩ => ⟨h, hb, hT.below hb⟩
theorem bad_tabs (s : ByteArray) (w : World) (hs : s.size ≤ maxLen) (hT : Tabs w) :
    Calls Tryd.prog 13 #[.string s] w fun e w' => e = .returned (.int .i64 (Utf.bad s.data.toList)) ∧ Below w.heap.size w w' ∧ Tabs w' :=
  (bad_calls s w hs hT.shapes).mono fun _ _ ⟨h, hb⟩ => ⟨h, hb, hT.below hb⟩
theorem count_tabs (s : ByteArray) (w : World) (hs : s.size ≤ maxLen) (hT : Tabs w) :
    Calls Tryd.prog 15 #[.string s] w fun e w' => e = .returned (.int .i64 (Utf.count s.data.toList)) ∧ Below w.heap.size w w' ∧ Tabs w' :=
  (count_calls s w hs hT.shapes).mono fun _ _ ⟨h, hb⟩ => ⟨h, hb, hT.below hb⟩

/-- the calls of 'known', one by one -/
theorem k_next1 (w : World) (hT : Tabs w) : Calls Tryd.prog 9 #[.string ⟨#[97, 226, 130, 172]⟩, .int .i64 1] w fun e w' => e = .returned (.tuple #[.int .i32 8364, .int .i64 3, .bool true]) ∧ Below w.heap.size w w' ∧ Tabs w' :=
  (next_tabs ⟨#[97, 226, 130, 172]⟩ 1 w (by decide) hT).mono fun _ _ ⟨h, hb⟩ => ⟨by rw [h]; rfl, hb⟩
theorem k_next2 (w : World) (hT : Tabs w) : Calls Tryd.prog 9 #[.string ⟨#[237, 160, 128]⟩, .int .i64 0] w fun e w' => e = .returned (.tuple #[.int .i32 0, .int .i64 0, .bool false]) ∧ Below w.heap.size w w' ∧ Tabs w' :=
  (next_tabs ⟨#[237, 160, 128]⟩ 0 w (by decide) hT).mono fun _ _ ⟨h, hb⟩ => ⟨by rw [h]; rfl, hb⟩
theorem k_enc1 (w : World) (hT : Tabs w) : Calls Tryd.prog 11 #[.int .i32 128512] w fun e w' => e = .returned (.tuple #[.string ⟨#[240, 159, 152, 128]⟩, .bool true]) ∧ Below w.heap.size w w' ∧ Tabs w' :=
  (encode_tabs 128512 w hT).mono fun _ _ ⟨h, hb⟩ => ⟨by rw [h]; rfl, hb⟩
theorem k_enc2 (w : World) (hT : Tabs w) : Calls Tryd.prog 11 #[.int .i32 55296] w fun e w' => e = .returned (.tuple #[.string ⟨#[]⟩, .bool false]) ∧ Below w.heap.size w w' ∧ Tabs w' :=
  (encode_tabs 55296 w hT).mono fun _ _ ⟨h, hb⟩ => ⟨by rw [h]; rfl, hb⟩
theorem k_bad1 (w : World) (hT : Tabs w) : Calls Tryd.prog 13 #[.string ⟨#[226, 40]⟩] w fun e w' => e = .returned (.int .i64 1) ∧ Below w.heap.size w w' ∧ Tabs w' :=
  (bad_tabs ⟨#[226, 40]⟩ w (by decide) hT).mono fun _ _ ⟨h, hb⟩ => ⟨by rw [h]; rfl, hb⟩
theorem k_bad2 (w : World) (hT : Tabs w) : Calls Tryd.prog 13 #[.string ⟨#[226, 130]⟩] w fun e w' => e = .returned (.int .i64 2) ∧ Below w.heap.size w w' ∧ Tabs w' :=
  (bad_tabs ⟨#[226, 130]⟩ w (by decide) hT).mono fun _ _ ⟨h, hb⟩ => ⟨by rw [h]; rfl, hb⟩
theorem k_bad3 (w : World) (hT : Tabs w) : Calls Tryd.prog 13 #[.string ⟨#[97, 98]⟩] w fun e w' => e = .returned (.int .i64 (-1)) ∧ Below w.heap.size w w' ∧ Tabs w' :=
  (bad_tabs ⟨#[97, 98]⟩ w (by decide) hT).mono fun _ _ ⟨h, hb⟩ => ⟨by rw [h]; rfl, hb⟩
theorem k_cnt1 (w : World) (hT : Tabs w) : Calls Tryd.prog 15 #[.string ⟨#[97, 195, 169]⟩] w fun e w' => e = .returned (.int .i64 2) ∧ Below w.heap.size w w' ∧ Tabs w' :=
  (count_tabs ⟨#[97, 195, 169]⟩ w (by decide) hT).mono fun _ _ ⟨h, hb⟩ => ⟨by rw [h]; rfl, hb⟩
theorem k_cnt2 (w : World) (hT : Tabs w) : Calls Tryd.prog 15 #[.string ⟨#[255]⟩] w fun e w' => e = .returned (.int .i64 (-1)) ∧ Below w.heap.size w w' ∧ Tabs w' :=
  (count_tabs ⟨#[255]⟩ w (by decide) hT).mono fun _ _ ⟨h, hb⟩ => ⟨by rw [h]; rfl, hb⟩

theorem trans9 {w a b : World} (h : Below w.heap.size w a) (k : Below a.heap.size a b) : Below w.heap.size w b := h.trans (k.mono h.size)

set_option maxHeartbeats 1000000 in
theorem known_calls (w : World) (hT : Tabs w) : Calls Tryd.prog 8 #[] w fun e w' => e = .returned (.bool true) ∧ Below w.heap.size w w' ∧ Tabs w' := by
  go_enter Tryd.func8, Tryd.ntmps8
  go_wp2_with fail
  refine (k_next1 _ hT).mono ?_; rintro e w1 ⟨rfl, b1, t1⟩
  go_wp2_with fail
  refine (k_next2 _ t1).mono ?_; rintro e w2 ⟨rfl, b2, t2⟩
  go_wp2_with fail
  refine (k_enc1 _ t2).mono ?_; rintro e w3 ⟨rfl, b3, t3⟩
  go_wp2_with fail
  refine (k_enc2 _ t3).mono ?_; rintro e w4 ⟨rfl, b4, t4⟩
  go_wp2_with fail
  refine (k_bad1 _ t4).mono ?_; rintro e w5 ⟨rfl, b5, t5⟩
  go_wp2_with fail
  refine (k_bad2 _ t5).mono ?_; rintro e w6 ⟨rfl, b6, t6⟩
  go_wp2_with fail
  refine (k_bad3 _ t6).mono ?_; rintro e w7 ⟨rfl, b7, t7⟩
  go_wp2_with fail
  refine (k_cnt1 _ t7).mono ?_; rintro e w8 ⟨rfl, b8, t8⟩
  go_wp2_with fail
  refine (k_cnt2 _ t8).mono ?_; rintro e w9 ⟨rfl, b9, t9⟩
  go_wp2
  go_ret
  exact ⟨rfl, trans9 (trans9 (trans9 (trans9 (trans9 (trans9 (trans9 (trans9 b1 b2) b3) b4) b5) b6) b7) b8) b9, t9⟩

end Go.Proofs.YtobaclonacpoeaaDoor
