/- The walks of package utf's 'scalar' and 'join'. -/
import Derived.Test.YtobaclonacpoeaaDoorUtfB
import Derived.Test.YtobaclonacpoeaaDoorUtfPlainB
namespace Go.Proofs.YtobaclonacpoeaaDoor
open Go.RowKit

/-- the table of the first byte's marks -/
def MarksIn (w : World) : Prop := ∃ t fr, w.heap[1]? = some (.cells #[.int .u8 0, .int .u8 192, .int .u8 224, .int .u8 240] t fr)
theorem MarksIn.below {w w' : World} {B : Nat} (h : MarksIn w) (hb : Below B w w') (hB : 1 < B) : MarksIn w' := by
  obtain ⟨t, fr, h⟩ := h
  exact ⟨t, fr, by rw [hb.block _ hB]; exact h⟩
/-- the table of the first numbers that need more bytes -/
def EndsIn (w : World) : Prop := ∃ t fr, w.heap[0]? = some (.cells #[.int .i32 128, .int .i32 2048, .int .i32 65536, .int .i32 1114112] t fr)
theorem EndsIn.below {w w' : World} {B : Nat} (h : EndsIn w) (hb : Below B w w') (hB : 0 < B) : EndsIn w' := by
  obtain ⟨t, fr, h⟩ := h
  exact ⟨t, fr, by rw [hb.block _ hB]; exact h⟩
theorem cell_in {w : World} {g : Nat} {cs : Array Value} {t : TypeId} {fr : Nat × Nat} (h : w.heap[g]? = some (.cells cs t fr)) (j : Nat) {v : Value} (hv : cs[j]? = some v) : w.cell? ⟨g, j, none⟩ = some v := by
  rw [cell_of_row w g j cs t fr h]; exact hv

set_option maxHeartbeats 400000 in
theorem scalar_calls (r : Int) (w : World) (hE : EndsIn w) :
    Calls Tryd.prog 20 #[.int .i32 r] w fun e w' => e = .returned (.bool (Utf.isScalar r)) ∧ w = w' := by
  obtain ⟨t, fr, h⟩ := hE
  have c3 : w.cell? ⟨0, 3, none⟩ = some (.int .i32 1114112) := cell_in h 3 rfl
  clear h
  by_cases h0 : 0 ≤ r
  · have d0 : decide (0 ≤ r) = true := by simpa using h0
    by_cases h1 : r < 55296
    · have d1 : decide (r < 55296) = true := by simpa using h1
      go_enter Tryd.func20, Tryd.ntmps20
      go_wp2
      go_ret
      exact ⟨by unfold Utf.isScalar; rw [d0, d1]; rfl, rfl⟩
    · have d1 : decide (r < 55296) = false := by simpa using h1
      by_cases h2 : 57343 < r
      · have d2 : decide (57343 < r) = true := by simpa using h2
        go_enter Tryd.func20, Tryd.ntmps20
        go_wp2
        go_ret
        exact ⟨by unfold Utf.isScalar; rw [d0, d1, d2]; rfl, rfl⟩
      · have d2 : decide (57343 < r) = false := by simpa using h2
        go_enter Tryd.func20, Tryd.ntmps20
        go_wp2
        go_ret
        exact ⟨by unfold Utf.isScalar; rw [d0, d1, d2]; rfl, rfl⟩
  · have d0 : decide (0 ≤ r) = false := by simpa using h0
    have d2 : decide (57343 < r) = false := by simp; omega
    go_enter Tryd.func20, Tryd.ntmps20
    go_wp2
    go_ret
    exact ⟨by unfold Utf.isScalar; rw [d0, d2]; rfl, rfl⟩

theorem xor_u8 (a b : Nat) (ha : a < 256) (hb : b < 256) : bits .xor .u8 (a : Int) (b : Int) = ((a ^^^ b : Nat) : Int) := by
  have ha' : a % 2 ^ IntKind.u8.bits = a := Nat.mod_eq_of_lt ha
  have hb' : b % 2 ^ IntKind.u8.bits = b := Nat.mod_eq_of_lt hb
  simp only [bits, BitVec.ofInt_natCast, BitVec.toNat_xor, BitVec.toNat_ofNat, ha', hb']
  have := Nat.xor_lt_two_pow (n := 8) ha hb
  exact wraps_u8 _ (by omega) (by omega)
theorem wrap32_nat (a : Nat) (ha : a < 2147483648) : wrap32 (a : Int) = (a : Int) := IntWalk.wrap32_in _ (by omega)

theorem or_step (r c : Nat) (hr : r < 1048576) (hc : c < 256) : bits .or .i32 ((r : Int) * 64) (wrap32 (bits .and .u8 (c : Int) 63)) = ((r * 64 + c % 64 : Nat) : Int) := by
  rw [u8_and63 _ (by omega) (by omega), IntWalk.wrap32_in _ (by omega), bits_join .i32 31 (by decide) wraps_i32 6 _ _ (by omega) (by omega) (by omega) (by omega) (by omega) (by omega)]
  omega

set_option maxHeartbeats 400000 in
theorem join_calls (s : ByteArray) (w : World) (hM : MarksIn w) (h1 : 1 ≤ s.size) (h4 : s.size ≤ 4) :
    Calls Tryd.prog 18 #[.string s] w fun e w' => e = .returned (.int .i32 (Utf.val s.data.toList)) ∧ Below w.heap.size w w' := by
  obtain ⟨t, fr, h⟩ := hM
  have c0 : w.cell? ⟨1, 0, none⟩ = some (.int .u8 0) := cell_in h 0 rfl
  have c1 : w.cell? ⟨1, 1, none⟩ = some (.int .u8 192) := cell_in h 1 rfl
  have c2 : w.cell? ⟨1, 2, none⟩ = some (.int .u8 224) := cell_in h 2 rfl
  have c3 : w.cell? ⟨1, 3, none⟩ = some (.int .u8 240) := cell_in h 3 rfl
  have cm : w.cell? ⟨1, s.size - 1, none⟩ = some (.int .u8 (Utf.mark s.size : Nat)) := by
    rcases (by omega : s.size = 1 ∨ s.size = 2 ∨ s.size = 3 ∨ s.size = 4) with e | e | e | e <;> rw [e] <;> assumption
  have l0 : (0 : Int) < (s.size : Int) := by omega
  have l4 : (s.size : Int) ≤ 4 := by omega
  have lt : ((s.size : Int) - 1).toNat = s.size - 1 := by omega
  have lp : 0 < s.size := by omega
  have lw : IntKind.i64.wrap ((s.size : Int) - 1) = (s.size : Int) - 1 := IntWalk.i64_in _ (by omega)
  have ln : (0 : Int) ≤ (s.size : Int) - 1 := by omega
  have lb : ((s.size : Int) - 1) < 4 := by omega
  clear h c0 c1 c2 c3
  have by0 := Lib.hid (Utf.byte_at s 0 lp)
  have hx : wrap32 (bits .xor .u8 ((s[0].toNat : Nat) : Int) ((Utf.mark s.size : Nat) : Int)) = ((s[0].toNat ^^^ Utf.mark s.size : Nat) : Int) := by
    have := UInt8.toNat_lt s[0]
    have hl := Nat.xor_lt_two_pow (n := 8) this (Utf.mark_lt s.size)
    rw [xor_u8 _ _ this (Utf.mark_lt _), wrap32_nat _ (by omega)]
  have hxl : s[0].toNat ^^^ Utf.mark s.size < 256 := Nat.xor_lt_two_pow (n := 8) (UInt8.toNat_lt s[0]) (Utf.mark_lt s.size)
  have hv := Utf.val_start _ _ by0.out
  rw [Utf.size_len] at hv
  generalize s[0].toNat ^^^ Utf.mark s.size = r0 at *
  have Hv := Lib.hid hv
  clear hv
  have Hx := Lib.hid hx
  clear hx
  go_enter Tryd.func18, Tryd.ntmps18
  go_wp2_with fail
  go_quiet (fail)
  go_wp2
  go_loop [3, 4] (fun v i => ∃ k r : Nat, 1 ≤ k ∧ k ≤ s.size ∧ r < 256 * 64 ^ (k - 1) ∧ i = .int .i64 k ∧ v = .int .i32 r ∧ Utf.val s.data.toList = (Utf.joinOn (s.data.toList.drop k) r : Nat)) (fun _ i => s.size - (intOf i).toNat)
  case atStart => exact ⟨1, r0, by omega, by omega, by simpa using hxl, rfl, by rw [Hx.out], Hv.out⟩
  case round =>
    obtain ⟨k, r, hk1, hk, hr, rfl, rfl, hval⟩ := hrel
    have Hval := Lib.hid hval
    clear hval
    by_cases hlt : k < s.size
    · have byk := Lib.hid (Utf.byte_at s k hlt)
      have hlt' : (k : Int) < (s.size : Int) := by omega
      have jr := Utf.join_room hk1 hlt h4 hr
      have jr1 := jr.1
      have Jr := Lib.hid jr.2
      have Hr := Lib.hid hr
      clear jr hr
      go_wp2_with fail
      go_round
      case rel => exact ⟨k + 1, r * 64 + s[k].toNat % 64, by omega, by omega, Jr.out _ (Nat.mod_lt _ (by decide)), by go_num, by rw [or_step _ _ jr1 (UInt8.toNat_lt _)], by rw [Hval.out, Utf.joinOn_drop byk.out]⟩
      case measure => simp [intOf]; omega
    · have hke : k = s.size := by omega
      have Hke := Lib.hid hke
      clear hke
      go_wp2
      go_ret
      exact ⟨by rw [Hval.out, Hke.out, List.drop_of_length_le (by simp)]; rfl, below_drewN (Below.refl _ _) _⟩

end Go.Proofs.YtobaclonacpoeaaDoor
