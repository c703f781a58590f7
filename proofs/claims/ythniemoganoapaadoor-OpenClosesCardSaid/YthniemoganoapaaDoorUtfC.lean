/- The walks of package utf's 'scalar' and 'join'. -/
import Derived.Test.YthniemoganoapaaDoorUlW
import Derived.Test.YthniemoganoapaaDoorPlA
set_option maxRecDepth 100000
set_option linter.unusedVariables false
set_option linter.unusedSimpArgs false
namespace Go.Proofs.YthniemoganoapaaDoor
open Go.RowKit

/-- the table of the first byte's marks -/
def MarksIn (w : World) : Prop := ∃ t fr, w.heap[3]? = some (.cells #[.int .u8 0, .int .u8 192, .int .u8 224, .int .u8 240] t fr)
theorem MarksIn.below {w w' : World} {B : Nat} (h : MarksIn w) (hb : Below B w w') (hB : 3 < B) : MarksIn w' := by
  obtain ⟨t, fr, h⟩ := h
  exact ⟨t, fr, by rw [hb.block _ hB]; exact h⟩
theorem cell_in {w : World} {g : Nat} {cs : Array Value} {t : TypeId} {fr : Nat × Nat} (h : w.heap[g]? = some (.cells cs t fr)) (j : Nat) {v : Value} (hv : cs[j]? = some v) : w.cell? ⟨g, j, none⟩ = some v := by
  rw [cell_of_row w g j cs t fr h]; exact hv

theorem xor_u8 (a b : Nat) (ha : a < 256) (hb : b < 256) : bits .xor .u8 (a : Int) (b : Int) = ((a ^^^ b : Nat) : Int) := by
  have ha' : a % 2 ^ IntKind.u8.bits = a := Nat.mod_eq_of_lt ha
  have hb' : b % 2 ^ IntKind.u8.bits = b := Nat.mod_eq_of_lt hb
  simp only [bits, BitVec.ofInt_natCast, BitVec.toNat_xor, BitVec.toNat_ofNat, ha', hb']
  have := Nat.xor_lt_two_pow (n := 8) ha hb
  exact wraps_u8 _ (by omega) (by omega)
theorem wrap32_nat (a : Nat) (ha : a < 2147483648) : wrap32 (a : Int) = (a : Int) := IntWalk.wrap32_in _ (by omega)

theorem or_step (r c : Nat) (hr : r < 1048576) (hc : c < 256) : bits .or .i32 ((r : Int) * 64) (wrap32 (bits .and .u8 (c : Int) 63)) = ((r * 64 + c % 64 : Nat) : Int) := by
  rw [u8_and63 _ (by omega) (by omega), IntWalk.wrap32_in _ (by omega), bits_join .i32 31 (by decide) wraps_i32 6 _ _ (by omega) (by omega) (by omega) (by omega) (by omega) (by omega)]
  omega

set_option maxHeartbeats 400000 in
theorem ujoin_calls (s : ByteArray) (w : World) (hM : MarksIn w) (h1 : 1 ≤ s.size) (h4 : s.size ≤ 4) :
    Calls Tryd.prog 72 #[.string s] w fun e w' => e = .returned (.int .i32 (Utf.val s.data.toList)) ∧ Below w.heap.size w w' := by
  obtain ⟨t, fr, h⟩ := hM
  have c0 : w.cell? ⟨3, 0, none⟩ = some (.int .u8 0) := cell_in h 0 rfl
  have c1 : w.cell? ⟨3, 1, none⟩ = some (.int .u8 192) := cell_in h 1 rfl
  have c2 : w.cell? ⟨3, 2, none⟩ = some (.int .u8 224) := cell_in h 2 rfl
  have c3 : w.cell? ⟨3, 3, none⟩ = some (.int .u8 240) := cell_in h 3 rfl
  have cm : w.cell? ⟨3, s.size - 1, none⟩ = some (.int .u8 (Utf.mark s.size : Nat)) := by
    rcases (by omega : s.size = 1 ∨ s.size = 2 ∨ s.size = 3 ∨ s.size = 4) with e | e | e | e <;> rw [e] <;> assumption
  have l0 : (0 : Int) < (s.size : Int) := by omega
  have l4 : (s.size : Int) ≤ 4 := by omega
  have lt : ((s.size : Int) - 1).toNat = s.size - 1 := by omega
  have lp : 0 < s.size := by omega
  have lw : IntKind.i64.wrap ((s.size : Int) - 1) = (s.size : Int) - 1 := IntWalk.i64_in _ (by omega)
  have ln : (0 : Int) ≤ (s.size : Int) - 1 := by omega
  have lb : ((s.size : Int) - 1) < 4 := by omega
  clear h c0 c1 c2 c3
  have by0 := Lib.hid (Utf.byte_at s 0 lp)
  have hx : wrap32 (bits .xor .u8 ((s[0].toNat : Nat) : Int) ((Utf.mark s.size : Nat) : Int)) = ((s[0].toNat ^^^ Utf.mark s.size : Nat) : Int) := by
    have := UInt8.toNat_lt s[0]
    have hl := Nat.xor_lt_two_pow (n := 8) this (Utf.mark_lt s.size)
    rw [xor_u8 _ _ this (Utf.mark_lt _), wrap32_nat _ (by omega)]
  have hxl : s[0].toNat ^^^ Utf.mark s.size < 256 := Nat.xor_lt_two_pow (n := 8) (UInt8.toNat_lt s[0]) (Utf.mark_lt s.size)
  have hv := Utf.val_start _ _ by0.out
  rw [Utf.size_len] at hv
  generalize s[0].toNat ^^^ Utf.mark s.size = r0 at *
  have Hv := Lib.hid hv
  clear hv
  have Hx := Lib.hid hx
  clear hx
  go_enter Tryd.func72, Tryd.ntmps72
  go_wp2_with fail
  go_quiet (fail)
  go_wp2
  go_loop [3, 4] (fun v i => ∃ k r : Nat, 1 ≤ k ∧ k ≤ s.size ∧ r < 256 * 64 ^ (k - 1) ∧ i = .int .i64 k ∧ v = .int .i32 r ∧ Utf.val s.data.toList = (Utf.joinOn (s.data.toList.drop k) r : Nat)) (fun _ i => s.size - (intOf i).toNat)
  case atStart => exact ⟨1, r0, by omega, by omega, by simpa using hxl, rfl, by rw [Hx.out], Hv.out⟩
  case round =>
    obtain ⟨k, r, hk1, hk, hr, rfl, rfl, hval⟩ := hrel
    have Hval := Lib.hid hval
    clear hval
    by_cases hlt : k < s.size
    · have byk := Lib.hid (Utf.byte_at s k hlt)
      have hlt' : (k : Int) < (s.size : Int) := by omega
      have jr := Utf.join_room hk1 hlt h4 hr
      have jr1 := jr.1
      have Jr := Lib.hid jr.2
      have Hr := Lib.hid hr
      clear jr hr
      go_wp2_with fail
      go_round
      case rel => exact ⟨k + 1, r * 64 + s[k].toNat % 64, by omega, by omega, Jr.out _ (Nat.mod_lt _ (by decide)), by go_num, by rw [or_step _ _ jr1 (UInt8.toNat_lt _)], by rw [Hval.out, Utf.joinOn_drop byk.out]⟩
      case measure => simp [intOf]; omega
    · have hke : k = s.size := by omega
      have Hke := Lib.hid hke
      clear hke
      go_wp2
      go_ret
      exact ⟨by rw [Hval.out, Hke.out, List.drop_of_length_le (by simp)]; rfl, below_drewN (Below.refl _ _) _⟩

end Go.Proofs.YthniemoganoapaaDoor
