/- The reference's quotient: what it comes to; append onto nothing. -/
import Derived.Test.YtpciohnnnpgpiaaRefSumF
import Derived.Deep.DeepCutAuto
import Derived.Deep.AppendLies
set_option linter.unusedVariables false
set_option linter.unusedSimpArgs false
namespace Go.Proofs.Ytpciohnnnpgpiaa
open Go.RowKit Dc
attribute [local go_sem ↓] Go.wp_at_zero Go.wp_at_succ

theorem pre_step (x la i : Nat) (h : i < la) : x / 10 ^ (la - (i + 1)) = 10 * (x / 10 ^ (la - i)) + dgt x (la - 1 - i) := by
  have e : la - i = (la - 1 - i) + 1 := by omega
  rw [show la - (i + 1) = la - 1 - i by omega, e, Nat.pow_succ, ← Nat.div_div_eq_div_mul]
  unfold dgt
  generalize x / 10 ^ (la - 1 - i) = n
  omega
theorem div_step (P d : Nat) {y : Nat} (hy : 0 < y) : (10 * P + d) / y = 10 * (P / y) + (10 * (P % y) + d) / y ∧ (10 * P + d) % y = (10 * (P % y) + d) % y := by
  have h := Nat.div_add_mod P y
  have e : 10 * P + d = (10 * (P % y) + d) + y * (10 * (P / y)) := by rw [Nat.mul_left_comm]; omega
  constructor
  · rw [e, Nat.add_mul_div_left _ _ hy]; omega
  · rw [e, Nat.add_mul_mod_self_left]
theorem q_digit {r y d : Nat} (hr : r < y) (hd : d ≤ 9) : (10 * r + d) / y ≤ 9 := by
  have : (10 * r + d) / y < 10 := Nat.div_lt_of_lt_mul (by omega)
  omega
theorem trim_snoc (R d : Nat) (hd : d ≤ 9) : trimN (digs R ++ [d]) = digs (10 * R + d) := by
  rw [trimN_digs _ (fun e he => by rcases List.mem_append.1 he with h | h; exact digs_le R e h; rw [List.mem_singleton.1 h]; exact hd), valN_snoc, digs_val]
theorem inner_end {A y k : Nat} (hy : 0 < y) (hk : k ≤ A / y) (h : A - k * y < y) : k = A / y ∧ A - k * y = A % y := by
  have h1 := Nat.div_add_mod A y
  have h2 : k * y ≤ A := Nat.le_trans (Nat.mul_le_mul_right y hk) (Nat.div_mul_le_self A y)
  have h3 : A < (k + 1) * y := by rw [Nat.add_mul]; omega
  have h4 : A / y ≤ k := Nat.lt_succ_iff.1 ((Nat.div_lt_iff_lt_mul hy).2 h3)
  obtain rfl : k = A / y := by omega
  refine ⟨rfl, ?_⟩
  rw [Nat.mul_comm]
  omega
theorem inner_more {A y k : Nat} (hy : 0 < y) (h : ¬ A - k * y < y) : k + 1 ≤ A / y ∧ A - k * y - y = A - (k + 1) * y := by
  refine ⟨(Nat.le_div_iff_mul_le hy).2 (by rw [Nat.add_mul]; omega), by rw [Nat.add_mul]; omega⟩
theorem run_append_none (w : World) (ty : Nat) (A : Option Addr) (cap : Nat) :
    (Builtin.append_ #[49, 49] ty #[.slice none 0 0, .slice A 0 cap]).run Try.prog w = .ok (.slice none 0 0) w := by
  obtain ⟨i, hi, hz, hs, hby⟩ := u8_facts
  cases A <;> simp [Builtin.append_, run_underlying Try.underlying49, sizeOf, typeInfo, hi, hs, hby, asInt, asIntOf, Builtin.lenOf, Builtin.firstCells, loadCells, loadCellsFrom]
theorem step_append_row {w : World} {ops : Array Oper} {o : Oper} {a : Act} {K : Act → World → Prop} {Q : Exit → Act → World → Prop} {E : Prop} (hgd : o.guard = none) (s x : Operand)
    (ho : o.op = .call { callee := .builtin .append, args := #[s, x], argTypes := #[49, 49] }) (l : List Nat) (hs : a.eval s = .slice none 0 0) (hx : DR w (a.eval x) l) (hl : l.length ≤ 100)
    (h : ∀ v' w', w'.ownsRow w.heap.size 5 1 v' l.length (ints l) → Below w.heap.size w w' → K (a.put o.dst v') w') :
    if Region.wanted o (yielded ops a.tmps) = true then Oper.wp Try.prog o a w K Q else E := by
  obtain ⟨i0, hi, hz0, hz1, hz2⟩ := info_parts (P := Try.prog) (t := 5) (z := .int .u8 0) (n := 1) (m := 1) (by kernel_rfl)
  obtain ⟨A, cap, hxe, h1, h2, h3⟩ := hx
  by_cases h0 : l.length = 0
  · have hln : l = [] := List.length_eq_zero_iff.1 h0
    subst hln
    have hw : Region.wanted o (yielded ops a.tmps) = true := by simp [Region.wanted, hgd]
    rw [if_pos hw]
    unfold Oper.wp execOp
    simp only [ho, resolve, invoke, builtin, Sem.run_bind, Sem.run_pure, Result.andThen_ok, List.map_toArray, List.map_cons, List.map_nil, hs, hxe, List.length_nil, run_append_none]
    exact h _ _ (World.ownsRow_nil w w.heap.size 5 1) (Below.refl _ _)
  · obtain ⟨b, off, rfl, hlt, hc⟩ := h3 (by omega)
    refine step_append_lies _ hgd s x _ ho w.heap.size 5 i0 _ 1 1 Try.underlying49 hi hz0 hz1 hz2 rfl (by omega) _ 0 [] hs (World.ownsRow_nil w w.heap.size 5 1) ⟨b, off, none⟩ l.length cap (ints l) hxe (by rw [ints_len]; omega) (DR.news hc) (ints_one l) (by omega) (by unfold maxLen; omega) (by omega) (Nat.le_refl _) _ rfl ?_
    intro g cap2 w3 hown hgrow _ _
    rw [Nat.zero_add, List.nil_append] at hown
    rw [Nat.zero_add]
    exact h _ _ hown ((Below.refl _ w).grown hgrow (Nat.le_refl _) (fun k hk => by cases hk))
end Go.Proofs.Ytpciohnnnpgpiaa
