/- Steps of regions that draw their order, over arrays of digits and decimals in blocks of one's own. -/
import Derived.Test.YtpciohnnnpgpiaaSumH
set_option linter.unusedVariables false
set_option linter.unusedSimpArgs false
namespace Go.Proofs.Ytpciohnnnpgpiaa
open Go.RowKit Dc

theorem step_store_sA {ops : Array Oper} {o : Oper} {a : Act} {w : World} {K : Act → World → Prop} {Q : Exit → Act → World → Prop} {E : Prop} (hgd : o.guard = none) (x y : Operand) (ho : o.op = .store 43 x y)
    (b : Nat) (z0 z : Nat → Nat) (hx : a.eval x = .pointer (some ⟨b, 0, none⟩)) (hy : a.eval y = .agg (sA z)) (h : SAt w b z0) (hk : K (a.put o.dst undef) (w.setRow b (sA z))) :
    if Region.wanted o (yielded ops a.tmps) = true then Oper.wp Try.prog o a w K Q else E := by
  have hw : Region.wanted o (yielded ops a.tmps) = true := by simp [Region.wanted, hgd]
  rw [if_pos hw]
  have hr := run_storeVar_row (P := Try.prog) w b 43 43 (sA z0) (sA z) h.heap (by rw [sA_size]; exact sum_info) (by rw [sA_size, sA_size]) (sA_one z)
  unfold Oper.wp execOp
  simp only [ho, hx, hy, Instr.storeAt, Instr.sureAddr, Sem.run_bind, Sem.run_pure, Result.andThen_ok, hr]
  exact hk
/-- The store of a whole array, where it alone comes up: never by way of the operation's own goal (whose meaning Lean would reckon cell by cell). -/
theorem ready_store_sA {ops : Array Oper} {i : Nat} {o : Oper} {md : Region.Mode} {Q : Exit → Act → World → Prop} {S : World → Prop} {fuel : Nat} {listed : Array Bool} {a : Act} {w : World} (ho : ops[i]? = some o) (hgd : o.guard = none) (x y : Operand)
    (hop : o.op = .store 43 x y) (b : Nat) (z0 z : Nat → Nat) (hx : a.eval x = .pointer (some ⟨b, 0, none⟩)) (hy : a.eval y = .agg (sA z)) (h : SAt w b z0) (hS : S (w.setRow b (sA z)))
    (hk : S (w.setRow b (sA z)) → wpAnyH Try.prog md ops Q S fuel (listed.setIfInBounds i true) (a.put o.dst undef) (w.setRow b (sA z))) : AllReadyH Try.prog md ops Q S fuel listed a w [i] :=
  AllReadyH.cons ho (fun _ hK => step_store_sA hgd x y hop b z0 z hx hy h (hK.out _ _ hS hk)) AllReadyH.nil
theorem yields_load_sA {ops : Array Oper} {S : World → Prop} {o : Oper} {a : Act} (hw : Region.wanted o (yielded ops a.tmps) = true) (x : Operand) (ho : o.op = .load 43 x)
    (b : Nat) (z : Nat → Nat) (hx : a.eval x = .pointer (some ⟨b, 0, none⟩)) (hS : ∀ w, S w → SAt w b z) : YieldsIf Try.prog ops S o (.agg (sA z)) a :=
  .inl ⟨hw, fun w hw' => by
    unfold execOp
    simp only [ho, hx, Instr.loadAt, Instr.sureAddr, Sem.run_bind, Sem.run_pure, Result.andThen_ok, (hS w hw').value]⟩

/-- a decimal stored in its block -/
def putDec (w : World) (b : Nat) (m s : Int) : World := (w.setCell ⟨b, 0, none⟩ (.int .i64 m)).setCell ⟨b, 1, none⟩ (.int .i64 s)
theorem putDec_size (w : World) (b : Nat) (m s : Int) : (putDec w b m s).heap.size = w.heap.size := by simp [putDec]
theorem DecAt.put {w : World} {b : Nat} {m s : Int} (h : DecAt w b m s) (m' s' : Int) : DecAt (putDec w b m' s') b m' s' := by
  obtain ⟨c0, c1, f0, f1, lt⟩ := h
  unfold putDec
  exact ⟨by simp [go_sem, c0, c1, f0, f1], by simp [go_sem, c0, c1, f0, f1], by simp [go_sem, c0, c1, f0, f1], by simp [go_sem, c0, c1, f0, f1], by simpa using lt⟩
theorem DecAt.putOther {w : World} {b g : Nat} {m s : Int} (h : DecAt w b m s) (hne : b ≠ g) (m' s' : Int) : DecAt (putDec w g m' s') b m s := by
  obtain ⟨c0, c1, f0, f1, lt⟩ := h
  have hne2 : ¬ g = b := fun e => hne e.symm
  unfold putDec
  exact ⟨by simp [go_sem, c0, hne, hne2], by simp [go_sem, c1, hne, hne2], by simp [go_sem, f0, hne, hne2], by simp [go_sem, f1, hne, hne2], by simpa using lt⟩
theorem SAt.putOther {w : World} {b g : Nat} {z : Nat → Nat} (h : SAt w b z) (hne : b ≠ g) (m s : Int) : SAt (putDec w g m s) b z := (h.other _ _ hne).other _ _ hne
theorem below_put {B : Nat} {a w : World} (h : Below B a w) {g : Nat} (hg : B ≤ g) (m s : Int) : Below B a (putDec w g m s) := (h.setCell (p := ⟨g, 0, none⟩) hg _).setCell (p := ⟨g, 1, none⟩) hg _

end Go.Proofs.Ytpciohnnnpgpiaa
