/- The walks of the reference's Roles, HasRole, Point. -/
import Derived.Test.YtjkaggkamcfahaaDoorPointW
import Derived.Test.YtjkaggkamcfahaaDoorRefLabelW
import Derived.Test.YtjkaggkamcfahaaDoorRefSumW
import Derived.Test.YtjkaggkamcfahaaDoorRefDecW
import Derived.Test.YtjkaggkamcfahaaDoorRefStampA
import Derived.Test.YtjkaggkamcfahaaDoorDecW
import Derived.Laws.StructEq
set_option maxRecDepth 100000
set_option linter.unusedVariables false
set_option linter.unusedSimpArgs false
namespace Go.Proofs.YtjkaggkamcfahaaDoor
open Go.RowKit Dc
attribute [local go_sem ↓] Go.wp_at_zero Go.wp_at_succ

set_option maxHeartbeats 4000000 in
theorem rroles_calls (k : Int) (w : World) :
    Calls Tryd.prog 14 #[.int .i64 k] w fun e w' => (∃ v, e = .returned v ∧ NoRow w' v (rolesL k)) ∧ Below w.heap.size w w' := by
  have b0 := Below.refl w.heap.size w
  by_cases h0 : k = 0
  · subst h0
    go_enter Tryd.func14, Tryd.ntmps14
    go_wp2
    go_ret
    exact ⟨⟨_, rfl, NoRow.one 0 (by simp) (by simp)⟩, kp_alloc b0 _⟩
  by_cases h1 : k = 1
  · subst h1
    go_enter Tryd.func14, Tryd.ntmps14
    go_wp2
    go_ret
    exact ⟨⟨_, rfl, NoRow.one 0 (by simp) (by simp)⟩, kp_alloc b0 _⟩
  by_cases h2 : k = 2
  · subst h2
    go_enter Tryd.func14, Tryd.ntmps14
    go_wp2
    go_ret
    exact ⟨⟨_, rfl, NoRow.one 0 (by simp) (by simp)⟩, kp_alloc b0 _⟩
  by_cases h3 : k = 3
  · subst h3
    go_enter Tryd.func14, Tryd.ntmps14
    go_wp2
    go_ret
    exact ⟨⟨_, rfl, NoRow.three 1 3 4 (by simp) (by simp) (by simp) (by simp)⟩, kp_alloc b0 _⟩
  by_cases h4 : k = 4
  · subst h4
    go_enter Tryd.func14, Tryd.ntmps14
    go_wp2
    go_ret
    exact ⟨⟨_, rfl, NoRow.three 2 3 4 (by simp) (by simp) (by simp) (by simp)⟩, kp_alloc b0 _⟩
  have d0 : (k == 0) = false := by simpa using h0
  have d1 : (k == 1) = false := by simpa using h1
  have d2 : (k == 2) = false := by simpa using h2
  have d3 : (k == 3) = false := by simpa using h3
  have d4 : (k == 4) = false := by simpa using h4
  have hr := Lib.hid (show rolesL k = [] by unfold rolesL; simp [h0, h1, h2, h3, h4])
  clear h0 h1 h2 h3 h4
  go_enter Tryd.func14, Tryd.ntmps14
  go_wp2
  go_ret
  exact ⟨⟨_, rfl, by rw [hr.out]; exact NoRow.nil w⟩, b0⟩

set_option maxHeartbeats 2000000 in
theorem rhasrole_calls (k r : Int) (w : World) :
    Calls Tryd.prog 13 #[.int .i64 k, .int .i64 r] w fun e w' => e = .returned (.bool (memI (rolesL k) r)) ∧ Below w.heap.size w w' := by
  have hro := Lib.hid (rroles_calls k w)
  generalize rolesL k = l at *
  go_enter Tryd.func13, Tryd.ntmps13
  go_wp2_with fail
  refine hro.out.mono ?_
  rintro e w1 ⟨⟨v, rfl, hv⟩, b1⟩
  obtain ⟨A, cap, rfl, hlc, hcm, hrow⟩ := hv
  unfold maxLen at hcm
  have HR := Lib.hid hrow
  have HB := Lib.hid b1
  clear hrow b1
  go_wp2_with fail
  go_loop [6] (fun v => ∃ k : Nat, k ≤ l.length ∧ v = .int .i64 (k : Nat) ∧ Hid (memI l r = memI (l.drop k) r)) (fun v => l.length - (intOf v).toNat)
  case atStart => exact ⟨0, Nat.zero_le _, rfl, rfl⟩
  case round =>
    obtain ⟨k, hk, rfl, H⟩ := hrel
    by_cases hkl : k < l.length
    · obtain ⟨b, off, rfl, hbs, hc⟩ := HR.out (by omega)
      have c0 := hc k _ (no_get hkl)
      have hy := Lib.hid (fun h => memI_yes (no_get hkl) H.out h)
      have hn := Lib.hid (fun h => memI_no (no_get hkl) H.out h)
      generalize l.getD k 0 = x at *
      clear hc
      by_cases hx : x = r
      · have dx : (x == r) = true := by simpa using hx
        have hr := Lib.hid (hy.out hx)
        clear hx hy hn
        go_wp2
        go_ret
        exact ⟨by rw [hr.out]; rfl, HB.out⟩
      · have dx : (x == r) = false := by simpa using hx
        have hr := Lib.hid (hn.out hx)
        clear hx hy hn
        go_wp2
        go_round
        case rel => exact ⟨k + 1, hkl, by go_num, hr.out⟩
        case measure => simp [intOf]; omega
    · have hr := Lib.hid (memI_end (by omega) H.out)
      go_wp2
      go_ret
      exact ⟨by rw [hr.out]; rfl, HB.out⟩

theorem equal_dec (a b c d : Int) (w : World) : (Op.equalIn 10000 33 (dv2 a b) (dv2 c d)).run Tryd.prog w = .ok (decide (a = c ∧ b = d)) w := by
  by_cases h1 : a = c
  · subst h1
    by_cases h2 : b = d
    · subst h2; go_simp
    · go_simp
  · go_simp
theorem neq_dec (a b c d : Int) (w : World) : (binOp .neq 33 (dv2 a b) (dv2 c d)).run Tryd.prog w = .ok (.bool (!decide (a = c ∧ b = d))) w := by
  rw [run_neq_struct, equal_dec]; rfl
/-- the rest of a point's look, in the reference's order -/
def rptOk (k : Int) (p : Pt) : Bool :=
  memI (rolesL k) p.ro && goodL p.l && infOk p && goodD p.m p.s &&
  (if p.ro = 1 ∧ p.inf = false ∨ p.ro = 2 then goodD p.bm p.bs else decide (p.bm = 0 ∧ p.bs = 0)) &&
  !(decide (p.ro = 2) && (decide (p.bm < 0) || decide (0 < cmpO p.bm p.bs 1 0))) &&
  !(decide (p.m < 0) && cntOf k p.ro) && timOk p && !hasB p
def timB (td : Bool) (ti : Int) : Bool := if td = true then isT ti else decide (ti = 0)
theorem timB_f (ti : Int) : timB false ti = decide (ti = 0) := rfl
theorem timB_t (ti : Int) : timB true ti = isT ti := rfl
theorem rpt_is (k : Int) (p : Pt) : ptOk k p = rptOk k p := by
  unfold ptOk rptOk valOk bndOk
  cases hg : goodD p.m p.s with
  | false => simp
  | true =>
    rw [cmpO_zero hg]
    by_cases h1 : p.ro = 1
    · simp only [h1]
      cases p.inf <;> cases memI (rolesL k) 1 <;> cases goodL p.l <;> cases infOk p <;> cases goodD p.bm p.bs <;> cases decide (p.m < 0) <;> cases cntOf k 1 <;> cases timOk p <;> cases hasB p <;> simp
    · by_cases h2 : p.ro = 2
      · simp only [h2]
        cases hb : goodD p.bm p.bs with
        | false => simp
        | true =>
          rw [cmpO_zero hb]
          have e : decide (cmpO p.bm p.bs 1 0 ≤ 0) = !decide (0 < cmpO p.bm p.bs 1 0) := by
            by_cases h : 0 < cmpO p.bm p.bs 1 0
            · rw [decide_eq_true h, decide_eq_false (by omega)]; rfl
            · rw [decide_eq_false h, decide_eq_true (by omega)]; rfl
          rw [e]
          cases memI (rolesL k) 2 <;> cases goodL p.l <;> cases infOk p <;> cases decide (p.bm < 0) <;> cases decide (0 < cmpO p.bm p.bs 1 0) <;> cases decide (p.m < 0) <;> cases cntOf k 2 <;> cases timOk p <;> cases hasB p <;> simp
      · rw [if_neg (fun e => h1 e.1), if_neg h2, if_neg (by rintro (e | e); exact h1 e.1; exact h2 e), decide_eq_false h2]
        cases memI (rolesL k) p.ro <;> cases goodL p.l <;> cases infOk p <;> cases decide (p.bm = 0 ∧ p.bs = 0) <;> cases decide (p.m < 0) <;> cases cntOf k p.ro <;> cases timOk p <;> cases hasB p <;> rfl

set_option maxHeartbeats 1000000 in
theorem rpt_1f (k : Int) (pl : List Lb) (bm bs m s : Int) (td : Bool) (ti : Int) : ptOk k ⟨pl, 1, false, bm, bs, m, s, td, ti⟩ = (memI (rolesL k) 1 && goodL pl && goodD m s && goodD bm bs && true && !(decide (m < 0) && (decide (k = 2) || true)) && timB td ti && !(getL pl leB).2) := by
  rw [rpt_is]
  unfold rptOk infOk hasB cntOf timOk
  try unfold timB
  simp
set_option maxHeartbeats 1000000 in
theorem rpt_1t (k : Int) (pl : List Lb) (bm bs m s : Int) (td : Bool) (ti : Int) : ptOk k ⟨pl, 1, true, bm, bs, m, s, td, ti⟩ = (memI (rolesL k) 1 && goodL pl && goodD m s && decide (bm = 0 ∧ bs = 0) && true && !(decide (m < 0) && (decide (k = 2) || true)) && timB td ti && !(getL pl leB).2) := by
  rw [rpt_is]
  unfold rptOk infOk hasB cntOf timOk
  try unfold timB
  simp
set_option maxHeartbeats 1000000 in
theorem rpt_2f (k : Int) (pl : List Lb) (bm bs m s : Int) (td : Bool) (ti : Int) : ptOk k ⟨pl, 2, false, bm, bs, m, s, td, ti⟩ = (memI (rolesL k) 2 && goodL pl && goodD m s && goodD bm bs && !(decide (bm < 0) || decide (0 < cmpO bm bs 1 0)) && !(decide (m < 0) && decide (k = 2)) && timB td ti && !(getL pl quB).2) := by
  rw [rpt_is]
  unfold rptOk infOk hasB cntOf timOk
  try unfold timB
  simp
set_option maxHeartbeats 1000000 in
theorem rpt_2t (k : Int) (pl : List Lb) (bm bs m s : Int) (td : Bool) (ti : Int) : ptOk k ⟨pl, 2, true, bm, bs, m, s, td, ti⟩ = (memI (rolesL k) 2 && goodL pl && false) := by
  rw [rpt_is]
  unfold rptOk infOk hasB cntOf timOk
  try unfold timB
  simp
set_option maxHeartbeats 1000000 in
theorem rpt_of (k : Int) (pl : List Lb) (ro : Int) (bm bs m s : Int) (td : Bool) (ti : Int) (h1 : ¬ ro = 1) (h2 : ¬ ro = 2) : ptOk k ⟨pl, ro, false, bm, bs, m, s, td, ti⟩ = (memI (rolesL k) ro && goodL pl && goodD m s && decide (bm = 0 ∧ bs = 0) && true && !(decide (m < 0) && (decide (k = 2) || decide (ro = 3))) && timB td ti && true) := by
  rw [rpt_is]
  unfold rptOk infOk hasB cntOf timOk
  try unfold timB
  simp [h1, h2]
set_option maxHeartbeats 1000000 in
theorem rpt_ot (k : Int) (pl : List Lb) (ro : Int) (bm bs m s : Int) (td : Bool) (ti : Int) (h1 : ¬ ro = 1) : ptOk k ⟨pl, ro, true, bm, bs, m, s, td, ti⟩ = (memI (rolesL k) ro && goodL pl && false) := by
  rw [rpt_is]
  unfold rptOk infOk hasB cntOf timOk
  try unfold timB
  simp [h1]
end Go.Proofs.YtjkaggkamcfahaaDoor
