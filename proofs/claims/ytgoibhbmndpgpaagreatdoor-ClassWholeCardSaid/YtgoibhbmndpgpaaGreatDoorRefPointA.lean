/- The walks of the reference's Roles, HasRole, Point. -/
import Derived.Test.YtgoibhbmndpgpaaGreatDoorPointW
import Derived.Test.YtgoibhbmndpgpaaGreatDoorRfA
import Derived.Test.YtgoibhbmndpgpaaGreatDoorRfB
import Derived.Test.YtgoibhbmndpgpaaGreatDoorDssW
import Derived.Laws.StructEq
set_option maxRecDepth 100000
set_option linter.unusedVariables false
set_option linter.unusedSimpArgs false
namespace Go.Proofs.YtgoibhbmndpgpaaGreatDoor
open Go.RowKit Dc
attribute [local go_sem ↓] Go.wp_at_zero Go.wp_at_succ

set_option maxHeartbeats 4000000 in
theorem rroles_calls (k : Int) (w : World) :
    Calls Tryz.prog 86 #[.int .i64 k] w fun e w' => (∃ v, e = .returned v ∧ NoRow w' v (rolesL k)) ∧ Below w.heap.size w w' := by
  have b0 := Below.refl w.heap.size w
  by_cases h0 : k = 0
  · subst h0
    go_enter Tryz.func86, Tryz.ntmps86
    go_wp2
    go_ret
    exact ⟨⟨_, rfl, NoRow.one 0 (by simp) (by simp)⟩, kp_alloc b0 _⟩
  by_cases h1 : k = 1
  · subst h1
    go_enter Tryz.func86, Tryz.ntmps86
    go_wp2
    go_ret
    exact ⟨⟨_, rfl, NoRow.one 0 (by simp) (by simp)⟩, kp_alloc b0 _⟩
  by_cases h2 : k = 2
  · subst h2
    go_enter Tryz.func86, Tryz.ntmps86
    go_wp2
    go_ret
    exact ⟨⟨_, rfl, NoRow.one 0 (by simp) (by simp)⟩, kp_alloc b0 _⟩
  by_cases h3 : k = 3
  · subst h3
    go_enter Tryz.func86, Tryz.ntmps86
    go_wp2
    go_ret
    exact ⟨⟨_, rfl, NoRow.three 1 3 4 (by simp) (by simp) (by simp) (by simp)⟩, kp_alloc b0 _⟩
  by_cases h4 : k = 4
  · subst h4
    go_enter Tryz.func86, Tryz.ntmps86
    go_wp2
    go_ret
    exact ⟨⟨_, rfl, NoRow.three 2 3 4 (by simp) (by simp) (by simp) (by simp)⟩, kp_alloc b0 _⟩
  have d0 : (k == 0) = false := by simpa using h0
  have d1 : (k == 1) = false := by simpa using h1
  have d2 : (k == 2) = false := by simpa using h2
  have d3 : (k == 3) = false := by simpa using h3
  have d4 : (k == 4) = false := by simpa using h4
  have hr := Lib.hid (show rolesL k = [] by unfold rolesL; simp [h0, h1, h2, h3, h4])
  clear h0 h1 h2 h3 h4
  go_enter Tryz.func86, Tryz.ntmps86
  go_wp2
  go_ret
  exact ⟨⟨_, rfl, by rw [hr.out]; exact NoRow.nil w⟩, b0⟩

set_option maxHeartbeats 2000000 in
theorem rhasrole_calls (k r : Int) (w : World) :
    Calls Tryz.prog 61 #[.int .i64 k, .int .i64 r] w fun e w' => e = .returned (.bool (memI (rolesL k) r)) ∧ Below w.heap.size w w' := by
  have hro := Lib.hid (rroles_calls k w)
  generalize rolesL k = l at *
  go_enter Tryz.func61, Tryz.ntmps61
  go_wp2_with fail
  refine hro.out.mono ?_
  rintro e w1 ⟨⟨v, rfl, hv⟩, b1⟩
  obtain ⟨A, cap, rfl, hlc, hcm, hrow⟩ := hv
  unfold maxLen at hcm
  have HR := Lib.hid hrow
  have HB := Lib.hid b1
  clear hrow b1
  go_wp2_with fail
  go_loop [6] (fun v => ∃ k : Nat, k ≤ l.length ∧ v = .int .i64 (k : Nat) ∧ Hid (memI l r = memI (l.drop k) r)) (fun v => l.length - (intOf v).toNat)
  case atStart => exact ⟨0, Nat.zero_le _, rfl, rfl⟩
  case round =>
    obtain ⟨k, hk, rfl, H⟩ := hrel
    by_cases hkl : k < l.length
    · obtain ⟨b, off, rfl, hbs, hc⟩ := HR.out (by omega)
      have c0 := hc k _ (no_get hkl)
      have hy := Lib.hid (fun h => memI_yes (no_get hkl) H.out h)
      have hn := Lib.hid (fun h => memI_no (no_get hkl) H.out h)
      generalize l.getD k 0 = x at *
      clear hc
      by_cases hx : x = r
      · have dx : (x == r) = true := by simpa using hx
        have hr := Lib.hid (hy.out hx)
        clear hx hy hn
        go_wp2
        go_ret
        exact ⟨by rw [hr.out]; rfl, HB.out⟩
      · have dx : (x == r) = false := by simpa using hx
        have hr := Lib.hid (hn.out hx)
        clear hx hy hn
        go_wp2
        go_round
        case rel => exact ⟨k + 1, hkl, by go_num, hr.out⟩
        case measure => simp [intOf]; omega
    · have hr := Lib.hid (memI_end (by omega) H.out)
      go_wp2
      go_ret
      exact ⟨by rw [hr.out]; rfl, HB.out⟩

theorem equal_dec (a b c d : Int) (w : World) : (Op.equalIn 10000 44 (dv2 a b) (dv2 c d)).run Tryz.prog w = .ok (decide (a = c ∧ b = d)) w := by
  by_cases h1 : a = c
  · subst h1
    by_cases h2 : b = d
    · subst h2; go_simp
    · go_simp
  · go_simp
theorem neq_dec (a b c d : Int) (w : World) : (binOp .neq 44 (dv2 a b) (dv2 c d)).run Tryz.prog w = .ok (.bool (!decide (a = c ∧ b = d))) w := by
  rw [run_neq_struct, equal_dec]; rfl
/-- the rest of a point's look, in the reference's order -/
def rptOk (k : Int) (p : Pt) : Bool :=
  memI (rolesL k) p.ro && goodL p.l && infOk p && goodD p.m p.s &&
  (if p.ro = 1 ∧ p.inf = false ∨ p.ro = 2 then goodD p.bm p.bs else decide (p.bm = 0 ∧ p.bs = 0)) &&
  !(decide (p.ro = 2) && (decide (p.bm < 0) || decide (0 < cmpO p.bm p.bs 1 0))) &&
  !(decide (p.m < 0) && cntOf k p.ro) && timOk p && !hasB p
def timB (td : Bool) (ti : Int) : Bool := if td = true then isT ti else decide (ti = 0)
theorem timB_f (ti : Int) : timB false ti = decide (ti = 0) := rfl
theorem timB_t (ti : Int) : timB true ti = isT ti := rfl
theorem rpt_is (k : Int) (p : Pt) : ptOk k p = rptOk k p := by
  unfold ptOk rptOk valOk bndOk
  cases hg : goodD p.m p.s with
  | false => simp
  | true =>
    rw [cmpO_zero hg]
    by_cases h1 : p.ro = 1
    · simp only [h1]
      cases p.inf <;> cases memI (rolesL k) 1 <;> cases goodL p.l <;> cases infOk p <;> cases goodD p.bm p.bs <;> cases decide (p.m < 0) <;> cases cntOf k 1 <;> cases timOk p <;> cases hasB p <;> simp
    · by_cases h2 : p.ro = 2
      · simp only [h2]
        cases hb : goodD p.bm p.bs with
        | false => simp
        | true =>
          rw [cmpO_zero hb]
          have e : decide (cmpO p.bm p.bs 1 0 ≤ 0) = !decide (0 < cmpO p.bm p.bs 1 0) := by
            by_cases h : 0 < cmpO p.bm p.bs 1 0
            · rw [decide_eq_true h, decide_eq_false (by omega)]; rfl
            · rw [decide_eq_false h, decide_eq_true (by omega)]; rfl
          rw [e]
          cases memI (rolesL k) 2 <;> cases goodL p.l <;> cases infOk p <;> cases decide (p.bm < 0) <;> cases decide (0 < cmpO p.bm p.bs 1 0) <;> cases decide (p.m < 0) <;> cases cntOf k 2 <;> cases timOk p <;> cases hasB p <;> simp
      · rw [if_neg (fun e => h1 e.1), if_neg h2, if_neg (by rintro (e | e); exact h1 e.1; exact h2 e), decide_eq_false h2]
        cases memI (rolesL k) p.ro <;> cases goodL p.l <;> cases infOk p <;> cases decide (p.bm = 0 ∧ p.bs = 0) <;> cases decide (p.m < 0) <;> cases cntOf k p.ro <;> cases timOk p <;> cases hasB p <;> rfl

set_option maxHeartbeats 1000000 in
theorem rpt_1f (k : Int) (pl : List Lb) (bm bs m s : Int) (td : Bool) (ti : Int) : ptOk k ⟨pl, 1, false, bm, bs, m, s, td, ti⟩ = (memI (rolesL k) 1 && goodL pl && goodD m s && goodD bm bs && true && !(decide (m < 0) && (decide (k = 2) || true)) && timB td ti && !(getL pl leB).2) := by
  rw [rpt_is]
  unfold rptOk infOk hasB cntOf timOk
  try unfold timB
  simp
set_option maxHeartbeats 16000000 in
theorem rpoint_1f (k : Int) (v : Value) (pl : List Lb) (bm bs m s : Int) (td : Bool) (ti : Int) (w : World) (hv : LbRow w v pl) (hp : PtIn ⟨pl, 1, false, bm, bs, m, s, td, ti⟩) :
    Calls Tryz.prog 45 #[.int .i64 k, ptv v ⟨pl, 1, false, bm, bs, m, s, td, ti⟩] w fun e w' => e = .returned (.bool (ptOk k ⟨pl, 1, false, bm, bs, m, s, td, ti⟩)) ∧ Below w.heap.size w w' := by
  obtain ⟨X, hX⟩ : ∃ X, X = ptOk k ⟨pl, 1, false, bm, bs, m, s, td, ti⟩ := ⟨_, rfl⟩
  rw [← hX]
  rw [rpt_1f] at hX
  have HF := Lib.hid hX
  clear hX
  have HRo := Lib.hid (fun W => rhasrole_calls k 1 W)
  have HGv := Lib.hid (fun W => rgood_calls m s W)
  have HGb := Lib.hid (fun W => rgood_calls bm bs W)
  have HC := Lib.hid (fun W => rcmp_walk bm bs 1 0 W hp.bm1 hp.bm2 (by omega) (by omega))
  have HI := Lib.hid (fun W => risTime_calls ti W)
  have HI0 := Lib.hid (fun W => risTime_calls 0 W)
  rw [show isT 0 = true from rfl] at HI0
  have TF := Lib.hid (timB_f ti)
  have TT := Lib.hid (timB_t ti)
  have HN := fun W => neq_dec bm bs 0 0 W
  have k0 := kp_alloc (Below.refl w.heap.size w) (.cells (ptc v ⟨pl, 1, false, bm, bs, m, s, td, ti⟩) 46)
  have hv1 := hv.below k0
  have HLb := Lib.hid (fun W (hW : Below w.heap.size w W) => rlabels_calls pl v W (hv.below hW) hp.fit)
  have HGl := Lib.hid (fun W (hW : Below w.heap.size w W) => rget_calls pl v leB W (hv.below hW))
  have HGq := Lib.hid (fun W (hW : Below w.heap.size w W) => rget_calls pl v quB W (hv.below hW))
  rw [show str leB = ⟨#[108, 101]⟩ from rfl] at HGl
  rw [show str quB = ⟨#[113, 117, 97, 110, 116, 105, 108, 101]⟩ from rfl] at HGq
  dsimp only [ptv, ptc] at k0 ⊢
  obtain ⟨A, cap, rfl, _⟩ := hv
  have K0 := Lib.hid k0
  generalize pl.length = n at *
  generalize goodL pl = L at *
  generalize memI (rolesL k) 1 = R at *
  generalize goodD m s = G at *
  generalize goodD bm bs = B at *
  generalize decide (bm = 0 ∧ bs = 0) = E at *
  generalize (getL pl leB).1 = x1 at *
  generalize (getL pl leB).2 = le at *
  generalize (getL pl quB).1 = x2 at *
  generalize (getL pl quB).2 = qu at *
  generalize cmpO bm bs 1 0 = r at *
  clear k0 hv1 hp
  go_enter Tryz.func45, Tryz.ntmps45
  go_wp2_with fail
  refine (HRo.out _).mono ?_; rintro e w1 ⟨rfl, b1⟩
  have K1 := Lib.hid (trans9 K0.out b1)
  obtain ⟨q1, f1⟩ := bcell b1
  have x1 : w.heap.size < w1.heap.size := Nat.lt_of_lt_of_le (by simp) b1.size
  clear b1
  cases R with
  | false =>
    go_wp2
    go_ret
    exact ⟨by rw [HF.out]; first | rfl | simp, K1.out⟩
  | true =>
    go_wp2_with fail
    refine (HLb.out _ K1.out).mono ?_; rintro e w2 ⟨rfl, b2⟩
    have K2 := Lib.hid (trans9 K1.out b2)
    obtain ⟨q2, f2⟩ := bcell b2
    have x2 : w.heap.size < w2.heap.size := Nat.lt_of_lt_of_le x1 b2.size
    clear b2
    cases L with
    | false =>
      go_wp2
      go_ret
      exact ⟨by rw [HF.out]; first | rfl | simp, K2.out⟩
    | true =>
      go_wp2_with fail
      refine (HGv.out _).mono ?_; rintro e w3 ⟨rfl, b3⟩
      have K3 := Lib.hid (trans9 K2.out b3)
      obtain ⟨q3, f3⟩ := bcell b3
      have x3 : w.heap.size < w3.heap.size := Nat.lt_of_lt_of_le x2 b3.size
      clear b3
      cases G with
      | false =>
        go_wp2
        go_ret
        exact ⟨by rw [HF.out]; first | rfl | simp, K3.out⟩
      | true =>
        go_wp2_with fail
        refine (HGb.out _).mono ?_; rintro e w4 ⟨rfl, b4⟩
        have K4 := Lib.hid (trans9 K3.out b4)
        obtain ⟨q4, f4⟩ := bcell b4
        have x4 : w.heap.size < w4.heap.size := Nat.lt_of_lt_of_le x3 b4.size
        clear b4
        cases B with
        | false =>
          go_wp2
          go_ret
          exact ⟨by rw [HF.out]; first | rfl | simp, K4.out⟩
        | true =>
          by_cases hm : m < 0
          · have dm : decide (m < 0) = true := decide_eq_true hm
            rw [dm] at HF
            clear hm
            by_cases h2 : k = 2
            · have e2 : (k == 2) = true := by simpa using h2
              rw [decide_eq_true h2] at HF
              clear h2
              go_wp2
              go_ret
              exact ⟨by rw [HF.out]; first | rfl | simp, K4.out⟩
            · have e2 : (k == 2) = false := by simpa using h2
              rw [decide_eq_false h2] at HF
              clear h2
              go_wp2
              go_ret
              exact ⟨by rw [HF.out]; first | rfl | simp, K4.out⟩
          · have dm : decide (m < 0) = false := decide_eq_false hm
            rw [dm] at HF
            clear hm
            cases td with
            | false =>
              rw [TF.out] at HF
              by_cases hti : ti = 0
              · subst hti
                clear TF TT HI
                go_wp2_with fail
                refine (HI0.out _).mono ?_; rintro e w9 ⟨rfl, rfl⟩
                go_wp2_with fail
                refine (HGl.out _ (K4.out)).mono ?_; rintro e w9 ⟨rfl, rfl⟩
                go_wp2_with fail
                refine (HGq.out _ (K4.out)).mono ?_; rintro e w9 ⟨rfl, rfl⟩
                cases le <;> cases qu
                all_goals
                  go_wp2
                  go_ret
                  exact ⟨by rw [HF.out]; rfl, K4.out⟩
              · have dt : (ti == 0) = false := by simpa using hti
                have dn : (ti != 0) = true := by simpa using hti
                rw [decide_eq_false hti] at HF
                clear hti TF TT
                go_wp2
                go_ret
                exact ⟨by rw [HF.out]; first | rfl | simp, K4.out⟩
            | true =>
              rw [TT.out] at HF
              clear TF TT
              generalize isT ti = T at *
              cases T with
              | false =>
                go_wp2_with fail
                refine (HI.out _).mono ?_; rintro e w9 ⟨rfl, rfl⟩
                go_wp2
                go_ret
                exact ⟨by rw [HF.out]; first | rfl | simp, K4.out⟩
              | true =>
                go_wp2_with fail
                refine (HI.out _).mono ?_; rintro e w9 ⟨rfl, rfl⟩
                go_wp2_with fail
                refine (HGl.out _ (K4.out)).mono ?_; rintro e w9 ⟨rfl, rfl⟩
                go_wp2_with fail
                refine (HGq.out _ (K4.out)).mono ?_; rintro e w9 ⟨rfl, rfl⟩
                cases le <;> cases qu
                all_goals
                  go_wp2
                  go_ret
                  exact ⟨by rw [HF.out]; rfl, K4.out⟩

set_option maxHeartbeats 1000000 in
theorem rpt_1t (k : Int) (pl : List Lb) (bm bs m s : Int) (td : Bool) (ti : Int) : ptOk k ⟨pl, 1, true, bm, bs, m, s, td, ti⟩ = (memI (rolesL k) 1 && goodL pl && goodD m s && decide (bm = 0 ∧ bs = 0) && true && !(decide (m < 0) && (decide (k = 2) || true)) && timB td ti && !(getL pl leB).2) := by
  rw [rpt_is]
  unfold rptOk infOk hasB cntOf timOk
  try unfold timB
  simp
set_option maxHeartbeats 16000000 in
theorem rpoint_1t (k : Int) (v : Value) (pl : List Lb) (bm bs m s : Int) (td : Bool) (ti : Int) (w : World) (hv : LbRow w v pl) (hp : PtIn ⟨pl, 1, true, bm, bs, m, s, td, ti⟩) :
    Calls Tryz.prog 45 #[.int .i64 k, ptv v ⟨pl, 1, true, bm, bs, m, s, td, ti⟩] w fun e w' => e = .returned (.bool (ptOk k ⟨pl, 1, true, bm, bs, m, s, td, ti⟩)) ∧ Below w.heap.size w w' := by
  obtain ⟨X, hX⟩ : ∃ X, X = ptOk k ⟨pl, 1, true, bm, bs, m, s, td, ti⟩ := ⟨_, rfl⟩
  rw [← hX]
  rw [rpt_1t] at hX
  have HF := Lib.hid hX
  clear hX
  have HRo := Lib.hid (fun W => rhasrole_calls k 1 W)
  have HGv := Lib.hid (fun W => rgood_calls m s W)
  have HGb := Lib.hid (fun W => rgood_calls bm bs W)
  have HC := Lib.hid (fun W => rcmp_walk bm bs 1 0 W hp.bm1 hp.bm2 (by omega) (by omega))
  have HI := Lib.hid (fun W => risTime_calls ti W)
  have HI0 := Lib.hid (fun W => risTime_calls 0 W)
  rw [show isT 0 = true from rfl] at HI0
  have TF := Lib.hid (timB_f ti)
  have TT := Lib.hid (timB_t ti)
  have HN := fun W => neq_dec bm bs 0 0 W
  have k0 := kp_alloc (Below.refl w.heap.size w) (.cells (ptc v ⟨pl, 1, true, bm, bs, m, s, td, ti⟩) 46)
  have hv1 := hv.below k0
  have HLb := Lib.hid (fun W (hW : Below w.heap.size w W) => rlabels_calls pl v W (hv.below hW) hp.fit)
  have HGl := Lib.hid (fun W (hW : Below w.heap.size w W) => rget_calls pl v leB W (hv.below hW))
  have HGq := Lib.hid (fun W (hW : Below w.heap.size w W) => rget_calls pl v quB W (hv.below hW))
  rw [show str leB = ⟨#[108, 101]⟩ from rfl] at HGl
  rw [show str quB = ⟨#[113, 117, 97, 110, 116, 105, 108, 101]⟩ from rfl] at HGq
  dsimp only [ptv, ptc] at k0 ⊢
  obtain ⟨A, cap, rfl, _⟩ := hv
  have K0 := Lib.hid k0
  generalize pl.length = n at *
  generalize goodL pl = L at *
  generalize memI (rolesL k) 1 = R at *
  generalize goodD m s = G at *
  generalize goodD bm bs = B at *
  generalize decide (bm = 0 ∧ bs = 0) = E at *
  generalize (getL pl leB).1 = x1 at *
  generalize (getL pl leB).2 = le at *
  generalize (getL pl quB).1 = x2 at *
  generalize (getL pl quB).2 = qu at *
  generalize cmpO bm bs 1 0 = r at *
  clear k0 hv1 hp
  go_enter Tryz.func45, Tryz.ntmps45
  go_wp2_with fail
  refine (HRo.out _).mono ?_; rintro e w1 ⟨rfl, b1⟩
  have K1 := Lib.hid (trans9 K0.out b1)
  obtain ⟨q1, f1⟩ := bcell b1
  have x1 : w.heap.size < w1.heap.size := Nat.lt_of_lt_of_le (by simp) b1.size
  clear b1
  cases R with
  | false =>
    go_wp2
    go_ret
    exact ⟨by rw [HF.out]; first | rfl | simp, K1.out⟩
  | true =>
    go_wp2_with fail
    refine (HLb.out _ K1.out).mono ?_; rintro e w2 ⟨rfl, b2⟩
    have K2 := Lib.hid (trans9 K1.out b2)
    obtain ⟨q2, f2⟩ := bcell b2
    have x2 : w.heap.size < w2.heap.size := Nat.lt_of_lt_of_le x1 b2.size
    clear b2
    cases L with
    | false =>
      go_wp2
      go_ret
      exact ⟨by rw [HF.out]; first | rfl | simp, K2.out⟩
    | true =>
      go_wp2_with fail
      refine (HGv.out _).mono ?_; rintro e w3 ⟨rfl, b3⟩
      have K3 := Lib.hid (trans9 K2.out b3)
      obtain ⟨q3, f3⟩ := bcell b3
      have x3 : w.heap.size < w3.heap.size := Nat.lt_of_lt_of_le x2 b3.size
      clear b3
      cases G with
      | false =>
        go_wp2
        go_ret
        exact ⟨by rw [HF.out]; first | rfl | simp, K3.out⟩
      | true =>
        cases E with
        | false =>
          go_wp2
          go_ret
          exact ⟨by rw [HF.out]; first | rfl | simp, K3.out⟩
        | true =>
          by_cases hm : m < 0
          · have dm : decide (m < 0) = true := decide_eq_true hm
            rw [dm] at HF
            clear hm
            by_cases h2 : k = 2
            · have e2 : (k == 2) = true := by simpa using h2
              rw [decide_eq_true h2] at HF
              clear h2
              go_wp2
              go_ret
              exact ⟨by rw [HF.out]; first | rfl | simp, K3.out⟩
            · have e2 : (k == 2) = false := by simpa using h2
              rw [decide_eq_false h2] at HF
              clear h2
              go_wp2
              go_ret
              exact ⟨by rw [HF.out]; first | rfl | simp, K3.out⟩
          · have dm : decide (m < 0) = false := decide_eq_false hm
            rw [dm] at HF
            clear hm
            cases td with
            | false =>
              rw [TF.out] at HF
              by_cases hti : ti = 0
              · subst hti
                clear TF TT HI
                go_wp2_with fail
                refine (HI0.out _).mono ?_; rintro e w9 ⟨rfl, rfl⟩
                go_wp2_with fail
                refine (HGl.out _ (K3.out)).mono ?_; rintro e w9 ⟨rfl, rfl⟩
                go_wp2_with fail
                refine (HGq.out _ (K3.out)).mono ?_; rintro e w9 ⟨rfl, rfl⟩
                cases le <;> cases qu
                all_goals
                  go_wp2
                  go_ret
                  exact ⟨by rw [HF.out]; rfl, K3.out⟩
              · have dt : (ti == 0) = false := by simpa using hti
                have dn : (ti != 0) = true := by simpa using hti
                rw [decide_eq_false hti] at HF
                clear hti TF TT
                go_wp2
                go_ret
                exact ⟨by rw [HF.out]; first | rfl | simp, K3.out⟩
            | true =>
              rw [TT.out] at HF
              clear TF TT
              generalize isT ti = T at *
              cases T with
              | false =>
                go_wp2_with fail
                refine (HI.out _).mono ?_; rintro e w9 ⟨rfl, rfl⟩
                go_wp2
                go_ret
                exact ⟨by rw [HF.out]; first | rfl | simp, K3.out⟩
              | true =>
                go_wp2_with fail
                refine (HI.out _).mono ?_; rintro e w9 ⟨rfl, rfl⟩
                go_wp2_with fail
                refine (HGl.out _ (K3.out)).mono ?_; rintro e w9 ⟨rfl, rfl⟩
                go_wp2_with fail
                refine (HGq.out _ (K3.out)).mono ?_; rintro e w9 ⟨rfl, rfl⟩
                cases le <;> cases qu
                all_goals
                  go_wp2
                  go_ret
                  exact ⟨by rw [HF.out]; rfl, K3.out⟩

set_option maxHeartbeats 1000000 in
theorem rpt_2f (k : Int) (pl : List Lb) (bm bs m s : Int) (td : Bool) (ti : Int) : ptOk k ⟨pl, 2, false, bm, bs, m, s, td, ti⟩ = (memI (rolesL k) 2 && goodL pl && goodD m s && goodD bm bs && !(decide (bm < 0) || decide (0 < cmpO bm bs 1 0)) && !(decide (m < 0) && decide (k = 2)) && timB td ti && !(getL pl quB).2) := by
  rw [rpt_is]
  unfold rptOk infOk hasB cntOf timOk
  try unfold timB
  simp
set_option maxHeartbeats 16000000 in
theorem rpoint_2f (k : Int) (v : Value) (pl : List Lb) (bm bs m s : Int) (td : Bool) (ti : Int) (w : World) (hv : LbRow w v pl) (hp : PtIn ⟨pl, 2, false, bm, bs, m, s, td, ti⟩) :
    Calls Tryz.prog 45 #[.int .i64 k, ptv v ⟨pl, 2, false, bm, bs, m, s, td, ti⟩] w fun e w' => e = .returned (.bool (ptOk k ⟨pl, 2, false, bm, bs, m, s, td, ti⟩)) ∧ Below w.heap.size w w' := by
  obtain ⟨X, hX⟩ : ∃ X, X = ptOk k ⟨pl, 2, false, bm, bs, m, s, td, ti⟩ := ⟨_, rfl⟩
  rw [← hX]
  rw [rpt_2f] at hX
  have HF := Lib.hid hX
  clear hX
  have HRo := Lib.hid (fun W => rhasrole_calls k 2 W)
  have HGv := Lib.hid (fun W => rgood_calls m s W)
  have HGb := Lib.hid (fun W => rgood_calls bm bs W)
  have HC := Lib.hid (fun W => rcmp_walk bm bs 1 0 W hp.bm1 hp.bm2 (by omega) (by omega))
  have HI := Lib.hid (fun W => risTime_calls ti W)
  have HI0 := Lib.hid (fun W => risTime_calls 0 W)
  rw [show isT 0 = true from rfl] at HI0
  have TF := Lib.hid (timB_f ti)
  have TT := Lib.hid (timB_t ti)
  have HN := fun W => neq_dec bm bs 0 0 W
  have k0 := kp_alloc (Below.refl w.heap.size w) (.cells (ptc v ⟨pl, 2, false, bm, bs, m, s, td, ti⟩) 46)
  have hv1 := hv.below k0
  have HLb := Lib.hid (fun W (hW : Below w.heap.size w W) => rlabels_calls pl v W (hv.below hW) hp.fit)
  have HGl := Lib.hid (fun W (hW : Below w.heap.size w W) => rget_calls pl v leB W (hv.below hW))
  have HGq := Lib.hid (fun W (hW : Below w.heap.size w W) => rget_calls pl v quB W (hv.below hW))
  rw [show str leB = ⟨#[108, 101]⟩ from rfl] at HGl
  rw [show str quB = ⟨#[113, 117, 97, 110, 116, 105, 108, 101]⟩ from rfl] at HGq
  dsimp only [ptv, ptc] at k0 ⊢
  obtain ⟨A, cap, rfl, _⟩ := hv
  have K0 := Lib.hid k0
  generalize pl.length = n at *
  generalize goodL pl = L at *
  generalize memI (rolesL k) 2 = R at *
  generalize goodD m s = G at *
  generalize goodD bm bs = B at *
  generalize decide (bm = 0 ∧ bs = 0) = E at *
  generalize (getL pl leB).1 = x1 at *
  generalize (getL pl leB).2 = le at *
  generalize (getL pl quB).1 = x2 at *
  generalize (getL pl quB).2 = qu at *
  generalize cmpO bm bs 1 0 = r at *
  clear k0 hv1 hp
  go_enter Tryz.func45, Tryz.ntmps45
  go_wp2_with fail
  refine (HRo.out _).mono ?_; rintro e w1 ⟨rfl, b1⟩
  have K1 := Lib.hid (trans9 K0.out b1)
  obtain ⟨q1, f1⟩ := bcell b1
  have x1 : w.heap.size < w1.heap.size := Nat.lt_of_lt_of_le (by simp) b1.size
  clear b1
  cases R with
  | false =>
    go_wp2
    go_ret
    exact ⟨by rw [HF.out]; first | rfl | simp, K1.out⟩
  | true =>
    go_wp2_with fail
    refine (HLb.out _ K1.out).mono ?_; rintro e w2 ⟨rfl, b2⟩
    have K2 := Lib.hid (trans9 K1.out b2)
    obtain ⟨q2, f2⟩ := bcell b2
    have x2 : w.heap.size < w2.heap.size := Nat.lt_of_lt_of_le x1 b2.size
    clear b2
    cases L with
    | false =>
      go_wp2
      go_ret
      exact ⟨by rw [HF.out]; first | rfl | simp, K2.out⟩
    | true =>
      go_wp2_with fail
      refine (HGv.out _).mono ?_; rintro e w3 ⟨rfl, b3⟩
      have K3 := Lib.hid (trans9 K2.out b3)
      obtain ⟨q3, f3⟩ := bcell b3
      have x3 : w.heap.size < w3.heap.size := Nat.lt_of_lt_of_le x2 b3.size
      clear b3
      cases G with
      | false =>
        go_wp2
        go_ret
        exact ⟨by rw [HF.out]; first | rfl | simp, K3.out⟩
      | true =>
        go_wp2_with fail
        refine (HGb.out _).mono ?_; rintro e w4 ⟨rfl, b4⟩
        have K4 := Lib.hid (trans9 K3.out b4)
        obtain ⟨q4, f4⟩ := bcell b4
        have x4 : w.heap.size < w4.heap.size := Nat.lt_of_lt_of_le x3 b4.size
        clear b4
        cases B with
        | false =>
          go_wp2
          go_ret
          exact ⟨by rw [HF.out]; first | rfl | simp, K4.out⟩
        | true =>
          by_cases hb : bm < 0
          · have db : decide (bm < 0) = true := decide_eq_true hb
            rw [db] at HF
            clear hb
            go_wp2
            go_ret
            exact ⟨by rw [HF.out]; first | rfl | simp, K4.out⟩
          · have db : decide (bm < 0) = false := decide_eq_false hb
            rw [db] at HF
            clear hb
            go_wp2_with fail
            refine (HC.out _).mono ?_; rintro e w5 ⟨rfl, b5⟩
            have K5 := Lib.hid (trans9 K4.out b5)
            obtain ⟨q5, f5⟩ := bcell b5
            have x5 : w.heap.size < w5.heap.size := Nat.lt_of_lt_of_le x4 b5.size
            clear b5
            by_cases hr : 0 < r
            · have dr : decide (0 < r) = true := decide_eq_true hr
              rw [dr] at HF
              clear hr
              go_wp2
              go_ret
              exact ⟨by rw [HF.out]; first | rfl | simp, K5.out⟩
            · have dr : decide (0 < r) = false := decide_eq_false hr
              rw [dr] at HF
              clear hr
              by_cases hm : m < 0
              · have dm : decide (m < 0) = true := decide_eq_true hm
                rw [dm] at HF
                clear hm
                by_cases h2 : k = 2
                · have e2 : (k == 2) = true := by simpa using h2
                  rw [decide_eq_true h2] at HF
                  clear h2
                  go_wp2
                  go_ret
                  exact ⟨by rw [HF.out]; first | rfl | simp, K5.out⟩
                · have e2 : (k == 2) = false := by simpa using h2
                  rw [decide_eq_false h2] at HF
                  clear h2
                  cases td with
                  | false =>
                    rw [TF.out] at HF
                    by_cases hti : ti = 0
                    · subst hti
                      clear TF TT HI
                      go_wp2_with fail
                      refine (HI0.out _).mono ?_; rintro e w9 ⟨rfl, rfl⟩
                      go_wp2_with fail
                      refine (HGl.out _ (K5.out)).mono ?_; rintro e w9 ⟨rfl, rfl⟩
                      go_wp2_with fail
                      refine (HGq.out _ (K5.out)).mono ?_; rintro e w9 ⟨rfl, rfl⟩
                      cases le <;> cases qu
                      all_goals
                        go_wp2
                        go_ret
                        exact ⟨by rw [HF.out]; rfl, K5.out⟩
                    · have dt : (ti == 0) = false := by simpa using hti
                      have dn : (ti != 0) = true := by simpa using hti
                      rw [decide_eq_false hti] at HF
                      clear hti TF TT
                      go_wp2
                      go_ret
                      exact ⟨by rw [HF.out]; first | rfl | simp, K5.out⟩
                  | true =>
                    rw [TT.out] at HF
                    clear TF TT
                    generalize isT ti = T at *
                    cases T with
                    | false =>
                      go_wp2_with fail
                      refine (HI.out _).mono ?_; rintro e w9 ⟨rfl, rfl⟩
                      go_wp2
                      go_ret
                      exact ⟨by rw [HF.out]; first | rfl | simp, K5.out⟩
                    | true =>
                      go_wp2_with fail
                      refine (HI.out _).mono ?_; rintro e w9 ⟨rfl, rfl⟩
                      go_wp2_with fail
                      refine (HGl.out _ (K5.out)).mono ?_; rintro e w9 ⟨rfl, rfl⟩
                      go_wp2_with fail
                      refine (HGq.out _ (K5.out)).mono ?_; rintro e w9 ⟨rfl, rfl⟩
                      cases le <;> cases qu
                      all_goals
                        go_wp2
                        go_ret
                        exact ⟨by rw [HF.out]; rfl, K5.out⟩
              · have dm : decide (m < 0) = false := decide_eq_false hm
                rw [dm] at HF
                clear hm
                cases td with
                | false =>
                  rw [TF.out] at HF
                  by_cases hti : ti = 0
                  · subst hti
                    clear TF TT HI
                    go_wp2_with fail
                    refine (HI0.out _).mono ?_; rintro e w9 ⟨rfl, rfl⟩
                    go_wp2_with fail
                    refine (HGl.out _ (K5.out)).mono ?_; rintro e w9 ⟨rfl, rfl⟩
                    go_wp2_with fail
                    refine (HGq.out _ (K5.out)).mono ?_; rintro e w9 ⟨rfl, rfl⟩
                    cases le <;> cases qu
                    all_goals
                      go_wp2
                      go_ret
                      exact ⟨by rw [HF.out]; rfl, K5.out⟩
                  · have dt : (ti == 0) = false := by simpa using hti
                    have dn : (ti != 0) = true := by simpa using hti
                    rw [decide_eq_false hti] at HF
                    clear hti TF TT
                    go_wp2
                    go_ret
                    exact ⟨by rw [HF.out]; first | rfl | simp, K5.out⟩
                | true =>
                  rw [TT.out] at HF
                  clear TF TT
                  generalize isT ti = T at *
                  cases T with
                  | false =>
                    go_wp2_with fail
                    refine (HI.out _).mono ?_; rintro e w9 ⟨rfl, rfl⟩
                    go_wp2
                    go_ret
                    exact ⟨by rw [HF.out]; first | rfl | simp, K5.out⟩
                  | true =>
                    go_wp2_with fail
                    refine (HI.out _).mono ?_; rintro e w9 ⟨rfl, rfl⟩
                    go_wp2_with fail
                    refine (HGl.out _ (K5.out)).mono ?_; rintro e w9 ⟨rfl, rfl⟩
                    go_wp2_with fail
                    refine (HGq.out _ (K5.out)).mono ?_; rintro e w9 ⟨rfl, rfl⟩
                    cases le <;> cases qu
                    all_goals
                      go_wp2
                      go_ret
                      exact ⟨by rw [HF.out]; rfl, K5.out⟩

set_option maxHeartbeats 1000000 in
theorem rpt_2t (k : Int) (pl : List Lb) (bm bs m s : Int) (td : Bool) (ti : Int) : ptOk k ⟨pl, 2, true, bm, bs, m, s, td, ti⟩ = (memI (rolesL k) 2 && goodL pl && false) := by
  rw [rpt_is]
  unfold rptOk infOk hasB cntOf timOk
  try unfold timB
  simp
set_option maxHeartbeats 16000000 in
theorem rpoint_2t (k : Int) (v : Value) (pl : List Lb) (bm bs m s : Int) (td : Bool) (ti : Int) (w : World) (hv : LbRow w v pl) (hp : PtIn ⟨pl, 2, true, bm, bs, m, s, td, ti⟩) :
    Calls Tryz.prog 45 #[.int .i64 k, ptv v ⟨pl, 2, true, bm, bs, m, s, td, ti⟩] w fun e w' => e = .returned (.bool (ptOk k ⟨pl, 2, true, bm, bs, m, s, td, ti⟩)) ∧ Below w.heap.size w w' := by
  obtain ⟨X, hX⟩ : ∃ X, X = ptOk k ⟨pl, 2, true, bm, bs, m, s, td, ti⟩ := ⟨_, rfl⟩
  rw [← hX]
  rw [rpt_2t] at hX
  have HF := Lib.hid hX
  clear hX
  have HRo := Lib.hid (fun W => rhasrole_calls k 2 W)
  have HGv := Lib.hid (fun W => rgood_calls m s W)
  have HGb := Lib.hid (fun W => rgood_calls bm bs W)
  have HC := Lib.hid (fun W => rcmp_walk bm bs 1 0 W hp.bm1 hp.bm2 (by omega) (by omega))
  have HI := Lib.hid (fun W => risTime_calls ti W)
  have HI0 := Lib.hid (fun W => risTime_calls 0 W)
  rw [show isT 0 = true from rfl] at HI0
  have TF := Lib.hid (timB_f ti)
  have TT := Lib.hid (timB_t ti)
  have HN := fun W => neq_dec bm bs 0 0 W
  have k0 := kp_alloc (Below.refl w.heap.size w) (.cells (ptc v ⟨pl, 2, true, bm, bs, m, s, td, ti⟩) 46)
  have hv1 := hv.below k0
  have HLb := Lib.hid (fun W (hW : Below w.heap.size w W) => rlabels_calls pl v W (hv.below hW) hp.fit)
  have HGl := Lib.hid (fun W (hW : Below w.heap.size w W) => rget_calls pl v leB W (hv.below hW))
  have HGq := Lib.hid (fun W (hW : Below w.heap.size w W) => rget_calls pl v quB W (hv.below hW))
  rw [show str leB = ⟨#[108, 101]⟩ from rfl] at HGl
  rw [show str quB = ⟨#[113, 117, 97, 110, 116, 105, 108, 101]⟩ from rfl] at HGq
  dsimp only [ptv, ptc] at k0 ⊢
  obtain ⟨A, cap, rfl, _⟩ := hv
  have K0 := Lib.hid k0
  generalize pl.length = n at *
  generalize goodL pl = L at *
  generalize memI (rolesL k) 2 = R at *
  generalize goodD m s = G at *
  generalize goodD bm bs = B at *
  generalize decide (bm = 0 ∧ bs = 0) = E at *
  generalize (getL pl leB).1 = x1 at *
  generalize (getL pl leB).2 = le at *
  generalize (getL pl quB).1 = x2 at *
  generalize (getL pl quB).2 = qu at *
  generalize cmpO bm bs 1 0 = r at *
  clear k0 hv1 hp
  go_enter Tryz.func45, Tryz.ntmps45
  go_wp2_with fail
  refine (HRo.out _).mono ?_; rintro e w1 ⟨rfl, b1⟩
  have K1 := Lib.hid (trans9 K0.out b1)
  obtain ⟨q1, f1⟩ := bcell b1
  have x1 : w.heap.size < w1.heap.size := Nat.lt_of_lt_of_le (by simp) b1.size
  clear b1
  cases R with
  | false =>
    go_wp2
    go_ret
    exact ⟨by rw [HF.out]; first | rfl | simp, K1.out⟩
  | true =>
    go_wp2_with fail
    refine (HLb.out _ K1.out).mono ?_; rintro e w2 ⟨rfl, b2⟩
    have K2 := Lib.hid (trans9 K1.out b2)
    obtain ⟨q2, f2⟩ := bcell b2
    have x2 : w.heap.size < w2.heap.size := Nat.lt_of_lt_of_le x1 b2.size
    clear b2
    cases L with
    | false =>
      go_wp2
      go_ret
      exact ⟨by rw [HF.out]; first | rfl | simp, K2.out⟩
    | true =>
      go_wp2
      go_ret
      exact ⟨by rw [HF.out]; first | rfl | simp, K2.out⟩

set_option maxHeartbeats 1000000 in
theorem rpt_of (k : Int) (pl : List Lb) (ro : Int) (bm bs m s : Int) (td : Bool) (ti : Int) (h1 : ¬ ro = 1) (h2 : ¬ ro = 2) : ptOk k ⟨pl, ro, false, bm, bs, m, s, td, ti⟩ = (memI (rolesL k) ro && goodL pl && goodD m s && decide (bm = 0 ∧ bs = 0) && true && !(decide (m < 0) && (decide (k = 2) || decide (ro = 3))) && timB td ti && true) := by
  rw [rpt_is]
  unfold rptOk infOk hasB cntOf timOk
  try unfold timB
  simp [h1, h2]
set_option maxHeartbeats 16000000 in
theorem rpoint_of (k : Int) (v : Value) (pl : List Lb) (ro : Int) (bm bs m s : Int) (td : Bool) (ti : Int) (w : World) (hv : LbRow w v pl) (hp : PtIn ⟨pl, ro, false, bm, bs, m, s, td, ti⟩) (h1 : ¬ ro = 1) (h2 : ¬ ro = 2) :
    Calls Tryz.prog 45 #[.int .i64 k, ptv v ⟨pl, ro, false, bm, bs, m, s, td, ti⟩] w fun e w' => e = .returned (.bool (ptOk k ⟨pl, ro, false, bm, bs, m, s, td, ti⟩)) ∧ Below w.heap.size w w' := by
  obtain ⟨X, hX⟩ : ∃ X, X = ptOk k ⟨pl, ro, false, bm, bs, m, s, td, ti⟩ := ⟨_, rfl⟩
  rw [← hX]
  rw [rpt_of _ _ _ _ _ _ _ _ _ h1 h2] at hX
  have HF := Lib.hid hX
  clear hX
  have HRo := Lib.hid (fun W => rhasrole_calls k ro W)
  have HGv := Lib.hid (fun W => rgood_calls m s W)
  have HGb := Lib.hid (fun W => rgood_calls bm bs W)
  have HC := Lib.hid (fun W => rcmp_walk bm bs 1 0 W hp.bm1 hp.bm2 (by omega) (by omega))
  have HI := Lib.hid (fun W => risTime_calls ti W)
  have HI0 := Lib.hid (fun W => risTime_calls 0 W)
  rw [show isT 0 = true from rfl] at HI0
  have TF := Lib.hid (timB_f ti)
  have TT := Lib.hid (timB_t ti)
  have HN := fun W => neq_dec bm bs 0 0 W
  have k0 := kp_alloc (Below.refl w.heap.size w) (.cells (ptc v ⟨pl, ro, false, bm, bs, m, s, td, ti⟩) 46)
  have hv1 := hv.below k0
  have HLb := Lib.hid (fun W (hW : Below w.heap.size w W) => rlabels_calls pl v W (hv.below hW) hp.fit)
  have HGl := Lib.hid (fun W (hW : Below w.heap.size w W) => rget_calls pl v leB W (hv.below hW))
  have HGq := Lib.hid (fun W (hW : Below w.heap.size w W) => rget_calls pl v quB W (hv.below hW))
  rw [show str leB = ⟨#[108, 101]⟩ from rfl] at HGl
  rw [show str quB = ⟨#[113, 117, 97, 110, 116, 105, 108, 101]⟩ from rfl] at HGq
  dsimp only [ptv, ptc] at k0 ⊢
  obtain ⟨A, cap, rfl, _⟩ := hv
  have K0 := Lib.hid k0
  generalize pl.length = n at *
  generalize goodL pl = L at *
  generalize memI (rolesL k) ro = R at *
  generalize goodD m s = G at *
  generalize goodD bm bs = B at *
  generalize decide (bm = 0 ∧ bs = 0) = E at *
  generalize (getL pl leB).1 = x1 at *
  generalize (getL pl leB).2 = le at *
  generalize (getL pl quB).1 = x2 at *
  generalize (getL pl quB).2 = qu at *
  generalize cmpO bm bs 1 0 = r at *
  clear k0 hv1 hp
  have e1 : (ro == 1) = false := by simpa using h1
  have e1n : (ro != 1) = true := by simpa using h1
  have e2r : (ro == 2) = false := by simpa using h2
  clear h1 h2
  go_enter Tryz.func45, Tryz.ntmps45
  go_wp2_with fail
  refine (HRo.out _).mono ?_; rintro e w1 ⟨rfl, b1⟩
  have K1 := Lib.hid (trans9 K0.out b1)
  obtain ⟨q1, f1⟩ := bcell b1
  have x1 : w.heap.size < w1.heap.size := Nat.lt_of_lt_of_le (by simp) b1.size
  clear b1
  cases R with
  | false =>
    go_wp2
    go_ret
    exact ⟨by rw [HF.out]; first | rfl | simp, K1.out⟩
  | true =>
    go_wp2_with fail
    refine (HLb.out _ K1.out).mono ?_; rintro e w2 ⟨rfl, b2⟩
    have K2 := Lib.hid (trans9 K1.out b2)
    obtain ⟨q2, f2⟩ := bcell b2
    have x2 : w.heap.size < w2.heap.size := Nat.lt_of_lt_of_le x1 b2.size
    clear b2
    cases L with
    | false =>
      go_wp2
      go_ret
      exact ⟨by rw [HF.out]; first | rfl | simp, K2.out⟩
    | true =>
      go_wp2_with fail
      refine (HGv.out _).mono ?_; rintro e w3 ⟨rfl, b3⟩
      have K3 := Lib.hid (trans9 K2.out b3)
      obtain ⟨q3, f3⟩ := bcell b3
      have x3 : w.heap.size < w3.heap.size := Nat.lt_of_lt_of_le x2 b3.size
      clear b3
      cases G with
      | false =>
        go_wp2
        go_ret
        exact ⟨by rw [HF.out]; first | rfl | simp, K3.out⟩
      | true =>
        cases E with
        | false =>
          go_wp2
          go_ret
          exact ⟨by rw [HF.out]; first | rfl | simp, K3.out⟩
        | true =>
          by_cases hm : m < 0
          · have dm : decide (m < 0) = true := decide_eq_true hm
            rw [dm] at HF
            clear hm
            by_cases h2 : k = 2
            · have e2 : (k == 2) = true := by simpa using h2
              rw [decide_eq_true h2] at HF
              clear h2
              go_wp2
              go_ret
              exact ⟨by rw [HF.out]; first | rfl | simp, K3.out⟩
            · have e2 : (k == 2) = false := by simpa using h2
              rw [decide_eq_false h2] at HF
              clear h2
              by_cases h3 : ro = 3
              · have e3 : (ro == 3) = true := by simpa using h3
                rw [decide_eq_true h3] at HF
                clear h3
                go_wp2
                go_ret
                exact ⟨by rw [HF.out]; first | rfl | simp, K3.out⟩
              · have e3 : (ro == 3) = false := by simpa using h3
                rw [decide_eq_false h3] at HF
                clear h3
                cases td with
                | false =>
                  rw [TF.out] at HF
                  by_cases hti : ti = 0
                  · subst hti
                    clear TF TT HI
                    go_wp2_with fail
                    refine (HI0.out _).mono ?_; rintro e w9 ⟨rfl, rfl⟩
                    go_wp2_with fail
                    refine (HGl.out _ (K3.out)).mono ?_; rintro e w9 ⟨rfl, rfl⟩
                    go_wp2_with fail
                    refine (HGq.out _ (K3.out)).mono ?_; rintro e w9 ⟨rfl, rfl⟩
                    cases le <;> cases qu
                    all_goals
                      go_wp2
                      go_ret
                      exact ⟨by rw [HF.out]; rfl, K3.out⟩
                  · have dt : (ti == 0) = false := by simpa using hti
                    have dn : (ti != 0) = true := by simpa using hti
                    rw [decide_eq_false hti] at HF
                    clear hti TF TT
                    go_wp2
                    go_ret
                    exact ⟨by rw [HF.out]; first | rfl | simp, K3.out⟩
                | true =>
                  rw [TT.out] at HF
                  clear TF TT
                  generalize isT ti = T at *
                  cases T with
                  | false =>
                    go_wp2_with fail
                    refine (HI.out _).mono ?_; rintro e w9 ⟨rfl, rfl⟩
                    go_wp2
                    go_ret
                    exact ⟨by rw [HF.out]; first | rfl | simp, K3.out⟩
                  | true =>
                    go_wp2_with fail
                    refine (HI.out _).mono ?_; rintro e w9 ⟨rfl, rfl⟩
                    go_wp2_with fail
                    refine (HGl.out _ (K3.out)).mono ?_; rintro e w9 ⟨rfl, rfl⟩
                    go_wp2_with fail
                    refine (HGq.out _ (K3.out)).mono ?_; rintro e w9 ⟨rfl, rfl⟩
                    cases le <;> cases qu
                    all_goals
                      go_wp2
                      go_ret
                      exact ⟨by rw [HF.out]; rfl, K3.out⟩
          · have dm : decide (m < 0) = false := decide_eq_false hm
            rw [dm] at HF
            clear hm
            cases td with
            | false =>
              rw [TF.out] at HF
              by_cases hti : ti = 0
              · subst hti
                clear TF TT HI
                go_wp2_with fail
                refine (HI0.out _).mono ?_; rintro e w9 ⟨rfl, rfl⟩
                go_wp2_with fail
                refine (HGl.out _ (K3.out)).mono ?_; rintro e w9 ⟨rfl, rfl⟩
                go_wp2_with fail
                refine (HGq.out _ (K3.out)).mono ?_; rintro e w9 ⟨rfl, rfl⟩
                cases le <;> cases qu
                all_goals
                  go_wp2
                  go_ret
                  exact ⟨by rw [HF.out]; rfl, K3.out⟩
              · have dt : (ti == 0) = false := by simpa using hti
                have dn : (ti != 0) = true := by simpa using hti
                rw [decide_eq_false hti] at HF
                clear hti TF TT
                go_wp2
                go_ret
                exact ⟨by rw [HF.out]; first | rfl | simp, K3.out⟩
            | true =>
              rw [TT.out] at HF
              clear TF TT
              generalize isT ti = T at *
              cases T with
              | false =>
                go_wp2_with fail
                refine (HI.out _).mono ?_; rintro e w9 ⟨rfl, rfl⟩
                go_wp2
                go_ret
                exact ⟨by rw [HF.out]; first | rfl | simp, K3.out⟩
              | true =>
                go_wp2_with fail
                refine (HI.out _).mono ?_; rintro e w9 ⟨rfl, rfl⟩
                go_wp2_with fail
                refine (HGl.out _ (K3.out)).mono ?_; rintro e w9 ⟨rfl, rfl⟩
                go_wp2_with fail
                refine (HGq.out _ (K3.out)).mono ?_; rintro e w9 ⟨rfl, rfl⟩
                cases le <;> cases qu
                all_goals
                  go_wp2
                  go_ret
                  exact ⟨by rw [HF.out]; rfl, K3.out⟩

set_option maxHeartbeats 1000000 in
theorem rpt_ot (k : Int) (pl : List Lb) (ro : Int) (bm bs m s : Int) (td : Bool) (ti : Int) (h1 : ¬ ro = 1) : ptOk k ⟨pl, ro, true, bm, bs, m, s, td, ti⟩ = (memI (rolesL k) ro && goodL pl && false) := by
  rw [rpt_is]
  unfold rptOk infOk hasB cntOf timOk
  try unfold timB
  simp [h1]
set_option maxHeartbeats 16000000 in
theorem rpoint_ot (k : Int) (v : Value) (pl : List Lb) (ro : Int) (bm bs m s : Int) (td : Bool) (ti : Int) (w : World) (hv : LbRow w v pl) (hp : PtIn ⟨pl, ro, true, bm, bs, m, s, td, ti⟩) (h1 : ¬ ro = 1) :
    Calls Tryz.prog 45 #[.int .i64 k, ptv v ⟨pl, ro, true, bm, bs, m, s, td, ti⟩] w fun e w' => e = .returned (.bool (ptOk k ⟨pl, ro, true, bm, bs, m, s, td, ti⟩)) ∧ Below w.heap.size w w' := by
  obtain ⟨X, hX⟩ : ∃ X, X = ptOk k ⟨pl, ro, true, bm, bs, m, s, td, ti⟩ := ⟨_, rfl⟩
  rw [← hX]
  rw [rpt_ot _ _ _ _ _ _ _ _ _ h1] at hX
  have HF := Lib.hid hX
  clear hX
  have HRo := Lib.hid (fun W => rhasrole_calls k ro W)
  have HGv := Lib.hid (fun W => rgood_calls m s W)
  have HGb := Lib.hid (fun W => rgood_calls bm bs W)
  have HC := Lib.hid (fun W => rcmp_walk bm bs 1 0 W hp.bm1 hp.bm2 (by omega) (by omega))
  have HI := Lib.hid (fun W => risTime_calls ti W)
  have HI0 := Lib.hid (fun W => risTime_calls 0 W)
  rw [show isT 0 = true from rfl] at HI0
  have TF := Lib.hid (timB_f ti)
  have TT := Lib.hid (timB_t ti)
  have HN := fun W => neq_dec bm bs 0 0 W
  have k0 := kp_alloc (Below.refl w.heap.size w) (.cells (ptc v ⟨pl, ro, true, bm, bs, m, s, td, ti⟩) 46)
  have hv1 := hv.below k0
  have HLb := Lib.hid (fun W (hW : Below w.heap.size w W) => rlabels_calls pl v W (hv.below hW) hp.fit)
  have HGl := Lib.hid (fun W (hW : Below w.heap.size w W) => rget_calls pl v leB W (hv.below hW))
  have HGq := Lib.hid (fun W (hW : Below w.heap.size w W) => rget_calls pl v quB W (hv.below hW))
  rw [show str leB = ⟨#[108, 101]⟩ from rfl] at HGl
  rw [show str quB = ⟨#[113, 117, 97, 110, 116, 105, 108, 101]⟩ from rfl] at HGq
  dsimp only [ptv, ptc] at k0 ⊢
  obtain ⟨A, cap, rfl, _⟩ := hv
  have K0 := Lib.hid k0
  generalize pl.length = n at *
  generalize goodL pl = L at *
  generalize memI (rolesL k) ro = R at *
  generalize goodD m s = G at *
  generalize goodD bm bs = B at *
  generalize decide (bm = 0 ∧ bs = 0) = E at *
  generalize (getL pl leB).1 = x1 at *
  generalize (getL pl leB).2 = le at *
  generalize (getL pl quB).1 = x2 at *
  generalize (getL pl quB).2 = qu at *
  generalize cmpO bm bs 1 0 = r at *
  clear k0 hv1 hp
  have e1 : (ro == 1) = false := by simpa using h1
  have e1n : (ro != 1) = true := by simpa using h1
  clear h1
  go_enter Tryz.func45, Tryz.ntmps45
  go_wp2_with fail
  refine (HRo.out _).mono ?_; rintro e w1 ⟨rfl, b1⟩
  have K1 := Lib.hid (trans9 K0.out b1)
  obtain ⟨q1, f1⟩ := bcell b1
  have x1 : w.heap.size < w1.heap.size := Nat.lt_of_lt_of_le (by simp) b1.size
  clear b1
  cases R with
  | false =>
    go_wp2
    go_ret
    exact ⟨by rw [HF.out]; first | rfl | simp, K1.out⟩
  | true =>
    go_wp2_with fail
    refine (HLb.out _ K1.out).mono ?_; rintro e w2 ⟨rfl, b2⟩
    have K2 := Lib.hid (trans9 K1.out b2)
    obtain ⟨q2, f2⟩ := bcell b2
    have x2 : w.heap.size < w2.heap.size := Nat.lt_of_lt_of_le x1 b2.size
    clear b2
    cases L with
    | false =>
      go_wp2
      go_ret
      exact ⟨by rw [HF.out]; first | rfl | simp, K2.out⟩
    | true =>
      go_wp2
      go_ret
      exact ⟨by rw [HF.out]; first | rfl | simp, K2.out⟩

theorem rpoint_calls (k : Int) (v : Value) (p : Pt) (w : World) (hv : LbRow w v p.l) (hp : PtIn p) :
    Calls Tryz.prog 45 #[.int .i64 k, ptv v p] w fun e w' => e = .returned (.bool (ptOk k p)) ∧ Below w.heap.size w w' := by
  obtain ⟨pl, ro, inf, bm, bs, m, s, td, ti⟩ := p
  by_cases h1 : ro = 1
  · subst h1
    cases inf
    · exact rpoint_1f k v pl bm bs m s td ti w hv hp
    · exact rpoint_1t k v pl bm bs m s td ti w hv hp
  · by_cases h2 : ro = 2
    · subst h2
      cases inf
      · exact rpoint_2f k v pl bm bs m s td ti w hv hp
      · exact rpoint_2t k v pl bm bs m s td ti w hv hp
    · cases inf
      · exact rpoint_of k v pl ro bm bs m s td ti w hv hp h1 h2
      · exact rpoint_ot k v pl ro bm bs m s td ti w hv hp h1

end Go.Proofs.YtgoibhbmndpgpaaGreatDoor
