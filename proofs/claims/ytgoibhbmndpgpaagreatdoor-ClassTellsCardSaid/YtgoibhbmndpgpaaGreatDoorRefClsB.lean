/- The walks of the reference's labels (with their values), family (layer 16). -/
import Derived.Test.YtgoibhbmndpgpaaGreatDoorRefClsU
import Derived.Test.YtgoibhbmndpgpaaGreatDoorRefChW
set_option maxRecDepth 100000
set_option linter.unusedVariables false
set_option linter.unusedSimpArgs false
namespace Go.Proofs.YtgoibhbmndpgpaaGreatDoor
open Go.RowKit Go.Sort Dc
attribute [local go_sem ↓] Go.wp_at_zero Go.wp_at_succ

set_option maxHeartbeats 8000000 in
theorem rlabv_calls (p : Int) (l : List Lb) (v : Value) (w : World) (hv : LbRow w v l) (hf : Fit l) :
    Calls Tryz.prog 39 #[.int .i64 p, v, .bool true] w fun e w' => e = .returned (.bool (Kl.labs p l)) ∧ w = w' := by
  obtain ⟨A, cap, rfl, hlc, hcm, hnil, hrow⟩ := hv
  unfold maxLen at hcm
  have HR := Lib.hid hrow
  have HF := Lib.hid hf
  clear hrow hf hnil
  go_enter Tryz.func39, Tryz.ntmps39
  go_wp2_with fail
  go_loop [7] (fun v => ∃ k : Nat, k ≤ l.length ∧ v = .int .i64 (k : Nat) ∧ Hid (∀ y ∈ l.take k, Kl.lab p y = true)) (fun v => l.length - (intOf v).toNat)
  case atStart => exact ⟨0, Nat.zero_le _, rfl, Lib.hid (fun y hy => by cases hy)⟩
  case round =>
    obtain ⟨k, hk, rfl, H⟩ := hrel
    by_cases hkl : k < l.length
    · obtain ⟨b, off, rfl, hbs, hc⟩ := HR.out (by omega)
      obtain ⟨c0, c1⟩ := hc k (lbAt l k) (at_get hkl)
      have hcl := Lib.hid (fun W => risc_calls p 1 (lbAt l k).1 W (HF.out (lbAt l k) (at_mem hkl)).1)
      have hvl := Lib.hid (fun W => rval16_calls p (lbAt l k).2 W (HF.out (lbAt l k) (at_mem hkl)).2)
      have hno := Lib.hid (fun (h : Kl.lab p (lbAt l k) = false) => show Kl.labs p l = false from Lg.all_no (at_mem hkl) h)
      have hnx := Lib.hid (fun (h : Kl.lab p (lbAt l k) = true) => Lg.all_take (P := fun y : Lb => Kl.lab p y = true) H.out (at_get hkl) h)
      generalize lbAt l k = X at *
      obtain ⟨X1, X2⟩ := X
      simp only at c0 c1 hcl hvl hno hnx
      clear hc
      cases hN : Ch.isName p 1 X1
      · rw [hN] at hcl
        have hn := Lib.hid (hno.out (by unfold Kl.lab; rw [hN]; rfl))
        clear hnx hno hvl
        go_wp2_with fail
        refine (hcl.out _).mono ?_; rintro e w1 ⟨rfl, rfl⟩
        go_wp2
        go_ret
        exact ⟨by rw [hn.out]; rfl, rfl⟩
      rw [hN] at hcl
      cases hV : Kl.val p X2
      · rw [hV] at hvl
        have hn := Lib.hid (hno.out (by unfold Kl.lab; rw [hN, hV]; rfl))
        clear hnx hno
        go_wp2_with fail
        refine (hcl.out _).mono ?_; rintro e w1 ⟨rfl, rfl⟩
        go_wp2_with fail
        refine (hvl.out _).mono ?_; rintro e w1 ⟨rfl, rfl⟩
        go_wp2
        go_ret
        exact ⟨by rw [hn.out]; rfl, rfl⟩
      · rw [hV] at hvl
        have hn := Lib.hid (hnx.out (by unfold Kl.lab; rw [hN, hV]; rfl))
        clear hnx hno
        go_wp2_with fail
        refine (hcl.out _).mono ?_; rintro e w1 ⟨rfl, rfl⟩
        go_wp2_with fail
        refine (hvl.out _).mono ?_; rintro e w1 ⟨rfl, rfl⟩
        go_wp2
        go_round
        case rel => exact ⟨k + 1, hkl, by go_num, hn.out⟩
        case measure => simp [intOf]; omega
    · have hn := Lib.hid (show Kl.labs p l = true from Lg.all_yes (Lg.all_full H.out (by omega)))
      go_wp2
      go_ret
      exact ⟨by rw [hn.out]; rfl, rfl⟩

end Go.Proofs.YtgoibhbmndpgpaaGreatDoor
