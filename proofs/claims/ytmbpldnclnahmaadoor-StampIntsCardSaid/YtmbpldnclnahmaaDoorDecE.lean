/- The walks of package dec's split, number and Parse. -/
import Derived.Test.YtmbpldnclnahmaaDoorDecC
import Derived.Deep.DeepCutAuto
set_option linter.unusedVariables false
set_option linter.unusedSimpArgs false
namespace Go.Proofs.YtmbpldnclnahmaaDoor
open Go.RowKit Dc

/-- what split tells -/
def cutV : Cut → Value
  | .bad n => .tuple #[.agg #[.bool false, .string ⟨#[]⟩, .string ⟨#[]⟩], .int .i64 (n : Nat), .bool false]
  | .ok neg d e => .tuple #[.agg #[.bool neg, .string (str d), .string (str e)], .int .i64 0, .bool true]
theorem cut_head (l : List UInt8) : (str l).extract (sg l) (pt l) = str ((l.drop (sg l)).takeWhile dg) :=
  str_ext (by rw [ext_list]; unfold pt; show (l.take _).drop _ = _; rw [List.drop_take, Nat.add_sub_cancel_left, dgN_take])
theorem cut_tail (l : List UInt8) : (str l).extract (pt l + 1) (en l) = str ((l.drop (pt l + 1)).takeWhile dg) :=
  str_ext (by rw [ext_list]; unfold en; show (l.take _).drop _ = _; rw [List.drop_take, Nat.add_sub_cancel_left, dgN_take])

set_option maxRecDepth 100000 in
set_option maxHeartbeats 4000000 in
theorem split_calls (l : List UInt8) (w : World) (hl : l.length ≤ 140737488351232) :
    Calls Tryd.prog 50 #[.string (str l)] w fun e w' => e = .returned (cutV (cut l)) ∧ Below w.heap.size w w' := by
  have hsz := str_size l
  have hmax : (str l).size ≤ maxLen := by rw [hsz]; unfold maxLen; omega
  have hg := sg_le l
  have hp := pt_le l
  have hgp : sg l ≤ pt l := by unfold pt; omega
  have hsk1 := Lib.hid (fun W => skip_calls (str l) (sg l) W (by rw [hsz]; exact hg) hmax)
  have hsk2 := Lib.hid (fun (h : pt l < l.length) W => skip_calls (str l) (pt l + 1) W (by rw [hsz]; exact h) hmax)
  have hH := cut_head l
  have hT := Lib.hid (cut_tail l)
  have hg1 : sg l = 0 ∨ sg l = 1 := by rcases sg_cases l with ⟨_, _, h⟩ | ⟨h, _⟩ <;> simp [h]
  have Hc := Lib.hid (show cut l = _ from rfl)
  have b1 := (Below.refl w.heap.size w).alloc (Nat.le_refl _) (.cells #[.bool false, .string ⟨#[]⟩, .string ⟨#[]⟩] 80)
  have B1 := Lib.hid b1
  clear b1
  go_enter Tryd.func50, Tryd.ntmps50
  go_wp2_with fail
  refine (prefix_calls (str l) _).mono ?_; rintro e w1 ⟨rfl, rfl⟩
  have hps : (str l).data.toList = l := rfl
  rw [hps]
  clear hps
  go_upto_if 10 with (fail)
  go_cut [5] (fun s5 wx => s5 = .int .i64 (sg l : Nat) ∧ wx = w.alloc (.cells #[.bool false, .string ⟨#[]⟩, .string ⟨#[]⟩] 80))
  case first =>
    rcases hg1 with h | h
    · rw [h, show decide (0 = 1) = false from rfl]
      have h' := Lib.hid h
      clear h
      go_wp2_with fail
      go_meet
      exact ⟨by rw [h'.out]; rfl, rfl⟩
    · rw [h, show decide (1 = 1) = true from rfl]
      have h' := Lib.hid h
      clear h
      go_wp2_with fail
      go_meet
      exact ⟨by rw [h'.out]; rfl, rfl⟩
  case rest =>
    obtain ⟨rfl, rfl⟩ := hcut
    have hmin : (((sg l : Nat) : Int) == 1) = decide (sg l = 1) := by rcases hg1 with h | h <;> rw [h] <;> rfl
    go_wp2_with fail
    refine (hsk1.out _).mono ?_; rintro e w1 ⟨rfl, rfl⟩
    rw [show ((sg l + dgN ((str l).data.toList.drop (sg l)) : Nat) : Int) = (pt l : Nat) from rfl]
    have hD : (l.drop (sg l)).takeWhile dg = [] ↔ pt l = sg l := by
      unfold pt dgN
      rw [← List.length_eq_zero_iff]; omega
    have HD := Lib.hid hD
    have Hg1 := Lib.hid hg1
    clear hsk1 hD hg1
    have hcutdef : cut l = (if pt l = sg l then Cut.bad (pt l)
      else if pt l = l.length then .ok (decide (sg l = 1)) ((l.drop (sg l)).takeWhile dg) []
      else if l[pt l]? ≠ some 46 then .bad (pt l)
      else if en l = pt l + 1 ∨ en l < l.length then .bad (en l)
      else .ok (decide (sg l = 1)) ((l.drop (sg l)).takeWhile dg) ((l.drop (pt l + 1)).takeWhile dg)) := rfl
    have hE : (l.drop (pt l + 1)).takeWhile dg = [] ↔ en l = pt l + 1 := by
      unfold en dgN
      rw [← List.length_eq_zero_iff]; omega
    have HE := Lib.hid hE
    have Hd := Lib.hid hcutdef
    have hen := en_le l
    have hen2 : pt l + 1 ≤ en l := by unfold en; omega
    have hsk : Hid (∀ (h : pt l < l.length) W, Calls Tryd.prog 55 #[.string (str l), .int .i64 ((pt l + 1 : Nat) : Int)] W fun e w' => e = .returned (.int .i64 ((en l : Nat) : Int)) ∧ W = w') := hsk2.out
    clear hsk2 hE hcutdef Hc
    generalize (l.drop (pt l + 1)).takeWhile dg = E at *
    generalize (l.drop (sg l)).takeWhile dg = D at *
    generalize en l = q at *
    generalize pt l = p at *
    generalize sg l = g at *
    by_cases h1 : p = g
    · have hDe := HD.out.2 h1
      have Hc' : Hid (cut l = .bad g) := by show _ = _; rw [Hd.out, if_pos h1, h1]
      rw [hDe] at hH
      clear hsk HE hen hen2
      go_wp2
      refine bodyPost_ret (v := cutV (.bad g)) (by simp [results, Tryd.results50, go_sem, cutV]) rfl ⟨by rw [Hc'.out], ?_⟩
      repeat (refine Below.setCell ?_ (by simp) _)
      exact kb_alloc (kb_alloc (Below.refl _ _) (Nat.le_refl _) _) (Nat.le_refl _) _
    · have hDe : D ≠ [] := fun e => h1 (HD.out.1 e)
      have hDb := str_nil_bool D hDe
      have H1 := Lib.hid h1
      clear h1 hDe
      by_cases h2 : p = l.length
      · have h2b : ((p : Int) == (l.length : Int)) = true := by rw [h2]; simp
        have Hc' : Hid (cut l = .ok (decide (g = 1)) D []) := by show _ = _; rw [Hd.out, if_neg H1.out, if_pos h2]
        have H2 := Lib.hid h2
        clear hsk HE hen hen2 h2
        go_wp2
        refine bodyPost_ret (v := cutV (.ok (decide (g = 1)) D [])) (by simp [results, Tryd.results50, go_sem, cutV]) rfl ⟨by rw [Hc'.out], ?_⟩
        repeat (refine Below.setCell ?_ (by simp) _)
        exact kb_alloc (kb_alloc (Below.refl _ _) (Nat.le_refl _) _) (Nat.le_refl _) _
      · have h2b : ((p : Int) == (l.length : Int)) = false := by simpa using (by omega : ¬ (p : Int) = (l.length : Int))
        have hpl : p < l.length := by omega
        have hix := str_at l p (by omega)
        have hb := UInt8.toNat_lt l[p]
        have H2 := Lib.hid h2
        clear h2
        by_cases h3 : l[p] = 46
        · have h3b : ((l[p].toNat : Int) != 46) = false := by rw [h3]; rfl
          have hlp : l[p]? = some 46 := by rw [List.getElem?_eq_getElem hpl, h3]
          have Hlp := Lib.hid hlp
          have hen3 := hen hpl
          have hsl : ∀ W, (Instr.slice 9 (.string (str l)) (some (.int .i64 ((p : Int) + 1))) (some (.int .i64 (q : Int))) none).run Tryd.prog W = .ok (.string (str E)) W := fun W => by
            rw [run_slice_string W 9 (str l) .i64 .i64 ((p : Int) + 1) (q : Int) Tryd.underlying9 (by omega) (by omega) (by rw [hsz]; omega), show ((p : Int) + 1).toNat = p + 1 by omega, Int.toNat_natCast, hT.out]
          have hcp := Lib.hid (hsk.out hpl)
          have ep : ((p + 1 : Nat) : Int) = (p : Int) + 1 := by omega
          rw [ep] at hcp
          clear h3 hlp hsk hen ep
          go_wp2_with fail
          refine (hcp.out _).mono ?_; rintro e w1 ⟨rfl, rfl⟩
          by_cases h4 : E = []
          · have h5 : q = p + 1 := HE.out.1 h4
            have Hc' : Hid (cut l = .bad q) := by show _ = _; rw [Hd.out, if_neg H1.out, if_neg H2.out, if_neg (by simpa using Hlp.out), if_pos (Or.inl h5)]
            subst h4
            have H5 := Lib.hid h5
            clear h5 hcp
            go_wp2
            refine bodyPost_ret (v := cutV (.bad q)) (by simp [results, Tryd.results50, go_sem, cutV]) rfl ⟨by rw [Hc'.out], ?_⟩
            repeat (refine Below.setCell ?_ (by simp) _)
            exact kb_alloc (kb_alloc (Below.refl _ _) (Nat.le_refl _) _) (Nat.le_refl _) _
          · have h4b := str_nil_bool E h4
            have h5 : ¬ q = p + 1 := fun e => h4 (HE.out.2 e)
            have H5 := Lib.hid h5
            clear h4 h5 hcp
            by_cases h6 : q < l.length
            · have Hc' : Hid (cut l = .bad q) := by show _ = _; rw [Hd.out, if_neg H1.out, if_neg H2.out, if_neg (by simpa using Hlp.out), if_pos (Or.inr h6)]
              go_wp2
              refine bodyPost_ret (v := cutV (.bad q)) (by simp [results, Tryd.results50, go_sem, cutV]) rfl ⟨by rw [Hc'.out], ?_⟩
              repeat (refine Below.setCell ?_ (by simp) _)
              exact kb_alloc (kb_alloc (Below.refl _ _) (Nat.le_refl _) _) (Nat.le_refl _) _
            · have Hc' : Hid (cut l = .ok (decide (g = 1)) D E) := by
                show _ = _
                rw [Hd.out, if_neg H1.out, if_neg H2.out, if_neg (by simpa using Hlp.out), if_neg]
                rintro (h | h)
                · exact H5.out h
                · exact h6 h
              go_wp2
              refine bodyPost_ret (v := cutV (.ok (decide (g = 1)) D E)) (by simp [results, Tryd.results50, go_sem, cutV]) rfl ⟨by rw [Hc'.out], ?_⟩
              repeat (refine Below.setCell ?_ (by simp) _)
              exact kb_alloc (kb_alloc (Below.refl _ _) (Nat.le_refl _) _) (Nat.le_refl _) _
        · have h3b : ((l[p].toNat : Int) != 46) = true := by
            have : ¬ (l[p].toNat : Int) = 46 := fun e => h3 (UInt8.toNat_inj.1 (by show l[p].toNat = 46; omega))
            simpa using this
          have Hc' : Hid (cut l = .bad p) := by
            show _ = _
            rw [Hd.out, if_neg H1.out, if_neg H2.out, if_pos]
            rw [List.getElem?_eq_getElem hpl]
            simpa using h3
          clear h3 hsk HE hen hen2
          go_wp2
          refine bodyPost_ret (v := cutV (.bad p)) (by simp [results, Tryd.results50, go_sem, cutV]) rfl ⟨by rw [Hc'.out], ?_⟩
          repeat (refine Below.setCell ?_ (by simp) _)
          exact kb_alloc (kb_alloc (Below.refl _ _) (Nat.le_refl _) _) (Nat.le_refl _) _

end Go.Proofs.YtmbpldnclnahmaaDoor
