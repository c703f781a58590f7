/- The walk of the law SpotFirst. -/
import Derived.Test.YtpejphfggfppdaaSpotK
import Derived.Test.YtpejphfggfppdaaSpotRow
import Derived.Test.YtpejphfggfppdaaSpotLawA
import Derived.Deep.QuietTactic
import Derived.BigQuiet
import Derived.Deep.DeepCutAuto
namespace Go.Proofs.Ytpejphfggfppdaa
open Go.RowKit
attribute [local go_sem ↓] Go.wp_at_zero Go.wp_at_succ

theorem fault_info : (Try.prog.info? 30).map (fun i => (i.zero, i.size, i.bytes)) = some (some (.agg #[.int .i64 0, .int .i64 0, .int .i64 0, .int .i64 0]), 4, 32) := by kernel_rfl
/-- the faults that the law makes -/
def mkFault (s : ByteArray) (zl zc : Nat → Int) (i : Nat) : Ft := Sp.at ((zc i).tmod 3) s ((zl i).tmod ((s.size : Int) + 1))

set_option maxHeartbeats 2000000 in
theorem first_walk (s : ByteArray) (vl vc : Value) (n m : Nat) (zl zc : Nat → Int) (more : Int) (w : World) (hl : IntRow w .u16 vl n zl) (hc : IntRow w .u8 vc m zc) (hm0 : 0 ≤ more) (hm1 : more ≤ 65535) :
    Calls Try.prog 6 #[.string s, vl, vc, .int .u16 more] w fun e w' => e = .returned (.bool true) ∧ Below w.heap.size w w' := by
  obtain ⟨al, capl, rfl, hnl, hcl, hcelll⟩ := hl
  obtain ⟨ac, capc, rfl, hnc, hcc, hcellc⟩ := hc
  unfold maxLen at hcl hcc
  by_cases hs : s.size ≤ 200
  · by_cases hn : n ≤ 20
    · by_cases hmn : m < n
      · have ds : decide ((200 : Int) < (s.size : Int)) = false := by simp; omega
        have dn : decide ((20 : Int) < (n : Int)) = false := by simp; omega
        have dm : decide ((m : Int) < (n : Int)) = true := by simp; omega
        have dm2 : decide (m < n) = true := by simp; omega
        go_enter Try.func6, Try.ntmps6
        go_wp2_with fail
        refine (known_calls _).mono ?_; rintro e w1 ⟨rfl, b1⟩
        go_wp2
        go_ret
        exact ⟨rfl, b1⟩
      · have ds : decide ((200 : Int) < (s.size : Int)) = false := by simp; omega
        have dn : decide ((20 : Int) < (n : Int)) = false := by simp; omega
        have dm : decide ((m : Int) < (n : Int)) = false := by simp; omega
        have dm2 : decide (m < n) = false := by simp; omega
        obtain ⟨i0, hi0, hz0, hz1, hz2⟩ := info_parts fault_info
        have Hl := Lib.hid hcelll
        have Hc := Lib.hid hcellc
        clear hcelll hcellc
        have Hi := Lib.hid hi0
        have Hz0 := Lib.hid hz0
        have Hz1 := Lib.hid hz1
        have Hz2 := Lib.hid hz2
        clear hi0 hz0 hz1 hz2
        go_enter Try.func6, Try.ntmps6
        go_wp2_with fail
        refine (known_calls _).mono ?_; rintro e w1 ⟨rfl, b1⟩
        go_wp2_with fail
        go_loopw [9, 10] (fun v i wr => ∃ (j : Nat), j ≤ n ∧ i = .int .i64 j ∧ Hid (wr.ownsRow w.heap.size 30 4 v j (ftCells (mkFault s zl zc) j)) ∧ Below w.heap.size w wr) (fun _ i _ => n - (intOf i).toNat)
        case atStart => exact ⟨0, by omega, rfl, ⟨rfl, Or.inl ⟨rfl, rfl⟩⟩, b1⟩
        case round =>
          obtain ⟨j, hj, rfl, H, hb⟩ := hrel
          by_cases hjn : j < n
          · obtain ⟨bl, ol, rfl, hbl, hcl2⟩ := Hl.out (by omega)
            obtain ⟨bc, oc, rfl, hbc, hcc2⟩ := Hc.out (by omega)
            obtain ⟨hl1, hlw⟩ := hcl2 j hjn
            obtain ⟨hc1, hcw⟩ := hcc2 j (by omega)
            have bl1 := u16_bounds hlw
            have bc1 := u8_bounds hcw
            have cl := (hb.cell hbl).trans hl1
            have cc := (hb.cell hbc).trans hc1
            clear hcl2 hcc2 hl1 hc1 hlw hcw
            have hF : mkFault s zl zc j = Sp.at ((zc j).tmod 3) s ((zl j).tmod ((s.size : Int) + 1)) := rfl
            generalize zc j = x at *
            generalize zl j = y at *
            generalize hFF : mkFault s zl zc j = F at *
            have HFF := Lib.hid hFF
            obtain ⟨k, hk, hk2⟩ := tmod_nat y s.size bl1.1
            have ac := fun W => at_calls (x % 3) s k W (by omega)
            rw [hk, Int.tmod_eq_emod_of_nonneg bc1.1] at hF
            rw [← hF] at ac
            have Ac := Lib.hid ac
            have hw1 : IntKind.i64.wrap ((s.size : Int) + 1) = (s.size : Int) + 1 := IntWalk.i64_in _ (by omega)
            have hw2 : IntKind.i64.wrap y = y := IntWalk.i64_in _ (by omega)
            have e3 : x.tmod 3 = x % 3 := Int.tmod_eq_emod_of_nonneg bc1.1
            have l3 : 0 ≤ x % 3 := Int.emod_nonneg x (by decide)
            have u3 : x % 3 < 3 := Int.emod_lt_of_pos x (by decide)
            have hw3 : IntKind.i64.wrap (x % 3) = x % 3 := IntWalk.i64_in _ (by omega)
            have hk' : y % ((s.size : Int) + 1) = k := by rw [← Int.tmod_eq_emod_of_nonneg bl1.1]; exact hk
            have rl : ∀ X, Below w.heap.size w X → X.cell? ⟨bl, ol + j, none⟩ = some (.int .u16 y) := fun X hX => (hX.cell hbl).trans (by rw [← hb.cell hbl]; exact cl)
            have rc : ∀ X, Below w.heap.size w X → X.cell? ⟨bc, oc + j, none⟩ = some (.int .u8 x) := fun X hX => (hX.cell hbc).trans (by rw [← hb.cell hbc]; exact cc)
            have hj0 : (0 : Int) ≤ (j : Int) := by omega
            have hj1 : (j : Int) < (n : Int) := by omega
            have hj2 : (j : Int) < (m : Int) := by omega
            have hnz : ¬ (s.size : Int) + 1 = 0 := by omega
            have hnz2 : ((s.size : Int) + 1 == 0) = false := by simpa using hnz
            clear hF ac hFF cl cc
            go_wp2_with fail
            go_region_held3 (fun X => Below w.heap.size w X)
              (first
                | assumption
                | (refine Below.drew ?_; assumption)
                | (refine kb_alloc ?_ (Nat.le_refl _) _; assumption))
              (first
                | (go_at_call 10; refine (Ac.out _).mono ?_; rintro e w2 ⟨rfl, b2⟩; have k2 : Below w.heap.size w w2 := (by refine kb_call ?_ (Nat.le_refl _) b2; first | assumption | (refine Below.drew ?_; assumption)); have o2 := own_below (own_drew H.out) b2)
                | (refine step_append_lies _ (by rfl) _ _ _ (by rfl) w.heap.size 30 i0 _ 4 32 Try.underlying22 Hi.out Hz0.out Hz1.out Hz2.out rfl (by omega) _ j _ (by rfl) (own_alloc o2 _) _ 1 1 F.cells (by rfl) rfl (World.news_of_block (heap_new _ _)) (by intro u hu; simp [Ft.cells] at hu; rcases hu with rfl | rfl | rfl | rfl <;> rfl) (by omega) (by unfold maxLen; omega) (by omega) (by have := k2.size; simp; omega) _ rfl ?_; intro g cap w3 hown3 hgrow hat hlt; have k3 : Below w.heap.size w w3 := Below.grown (kb_alloc k2 (Nat.le_refl _) _) hgrow (by have := k2.size; simp; omega) (own_ge o2)))
            go_wp2_with fail
            go_roundw
            case rel => exact ⟨j + 1, by omega, by go_num, (by show World.ownsRow _ _ _ _ _ _ _; rw [ftCells, HFF.out]; exact hown3), k3⟩
            case measure => simp [intOf]; omega
          · obtain rfl : n = j := by omega
            have own1 := H.out
            have row1 := ftRow_own own1
            generalize mkFault s zl zc = F at *
            have hsp := first_spec F n
            have fcall := fun v W h => first_calls v n F W h
            generalize hA : Ft.first F n = A at *
            have HA := Lib.hid hA
            have Hsp := Lib.hid hsp
            have Fc := Lib.hid fcall
            clear hsp fcall H hA
            have Own1 := Lib.hid own1
            have Row1 := Lib.hid row1
            clear own1 row1
            go_wp2_with fail
            refine (Fc.out _ _ Row1.out).mono ?_; rintro e w4 ⟨rfl, b4⟩
            have e0 := fun W => eql_fault A ⟨0, 0, 0, 0⟩ W
            go_wp2_with fail
            clear e0
            have xA := FtAt.new w4 A 30
            obtain ⟨W2, hW2⟩ : ∃ W2 : World, W2 = w4.alloc (.cells #[.int .i64 A.c, .int .i64 A.o, .int .i64 A.l, .int .i64 A.k] 30) := ⟨_, rfl⟩
            rw [← hW2] at xA ⊢
            have bW := (Below.refl w4.heap.size w4).alloc (Nat.le_refl _) (.cells #[.int .i64 A.c, .int .i64 A.o, .int .i64 A.l, .int .i64 A.k] 30)
            rw [← hW2] at bW
            have own2 := own_below (own_below Own1.out b4) bW
            have row2 := (Row1.out.below b4).below bW
            have bB := kb_call (kb_call hb (Nat.le_refl _) b4) (Nat.le_refl _) bW
            have lt2 := own_lt Own1.out
            have z4 := b4.size
            clear hW2
            have Own2 := Lib.hid own2
            have Row2 := Lib.hid row2
            have XA := Lib.hid xA
            have BB := Lib.hid bB
            have Lt2 := Lib.hid lt2
            clear own2 row2 xA bB lt2 bW b4 hb
            go_loopw [12, 13] (fun b i wr => ∃ (j : Nat), j ≤ n ∧ i = .int .i64 j ∧ b = .bool (inB A F j) ∧ Below W2.heap.size W2 wr) (fun _ i _ => n - (intOf i).toNat)
            case atStart => exact ⟨0, by omega, rfl, rfl, Below.refl _ _⟩
            case round =>
              obtain ⟨j, hj, rfl, rfl, hb⟩ := hrel
              by_cases hjn : j < n
              · have hj0 : (0 : Int) ≤ (j : Int) := by omega
                have hj1 : (j : Int) < (n : Int) := by omega
                obtain ⟨aa, capa, hva, hna, hca, hcella⟩ := Row2.out
                subst hva
                unfold maxLen at hca
                obtain ⟨ba, oa, rfl, hba, hcsa⟩ := hcella (by omega)
                obtain ⟨g0, g1, g2, g3⟩ := hcsa j hjn
                obtain ⟨r0, r1, r2, r3⟩ := XA.out.rules
                have q0 : ∀ X, Below W2.heap.size W2 X → X.cell? ⟨ba, oa + j * 4, none⟩ = some (.int .i64 (F j).c) := fun X hX => (hX.cell hba).trans g0
                have q1 : ∀ X, Below W2.heap.size W2 X → X.cell? ⟨ba, oa + j * 4 + 1, none⟩ = some (.int .i64 (F j).o) := fun X hX => (hX.cell hba).trans g1
                have q2 : ∀ X, Below W2.heap.size W2 X → X.cell? ⟨ba, oa + j * 4 + 2, none⟩ = some (.int .i64 (F j).l) := fun X hX => (hX.cell hba).trans g2
                have q3 : ∀ X, Below W2.heap.size W2 X → X.cell? ⟨ba, oa + j * 4 + 3, none⟩ = some (.int .i64 (F j).k) := fun X hX => (hX.cell hba).trans g3
                have hin : inB A F (j + 1) = (inB A F j || decide (F j = A)) := rfl
                have hh := Hsp.out.2 j hjn
                have bf := fun W => before_calls (F j).o (F j).l (F j).k A.o A.l A.k W
                have ef := fun W => eql_fault (F j) A W
                generalize hbb : inB A F j = bj at *
                generalize F j = G at *
                have Hin := Lib.hid hin
                have Hh := Lib.hid hh
                have Bf := Lib.hid bf
                clear g0 g1 g2 g3 hcsa hcella hin hh hbb bf
                have HB := Lib.hid hb
                by_cases hc : G.c = 0
                · have dc : (G.c == 0) = true := by simpa using hc
                  have dc2 : (G.c != 0) = false := by simpa using hc
                  clear hc
                  cases bj
                  all_goals
                    go_wp2_with fail
                    go_quiet (fail)
                    go_wp2_with fail
                    go_quiet (fail)
                    go_wp2
                    go_roundw
                    case rel => exact ⟨j + 1, by omega, by go_num, by rw [Hin.out]; rfl, below_drewN HB.out _⟩
                    case measure => simp [intOf]; omega
                · obtain ⟨ha, ho⟩ := Hh.out hc
                  have dc : (G.c == 0) = false := by simpa using hc
                  have dc2 : (G.c != 0) = true := by simpa using hc
                  have da : (A.c == 0) = false := by simpa using ha
                  have Bf2 := Bf.out
                  rw [show decide (G.o < A.o) = false by simpa using ho] at Bf2
                  have Bf3 := Lib.hid Bf2
                  clear hc ha ho Bf2
                  cases bj
                  all_goals
                    go_wp2_with fail
                    go_quiet (fail)
                    have hbq := fun k => below_drewN HB.out k
                    go_wp2_with fail
                    go_region_held3 (fun X => Below W2.heap.size W2 X)
                      (first
                        | assumption
                        | exact hbq _
                        | (refine Below.drew ?_; first | assumption | exact hbq _))
                      (first
                        | (go_at_call 14; refine (Bf3.out _).mono ?_; rintro e w5 ⟨rfl, b5⟩; have k5 : Below W2.heap.size W2 w5 := (by refine trans9 ?_ b5; first | assumption | (refine Below.drew ?_; first | assumption | exact hbq _))))
                    go_wp2
                    go_roundw
                    case rel => exact ⟨j + 1, by omega, by go_num, by rw [Hin.out]; rfl, k5⟩
                    case measure => simp [intOf]; omega
              · obtain rfl : n = j := by omega
                have hin : inB A F n = true := inB_true n (by
                  rcases Hsp.out.1 with h | ⟨i, hi, h, _⟩
                  · exact Or.inl h
                  · exact Or.inr ⟨i, hi, h⟩)
                rw [hin]
                obtain ⟨aa, capa, hva, hna, hca, _⟩ := Row2.out
                subst hva
                unfold maxLen at hca
                obtain ⟨k, hk, hk2⟩ := tmod_nat more s.size hm0
                have hk' : more % ((s.size : Int) + 1) = k := by rw [← Int.tmod_eq_emod_of_nonneg hm0]; exact hk
                have ac := fun W => at_calls 19 s k W (by omega)
                have hXc : (Sp.at 19 s k).c = 19 := by unfold Sp.at; simp
                generalize hX : Sp.at 19 s k = X at *
                have Ac := Lib.hid ac
                have HXc := Lib.hid hXc
                have hw1 : IntKind.i64.wrap ((s.size : Int) + 1) = (s.size : Int) + 1 := IntWalk.i64_in _ (by omega)
                have hw2 : IntKind.i64.wrap more = more := IntWalk.i64_in _ (by omega)
                clear ac hXc hX hin
                go_wp2_with fail
                refine (Ac.out _).mono ?_; rintro e w6 ⟨rfl, b6⟩
                clear hk hk' hw1 hw2
                have b6' := trans9 hb b6
                have own6 := own_below Own2.out b6'
                have Own7 := Lib.hid (own_alloc own6 (.cells #[.int .i64 X.c, .int .i64 X.o, .int .i64 X.l, .int .i64 X.k] 30))
                have bB6 := kb_call BB.out (Nat.le_refl _) b6'
                have fcall := fun v W h => first_calls v (n + 1) (ftPut F n X) W h
                have hcells := ftCells_put F n X
                have hfirst : Ft.first (ftPut F n X) (n + 1) = A.step X := by rw [first_put, HA.out]
                obtain ⟨B, hB, hways⟩ := step_ways A X (by rw [HXc.out]; decide)
                rw [hfirst, hB] at fcall
                have z6 := b6'.size
                have zA := XA.out.lt
                have Hways := Lib.hid hways
                clear hways hB
                have Fc2 := Lib.hid fcall
                have HC := Lib.hid hcells
                clear own6 fcall hcells hfirst hb
                have x6 := XA.out.below b6' XA.out.lt
                have xX := FtAt.new w6 X 30
                obtain ⟨W7, hW7⟩ : ∃ W7 : World, W7 = w6.alloc (.cells #[.int .i64 X.c, .int .i64 X.o, .int .i64 X.l, .int .i64 X.k] 30) := ⟨_, rfl⟩
                rw [← hW7] at xX
                have bB7 : Below w.heap.size w W7 := by rw [hW7]; exact kb_alloc bB6 (Nat.le_refl _) _
                have x7 : FtAt W7 w4.heap.size A := by rw [hW7]; exact x6.below ((Below.refl _ _).alloc (Nat.le_refl _) _) x6.lt
                rw [← hW7] at Own7
                go_upto_region 19 with fail
                rw [← hW7]
                obtain ⟨lX, X0, X1, X2, X3, fX⟩ := id xX
                have XX := Lib.hid xX
                have X7 := Lib.hid x7
                have B7 := Lib.hid bB7
                have Z7 := Lib.hid bB7.size
                have LT := Lib.hid (own_lt Own1.out)
                have lw : w.heap.size ≤ W7.heap.size := bB7.size
                clear xX x7 bB7 bB6 b6 b6' x6 hW7
                go_wp2_with (first
                  | (at_builtin
                     refine wpList_append_lies _ rfl _ _ _ (by rfl) w.heap.size 30 i0 _ 4 32 Try.underlying22 Hi.out Hz0.out Hz1.out Hz2.out rfl (by omega) _ n _ (by rfl) (own_alloc Own7.out _) _ 1 1 X.cells (by rfl) rfl (World.news_of_block (heap_new _ _)) (by intro u hu; simp [Ft.cells] at hu; rcases hu with rfl | rfl | rfl | rfl <;> rfl) (by omega) (by unfold maxLen; omega) (by omega) (by simp; omega) _ rfl ?_
                     intro g cap w8 hown hgrow hat hlt)
                  | fail)
                refine (Fc2.out _ _ (ftRow_own (by rw [← HC.out]; exact hown))).mono ?_; rintro e w9 ⟨rfl, b9⟩
                have al8 := (Below.refl W7.heap.size W7).alloc (Nat.le_refl _) (.cells #[.int .i64 X.c, .int .i64 X.o, .int .i64 X.l, .int .i64 X.k] 30)
                have xA9 := ((X7.out.below al8 X7.out.lt).grown hgrow (fun h => by have := LT.out _ h.symm; omega)).below b9 (Nat.lt_of_lt_of_le X7.out.lt (Nat.le_trans (by simp) hgrow.size))
                have xX9 := ((XX.out.below al8 XX.out.lt).grown hgrow (fun h => by have := LT.out _ h.symm; omega)).below b9 (Nat.lt_of_lt_of_le XX.out.lt (Nat.le_trans (by simp) hgrow.size))
                have bB9 := kb_call (Below.grown (kb_alloc B7.out (Nat.le_refl _) _) hgrow (by simp; omega) (own_ge Own7.out)) (Nat.le_refl _) b9
                go_upto_region 20 with fail
                have al9 := (Below.refl w9.heap.size w9).alloc (Nat.le_refl _) (.cells #[.int .i64 B.c, .int .i64 B.o, .int .i64 B.l, .int .i64 B.k] 30)
                have xB := FtAt.new w9 B 30
                obtain ⟨W9, hW9⟩ : ∃ W9 : World, W9 = w9.alloc (.cells #[.int .i64 B.c, .int .i64 B.o, .int .i64 B.l, .int .i64 B.k] 30) := ⟨_, rfl⟩
                rw [← hW9] at xB al9 ⊢
                have xA10 := xA9.below al9 xA9.lt
                have xX10 := xX9.below al9 xX9.lt
                have bB10 := kb_call bB9 (Nat.le_refl _) al9
                obtain ⟨r0, r1, r2, r3⟩ := xA10.rules
                obtain ⟨q0, q1, q2, q3⟩ := xX10.rules
                obtain ⟨p0, p1, p2, p3⟩ := xB.rules
                have Fin := Lib.hid bB10
                clear xB xA10 xX10 bB10 bB9 xA9 xX9 al8 al9 hW9 hown hgrow hat hlt b9 z6 zA lX X0 X1 X2 X3 fX z4 lw Own7 Fc2
                have e1 := fun W => eql_fault B X W
                have e2 := fun W => neq_fault B A W
                have bf := fun W => before_calls X.o X.l X.k A.o A.l A.k W
                rcases Hways.out with ⟨ha, rfl, hne⟩ | ⟨ha, ho, rfl, hne⟩ | ⟨ha, ho, rfl⟩
                · have da : (A.c == 0) = true := by simpa using ha
                  rw [decide_eq_true rfl] at e1
                  rw [decide_eq_false hne] at e2
                  clear ha hne bf
                  have s0 := r0 W9 (Below.refl _ _)
                  have t0 := q0 W9 (Below.refl _ _); have t1 := q1 W9 (Below.refl _ _); have t2 := q2 W9 (Below.refl _ _); have t3 := q3 W9 (Below.refl _ _)
                  have s1 := r1 W9 (Below.refl _ _); have s2 := r2 W9 (Below.refl _ _); have s3 := r3 W9 (Below.refl _ _)
                  have u0 := p0 W9 (Below.refl _ _); have u1 := p1 W9 (Below.refl _ _); have u2 := p2 W9 (Below.refl _ _); have u3 := p3 W9 (Below.refl _ _)
                  clear r0 r1 r2 r3 q0 q1 q2 q3 p0 p1 p2 p3
                  go_quiet (fail)
                  go_wp2
                  go_ret
                  exact ⟨rfl, below_drewN Fin.out _⟩
                · have da : (A.c == 0) = false := by simpa using ha
                  rw [decide_eq_true rfl] at e1
                  rw [decide_eq_false hne] at e2
                  rw [decide_eq_true ho] at bf
                  have Bf := Lib.hid bf
                  clear ha hne ho bf
                  go_region_held3 (fun Y => Below W9.heap.size W9 Y)
                    (first | assumption | exact Below.refl _ _ | (refine Below.drew ?_; first | assumption | exact Below.refl _ _))
                    (first
                      | (go_at_call 14; refine (Bf.out _).mono ?_; rintro e w10 ⟨rfl, b10⟩; have k10 : Below W9.heap.size W9 w10 := (by refine trans9 ?_ b10; first | assumption | exact Below.refl _ _ | (refine Below.drew ?_; first | assumption | exact Below.refl _ _))))
                  go_wp2
                  go_ret
                  exact ⟨rfl, kb_call Fin.out (Nat.le_refl _) k10⟩
                · have da : (B.c == 0) = false := by simpa using ha
                  rw [decide_eq_true rfl] at e2
                  rw [decide_eq_false (by omega)] at bf
                  have Bf := Lib.hid bf
                  clear ha ho bf
                  cases hBX : decide (B = X)
                  · rw [hBX] at e1
                    clear hBX
                    refine wp_region_noPanic ?_
                    refine wp_region_held_drew (S := (fun Y => Below W9.heap.size W9 Y)) (by kernel_rfl) ?_ (fun hHeld => ?_)
                    · first | assumption | exact Below.refl _ _ | (refine Below.drew ?_; exact Below.refl _ _)
                    refine wpAnyH_take (i := 0) (v := ?_) (by simp only [List.getElem?_toArray, List.getElem?_cons_succ, List.getElem?_cons_zero]; rfl) (by kernel_rfl) (by kernel_rfl) (by kernel_rfl) (fun _ _ _ h => h) (Or.inl ⟨by rfl, ?_⟩) (by assumption) ?_
                    rotate_left
                    · intro w hSw; (try dsimp only at hSw); first | (go_simp; done) | (go_simp; with_reducible rfl)
                    simp only [Act.put, List.setIfInBounds_toArray, List.set_cons_zero, List.set_cons_succ]
                    refine wpAnyH_take (i := 1) (v := ?_) (by simp only [List.getElem?_toArray, List.getElem?_cons_succ, List.getElem?_cons_zero]; rfl) (by kernel_rfl) (by kernel_rfl) (by kernel_rfl) (fun _ _ _ h => h) (Or.inl ⟨by rfl, ?_⟩) (by assumption) ?_
                    rotate_left
                    · intro w hSw; (try dsimp only at hSw); first | (go_simp; done) | (go_simp; with_reducible rfl)
                    simp only [Act.put, List.setIfInBounds_toArray, List.set_cons_zero, List.set_cons_succ]
                    refine wpAnyH_take (i := 2) (v := ?_) (by simp only [List.getElem?_toArray, List.getElem?_cons_succ, List.getElem?_cons_zero]; rfl) (by kernel_rfl) (by kernel_rfl) (by kernel_rfl) (fun _ _ _ h => h) (Or.inl ⟨by rfl, ?_⟩) (by assumption) ?_
                    rotate_left
                    · intro w hSw; (try dsimp only at hSw); first | (go_simp; done) | (go_simp; with_reducible rfl)
                    simp only [Act.put, List.setIfInBounds_toArray, List.set_cons_zero, List.set_cons_succ]
                    refine wpAnyH_take (i := 3) (v := ?_) (by simp only [List.getElem?_toArray, List.getElem?_cons_succ, List.getElem?_cons_zero]; rfl) (by kernel_rfl) (by kernel_rfl) (by kernel_rfl) (fun _ _ _ h => h) (Or.inl ⟨by rfl, ?_⟩) (by assumption) ?_
                    rotate_left
                    · intro w hSw; (try dsimp only at hSw); first | (go_simp; done) | (go_simp; with_reducible rfl)
                    simp only [Act.put, List.setIfInBounds_toArray, List.set_cons_zero, List.set_cons_succ]
                    refine wpAnyH_take (i := 4) (v := ?_) (by simp only [List.getElem?_toArray, List.getElem?_cons_succ, List.getElem?_cons_zero]; rfl) (by kernel_rfl) (by kernel_rfl) (by kernel_rfl) (fun _ _ _ h => h) (Or.inl ⟨by rfl, ?_⟩) (by assumption) ?_
                    rotate_left
                    · intro w hSw; (try dsimp only at hSw); first | (go_simp; done) | (go_simp; with_reducible rfl)
                    simp only [Act.put, List.setIfInBounds_toArray, List.set_cons_zero, List.set_cons_succ]
                    refine wpAnyH_take (i := 5) (v := ?_) (by simp only [List.getElem?_toArray, List.getElem?_cons_succ, List.getElem?_cons_zero]; rfl) (by kernel_rfl) (by kernel_rfl) (by kernel_rfl) (fun _ _ _ h => h) (Or.inl ⟨by rfl, ?_⟩) (by assumption) ?_
                    rotate_left
                    · intro w hSw; (try dsimp only at hSw); first | (go_simp; done) | (go_simp; with_reducible rfl)
                    simp only [Act.put, List.setIfInBounds_toArray, List.set_cons_zero, List.set_cons_succ]
                    refine wpAnyH_take (i := 6) (v := ?_) (by simp only [List.getElem?_toArray, List.getElem?_cons_succ, List.getElem?_cons_zero]; rfl) (by kernel_rfl) (by kernel_rfl) (by kernel_rfl) (fun _ _ _ h => h) (Or.inl ⟨by rfl, ?_⟩) (by assumption) ?_
                    rotate_left
                    · intro w hSw; (try dsimp only at hSw); first | (go_simp; done) | (go_simp; with_reducible rfl)
                    simp only [Act.put, List.setIfInBounds_toArray, List.set_cons_zero, List.set_cons_succ]
                    refine wpAnyH_take (i := 7) (v := ?_) (by simp only [List.getElem?_toArray, List.getElem?_cons_succ, List.getElem?_cons_zero]; rfl) (by kernel_rfl) (by kernel_rfl) (by kernel_rfl) (fun _ _ _ h => h) (Or.inl ⟨by rfl, ?_⟩) (by assumption) ?_
                    rotate_left
                    · intro w hSw; (try dsimp only at hSw); first | (go_simp; done) | (go_simp; with_reducible rfl)
                    simp only [Act.put, List.setIfInBounds_toArray, List.set_cons_zero, List.set_cons_succ]
                    refine wpAnyH_take (i := 8) (v := ?_) (by simp only [List.getElem?_toArray, List.getElem?_cons_succ, List.getElem?_cons_zero]; rfl) (by kernel_rfl) (by kernel_rfl) (by kernel_rfl) (fun _ _ _ h => h) (Or.inl ⟨by rfl, ?_⟩) (by assumption) ?_
                    rotate_left
                    · intro w hSw; (try dsimp only at hSw); first | (go_simp; done) | (go_simp; with_reducible rfl)
                    simp only [Act.put, List.setIfInBounds_toArray, List.set_cons_zero, List.set_cons_succ]
                    refine wpAnyH_take (i := 9) (v := ?_) (by simp only [List.getElem?_toArray, List.getElem?_cons_succ, List.getElem?_cons_zero]; rfl) (by kernel_rfl) (by kernel_rfl) (by kernel_rfl) (fun _ _ _ h => h) (Or.inl ⟨by rfl, ?_⟩) (by assumption) ?_
                    rotate_left
                    · intro w hSw; (try dsimp only at hSw); first | (go_simp; done) | (go_simp; with_reducible rfl)
                    simp only [Act.put, List.setIfInBounds_toArray, List.set_cons_zero, List.set_cons_succ]
                    refine wpAnyH_take (i := 12) (v := ?_) (by simp only [List.getElem?_toArray, List.getElem?_cons_succ, List.getElem?_cons_zero]; rfl) (by kernel_rfl) (by kernel_rfl) (by kernel_rfl) (fun _ _ _ h => h) (Or.inl ⟨by rfl, ?_⟩) (by assumption) ?_
                    rotate_left
                    · intro w hSw; (try dsimp only at hSw); first | (go_simp; done) | (go_simp; with_reducible rfl)
                    simp only [Act.put, List.setIfInBounds_toArray, List.set_cons_zero, List.set_cons_succ]
                    refine wpAnyH_take (i := 13) (v := ?_) (by simp only [List.getElem?_toArray, List.getElem?_cons_succ, List.getElem?_cons_zero]; rfl) (by kernel_rfl) (by kernel_rfl) (by kernel_rfl) (fun _ _ _ h => h) (Or.inl ⟨by rfl, ?_⟩) (by assumption) ?_
                    rotate_left
                    · intro w hSw; (try dsimp only at hSw); first | (go_simp; done) | (go_simp; with_reducible rfl)
                    simp only [Act.put, List.setIfInBounds_toArray, List.set_cons_zero, List.set_cons_succ]
                    refine wpAnyH_take (i := 14) (v := ?_) (by simp only [List.getElem?_toArray, List.getElem?_cons_succ, List.getElem?_cons_zero]; rfl) (by kernel_rfl) (by kernel_rfl) (by kernel_rfl) (fun _ _ _ h => h) (Or.inl ⟨by rfl, ?_⟩) (by assumption) ?_
                    rotate_left
                    · intro w hSw; (try dsimp only at hSw); first | (go_simp; done) | (go_simp; with_reducible rfl)
                    simp only [Act.put, List.setIfInBounds_toArray, List.set_cons_zero, List.set_cons_succ]
                    refine wpAnyH_ready (rs := [10]) (by kernel_rfl) (by simp) ?_
                    refine AllReadyH.cons rfl (fun K hK => ?_) AllReadyH.nil
                    try go_simp
                    refine (Bf.out _).mono ?_; rintro e w10 ⟨rfl, b10⟩; have k10 : Below W9.heap.size W9 w10 := (by refine trans9 ?_ b10; first | assumption | exact Below.refl _ _ | (refine Below.drew ?_; first | assumption | exact Below.refl _ _))
                    refine hK.out _ _ ?_ (fun hHeld => ?_)
                    · exact k10
                    clear hK K
                    try simp only [Act.put, List.setIfInBounds_toArray, List.set_cons_zero, List.set_cons_succ]
                    refine wpAnyH_take (i := 11) (v := ?_) (by simp only [List.getElem?_toArray, List.getElem?_cons_succ, List.getElem?_cons_zero]; rfl) (by kernel_rfl) (by kernel_rfl) (by kernel_rfl) (fun _ _ _ h => h) (Or.inl ⟨by rfl, ?_⟩) (by assumption) ?_
                    rotate_left
                    · intro w hSw; (try dsimp only at hSw); first | (go_simp; done) | (go_simp; with_reducible rfl)
                    simp only [Act.put, List.setIfInBounds_toArray, List.set_cons_zero, List.set_cons_succ]
                    refine wpAnyH_take (i := 15) (v := ?_) (by simp only [List.getElem?_toArray, List.getElem?_cons_succ, List.getElem?_cons_zero]; rfl) (by kernel_rfl) (by kernel_rfl) (by kernel_rfl) (fun _ _ _ h => h) (Or.inl ⟨by rfl, ?_⟩) (by assumption) ?_
                    rotate_left
                    · intro w hSw; (try dsimp only at hSw); first | (go_simp; done) | (go_simp; with_reducible rfl)
                    simp only [Act.put, List.setIfInBounds_toArray, List.set_cons_zero, List.set_cons_succ]
                    refine wpAnyH_take (i := 16) (v := undef) (by simp only [List.getElem?_toArray, List.getElem?_cons_succ, List.getElem?_cons_zero]; rfl) (by kernel_rfl) (by kernel_rfl) (by kernel_rfl) (fun _ _ _ h => h) (Or.inr ⟨by rfl, rfl⟩) (by assumption) ?_
                    simp only [Act.put, List.setIfInBounds_toArray, List.set_cons_zero, List.set_cons_succ]
                    refine wpAnyH_take (i := 17) (v := undef) (by simp only [List.getElem?_toArray, List.getElem?_cons_succ, List.getElem?_cons_zero]; rfl) (by kernel_rfl) (by kernel_rfl) (by kernel_rfl) (fun _ _ _ h => h) (Or.inr ⟨by rfl, rfl⟩) (by assumption) ?_
                    simp only [Act.put, List.setIfInBounds_toArray, List.set_cons_zero, List.set_cons_succ]
                    refine wpAnyH_take (i := 18) (v := undef) (by simp only [List.getElem?_toArray, List.getElem?_cons_succ, List.getElem?_cons_zero]; rfl) (by kernel_rfl) (by kernel_rfl) (by kernel_rfl) (fun _ _ _ h => h) (Or.inr ⟨by rfl, rfl⟩) (by assumption) ?_
                    simp only [Act.put, List.setIfInBounds_toArray, List.set_cons_zero, List.set_cons_succ]
                    refine wpAnyH_take (i := 19) (v := ?_) (by simp only [List.getElem?_toArray, List.getElem?_cons_succ, List.getElem?_cons_zero]; rfl) (by kernel_rfl) (by kernel_rfl) (by kernel_rfl) (fun _ _ _ h => h) (Or.inl ⟨by rfl, ?_⟩) (by assumption) ?_
                    rotate_left
                    · intro w hSw; (try dsimp only at hSw); first | (go_simp; done) | (go_simp; with_reducible rfl)
                    simp only [Act.put, List.setIfInBounds_toArray, List.set_cons_zero, List.set_cons_succ]
                    refine wpAnyH_take (i := 20) (v := ?_) (by simp only [List.getElem?_toArray, List.getElem?_cons_succ, List.getElem?_cons_zero]; rfl) (by kernel_rfl) (by kernel_rfl) (by kernel_rfl) (fun _ _ _ h => h) (Or.inl ⟨by rfl, ?_⟩) (by assumption) ?_
                    rotate_left
                    · intro w hSw; (try dsimp only at hSw); first | (go_simp; done) | (go_simp; with_reducible rfl)
                    simp only [Act.put, List.setIfInBounds_toArray, List.set_cons_zero, List.set_cons_succ]
                    refine wpAnyH_take (i := 21) (v := ?_) (by simp only [List.getElem?_toArray, List.getElem?_cons_succ, List.getElem?_cons_zero]; rfl) (by kernel_rfl) (by kernel_rfl) (by kernel_rfl) (fun _ _ _ h => h) (Or.inl ⟨by rfl, ?_⟩) (by assumption) ?_
                    rotate_left
                    · intro w hSw; (try dsimp only at hSw); first | (go_simp; done) | (go_simp; with_reducible rfl)
                    simp only [Act.put, List.setIfInBounds_toArray, List.set_cons_zero, List.set_cons_succ]
                    refine wpAnyH_take (i := 22) (v := ?_) (by simp only [List.getElem?_toArray, List.getElem?_cons_succ, List.getElem?_cons_zero]; rfl) (by kernel_rfl) (by kernel_rfl) (by kernel_rfl) (fun _ _ _ h => h) (Or.inl ⟨by rfl, ?_⟩) (by assumption) ?_
                    rotate_left
                    · intro w hSw; (try dsimp only at hSw); first | (go_simp; done) | (go_simp; with_reducible rfl)
                    simp only [Act.put, List.setIfInBounds_toArray, List.set_cons_zero, List.set_cons_succ]
                    refine wpAnyH_done (by kernel_rfl) ?_ _
                    refine NoPanic.normal ?_
                    go_wp2
                    go_ret
                    exact ⟨rfl, kb_call Fin.out (Nat.le_refl _) k10⟩
                  · rw [hBX] at e1
                    clear hBX
                    go_region_held3 (fun Y => Below W9.heap.size W9 Y)
                      (first | assumption | exact Below.refl _ _ | (refine Below.drew ?_; first | assumption | exact Below.refl _ _))
                      (first
                        | (go_at_call 14; refine (Bf.out _).mono ?_; rintro e w10 ⟨rfl, b10⟩; have k10 : Below W9.heap.size W9 w10 := (by refine trans9 ?_ b10; first | assumption | exact Below.refl _ _ | (refine Below.drew ?_; first | assumption | exact Below.refl _ _))))
                    go_wp2
                    go_ret
                    exact ⟨rfl, kb_call Fin.out (Nat.le_refl _) k10⟩
    · have ds : decide ((200 : Int) < (s.size : Int)) = false := by simp; omega
      have dn : decide ((20 : Int) < (n : Int)) = true := by simp; omega
      go_enter Try.func6, Try.ntmps6
      go_wp2_with fail
      refine (known_calls _).mono ?_; rintro e w1 ⟨rfl, b1⟩
      go_wp2
      go_ret
      exact ⟨rfl, b1⟩
  · have ds : decide ((200 : Int) < (s.size : Int)) = true := by simp; omega
    go_enter Try.func6, Try.ntmps6
    go_wp2_with fail
    refine (known_calls _).mono ?_; rintro e w1 ⟨rfl, b1⟩
    go_wp2
    go_ret
    exact ⟨rfl, b1⟩

end Go.Proofs.Ytpejphfggfppdaa
