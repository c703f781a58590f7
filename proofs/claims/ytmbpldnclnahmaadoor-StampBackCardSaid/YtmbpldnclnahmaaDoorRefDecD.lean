/- The walks of the reference's decimal and Norm. -/
import Derived.Test.YtmbpldnclnahmaaDoorRefDecC
set_option linter.unusedVariables false
set_option linter.unusedSimpArgs false
namespace Go.Proofs.YtmbpldnclnahmaaDoor
open Go.RowKit Dc

/-- a decimal, or that there is none, as the reference tells it -/
def rdecV : Option (Int × Nat) → Value
  | none => .tuple #[.agg #[.int .i64 0, .int .i64 0], .bool false]
  | some (a, k) => .tuple #[.agg #[.int .i64 a, .int .i64 (k : Nat)], .bool true]
theorem decOf_step (neg : Bool) (q : Nat) (z : Int) (hz : 0 < z) (hq : q % 10 = 0) : decOf neg q z = decOf neg (q / 10) (z - 1) := by
  have h := decOf_pad neg (q / 10) (z - 1).toNat 1
  rw [show q / 10 * 10 ^ 1 = q by omega, show (((z - 1).toNat + 1 : Nat) : Int) = z by omega, show (((z - 1).toNat : Nat) : Int) = z - 1 by omega] at h
  exact h
theorem decOf_stop (neg : Bool) (q : Nat) (z : Int) (hq : q ≠ 0) (h : ¬ (0 < z ∧ q % 10 = 0)) :
    decOf neg q z = if big < q ∨ z < 0 ∨ 18 < z then none else some (if neg then -(q : Int) else (q : Int), z.toNat) := by
  unfold decOf
  by_cases h0 : z < 0
  · rw [if_pos h0, if_pos (Or.inr (Or.inl h0))]
  · rw [if_neg h0, if_neg hq, strip_id _ _ (by
      by_cases hz : z = 0
      · left; omega
      · right; exact fun e => h ⟨by omega, e⟩)]
    by_cases h1 : big < q ∨ z < 0 ∨ 18 < z
    · rw [if_pos h1, if_neg]
      rintro ⟨h2, h3⟩
      have h2' : q ≤ big := h2
      have h3' : z.toNat ≤ 18 := h3
      omega
    · rw [if_neg h1, if_pos ⟨by show q ≤ big; omega, by show z.toNat ≤ 18; omega⟩]

set_option maxRecDepth 100000 in
set_option maxHeartbeats 4000000 in
theorem rdecimal_calls (neg : Bool) (l : List Nat) (v : Value) (s : Int) (w : World) (hv : DR w v l) (h9 : ∀ d ∈ l, d ≤ 9) (hs1 : -9223372036854775808 ≤ s) (hs2 : s ≤ 9223372036854775807) :
    Calls Tryd.prog 36 #[.bool neg, v, .int .i64 s] w fun e w' => e = .returned (rdecV (decOf neg (valN l) s)) ∧ Below w.heap.size w w' := by
  have b0 := (Below.refl w.heap.size w).alloc (Nat.le_refl _) (.cells #[.int .i64 0, .int .i64 0] 23)
  have B0 := Lib.hid b0
  have ht := Lib.hid (rtrim_calls l v _ (hv.below b0) (fun d hd => Nat.le_trans (h9 d hd) (by omega)))
  rw [trimN_digs l h9] at ht
  clear b0 hv h9
  generalize valN l = N at *
  go_enter Tryd.func36, Tryd.ntmps36
  go_wp2_with fail
  refine ht.out.mono ?_; rintro e w1 ⟨v', rfl, d1, rfl⟩
  by_cases hN : N = 0
  · subst hN
    rw [digs_zero] at d1
    obtain ⟨A, cap, rfl, h1, h2, _⟩ := d1
    rw [show ([] : List Nat).length = 0 from rfl] at h1 ⊢
    unfold maxLen at h2
    by_cases hs : 0 ≤ s
    · have hd : Hid (decOf neg 0 s = some (0, 0)) := by show _ = _; unfold decOf; rw [if_neg (by omega), if_pos rfl]
      clear ht
      go_wp2_with fail
      refine bodyPost_ret (v := rdecV (some (0, 0))) (by simp [results, Tryd.results36, go_sem, rdecV]) rfl ⟨by rw [hd.out], B0.out⟩
    · have hd : Hid (decOf neg 0 s = none) := by show _ = _; unfold decOf; rw [if_pos (by omega)]
      clear ht
      go_wp2_with fail
      refine bodyPost_ret (v := rdecV none) (by simp [results, Tryd.results36, go_sem, rdecV]; omega) rfl ⟨by rw [hd.out], B0.out⟩
  · have hlen : 0 < (digs N).length := by
      have := digs_ne hN
      cases h : digs N with
      | nil => exact absurd h this
      | cons a b => simp
    obtain ⟨A, cap, rfl, h1, h2, h3⟩ := d1
    have hd0 : DR (w.alloc (.cells #[.int .i64 0, .int .i64 0] 23)) (.slice A (digs N).length cap) (digs N) := ⟨A, cap, rfl, h1, h2, h3⟩
    have Hd0 := Lib.hid hd0
    unfold maxLen at h2
    have hlb : ((digs N).length : Int) ≤ 9223372036854775807 := by omega
    clear ht h3 hd0
    go_wp2_with fail
    go_loop [1, 2] (fun s1 s2 => ∃ (q : Nat) (z : Int), q ≠ 0 ∧ DR (w.alloc (.cells #[.int .i64 0, .int .i64 0] 23)) s1 (digs q) ∧ s2 = .int .i64 z ∧ -9223372036854775808 ≤ z ∧ z ≤ 9223372036854775807 ∧ Hid (decOf neg q z = decOf neg N s)) (fun _ s2 => (intOf s2).toNat)
    case atStart => exact ⟨N, s, hN, Hd0.out, rfl, hs1, hs2, rfl⟩
    case round =>
      clear h1 h2 hlen hlb Hd0
      obtain ⟨q, z, hq, hdq, rfl, hz1, hz2, H⟩ := hrel
      have hdig := digs_pos hq
      have hdq' := Lib.hid hdq
      obtain ⟨A, cap, rfl, h1, h2, h3⟩ := hdq
      have hlen : (digs q).length = (digs (q / 10)).length + 1 := by rw [hdig]; simp
      have Hdq := Lib.hid h3
      have Hcap := Lib.hid h2
      unfold maxLen at h2
      rw [hlen] at h1 hdq' ⊢
      by_cases hgo : 0 < z ∧ q % 10 = 0
      · obtain ⟨hz0, hq0⟩ := hgo
        have hstep := decOf_step neg q z hz0 hq0
        have Hst := Lib.hid (hstep.symm.trans H.out)
        obtain ⟨b, off, rfl, hlt, hc⟩ := Hdq.out (by omega)
        have c1 := hc (digs (q / 10)).length 0 (by rw [hdig, List.getElem?_append_right (Nat.le_refl _)]; simp [hq0])
        have Hc := Lib.hid hc
        have Hdig := Lib.hid hdig
        have hq10 : q / 10 ≠ 0 := by omega
        have el : (((digs (q / 10)).length + 1 : Nat) : Int) - 1 = ((digs (q / 10)).length : Nat) := by omega
        clear hc hdig hlen hstep H hdq' Hdq
        generalize hL : (digs (q / 10)).length = L at *
        have HL := Lib.hid hL
        clear hL
        go_wp2_with fail
        go_round
        case rel =>
          refine ⟨q / 10, z - 1, hq10, ⟨_, cap, by rw [HL.out], by rw [HL.out]; omega, Hcap.out, fun _ => ⟨b, off, rfl, hlt, fun j d hj => ?_⟩⟩, rfl, by omega, by omega, Hst.out⟩
          have hjl : j < (digs (q / 10)).length := (List.getElem?_eq_some_iff.1 hj).1
          exact Hc.out j d (by rw [Hdig.out, List.getElem?_append_left hjl]; exact hj)
        case measure => simp [intOf]; omega
      · have hstop := decOf_stop neg q z hq hgo
        rw [H.out] at hstop
        have Hs := Lib.hid hstop
        have hzq : 0 < z → (((q % 10 : Nat) : Int) == 0) = false := fun h0 => by
          have : ¬ q % 10 = 0 := fun e => hgo ⟨h0, e⟩
          simpa using (by omega : ¬ ((q % 10 : Nat) : Int) = 0)
        have hwi := Lib.hid (fun W hW => rwithin_calls (digs q) (.slice A ((digs (q / 10)).length + 1) cap) W hW (digs_le q) (digs_head q))
        rw [digs_val] at hwi
        have hc0 : Hid (∃ b off, A = some ⟨b, off, none⟩ ∧ (w.alloc (.cells #[.int .i64 0, .int .i64 0] 23)).cell? ⟨b, off + (digs (q / 10)).length, none⟩ = some (.int .u8 ((q % 10 : Nat) : Int))) := by
          obtain ⟨b, off, e, _, hc⟩ := Hdq.out (by omega)
          exact ⟨b, off, e, hc _ _ (by rw [hdig, List.getElem?_append_right (Nat.le_refl _)]; simp)⟩
        clear hstop hgo H hdig hlen Hdq
        generalize (digs (q / 10)).length = L at *
        have el : ((L + 1 : Nat) : Int) - 1 = (L : Nat) := by omega
        by_cases hz0 : 0 < z
        · have hqz := hzq hz0
          obtain ⟨b, off, rfl, cL⟩ := hc0.out
          generalize ((q % 10 : Nat) : Int) = dq at *
          clear hzq
          go_wp2_with fail
          clear cL hqz
          refine (hwi.out _ hdq'.out).mono ?_; rintro e w2 ⟨rfl, b2⟩
          have B2 := Lib.hid (B0.out.trans (b2.mono B0.out.size))
          have c0 : w2.cell? ⟨w.heap.size, 0, none⟩ = some (.int .i64 0) := (b2.cell (p := ⟨w.heap.size, 0, none⟩) (by simp)).trans (by simp [go_sem])
          have c1 : w2.cell? ⟨w.heap.size, 1, none⟩ = some (.int .i64 0) := (b2.cell (p := ⟨w.heap.size, 1, none⟩) (by simp)).trans (by simp [go_sem])
          have f0 : w2.frozen? ⟨w.heap.size, 0, none⟩ = false := (b2.frozen (p := ⟨w.heap.size, 0, none⟩) (by simp)).trans (by simp [go_sem])
          have f1 : w2.frozen? ⟨w.heap.size, 1, none⟩ = false := (b2.frozen (p := ⟨w.heap.size, 1, none⟩) (by simp)).trans (by simp [go_sem])
          clear b2 hwi hdq' hc0
          by_cases hb : big < q
          · have hr := Hs.out
            rw [if_pos (Or.inl hb)] at hr
            have Hr := Lib.hid hr
            rw [show withinV q = Value.tuple #[.int .i64 0, .bool false] by unfold withinV; rw [if_neg (by omega)]]
            clear hr
            go_wp2_with fail
            refine bodyPost_ret (v := rdecV none) (by simp [results, Tryd.results36, go_sem, rdecV, c0, c1]) rfl ⟨by rw [Hr.out], ?_⟩
            repeat (refine Below.setCell ?_ (by simp) _)
            exact B2.out
          · rw [show withinV q = Value.tuple #[.int .i64 (q : Nat), .bool true] by unfold withinV; rw [if_pos (by omega)]]
            have hbq : q ≤ 9223372036854775807 := by unfold big at hb; omega
            by_cases hz18 : 18 < z
            · have hr := Hs.out
              rw [if_pos (Or.inr (Or.inr hz18))] at hr
              have Hr := Lib.hid hr
              clear hr
              go_wp2_with fail
              refine bodyPost_ret (v := rdecV none) (by simp [results, Tryd.results36, go_sem, rdecV, c0, c1]) rfl ⟨by rw [Hr.out], ?_⟩
              repeat (refine Below.setCell ?_ (by simp) _)
              exact B2.out
            · have hr := Hs.out
              rw [if_neg (by rintro (h | h | h) <;> omega)] at hr
              obtain ⟨k, rfl⟩ : ∃ k : Nat, z = k := ⟨z.toNat, by omega⟩
              rw [Int.toNat_natCast] at hr
              cases neg
              · have Hr := Lib.hid hr
                clear hr
                go_wp2_with fail
                refine bodyPost_ret (v := rdecV (some ((q : Int), k))) (by simp [results, Tryd.results36, go_sem, rdecV, c0, c1]) rfl ⟨by rw [Hr.out]; rfl, ?_⟩
                repeat (refine Below.setCell ?_ (by simp) _)
                exact B2.out
              · have Hr := Lib.hid hr
                clear hr
                go_wp2_with fail
                refine bodyPost_ret (v := rdecV (some (-(q : Int), k))) (by simp [results, Tryd.results36, go_sem, rdecV, c0, c1]) rfl ⟨by rw [Hr.out]; rfl, ?_⟩
                repeat (refine Below.setCell ?_ (by simp) _)
                exact B2.out
        · clear hzq
          go_wp2_with fail
          refine (hwi.out _ hdq'.out).mono ?_; rintro e w2 ⟨rfl, b2⟩
          have B2 := Lib.hid (B0.out.trans (b2.mono B0.out.size))
          have c0 : w2.cell? ⟨w.heap.size, 0, none⟩ = some (.int .i64 0) := (b2.cell (p := ⟨w.heap.size, 0, none⟩) (by simp)).trans (by simp [go_sem])
          have c1 : w2.cell? ⟨w.heap.size, 1, none⟩ = some (.int .i64 0) := (b2.cell (p := ⟨w.heap.size, 1, none⟩) (by simp)).trans (by simp [go_sem])
          have f0 : w2.frozen? ⟨w.heap.size, 0, none⟩ = false := (b2.frozen (p := ⟨w.heap.size, 0, none⟩) (by simp)).trans (by simp [go_sem])
          have f1 : w2.frozen? ⟨w.heap.size, 1, none⟩ = false := (b2.frozen (p := ⟨w.heap.size, 1, none⟩) (by simp)).trans (by simp [go_sem])
          clear b2 hwi hdq' hc0
          by_cases hb : big < q
          · have hr := Hs.out
            rw [if_pos (Or.inl hb)] at hr
            have Hr := Lib.hid hr
            rw [show withinV q = Value.tuple #[.int .i64 0, .bool false] by unfold withinV; rw [if_neg (by omega)]]
            clear hr
            go_wp2_with fail
            refine bodyPost_ret (v := rdecV none) (by simp [results, Tryd.results36, go_sem, rdecV, c0, c1]) rfl ⟨by rw [Hr.out], ?_⟩
            repeat (refine Below.setCell ?_ (by simp) _)
            exact B2.out
          · rw [show withinV q = Value.tuple #[.int .i64 (q : Nat), .bool true] by unfold withinV; rw [if_pos (by omega)]]
            have hbq : q ≤ 9223372036854775807 := by unfold big at hb; omega
            by_cases hzn : z < 0
            · have hr := Hs.out
              rw [if_pos (Or.inr (Or.inl hzn))] at hr
              have Hr := Lib.hid hr
              clear hr
              go_wp2_with fail
              refine bodyPost_ret (v := rdecV none) (by simp [results, Tryd.results36, go_sem, rdecV, c0, c1]) rfl ⟨by rw [Hr.out], ?_⟩
              repeat (refine Below.setCell ?_ (by simp) _)
              exact B2.out
            · have hr := Hs.out
              rw [if_neg (by rintro (h | h | h) <;> omega)] at hr
              obtain ⟨k, rfl⟩ : ∃ k : Nat, z = k := ⟨z.toNat, by omega⟩
              rw [Int.toNat_natCast] at hr
              cases neg
              · have Hr := Lib.hid hr
                clear hr
                go_wp2_with fail
                refine bodyPost_ret (v := rdecV (some ((q : Int), k))) (by simp [results, Tryd.results36, go_sem, rdecV, c0, c1]) rfl ⟨by rw [Hr.out]; rfl, ?_⟩
                repeat (refine Below.setCell ?_ (by simp) _)
                exact B2.out
              · have Hr := Lib.hid hr
                clear hr
                go_wp2_with fail
                refine bodyPost_ret (v := rdecV (some (-(q : Int), k))) (by simp [results, Tryd.results36, go_sem, rdecV, c0, c1]) rfl ⟨by rw [Hr.out]; rfl, ?_⟩
                repeat (refine Below.setCell ?_ (by simp) _)
                exact B2.out

end Go.Proofs.YtmbpldnclnahmaaDoor
