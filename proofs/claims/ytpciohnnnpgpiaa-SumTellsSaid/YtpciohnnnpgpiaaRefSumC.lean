/- The walk of the reference's minus of rows of digits. -/
import Derived.Test.YtpciohnnnpgpiaaRefSumB
set_option linter.unusedVariables false
set_option linter.unusedSimpArgs false
namespace Go.Proofs.Ytpciohnnnpgpiaa
open Go.RowKit Dc

set_option maxRecDepth 100000 in
set_option maxHeartbeats 4000000 in
theorem rminus_calls (x y : Nat) (v u : Value) (w : World) (hv : DR w v (digs x)) (hu : DR w u (digs y)) (hx : x < 10 ^ 80) (hyx : y ≤ x) :
    Calls Try.prog 48 #[v, u] w fun e w' => ∃ v', e = .returned v' ∧ DR w' v' (digs (x - y)) ∧ Below w.heap.size w w' := by
  obtain ⟨A, capa, rfl, h1, h2, h3⟩ := hv
  obtain ⟨B, capb, rfl, k1, k2, k3⟩ := hu
  have hla : (digs x).length ≤ 80 := digs_len_le hx
  have hlb : (digs y).length ≤ 80 := digs_len_le (Nat.lt_of_le_of_lt hyx hx)
  have Ha : Hid (∀ i, 1 ≤ i → i ≤ (digs x).length → ∃ b off, A = some ⟨b, off, none⟩ ∧ b < w.heap.size ∧ w.cell? ⟨b, off + ((digs x).length - i), none⟩ = some (.int .u8 (dgt x (i - 1) : Nat))) := fun i a b => by
    obtain ⟨g, off, e, hl, hc⟩ := h3 (by omega)
    exact ⟨g, off, e, hl, hc _ _ (digs_at x i a b)⟩
  have Hb : Hid (∀ i, 1 ≤ i → i ≤ (digs y).length → ∃ b off, B = some ⟨b, off, none⟩ ∧ b < w.heap.size ∧ w.cell? ⟨b, off + ((digs y).length - i), none⟩ = some (.int .u8 (dgt y (i - 1) : Nat))) := fun i a b => by
    obtain ⟨g, off, e, hl, hc⟩ := k3 (by omega)
    exact ⟨g, off, e, hl, hc _ _ (digs_at y i a b)⟩
  have hzb : Hid (∀ i, (digs y).length < i → dgt y (i - 1) = 0) := fun i h => digs_above y i h
  have hlt : x - y < 10 ^ (digs x).length := Nat.lt_of_le_of_lt (Nat.sub_le _ _) (digs_lt x)
  have Hyx := Lib.hid hyx
  obtain ⟨la, hlae⟩ : ∃ la, la = (digs x).length := ⟨_, rfl⟩
  obtain ⟨lb, hlbe⟩ : ∃ lb, lb = (digs y).length := ⟨_, rfl⟩
  rw [← hlae] at h1 hla Ha hlt ⊢
  rw [← hlbe] at k1 hlb Hb hzb ⊢
  have hmk := fun W => make_bytes la (by omega) W
  have htr := Lib.hid (fun W V (hV : DR W V (drow (x - y) la)) => rtrim_calls (drow (x - y) la) V W hV (fun d hd => Nat.le_trans (drow_le _ _ d hd) (by omega)))
  rw [drow_trim _ _ hlt] at htr
  unfold maxLen at h2 k2
  clear h3 k3 hlae hlbe hlt hx hyx
  go_enter Try.func48, Try.ntmps48
  go_wp2_with fail
  have kB := (Below.refl w.heap.size w).alloc (Nat.le_refl _) (.cells (rA .u8 la (fun _ => 0)) 5)
  have kr := RAt.new w 5 .u8 la (fun _ => 0)
  have H0 := Lib.hid (⟨kB, kr⟩ : _ ∧ _)
  generalize w.alloc (.cells (rA .u8 la (fun _ => 0)) 5) = W at *
  clear kB kr hmk
  go_loopw [6, 7] (fun s6 s7 wr => ∃ i c : Nat, 1 ≤ i ∧ i ≤ la + 1 ∧ c ≤ 1 ∧ s6 = .int .i64 (c : Nat) ∧ s7 = .int .i64 (i : Nat) ∧ Hid (Below w.heap.size w wr ∧ c = cy (x - y) y (i - 1) ∧ RAt wr w.heap.size 5 .u8 la (fun t => if la - t < i then dgt (x - y) (la - 1 - t) else 0))) (fun _ s7 _ => la + 2 - (intOf s7).toNat)
  case atStart => exact ⟨1, 0, by omega, by omega, by omega, rfl, rfl, H0.out.1, (cy_zero _ y).symm, H0.out.2.ext fun t ht => by rw [if_neg (by omega)]⟩
  case round =>
    clear H0
    obtain ⟨i, c, hi1, hin, hc1, rfl, rfl, HH⟩ := hrel
    by_cases hi : i ≤ la
    · have c0 := HH.out.2.2.cell (la - i) (by omega)
      have f0 := HH.out.2.2.free (la - i)
      have hda9 := dgt_le x (i - 1)
      have hdb9 := dgt_le y (i - 1)
      have hD : Hid (dgt (x - y) (i - 1) = (10 + dgt x (i - 1) - dgt y (i - 1) - c) % 10 ∧ cy (x - y) y i = 1 - (10 + dgt x (i - 1) - dgt y (i - 1) - c) / 10) := by
        have h1 := minus_dgt x y (i - 1) Hyx.out
        rw [← HH.out.2.1] at h1
        rw [show i - 1 + 1 = i by omega] at h1
        exact h1
      have hix : ((la : Nat) : Int) - (i : Int) = ((la - i : Nat) : Int) := by omega
      have hxb : i ≤ lb → ((lb : Nat) : Int) - (i : Int) = ((lb - i : Nat) : Int) := fun h => by omega
      have hfin : Hid (∀ (wq : World) (a b d cc : Nat), dgt x (i - 1) = a → dgt y (i - 1) = b → d = (10 + a - b - c) % 10 → cc = 1 - (10 + a - b - c) / 10 → wq = wr.setCell ⟨w.heap.size, la - i, none⟩ (.int .u8 ((d : Nat) : Int)) → Below w.heap.size w wq ∧ cc = cy (x - y) y (i + 1 - 1) ∧ RAt wq w.heap.size 5 .u8 la (fun t => if la - t < i + 1 then dgt (x - y) (la - 1 - t) else 0)) := fun wq a b d cc ea eb ed ec e => by
        subst e
        rw [ed, ec, ← ea, ← eb]
        refine ⟨Below.setCell (p := ⟨w.heap.size, la - i, none⟩) HH.out.1 (by simp) _, by rw [Nat.add_sub_cancel, hD.out.2], (HH.out.2.2.set (la - i) ((10 + dgt x (i - 1) - dgt y (i - 1) - c) % 10)).ext fun t ht => ?_⟩
        by_cases h : t = la - i
        · subst h
          rw [if_pos rfl, if_pos (by omega), ← hD.out.1]; congr 1; omega
        · rw [if_neg h]
          by_cases h3 : la - t < i
          · rw [if_pos h3, if_pos (by omega)]
          · rw [if_neg h3, if_neg (by omega)]
      obtain ⟨ba, offa, hAa, hlta, eca⟩ := Ha.out i hi1 hi
      subst hAa
      have ea := (HH.out.1.cell (p := ⟨ba, offa + (la - i), none⟩) hlta).trans eca
      clear eca Ha
      by_cases hib : i ≤ lb
      · by_cases hneg : dgt x (i - 1) < dgt y (i - 1) + c
        · obtain ⟨bb, offb, hBb, hltb, ecb⟩ := Hb.out i hi1 hib
          subst hBb
          have eb := (HH.out.1.cell (p := ⟨bb, offb + (lb - i), none⟩) hltb).trans ecb
          have hxb2 := hxb hib
          clear ecb
          clear hxb hD Hb
          generalize hda : dgt x (i - 1) = da at *
          generalize hdb : dgt y (i - 1) = db at *
          clear hda hdb
          have hne : da < db + c := hneg
          clear hneg
          have hl : (da : Int) - (c : Int) - (db : Int) < 0 := by omega
          go_wp2_with fail
          go_roundw
          case rel =>
            have e1 : (da : Int) - (c : Int) - (db : Int) + 10 = (((10 + da - db - c) : Nat) : Int) := by omega
            rw [e1]
            exact ⟨i + 1, 1, by omega, by omega, by omega, rfl, by go_num, hfin.out _ da db (10 + da - db - c) 1 rfl rfl (by omega) (by omega) rfl⟩
          case measure => simp [intOf]; omega
        · obtain ⟨bb, offb, hBb, hltb, ecb⟩ := Hb.out i hi1 hib
          subst hBb
          have eb := (HH.out.1.cell (p := ⟨bb, offb + (lb - i), none⟩) hltb).trans ecb
          have hxb2 := hxb hib
          clear ecb
          clear hxb hD Hb
          generalize hda : dgt x (i - 1) = da at *
          generalize hdb : dgt y (i - 1) = db at *
          clear hda hdb
          have hne : ¬ da < db + c := hneg
          clear hneg
          have hl : ¬ (da : Int) - (c : Int) - (db : Int) < 0 := by omega
          go_wp2_with fail
          go_roundw
          case rel =>
            have e1 : (da : Int) - (c : Int) - (db : Int) = (((da - db - c) : Nat) : Int) := by omega
            rw [e1]
            exact ⟨i + 1, 0, by omega, by omega, by omega, rfl, by go_num, hfin.out _ da db (da - db - c) 0 rfl rfl (by omega) (by omega) rfl⟩
          case measure => simp [intOf]; omega
      · by_cases hneg : dgt x (i - 1) < dgt y (i - 1) + c
        · have db0 : dgt y (i - 1) = 0 := hzb.out i (by omega)
          clear hxb hD Hb
          generalize hda : dgt x (i - 1) = da at *
          generalize hdb : dgt y (i - 1) = db at *
          clear hda hdb
          subst db0
          have hne : da < 0 + c := hneg
          clear hneg
          have hl : (da : Int) - (c : Int) < 0 := by omega
          go_wp2_with fail
          go_roundw
          case rel =>
            have e1 : (da : Int) - (c : Int) + 10 = (((10 + da - 0 - c) : Nat) : Int) := by omega
            rw [e1]
            exact ⟨i + 1, 1, by omega, by omega, by omega, rfl, by go_num, hfin.out _ da 0 (10 + da - 0 - c) 1 rfl rfl (by omega) (by omega) rfl⟩
          case measure => simp [intOf]; omega
        · have db0 : dgt y (i - 1) = 0 := hzb.out i (by omega)
          clear hxb hD Hb
          generalize hda : dgt x (i - 1) = da at *
          generalize hdb : dgt y (i - 1) = db at *
          clear hda hdb
          subst db0
          have hne : ¬ da < 0 + c := hneg
          clear hneg
          have hl : ¬ (da : Int) - (c : Int) < 0 := by omega
          go_wp2_with fail
          go_roundw
          case rel =>
            have e1 : (da : Int) - (c : Int) = (((da - 0 - c) : Nat) : Int) := by omega
            rw [e1]
            exact ⟨i + 1, 0, by omega, by omega, by omega, rfl, by go_num, hfin.out _ da 0 (da - 0 - c) 0 rfl rfl (by omega) (by omega) rfl⟩
          case measure => simp [intOf]; omega
    · obtain rfl : i = la + 1 := by omega
      have hd := HH.out.2.2.row (N := x - y) (fun t ht => if_pos (by omega)) (by unfold maxLen; omega)
      have hB := HH.out.1
      have htd := Lib.hid (htr.out wr _ hd)
      clear htr hd HH
      go_wp2_with fail
      refine htd.out.mono ?_; rintro e w2 ⟨v', rfl, d2, rfl⟩
      go_wp2_with fail
      go_ret
      exact ⟨v', rfl, d2, hB⟩

end Go.Proofs.Ytpciohnnnpgpiaa
