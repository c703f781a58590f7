/- The walks of Scan's Lit, Run, Number (layer 17, the reference). -/
import Derived.Test.YthniemoganoapaaDoorRefOwA
set_option maxRecDepth 100000
set_option linter.unusedVariables false
set_option linter.unusedSimpArgs false
namespace Go.Proofs.YthniemoganoapaaDoor
open Go.RowKit
attribute [local go_sem ↓] Go.wp_at_zero Go.wp_at_succ

theorem ScA.drewN {w : World} {b : Nat} {s : List UInt8} {k : Nat} {f : Bool} (h : ScA w b s k f) (n : Nat) : ScA (w.drewN n) b s k f := h.below (below_drewN (Below.refl _ _) n)
theorem sc_drewN {a w : World} {row : Option Nat} (h : a.grownBy w row) (n : Nat) : a.grownBy (w.drewN n) row := sc_trans h (sc_below (below_drewN (Below.refl _ _) n) row)
namespace Ow
theorem lit_nil (l : List UInt8) : lit [] l = .ok () l := rfl
theorem lit_end (t : UInt8) (ts : List UInt8) : lit (t :: ts) [] = .fell [] := rfl
theorem lit_yes (t : UInt8) (ts l : List UInt8) : lit (t :: ts) (t :: l) = lit ts l := by rw [show lit (t :: ts) (t :: l) = if t = t then lit ts l else .fell (t :: l) from rfl, if_pos rfl]
theorem lit_no {t c : UInt8} (h : ¬ c = t) (ts l : List UInt8) : lit (t :: ts) (c :: l) = .fell (c :: l) := by rw [show lit (t :: ts) (c :: l) = if c = t then lit ts l else .fell (c :: l) from rfl, if_neg h]
end Ow

set_option maxHeartbeats 8000000 in
theorem scl_calls {α : Type} (o : Ow.Out α) (t : List UInt8) (b : Nat) (s : List UInt8) (w : World) (h : ScO w b s o) (ht : t.length ≤ maxLen) (hs : s.length ≤ maxLen) :
    Calls Tryd.prog 22 #[.pointer (some ⟨b, 0, none⟩), .string (str t)] w fun e w' => e = .returned (.tuple #[]) ∧ w.grownBy w' (some b) ∧ ScO w' b s (o.bind fun _ r => Ow.lit t r) := by
  have hst := str_size t
  have hss := str_size s
  obtain ⟨P, hP⟩ : ∃ P, P = o.bind fun _ r => Ow.lit t r := ⟨_, rfl⟩
  rw [← hP]
  obtain ⟨hsuf, hn⟩ := h
  have hd0 := Ow.suf_at hsuf
  have hkl : s.length - o.rest.length ≤ s.length := Nat.sub_le _ _
  have hP0 : P = if Ow.fellB o = true then .fell (s.drop (s.length - o.rest.length)) else Ow.lit (t.drop 0) (s.drop (s.length - o.rest.length)) := by
    rw [hP, hd0, List.drop_zero]
    cases o <;> rfl
  clear hP hsuf hd0
  generalize s.length - o.rest.length = k at *
  generalize Ow.fellB o = f at *
  have HA := Lib.hid hn
  have HP0 := Lib.hid hP0
  clear hP0 hn
  unfold maxLen at ht hs
  have HG := Lib.hid (sc_below (Below.refl w.heap.size w) (some b))
  go_enter Tryd.func22, Tryd.ntmps22
  go_wp2_with fail
  go_loopw [4] (fun v wr => ∃ (i k : Nat) (f : Bool), i ≤ t.length ∧ k ≤ s.length ∧ v = .int .i64 (i : Nat) ∧ Hid (ScA wr b s k f) ∧ Hid (w.grownBy wr (some b)) ∧ Hid (P = if f = true then .fell (s.drop k) else Ow.lit (t.drop i) (s.drop k))) (fun v _ => t.length - (intOf v).toNat)
  case atStart => exact ⟨0, k, f, Nat.zero_le _, hkl, rfl, HA, HG, HP0⟩
  case round =>
    clear HA HG HP0 hkl
    obtain ⟨i, k, f, hi, hk, rfl, HA, HG, HP⟩ := hrel
    obtain ⟨c0, c1, c2, fr, lt⟩ := HA.out
    by_cases hit : i < t.length
    rotate_left
    · have d0 : decide ((i : Int) < (t.length : Int)) = false := decide_eq_false (by omega)
      have hr : Hid (P = if f = true then .fell (s.drop k) else .ok () (s.drop k)) := Lib.hid (by
        have := HP.out
        rw [List.drop_of_length_le (show t.length ≤ i by omega), Ow.lit_nil] at this; exact this)
      have HO : Hid (ScO wr b s P) := Lib.hid (HA.out.toO hk (by rw [hr.out]; cases f <;> rfl) (by rw [hr.out]; cases f <;> rfl))
      clear HP HA hr
      go_wp2
      refine bodyPost_end (results_none rfl _ _ _) rfl ?_
      exact ⟨rfl, HG.out, HO.out⟩
    have d0 : decide ((i : Int) < (t.length : Int)) = true := decide_eq_true (by omega)
    cases f with
    | true =>
      have HO : Hid (ScO wr b s P) := Lib.hid (HA.out.toO hk (by rw [HP.out]; rfl) (by rw [HP.out]; rfl))
      clear HP HA
      go_wp2
      refine bodyPost_end (results_none rfl _ _ _) rfl ?_
      exact ⟨rfl, HG.out, HO.out⟩
    | false =>
      have hint : i < (str t).size := by rw [hst]; exact hit
      have ht1 : t.drop i = (str t)[i]'hint :: t.drop (i + 1) := List.drop_eq_getElem_cons hit
      by_cases hks : k < s.length
      rotate_left
      · have d1 : decide ((s.length : Int) ≤ (k : Int)) = true := decide_eq_true (by omega)
        have hr : Hid (P = .fell (s.drop k)) := Lib.hid (by
          have := HP.out
          rw [if_neg (by decide), ht1, List.drop_of_length_le (show s.length ≤ k by omega), Ow.lit_end] at this
          rw [this, List.drop_of_length_le (show s.length ≤ k by omega)])
        clear HP ht1
        go_upto_region 3 with fail
        go_quiet (fail)
        go_wp2
        refine bodyPost_ret (results_none rfl _ _ _) rfl ?_
        exact ⟨rfl, sc_set (sc_drewN HG.out _), (HA.out.drewN _).fall.toO hk (by rw [hr.out]; rfl) (by rw [hr.out]; rfl)⟩
      have d1 : decide ((s.length : Int) ≤ (k : Int)) = false := decide_eq_false (by omega)
      have hins : k < (str s).size := by rw [hss]; exact hks
      have hs1 : s.drop k = (str s)[k]'hins :: s.drop (k + 1) := List.drop_eq_getElem_cons hks
      by_cases e : ((str s)[k].toNat : Int) = ((str t)[i].toNat : Int)
      · have b1 : (((str s)[k].toNat : Int) != ((str t)[i].toNat : Int)) = false := by simp [e]
        have he : (str s)[k]'hins = (str t)[i]'hint := UInt8.toNat_inj.1 (by omega)
        have hr : Hid (P = if false = true then .fell (s.drop (k + 1)) else Ow.lit (t.drop (i + 1)) (s.drop (k + 1))) := Lib.hid (by
          have := HP.out
          rw [if_neg (by decide), ht1, hs1, he, Ow.lit_yes] at this
          rw [if_neg (by decide)]; exact this)
        have hw : IntKind.i64.wrap ((k : Int) + 1) = ((k + 1 : Nat) : Int) := by rw [show (k : Int) + 1 = ((k + 1 : Nat) : Int) by omega]; exact IntWalk.i64_in _ (by omega)
        clear HP ht1 hs1 he e
        go_upto_region 3 with fail
        go_quiet (fail)
        go_wp2
        go_roundw
        case rel => exact ⟨i + 1, k + 1, false, hit, hks, by go_num, Lib.hid ((HA.out.drewN _).move (k + 1)), Lib.hid (sc_set (sc_drewN HG.out _)), hr⟩
        case measure => simp [intOf]; omega
      · have b1 : (((str s)[k].toNat : Int) != ((str t)[i].toNat : Int)) = true := by simp [e]
        have hr : Hid (P = .fell (s.drop k)) := Lib.hid (by
          have := HP.out
          rw [if_neg (by decide), ht1, hs1, Ow.lit_no (fun h => e (by rw [h]))] at this
          rw [this, hs1])
        clear HP ht1 hs1 e
        go_upto_region 3 with fail
        go_quiet (fail)
        go_wp2
        refine bodyPost_ret (results_none rfl _ _ _) rfl ?_
        exact ⟨rfl, sc_set (sc_drewN HG.out _), (HA.out.drewN _).fall.toO hk (by rw [hr.out]; rfl) (by rw [hr.out]; rfl)⟩

end Go.Proofs.YthniemoganoapaaDoor
