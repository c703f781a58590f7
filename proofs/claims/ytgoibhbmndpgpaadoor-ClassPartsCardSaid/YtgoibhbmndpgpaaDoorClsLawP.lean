/- The walk of the law ClassParts (layer 16). -/
import Derived.Test.YtgoibhbmndpgpaaDoorClsC
import Derived.Test.YtgoibhbmndpgpaaDoorChW
import Derived.Deep.RegionHeld3
import Derived.Deep.DrawnRows
import Derived.Deep.DeepCutAuto
set_option maxRecDepth 100000
set_option linter.unusedVariables false
set_option linter.unusedSimpArgs false
namespace Go.Proofs.YtgoibhbmndpgpaaDoor
open Go.RowKit Go.Sort Dc
attribute [local go_sem ↓] Go.wp_at_zero Go.wp_at_succ

theorem Kl.w4_heap (w : World) (o1 o2 o3 o4 : Obj) : ((((w.alloc o1).alloc o2).alloc o3).alloc o4).heap[w.heap.size + 2]? = some o3 ∧ ((((w.alloc o1).alloc o2).alloc o3).alloc o4).heap[w.heap.size + 3]? = some o4 ∧ ((((w.alloc o1).alloc o2).alloc o3).alloc o4).heap.size = w.heap.size + 4 := by
  have h3 := heap_alloc_new ((w.alloc o1).alloc o2) o3
  have h4 := heap_alloc_new (((w.alloc o1).alloc o2).alloc o3) o4
  rw [show ((w.alloc o1).alloc o2).heap.size = w.heap.size + 2 by simp] at h3
  rw [show (((w.alloc o1).alloc o2).alloc o3).heap.size = w.heap.size + 3 by simp] at h4
  exact ⟨by rw [Below.heap_alloc _ _ _ (by simp)]; exact h3, h4, by simp⟩
set_option maxHeartbeats 4000000 in
/-- one, block by block -/
theorem one16x_calls (k : Int) (y : Ps) (w : World) (hy : ∃ A n cap, y.1 = .slice A n cap) :
    Calls Tryd.prog 11 #[.int .i64 k, ptv y.1 y.2] w fun e w' => e = .returned (batv [116] (.slice (some ⟨w.heap.size + 3, 0, none⟩) 1 1)) ∧ Below w.heap.size w w' ∧ Hid (w'.heap[w.heap.size + 2]? = some (.cells (ptc y.1 y.2) 27 (0, 0)) ∧ w'.heap[w.heap.size + 3]? = some (.cells (famc (oHd k) (.slice (some ⟨w.heap.size + 2, 0, none⟩) 1 1)) 45 (0, 0)) ∧ w'.heap.size = w.heap.size + 4) := by
  obtain ⟨A2, n2, cap2, hy1⟩ := hy
  obtain ⟨yv, yp⟩ := y
  simp only at hy1
  subst hy1
  have HW := Lib.hid (fun o1 o2 => Kl.w4_heap w o1 o2 (.cells (ptc (.slice A2 n2 cap2) yp) 27) (.cells (famc (oHd k) (.slice (some ⟨w.heap.size + 2, 0, none⟩) 1 1)) 45))
  go_enter Tryd.func11, Tryd.ntmps11
  go_wp2
  refine bodyPost_ret (v := .agg #[.string ⟨#[116]⟩, .slice (some ⟨w.heap.size + 3, 0, none⟩) 1 1]) (by simp [results, Tryd.results11, go_sem]) rfl ⟨rfl, ?_, HW.out _ _⟩
  exact kp_alloc (kp_alloc (kp_alloc (kp_alloc (Below.refl _ _) _) _) _) _
/-- one element in a block of its own -/
theorem Kl.krow_heap {α : Type} {enc : α → List Value} {k : Nat} {X : World} {b : Nat} {T : TypeId} {a : Array Value} {x : α} (hk : (enc x).length = k) (h : X.heap[b]? = some (.cells a T (0, 0))) (ha : a = (enc x).toArray) : KRow enc k X (.slice (some ⟨b, 0, none⟩) 1 1) [x] := by
  refine ⟨_, 1, rfl, Nat.le_refl _, by unfold maxLen; omega, (by rintro ⟨⟩), fun _ => ⟨b, 0, rfl, (Array.getElem?_eq_some_iff.1 h).1, fun i y hy j u hu => ?_⟩⟩
  have hi : i = 0 := by have := (List.getElem?_eq_some_iff.1 hy).1; simp at this; omega
  subst hi
  obtain rfl : x = y := by simpa using hy
  rw [cell_of_row X b _ a T (0, 0) h, ha]
  simpa using hu
theorem Kl.cp_row {X : World} {bF bP bL : Nat} {n v : List UInt8} {h : Hd} {q : Pt} (hL : X.heap[bL]? = some (.cells #[.string (str n), .string (str v)] 31 (0, 0))) (hP : X.heap[bP]? = some (.cells (ptc (.slice (some ⟨bL, 0, none⟩) 1 1) q) 27 (0, 0)))
    (hF : X.heap[bF]? = some (.cells (famc h (.slice (some ⟨bP, 0, none⟩) 1 1)) 45 (0, 0))) (hq : q.l = [(n, v)]) (hi : PtIn q) (hh : HdIn h) : FmRow X (.slice (some ⟨bF, 0, none⟩) 1 1) [⟨h, .slice (some ⟨bP, 0, none⟩) 1 1, [(.slice (some ⟨bL, 0, none⟩) 1 1, q)]⟩] := by
  have hlr : LbRow X (.slice (some ⟨bL, 0, none⟩) 1 1) q.l := by
    rw [hq]
    refine ⟨_, 1, rfl, Nat.le_refl _, by unfold maxLen; omega, (by rintro ⟨⟩), fun _ => ⟨bL, 0, rfl, (Array.getElem?_eq_some_iff.1 hL).1, fun i y hy => ?_⟩⟩
    have hi : i = 0 := by have := (List.getElem?_eq_some_iff.1 hy).1; simp at this; omega
    subst hi
    obtain rfl : (n, v) = y := by simpa using hy
    exact ⟨by rw [cell_of_row X bL _ _ _ (0, 0) hL]; rfl, by rw [cell_of_row X bL _ _ _ (0, 0) hL]; rfl⟩
  have hp : PtRow X (.slice (some ⟨bP, 0, none⟩) 1 1) [((.slice (some ⟨bL, 0, none⟩) 1 1, q) : Ps)] := ⟨Kl.krow_heap (encP_len _) hP rfl, fun x hx => by rw [List.mem_singleton.1 hx]; exact ⟨hlr, hi⟩⟩
  exact ⟨Kl.krow_heap (encF_len _) hF rfl, fun x hx => by rw [List.mem_singleton.1 hx]; exact ⟨hp, hh⟩⟩
theorem Kl.cp_row0 {X : World} {bF : Nat} {h : Hd} (hF : X.heap[bF]? = some (.cells (famc h (.slice none 0 0)) 45 (0, 0))) (hh : HdIn h) : FmRow X (.slice (some ⟨bF, 0, none⟩) 1 1) [⟨h, .slice none 0 0, []⟩] :=
  ⟨Kl.krow_heap (encF_len _) hF rfl, fun x hx => by rw [List.mem_singleton.1 hx]; exact ⟨PtRow.nil _, hh⟩⟩
def cpt (td : Bool) : Pt := ⟨[([108], [118])], 0, false, 0, 0, 0, 0, td, 0⟩
theorem Kl.cp_in {n v : List UInt8} {td : Bool} {ti : Int} (hn : n.length ≤ 60) (hv : v.length ≤ 60) (ht : 0 ≤ ti ∧ ti ≤ 1) : PtIn ⟨[(n, v)], 0, false, 0, 0, 0, 0, td, ti⟩ :=
  ⟨by show (-9223372036854775808 : Int) ≤ 0; decide, by show (0 : Int) ≤ 9223372036854775807; decide, by show (-9223372036854775808 : Int) ≤ 0; decide, by show (0 : Int) ≤ 9223372036854775807; decide, by show (-9223372036854775808 : Int) ≤ ti; omega, by show ti ≤ (9223372036854775807 : Int); omega, fun x hx => by rw [List.mem_singleton.1 hx]; exact ⟨by show n.length ≤ maxLen; unfold maxLen; omega, by show v.length ≤ maxLen; unfold maxLen; omega⟩⟩
theorem Kl.ch_in {n u h : List UInt8} {K : Int} (hn : n.length ≤ 60) (hu : u.length ≤ 60) (hh : h.length ≤ 60) (hK : 0 ≤ K ∧ K ≤ 1) : HdIn ⟨n, K, u, h⟩ :=
  ⟨by show n.length ≤ maxLen; unfold maxLen; omega, by show u.length ≤ maxLen; unfold maxLen; omega, by show h.length ≤ maxLen; unfold maxLen; omega, by show (-9223372036854775808 : Int) ≤ K; omega, by show K ≤ (9223372036854775807 : Int); omega⟩
/-- the batch that is looked at, its blocks -/
structure CpAt (X : World) (bL bP bF zb : Nat) (K : Int) (td : Bool) : Prop where
  hL : X.heap[bL]? = some (.cells #[.string (str [108]), .string (str [118])] 31 (0, 0))
  hP : X.heap[bP]? = some (.cells (ptc (.slice (some ⟨bL, 0, none⟩) 1 1) (cpt td)) 27 (0, 0))
  hF : X.heap[bF]? = some (.cells (famc (oHd K) (.slice (some ⟨bP, 0, none⟩) 1 1)) 45 (0, 0))
  hz : X.heap[zb]? = some (.cells #[.string (str [116]), .slice (some ⟨bF, 0, none⟩) 1 1] 37 (0, 0))
  ne : bL < bP ∧ bP < bF ∧ bF < zb
theorem CpAt.below {X Y : World} {bL bP bF zb : Nat} {K : Int} {td : Bool} (h : CpAt X bL bP bF zb K td) (hb : Below X.heap.size X Y) : CpAt Y bL bP bF zb K td :=
  ⟨by rw [hb.block _ (Array.getElem?_eq_some_iff.1 h.hL).1]; exact h.hL, by rw [hb.block _ (Array.getElem?_eq_some_iff.1 h.hP).1]; exact h.hP, by rw [hb.block _ (Array.getElem?_eq_some_iff.1 h.hF).1]; exact h.hF, by rw [hb.block _ (Array.getElem?_eq_some_iff.1 h.hz).1]; exact h.hz, h.ne⟩
theorem Kl.cp_few {h : Hd} {v : Value} {L : List Ps} (hL : L.length ≤ 1) (hl : ∀ y ∈ L, y.2.l.length ≤ 1) : FmFew [⟨h, v, L⟩] := ⟨by simp, fun x hx => by rw [List.mem_singleton.1 hx]; show L.length ≤ 1000; omega, fun x hx y hy => by rw [List.mem_singleton.1 hx] at hy; have := hl y hy; omega⟩
theorem Kl.cp0 {P K : Int} (hp : 1 ≤ P ∧ P ≤ 4) (hK : K = if P = 4 then 1 else 0) : (Kl.why P [116] [((⟨[195, 169], K, [], []⟩ : Hd), [(⟨[([108], [118])], 0, false, 0, 0, 0, 0, (P != 4), 0⟩ : Pt)])]).2 = false := by
  subst hK
  rcases (show P = 1 ∨ P = 2 ∨ P = 3 ∨ P = 4 by omega) with rfl | rfl | rfl | rfl <;> decide +kernel
theorem Kl.cp1 {P K : Int} (hp : 1 ≤ P ∧ P ≤ 4) (hK : K = if P = 4 then 1 else 0) : (Kl.why P [116] [((⟨[97], K, [], []⟩ : Hd), [(⟨[([195, 169], [118])], 0, false, 0, 0, 0, 0, (P != 4), 0⟩ : Pt)])]).2 = false := by
  subst hK
  rcases (show P = 1 ∨ P = 2 ∨ P = 3 ∨ P = 4 by omega) with rfl | rfl | rfl | rfl <;> decide +kernel
theorem Kl.cp2 {P K : Int} (hp : 1 ≤ P ∧ P ≤ 4) (hK : K = if P = 4 then 1 else 0) : (Kl.why P [116] [((⟨[97], K, [], []⟩ : Hd), [(⟨[([108], [])], 0, false, 0, 0, 0, 0, (P != 4), 0⟩ : Pt)])]).2 = (P == 1) := by
  subst hK
  rcases (show P = 1 ∨ P = 2 ∨ P = 3 ∨ P = 4 by omega) with rfl | rfl | rfl | rfl <;> decide +kernel
theorem Kl.cp3 {P K : Int} (hp : 1 ≤ P ∧ P ≤ 4) (hK : K = if P = 4 then 1 else 0) : (Kl.why P [116] [((⟨[97], K, [], []⟩ : Hd), [(⟨[([108], [97, 10, 98])], 0, false, 0, 0, 0, 0, (P != 4), 0⟩ : Pt)])]).2 = (P == 1) := by
  subst hK
  rcases (show P = 1 ∨ P = 2 ∨ P = 3 ∨ P = 4 by omega) with rfl | rfl | rfl | rfl <;> decide +kernel
theorem Kl.cp4 {P K : Int} (hp : 1 ≤ P ∧ P ≤ 4) (hK : K = if P = 4 then 1 else 0) : (Kl.why P [116] [((⟨[97, 95, 115], K, [115], []⟩ : Hd), [(⟨[([108], [118])], 0, false, 0, 0, 0, 0, (P != 4), 0⟩ : Pt)])]).2 = (P == 1) := by
  subst hK
  rcases (show P = 1 ∨ P = 2 ∨ P = 3 ∨ P = 4 by omega) with rfl | rfl | rfl | rfl <;> decide +kernel
theorem Kl.cp5 {P K : Int} (hp : 1 ≤ P ∧ P ≤ 4) (hK : K = if P = 4 then 1 else 0) : (Kl.why P [116] [((⟨[97], K, [115], []⟩ : Hd), [(⟨[([108], [118])], 0, false, 0, 0, 0, 0, (P != 4), 0⟩ : Pt)])]).2 = false := by
  subst hK
  rcases (show P = 1 ∨ P = 2 ∨ P = 3 ∨ P = 4 by omega) with rfl | rfl | rfl | rfl <;> decide +kernel
theorem Kl.cp6 {P K : Int} (hp : 1 ≤ P ∧ P ≤ 4) (hK : K = if P = 4 then 1 else 0) : (Kl.why P [116] [((⟨[97], K, [], [104]⟩ : Hd), [(⟨[([108], [118])], 0, false, 0, 0, 0, 0, (P != 4), 0⟩ : Pt)])]).2 = (P == 1) := by
  subst hK
  rcases (show P = 1 ∨ P = 2 ∨ P = 3 ∨ P = 4 by omega) with rfl | rfl | rfl | rfl <;> decide +kernel
theorem Kl.cp7 {P K : Int} (hp : 1 ≤ P ∧ P ≤ 4) (hK : K = if P = 4 then 1 else 0) : (Kl.why P [116] [((⟨[97], K, [], []⟩ : Hd), ([] : List Pt))]).2 = (P == 1) := by
  subst hK
  rcases (show P = 1 ∨ P = 2 ∨ P = 3 ∨ P = 4 by omega) with rfl | rfl | rfl | rfl <;> decide +kernel
theorem Kl.cp8 {P K : Int} (hp : 1 ≤ P ∧ P ≤ 4) (hK : K = if P = 4 then 1 else 0) : (Kl.why P [116] [((⟨[97], K, [], []⟩ : Hd), [(⟨[([108], [118])], 0, false, 0, 0, 0, 0, true, 1⟩ : Pt)])]).2 = ((P == 1) || (P == 2)) := by
  subst hK
  rcases (show P = 1 ∨ P = 2 ∨ P = 3 ∨ P = 4 by omega) with rfl | rfl | rfl | rfl <;> decide +kernel
theorem Kl.cpb {P K : Int} (hp : 1 ≤ P ∧ P ≤ 4) (hK : K = if P = 4 then 1 else 0) : (Kl.why P [116] [(oHd K, [cpt (P != 4)])]).2 = true := by
  subst hK
  rcases (show P = 1 ∨ P = 2 ∨ P = 3 ∨ P = 4 by omega) with rfl | rfl | rfl | rfl <;> decide +kernel

set_option maxHeartbeats 16000000 in
theorem clsparts_walk (proto how : Int) (w : World) (hp0 : 0 ≤ proto) (hp1 : proto ≤ 255) (hh0 : 0 ≤ how) (hh1 : how ≤ 255) (hC : ClsC w) (hK : ∀ X, Below w.heap.size w X → Calls Tryd.prog 6 #[] X fun e w' => e = .returned (.bool true) ∧ Below X.heap.size X w') :
    Calls Tryd.prog 4 #[.int .u8 proto, .int .u8 how] w fun e w' => e = .returned (.bool true) ∧ Below w.heap.size w w' := by
  have H0 := Lib.hid (hK w (Below.refl _ _))
  have HC := Lib.hid hC
  have HT : Hid (([116] : List UInt8).length ≤ maxLen) := Lib.hid (by unfold maxLen; simp)
  obtain ⟨q, hq, hq4⟩ : ∃ q : Nat, proto % 4 = (q : Int) ∧ q < 4 := ⟨(proto % 4).toNat, by omega, by omega⟩
  have t1 : proto.tmod 4 = (q : Int) := by rw [Int.tmod_eq_emod_of_nonneg hp0]; exact hq
  have t2 : IntKind.u8.wrap (q : Int) = (q : Int) := IntWalk.u8_in _ (by omega)
  have t3 : IntKind.i64.wrap (q : Int) = (q : Int) := IntWalk.i64_in _ (by omega)
  have t4 : IntKind.i64.wrap (1 + (q : Int)) = 1 + (q : Int) := IntWalk.i64_in _ (by omega)
  obtain ⟨m, hm, hm9⟩ : ∃ m : Nat, how % 9 = (m : Int) ∧ m < 9 := ⟨(how % 9).toNat, by omega, by omega⟩
  have t5 : how.tmod 9 = (m : Int) := by rw [Int.tmod_eq_emod_of_nonneg hh0]; exact hm
  have t6 : IntKind.u8.wrap (m : Int) = (m : Int) := IntWalk.u8_in _ (by omega)
  obtain ⟨P, hP, HPq⟩ : ∃ P : Int, (1 ≤ P ∧ P ≤ 4) ∧ Hid (P = 1 + (q : Int)) := ⟨1 + (q : Int), by omega, rfl⟩
  obtain ⟨K, HK⟩ : ∃ K : Int, Hid (K = if P = 4 then 1 else 0) := ⟨_, rfl⟩
  have HP := Lib.hid hP
  have HM := Lib.hid hm9
  clear hq4 hm hm9 hq hC hK hp0 hp1 hh0 hh1 hP
  go_enter Tryd.func4, Tryd.ntmps4
  go_wp2_with fail
  refine H0.out.mono ?_; rintro e w1 ⟨rfl, b1⟩
  have K1 := Lib.hid b1
  clear b1 H0
  go_upto_region 3 with (fail)
  go_cut [5] (fun s5 wx => s5 = .int .i64 P ∧ wx = w1)
  case first =>
    go_wp2_with fail
    go_meet
    exact ⟨by rw [HPq.out], rfl⟩
  case rest =>
  obtain ⟨rfl, rfl⟩ := hcut
  clear t1 t2 t3 t4 HPq
  go_upto_if 17 with (fail)
  go_cut [6] (fun s6 wx => s6 = .int .i64 K ∧ wx = wc)
  case first =>
    by_cases h4 : P = 4
    · have hk := Lib.hid (show K = 1 by rw [HK.out, if_pos h4])
      have d4 : (P == 4) = true := beq_iff_eq.2 h4
      clear HK HP h4
      go_wp2_with fail
      go_meet
      exact ⟨by rw [hk.out], rfl⟩
    · have hk := Lib.hid (show K = 0 by rw [HK.out, if_neg h4])
      have d4 : (P == 4) = false := beq_eq_false_iff_ne.2 h4
      clear HK HP h4
      go_wp2_with fail
      go_meet
      exact ⟨by rw [hk.out], rfl⟩
  case rest =>
  obtain ⟨rfl, rfl⟩ := hcut
  go_wp2_with fail
  refine (one16x_calls K (.slice (some ⟨wc.heap.size, 0, none⟩) 1 1, cpt (P != 4)) _ ⟨_, _, _, rfl⟩).mono ?_; rintro e w3 ⟨rfl, b3, HW3⟩
  have N0 := heap_alloc_new wc (.cells #[.string (str [108]), .string (str [118])] 31)
  have ka := kp_alloc (Below.refl wc.heap.size wc) (.cells #[.string (str [108]), .string (str [118])] 31)
  go_upto_region 8 with fail
  obtain ⟨W4, hW4⟩ : ∃ W, W = w3.alloc (.cells #[.string (str [116]), .slice (some ⟨(wc.alloc (.cells #[.string (str [108]), .string (str [118])] 31)).heap.size + 3, 0, none⟩) 1 1] 37) := ⟨_, rfl⟩
  have hz1 : (wc.alloc (.cells #[.string (str [108]), .string (str [118])] 31)).heap.size = wc.heap.size + 1 := by simp
  obtain ⟨g1, g2, g3⟩ := HW3.out
  rw [hz1] at g1 g2 g3 hW4
  have kb := kp_alloc (Below.refl w3.heap.size w3) (.cells #[.string (str [116]), .slice (some ⟨wc.heap.size + 1 + 3, 0, none⟩) 1 1] 37)
  have N4 := heap_alloc_new w3 (.cells #[.string (str [116]), .slice (some ⟨wc.heap.size + 1 + 3, 0, none⟩) 1 1] 37)
  rw [← hW4] at kb N4
  have hK4 := trans9 K1.out (trans9 ka (trans9 b3 kb))
  have A4 : CpAt W4 wc.heap.size (wc.heap.size + 1 + 2) (wc.heap.size + 1 + 3) w3.heap.size K (P != 4) :=
    ⟨by rw [kb.block _ (by rw [g3]; omega), b3.block _ (by rw [hz1]; omega)]; exact N0, by rw [kb.block _ (by rw [g3]; omega)]; exact g1, by rw [kb.block _ (by rw [g3]; omega)]; exact g2, N4, by omega⟩
  have HA4 := Lib.hid A4
  have K4 := Lib.hid hK4
  have hsz : Hid (w.heap.size ≤ wc.heap.size) := Lib.hid K1.out.size
  rw [hz1] at *
  first
    | rw [← hW4]
    | skip
  clear N0 ka b3 HW3 hW4 g1 g2 g3 kb N4 hK4 A4 hz1 K1
  generalize w3.heap.size = zb at *
  obtain ⟨bP, hbP⟩ : ∃ b, b = wc.heap.size + 1 + 2 := ⟨_, rfl⟩
  obtain ⟨bF, hbF⟩ : ∃ b, b = wc.heap.size + 1 + 3 := ⟨_, rfl⟩
  rw [← hbP, ← hbF] at HA4
  try rw [← hbF]
  clear hbP hbF
  generalize wc.heap.size = bL at *
  have R4 := Kl.cp_row HA4.out.hL HA4.out.hP HA4.out.hF rfl (Kl.cp_in (by decide) (by decide) (by decide)) (oHd_in (by have := HK.out; split at this <;> omega))
  have c4 := HC.out.is P [116] _ _ W4 K4.out R4 (Kl.cp_few (by simp) (fun y hy => by rw [List.mem_singleton.1 hy]; exact Nat.le_refl 1)) HT.out
  rw [show (Kl.why P [116] (fms [(⟨oHd K, .slice (some ⟨bP, 0, none⟩) 1 1, [(.slice (some ⟨bL, 0, none⟩) 1 1, cpt (P != 4))]⟩ : Fs)])).2 = true from Kl.cpb HP.out HK.out] at c4
  have C4 := Lib.hid c4
  have z0 : W4.cell? ⟨zb, 0, none⟩ = some (.string (str [116])) := by rw [cell_of_row W4 zb 0 _ _ _ HA4.out.hz]; rfl
  have z1 : W4.cell? ⟨zb, 1, none⟩ = some (.slice (some ⟨bF, 0, none⟩) 1 1) := by rw [cell_of_row W4 zb 1 _ _ _ HA4.out.hz]; rfl
  clear c4 R4
  go_wp2_with fail
  refine C4.out.mono ?_; rintro e w5 ⟨rfl, b5⟩
  have K5 := Lib.hid (trans9 K4.out b5)
  have HA5 := Lib.hid (HA4.out.below b5)
  clear b5 K4 HA4 C4 z0 z1
  have z0 : w5.cell? ⟨zb, 0, none⟩ = some (.string (str [116])) := by rw [cell_of_row w5 zb 0 _ _ _ HA5.out.hz]; rfl
  have z1 : w5.cell? ⟨zb, 1, none⟩ = some (.slice (some ⟨bF, 0, none⟩) 1 1) := by rw [cell_of_row w5 zb 1 _ _ _ HA5.out.hz]; rfl
  have f0 : w5.cell? ⟨bF, 0, none⟩ = some (.string (str [97])) := by rw [cell_of_row w5 bF 0 _ _ _ HA5.out.hF]; rfl
  have f1 : w5.cell? ⟨bF, 1, none⟩ = some (.int .i64 K) := by rw [cell_of_row w5 bF 1 _ _ _ HA5.out.hF]; rfl
  have f2 : w5.cell? ⟨bF, 2, none⟩ = some (.string (str [])) := by rw [cell_of_row w5 bF 2 _ _ _ HA5.out.hF]; rfl
  have f3 : w5.cell? ⟨bF, 3, none⟩ = some (.string (str [])) := by rw [cell_of_row w5 bF 3 _ _ _ HA5.out.hF]; rfl
  have f4 : w5.cell? ⟨bF, 4, none⟩ = some (.slice (some ⟨bP, 0, none⟩) 1 1) := by rw [cell_of_row w5 bF 4 _ _ _ HA5.out.hF]; rfl
  have p0 : w5.cell? ⟨bP, 0, none⟩ = some (.slice (some ⟨bL, 0, none⟩) 1 1) := by rw [cell_of_row w5 bP 0 _ _ _ HA5.out.hP]; rfl
  have p7 : w5.cell? ⟨bP, 7, none⟩ = some (.bool (P != 4)) := by rw [cell_of_row w5 bP 7 _ _ _ HA5.out.hP]; rfl
  have p8 : w5.cell? ⟨bP, 8, none⟩ = some (.int .i64 0) := by rw [cell_of_row w5 bP 8 _ _ _ HA5.out.hP]; rfl
  have l0 : w5.cell? ⟨bL, 0, none⟩ = some (.string (str [108])) := by rw [cell_of_row w5 bL 0 _ _ _ HA5.out.hL]; rfl
  have l1 : w5.cell? ⟨bL, 1, none⟩ = some (.string (str [118])) := by rw [cell_of_row w5 bL 1 _ _ _ HA5.out.hL]; rfl
  have ffr : ∀ o, w5.frozen? ⟨bF, o, none⟩ = false := fun o => Lib.frozen_of_heap HA5.out.hF o
  have pfr : ∀ o, w5.frozen? ⟨bP, o, none⟩ = false := fun o => Lib.frozen_of_heap HA5.out.hP o
  have lfr : ∀ o, w5.frozen? ⟨bL, o, none⟩ = false := fun o => Lib.frozen_of_heap HA5.out.hL o
  have HNE := Lib.hid HA5.out.ne
  go_upto_region 12 with fail
  have hm9 := HM.out
  rcases (show m = 0 ∨ m = 1 ∨ m = 2 ∨ m = 3 ∨ m = 4 ∨ m = 5 ∨ m = 6 ∨ m = 7 ∨ m = 8 by omega) with rfl | rfl | rfl | rfl | rfl | rfl | rfl | rfl | rfl
  · have s5 : how.tmod 9 = 0 := t5
    have s6 : IntKind.u8.wrap 0 = 0 := by decide
    clear t5 t6 HM hm9
    go_upto_region 36 with fail
    obtain ⟨X, hX⟩ : ∃ X, X = (w5.setCell ⟨bF, 0, none⟩ (.string ⟨#[195, 169]⟩)) := ⟨_, rfl⟩
    have HZ : Hid (X.heap[zb]? = some (.cells #[.string (str [116]), .slice (some ⟨bF, 0, none⟩) 1 1] 37 (0, 0))) := Lib.hid (by rw [hX]; exact ((heap_setCell_other w5 ⟨bF, 0, none⟩ zb (.string ⟨#[195, 169]⟩) (by have := HNE.out; show zb ≠ bF; omega)).trans HA5.out.hz))
    have HF : Hid (X.heap[bF]? = some (.cells (famc ⟨[195, 169], K, [], []⟩ (.slice (some ⟨bP, 0, none⟩) 1 1)) 45 (0, 0))) := Lib.hid (by rw [hX]; exact (set_heap w5 bF 0 _ _ _ (.string ⟨#[195, 169]⟩) HA5.out.hF))
    have HPp : Hid (X.heap[bP]? = some (.cells (ptc (.slice (some ⟨bL, 0, none⟩) 1 1) ⟨[([108], [118])], 0, false, 0, 0, 0, 0, (P != 4), 0⟩) 27 (0, 0))) := Lib.hid (by rw [hX]; exact ((heap_setCell_other w5 ⟨bF, 0, none⟩ bP (.string ⟨#[195, 169]⟩) (by have := HNE.out; show bP ≠ bF; omega)).trans HA5.out.hP))
    have HLl : Hid (X.heap[bL]? = some (.cells #[.string (str [108]), .string (str [118])] 31 (0, 0))) := Lib.hid (by rw [hX]; exact ((heap_setCell_other w5 ⟨bF, 0, none⟩ bL (.string ⟨#[195, 169]⟩) (by have := HNE.out; show bL ≠ bF; omega)).trans HA5.out.hL))
    have KX : Hid (Below w.heap.size w X) := Lib.hid (by rw [hX]; exact (K5.out.setCell (p := ⟨bF, 0, none⟩) (by have h1 := HNE.out; have h2 := hsz.out; show w.heap.size ≤ bF; omega) _))
    rw [← hX]
    clear hX z0 z1 f0 f1 f2 f3 f4 p0 p7 p8 l0 l1 ffr pfr lfr HA5 K5
    have RX := Kl.cp_row HLl.out HPp.out HF.out rfl (Kl.cp_in (by decide) (by decide) (by decide)) (Kl.ch_in (by decide) (by decide) (by decide) (by have := HK.out; split at this <;> omega))
    have cX := HC.out.is P [116] _ _ X KX.out RX (Kl.cp_few (by simp) (fun y hy => by rw [List.mem_singleton.1 hy]; exact Nat.le_refl 1)) HT.out
    rw [show (Kl.why P [116] (fms [(⟨⟨[195, 169], K, [], []⟩, .slice (some ⟨bP, 0, none⟩) 1 1, [(.slice (some ⟨bL, 0, none⟩) 1 1, ⟨[([108], [118])], 0, false, 0, 0, 0, 0, (P != 4), 0⟩)]⟩ : Fs)])).2 = false from Kl.cp0 HP.out HK.out] at cX
    have CX := Lib.hid cX
    have z0 : X.cell? ⟨zb, 0, none⟩ = some (.string (str [116])) := by rw [cell_of_row X zb 0 _ _ _ HZ.out]; rfl
    have z1 : X.cell? ⟨zb, 1, none⟩ = some (.slice (some ⟨bF, 0, none⟩) 1 1) := by rw [cell_of_row X zb 1 _ _ _ HZ.out]; rfl
    clear cX RX
    go_wp2_with fail
    refine CX.out.mono ?_; rintro e w6 ⟨rfl, b6⟩
    have K6 := Lib.hid (trans9 KX.out b6)
    clear b6 z0 z1
    go_wp2_with fail
    go_ret
    exact ⟨by first | rfl | simp, K6.out⟩
  · have s5 : how.tmod 9 = 1 := t5
    have s6 : IntKind.u8.wrap 1 = 1 := by decide
    clear t5 t6 HM hm9
    go_upto_region 36 with fail
    obtain ⟨X, hX⟩ : ∃ X, X = (w5.setCell ⟨bL, 0, none⟩ (.string ⟨#[195, 169]⟩)) := ⟨_, rfl⟩
    have HZ : Hid (X.heap[zb]? = some (.cells #[.string (str [116]), .slice (some ⟨bF, 0, none⟩) 1 1] 37 (0, 0))) := Lib.hid (by rw [hX]; exact ((heap_setCell_other w5 ⟨bL, 0, none⟩ zb (.string ⟨#[195, 169]⟩) (by have := HNE.out; show zb ≠ bL; omega)).trans HA5.out.hz))
    have HF : Hid (X.heap[bF]? = some (.cells (famc ⟨[97], K, [], []⟩ (.slice (some ⟨bP, 0, none⟩) 1 1)) 45 (0, 0))) := Lib.hid (by rw [hX]; exact ((heap_setCell_other w5 ⟨bL, 0, none⟩ bF (.string ⟨#[195, 169]⟩) (by have := HNE.out; show bF ≠ bL; omega)).trans HA5.out.hF))
    have HPp : Hid (X.heap[bP]? = some (.cells (ptc (.slice (some ⟨bL, 0, none⟩) 1 1) ⟨[([195, 169], [118])], 0, false, 0, 0, 0, 0, (P != 4), 0⟩) 27 (0, 0))) := Lib.hid (by rw [hX]; exact ((heap_setCell_other w5 ⟨bL, 0, none⟩ bP (.string ⟨#[195, 169]⟩) (by have := HNE.out; show bP ≠ bL; omega)).trans HA5.out.hP))
    have HLl : Hid (X.heap[bL]? = some (.cells #[.string (str [195, 169]), .string (str [118])] 31 (0, 0))) := Lib.hid (by rw [hX]; exact (set_heap w5 bL 0 _ _ _ (.string ⟨#[195, 169]⟩) HA5.out.hL))
    have KX : Hid (Below w.heap.size w X) := Lib.hid (by rw [hX]; exact (K5.out.setCell (p := ⟨bL, 0, none⟩) (by have h1 := HNE.out; have h2 := hsz.out; show w.heap.size ≤ bL; omega) _))
    rw [← hX]
    clear hX z0 z1 f0 f1 f2 f3 f4 p0 p7 p8 l0 l1 ffr pfr lfr HA5 K5
    have RX := Kl.cp_row HLl.out HPp.out HF.out rfl (Kl.cp_in (by decide) (by decide) (by decide)) (Kl.ch_in (by decide) (by decide) (by decide) (by have := HK.out; split at this <;> omega))
    have cX := HC.out.is P [116] _ _ X KX.out RX (Kl.cp_few (by simp) (fun y hy => by rw [List.mem_singleton.1 hy]; exact Nat.le_refl 1)) HT.out
    rw [show (Kl.why P [116] (fms [(⟨⟨[97], K, [], []⟩, .slice (some ⟨bP, 0, none⟩) 1 1, [(.slice (some ⟨bL, 0, none⟩) 1 1, ⟨[([195, 169], [118])], 0, false, 0, 0, 0, 0, (P != 4), 0⟩)]⟩ : Fs)])).2 = false from Kl.cp1 HP.out HK.out] at cX
    have CX := Lib.hid cX
    have z0 : X.cell? ⟨zb, 0, none⟩ = some (.string (str [116])) := by rw [cell_of_row X zb 0 _ _ _ HZ.out]; rfl
    have z1 : X.cell? ⟨zb, 1, none⟩ = some (.slice (some ⟨bF, 0, none⟩) 1 1) := by rw [cell_of_row X zb 1 _ _ _ HZ.out]; rfl
    clear cX RX
    go_wp2_with fail
    refine CX.out.mono ?_; rintro e w6 ⟨rfl, b6⟩
    have K6 := Lib.hid (trans9 KX.out b6)
    clear b6 z0 z1
    go_wp2_with fail
    go_ret
    exact ⟨by first | rfl | simp, K6.out⟩
  · have s5 : how.tmod 9 = 2 := t5
    have s6 : IntKind.u8.wrap 2 = 2 := by decide
    clear t5 t6 HM hm9
    go_upto_region 36 with fail
    obtain ⟨X, hX⟩ : ∃ X, X = (w5.setCell ⟨bL, 1, none⟩ (.string ⟨#[]⟩)) := ⟨_, rfl⟩
    have HZ : Hid (X.heap[zb]? = some (.cells #[.string (str [116]), .slice (some ⟨bF, 0, none⟩) 1 1] 37 (0, 0))) := Lib.hid (by rw [hX]; exact ((heap_setCell_other w5 ⟨bL, 1, none⟩ zb (.string ⟨#[]⟩) (by have := HNE.out; show zb ≠ bL; omega)).trans HA5.out.hz))
    have HF : Hid (X.heap[bF]? = some (.cells (famc ⟨[97], K, [], []⟩ (.slice (some ⟨bP, 0, none⟩) 1 1)) 45 (0, 0))) := Lib.hid (by rw [hX]; exact ((heap_setCell_other w5 ⟨bL, 1, none⟩ bF (.string ⟨#[]⟩) (by have := HNE.out; show bF ≠ bL; omega)).trans HA5.out.hF))
    have HPp : Hid (X.heap[bP]? = some (.cells (ptc (.slice (some ⟨bL, 0, none⟩) 1 1) ⟨[([108], [])], 0, false, 0, 0, 0, 0, (P != 4), 0⟩) 27 (0, 0))) := Lib.hid (by rw [hX]; exact ((heap_setCell_other w5 ⟨bL, 1, none⟩ bP (.string ⟨#[]⟩) (by have := HNE.out; show bP ≠ bL; omega)).trans HA5.out.hP))
    have HLl : Hid (X.heap[bL]? = some (.cells #[.string (str [108]), .string (str [])] 31 (0, 0))) := Lib.hid (by rw [hX]; exact (set_heap w5 bL 1 _ _ _ (.string ⟨#[]⟩) HA5.out.hL))
    have KX : Hid (Below w.heap.size w X) := Lib.hid (by rw [hX]; exact (K5.out.setCell (p := ⟨bL, 1, none⟩) (by have h1 := HNE.out; have h2 := hsz.out; show w.heap.size ≤ bL; omega) _))
    rw [← hX]
    clear hX z0 z1 f0 f1 f2 f3 f4 p0 p7 p8 l0 l1 ffr pfr lfr HA5 K5
    have RX := Kl.cp_row HLl.out HPp.out HF.out rfl (Kl.cp_in (by decide) (by decide) (by decide)) (Kl.ch_in (by decide) (by decide) (by decide) (by have := HK.out; split at this <;> omega))
    have cX := HC.out.is P [116] _ _ X KX.out RX (Kl.cp_few (by simp) (fun y hy => by rw [List.mem_singleton.1 hy]; exact Nat.le_refl 1)) HT.out
    rw [show (Kl.why P [116] (fms [(⟨⟨[97], K, [], []⟩, .slice (some ⟨bP, 0, none⟩) 1 1, [(.slice (some ⟨bL, 0, none⟩) 1 1, ⟨[([108], [])], 0, false, 0, 0, 0, 0, (P != 4), 0⟩)]⟩ : Fs)])).2 = (P == 1) from Kl.cp2 HP.out HK.out] at cX
    have CX := Lib.hid cX
    have z0 : X.cell? ⟨zb, 0, none⟩ = some (.string (str [116])) := by rw [cell_of_row X zb 0 _ _ _ HZ.out]; rfl
    have z1 : X.cell? ⟨zb, 1, none⟩ = some (.slice (some ⟨bF, 0, none⟩) 1 1) := by rw [cell_of_row X zb 1 _ _ _ HZ.out]; rfl
    clear cX RX
    go_wp2_with fail
    refine CX.out.mono ?_; rintro e w6 ⟨rfl, b6⟩
    have K6 := Lib.hid (trans9 KX.out b6)
    clear b6 z0 z1
    go_wp2_with fail
    go_ret
    exact ⟨by first | rfl | simp, K6.out⟩
  · have s5 : how.tmod 9 = 3 := t5
    have s6 : IntKind.u8.wrap 3 = 3 := by decide
    clear t5 t6 HM hm9
    go_upto_region 36 with fail
    obtain ⟨X, hX⟩ : ∃ X, X = (w5.setCell ⟨bL, 1, none⟩ (.string ⟨#[97, 10, 98]⟩)) := ⟨_, rfl⟩
    have HZ : Hid (X.heap[zb]? = some (.cells #[.string (str [116]), .slice (some ⟨bF, 0, none⟩) 1 1] 37 (0, 0))) := Lib.hid (by rw [hX]; exact ((heap_setCell_other w5 ⟨bL, 1, none⟩ zb (.string ⟨#[97, 10, 98]⟩) (by have := HNE.out; show zb ≠ bL; omega)).trans HA5.out.hz))
    have HF : Hid (X.heap[bF]? = some (.cells (famc ⟨[97], K, [], []⟩ (.slice (some ⟨bP, 0, none⟩) 1 1)) 45 (0, 0))) := Lib.hid (by rw [hX]; exact ((heap_setCell_other w5 ⟨bL, 1, none⟩ bF (.string ⟨#[97, 10, 98]⟩) (by have := HNE.out; show bF ≠ bL; omega)).trans HA5.out.hF))
    have HPp : Hid (X.heap[bP]? = some (.cells (ptc (.slice (some ⟨bL, 0, none⟩) 1 1) ⟨[([108], [97, 10, 98])], 0, false, 0, 0, 0, 0, (P != 4), 0⟩) 27 (0, 0))) := Lib.hid (by rw [hX]; exact ((heap_setCell_other w5 ⟨bL, 1, none⟩ bP (.string ⟨#[97, 10, 98]⟩) (by have := HNE.out; show bP ≠ bL; omega)).trans HA5.out.hP))
    have HLl : Hid (X.heap[bL]? = some (.cells #[.string (str [108]), .string (str [97, 10, 98])] 31 (0, 0))) := Lib.hid (by rw [hX]; exact (set_heap w5 bL 1 _ _ _ (.string ⟨#[97, 10, 98]⟩) HA5.out.hL))
    have KX : Hid (Below w.heap.size w X) := Lib.hid (by rw [hX]; exact (K5.out.setCell (p := ⟨bL, 1, none⟩) (by have h1 := HNE.out; have h2 := hsz.out; show w.heap.size ≤ bL; omega) _))
    rw [← hX]
    clear hX z0 z1 f0 f1 f2 f3 f4 p0 p7 p8 l0 l1 ffr pfr lfr HA5 K5
    have RX := Kl.cp_row HLl.out HPp.out HF.out rfl (Kl.cp_in (by decide) (by decide) (by decide)) (Kl.ch_in (by decide) (by decide) (by decide) (by have := HK.out; split at this <;> omega))
    have cX := HC.out.is P [116] _ _ X KX.out RX (Kl.cp_few (by simp) (fun y hy => by rw [List.mem_singleton.1 hy]; exact Nat.le_refl 1)) HT.out
    rw [show (Kl.why P [116] (fms [(⟨⟨[97], K, [], []⟩, .slice (some ⟨bP, 0, none⟩) 1 1, [(.slice (some ⟨bL, 0, none⟩) 1 1, ⟨[([108], [97, 10, 98])], 0, false, 0, 0, 0, 0, (P != 4), 0⟩)]⟩ : Fs)])).2 = (P == 1) from Kl.cp3 HP.out HK.out] at cX
    have CX := Lib.hid cX
    have z0 : X.cell? ⟨zb, 0, none⟩ = some (.string (str [116])) := by rw [cell_of_row X zb 0 _ _ _ HZ.out]; rfl
    have z1 : X.cell? ⟨zb, 1, none⟩ = some (.slice (some ⟨bF, 0, none⟩) 1 1) := by rw [cell_of_row X zb 1 _ _ _ HZ.out]; rfl
    clear cX RX
    go_wp2_with fail
    refine CX.out.mono ?_; rintro e w6 ⟨rfl, b6⟩
    have K6 := Lib.hid (trans9 KX.out b6)
    clear b6 z0 z1
    go_wp2_with fail
    go_ret
    exact ⟨by first | rfl | simp, K6.out⟩
  · have s5 : how.tmod 9 = 4 := t5
    have s6 : IntKind.u8.wrap 4 = 4 := by decide
    clear t5 t6 HM hm9
    go_upto_region 36 with fail
    obtain ⟨X, hX⟩ : ∃ X, X = ((w5.setCell ⟨bF, 2, none⟩ (.string ⟨#[115]⟩)).setCell ⟨bF, 0, none⟩ (.string ⟨#[97, 95, 115]⟩)) := ⟨_, rfl⟩
    have HZ : Hid (X.heap[zb]? = some (.cells #[.string (str [116]), .slice (some ⟨bF, 0, none⟩) 1 1] 37 (0, 0))) := Lib.hid (by rw [hX]; exact ((heap_setCell_other (w5.setCell ⟨bF, 2, none⟩ (.string ⟨#[115]⟩)) ⟨bF, 0, none⟩ zb (.string ⟨#[97, 95, 115]⟩) (by have := HNE.out; show zb ≠ bF; omega)).trans ((heap_setCell_other w5 ⟨bF, 2, none⟩ zb (.string ⟨#[115]⟩) (by have := HNE.out; show zb ≠ bF; omega)).trans HA5.out.hz)))
    have HF : Hid (X.heap[bF]? = some (.cells (famc ⟨[97, 95, 115], K, [115], []⟩ (.slice (some ⟨bP, 0, none⟩) 1 1)) 45 (0, 0))) := Lib.hid (by rw [hX]; exact (set_heap (w5.setCell ⟨bF, 2, none⟩ (.string ⟨#[115]⟩)) bF 0 _ _ _ (.string ⟨#[97, 95, 115]⟩) (set_heap w5 bF 2 _ _ _ (.string ⟨#[115]⟩) HA5.out.hF)))
    have HPp : Hid (X.heap[bP]? = some (.cells (ptc (.slice (some ⟨bL, 0, none⟩) 1 1) ⟨[([108], [118])], 0, false, 0, 0, 0, 0, (P != 4), 0⟩) 27 (0, 0))) := Lib.hid (by rw [hX]; exact ((heap_setCell_other (w5.setCell ⟨bF, 2, none⟩ (.string ⟨#[115]⟩)) ⟨bF, 0, none⟩ bP (.string ⟨#[97, 95, 115]⟩) (by have := HNE.out; show bP ≠ bF; omega)).trans ((heap_setCell_other w5 ⟨bF, 2, none⟩ bP (.string ⟨#[115]⟩) (by have := HNE.out; show bP ≠ bF; omega)).trans HA5.out.hP)))
    have HLl : Hid (X.heap[bL]? = some (.cells #[.string (str [108]), .string (str [118])] 31 (0, 0))) := Lib.hid (by rw [hX]; exact ((heap_setCell_other (w5.setCell ⟨bF, 2, none⟩ (.string ⟨#[115]⟩)) ⟨bF, 0, none⟩ bL (.string ⟨#[97, 95, 115]⟩) (by have := HNE.out; show bL ≠ bF; omega)).trans ((heap_setCell_other w5 ⟨bF, 2, none⟩ bL (.string ⟨#[115]⟩) (by have := HNE.out; show bL ≠ bF; omega)).trans HA5.out.hL)))
    have KX : Hid (Below w.heap.size w X) := Lib.hid (by rw [hX]; exact ((K5.out.setCell (p := ⟨bF, 2, none⟩) (by have h1 := HNE.out; have h2 := hsz.out; show w.heap.size ≤ bF; omega) _).setCell (p := ⟨bF, 0, none⟩) (by have h1 := HNE.out; have h2 := hsz.out; show w.heap.size ≤ bF; omega) _))
    rw [← hX]
    clear hX z0 z1 f0 f1 f2 f3 f4 p0 p7 p8 l0 l1 ffr pfr lfr HA5 K5
    have RX := Kl.cp_row HLl.out HPp.out HF.out rfl (Kl.cp_in (by decide) (by decide) (by decide)) (Kl.ch_in (by decide) (by decide) (by decide) (by have := HK.out; split at this <;> omega))
    have cX := HC.out.is P [116] _ _ X KX.out RX (Kl.cp_few (by simp) (fun y hy => by rw [List.mem_singleton.1 hy]; exact Nat.le_refl 1)) HT.out
    rw [show (Kl.why P [116] (fms [(⟨⟨[97, 95, 115], K, [115], []⟩, .slice (some ⟨bP, 0, none⟩) 1 1, [(.slice (some ⟨bL, 0, none⟩) 1 1, ⟨[([108], [118])], 0, false, 0, 0, 0, 0, (P != 4), 0⟩)]⟩ : Fs)])).2 = (P == 1) from Kl.cp4 HP.out HK.out] at cX
    have CX := Lib.hid cX
    have z0 : X.cell? ⟨zb, 0, none⟩ = some (.string (str [116])) := by rw [cell_of_row X zb 0 _ _ _ HZ.out]; rfl
    have z1 : X.cell? ⟨zb, 1, none⟩ = some (.slice (some ⟨bF, 0, none⟩) 1 1) := by rw [cell_of_row X zb 1 _ _ _ HZ.out]; rfl
    clear cX RX
    go_wp2_with fail
    refine CX.out.mono ?_; rintro e w6 ⟨rfl, b6⟩
    have K6 := Lib.hid (trans9 KX.out b6)
    clear b6 z0 z1
    go_wp2_with fail
    go_ret
    exact ⟨by first | rfl | simp, K6.out⟩
  · have s5 : how.tmod 9 = 5 := t5
    have s6 : IntKind.u8.wrap 5 = 5 := by decide
    clear t5 t6 HM hm9
    go_upto_region 36 with fail
    obtain ⟨X, hX⟩ : ∃ X, X = (w5.setCell ⟨bF, 2, none⟩ (.string ⟨#[115]⟩)) := ⟨_, rfl⟩
    have HZ : Hid (X.heap[zb]? = some (.cells #[.string (str [116]), .slice (some ⟨bF, 0, none⟩) 1 1] 37 (0, 0))) := Lib.hid (by rw [hX]; exact ((heap_setCell_other w5 ⟨bF, 2, none⟩ zb (.string ⟨#[115]⟩) (by have := HNE.out; show zb ≠ bF; omega)).trans HA5.out.hz))
    have HF : Hid (X.heap[bF]? = some (.cells (famc ⟨[97], K, [115], []⟩ (.slice (some ⟨bP, 0, none⟩) 1 1)) 45 (0, 0))) := Lib.hid (by rw [hX]; exact (set_heap w5 bF 2 _ _ _ (.string ⟨#[115]⟩) HA5.out.hF))
    have HPp : Hid (X.heap[bP]? = some (.cells (ptc (.slice (some ⟨bL, 0, none⟩) 1 1) ⟨[([108], [118])], 0, false, 0, 0, 0, 0, (P != 4), 0⟩) 27 (0, 0))) := Lib.hid (by rw [hX]; exact ((heap_setCell_other w5 ⟨bF, 2, none⟩ bP (.string ⟨#[115]⟩) (by have := HNE.out; show bP ≠ bF; omega)).trans HA5.out.hP))
    have HLl : Hid (X.heap[bL]? = some (.cells #[.string (str [108]), .string (str [118])] 31 (0, 0))) := Lib.hid (by rw [hX]; exact ((heap_setCell_other w5 ⟨bF, 2, none⟩ bL (.string ⟨#[115]⟩) (by have := HNE.out; show bL ≠ bF; omega)).trans HA5.out.hL))
    have KX : Hid (Below w.heap.size w X) := Lib.hid (by rw [hX]; exact (K5.out.setCell (p := ⟨bF, 2, none⟩) (by have h1 := HNE.out; have h2 := hsz.out; show w.heap.size ≤ bF; omega) _))
    rw [← hX]
    clear hX z0 z1 f0 f1 f2 f3 f4 p0 p7 p8 l0 l1 ffr pfr lfr HA5 K5
    have RX := Kl.cp_row HLl.out HPp.out HF.out rfl (Kl.cp_in (by decide) (by decide) (by decide)) (Kl.ch_in (by decide) (by decide) (by decide) (by have := HK.out; split at this <;> omega))
    have cX := HC.out.is P [116] _ _ X KX.out RX (Kl.cp_few (by simp) (fun y hy => by rw [List.mem_singleton.1 hy]; exact Nat.le_refl 1)) HT.out
    rw [show (Kl.why P [116] (fms [(⟨⟨[97], K, [115], []⟩, .slice (some ⟨bP, 0, none⟩) 1 1, [(.slice (some ⟨bL, 0, none⟩) 1 1, ⟨[([108], [118])], 0, false, 0, 0, 0, 0, (P != 4), 0⟩)]⟩ : Fs)])).2 = false from Kl.cp5 HP.out HK.out] at cX
    have CX := Lib.hid cX
    have z0 : X.cell? ⟨zb, 0, none⟩ = some (.string (str [116])) := by rw [cell_of_row X zb 0 _ _ _ HZ.out]; rfl
    have z1 : X.cell? ⟨zb, 1, none⟩ = some (.slice (some ⟨bF, 0, none⟩) 1 1) := by rw [cell_of_row X zb 1 _ _ _ HZ.out]; rfl
    clear cX RX
    go_wp2_with fail
    refine CX.out.mono ?_; rintro e w6 ⟨rfl, b6⟩
    have K6 := Lib.hid (trans9 KX.out b6)
    clear b6 z0 z1
    go_wp2_with fail
    go_ret
    exact ⟨by first | rfl | simp, K6.out⟩
  · have s5 : how.tmod 9 = 6 := t5
    have s6 : IntKind.u8.wrap 6 = 6 := by decide
    clear t5 t6 HM hm9
    go_upto_region 36 with fail
    obtain ⟨X, hX⟩ : ∃ X, X = (w5.setCell ⟨bF, 3, none⟩ (.string ⟨#[104]⟩)) := ⟨_, rfl⟩
    have HZ : Hid (X.heap[zb]? = some (.cells #[.string (str [116]), .slice (some ⟨bF, 0, none⟩) 1 1] 37 (0, 0))) := Lib.hid (by rw [hX]; exact ((heap_setCell_other w5 ⟨bF, 3, none⟩ zb (.string ⟨#[104]⟩) (by have := HNE.out; show zb ≠ bF; omega)).trans HA5.out.hz))
    have HF : Hid (X.heap[bF]? = some (.cells (famc ⟨[97], K, [], [104]⟩ (.slice (some ⟨bP, 0, none⟩) 1 1)) 45 (0, 0))) := Lib.hid (by rw [hX]; exact (set_heap w5 bF 3 _ _ _ (.string ⟨#[104]⟩) HA5.out.hF))
    have HPp : Hid (X.heap[bP]? = some (.cells (ptc (.slice (some ⟨bL, 0, none⟩) 1 1) ⟨[([108], [118])], 0, false, 0, 0, 0, 0, (P != 4), 0⟩) 27 (0, 0))) := Lib.hid (by rw [hX]; exact ((heap_setCell_other w5 ⟨bF, 3, none⟩ bP (.string ⟨#[104]⟩) (by have := HNE.out; show bP ≠ bF; omega)).trans HA5.out.hP))
    have HLl : Hid (X.heap[bL]? = some (.cells #[.string (str [108]), .string (str [118])] 31 (0, 0))) := Lib.hid (by rw [hX]; exact ((heap_setCell_other w5 ⟨bF, 3, none⟩ bL (.string ⟨#[104]⟩) (by have := HNE.out; show bL ≠ bF; omega)).trans HA5.out.hL))
    have KX : Hid (Below w.heap.size w X) := Lib.hid (by rw [hX]; exact (K5.out.setCell (p := ⟨bF, 3, none⟩) (by have h1 := HNE.out; have h2 := hsz.out; show w.heap.size ≤ bF; omega) _))
    rw [← hX]
    clear hX z0 z1 f0 f1 f2 f3 f4 p0 p7 p8 l0 l1 ffr pfr lfr HA5 K5
    have RX := Kl.cp_row HLl.out HPp.out HF.out rfl (Kl.cp_in (by decide) (by decide) (by decide)) (Kl.ch_in (by decide) (by decide) (by decide) (by have := HK.out; split at this <;> omega))
    have cX := HC.out.is P [116] _ _ X KX.out RX (Kl.cp_few (by simp) (fun y hy => by rw [List.mem_singleton.1 hy]; exact Nat.le_refl 1)) HT.out
    rw [show (Kl.why P [116] (fms [(⟨⟨[97], K, [], [104]⟩, .slice (some ⟨bP, 0, none⟩) 1 1, [(.slice (some ⟨bL, 0, none⟩) 1 1, ⟨[([108], [118])], 0, false, 0, 0, 0, 0, (P != 4), 0⟩)]⟩ : Fs)])).2 = (P == 1) from Kl.cp6 HP.out HK.out] at cX
    have CX := Lib.hid cX
    have z0 : X.cell? ⟨zb, 0, none⟩ = some (.string (str [116])) := by rw [cell_of_row X zb 0 _ _ _ HZ.out]; rfl
    have z1 : X.cell? ⟨zb, 1, none⟩ = some (.slice (some ⟨bF, 0, none⟩) 1 1) := by rw [cell_of_row X zb 1 _ _ _ HZ.out]; rfl
    clear cX RX
    go_wp2_with fail
    refine CX.out.mono ?_; rintro e w6 ⟨rfl, b6⟩
    have K6 := Lib.hid (trans9 KX.out b6)
    clear b6 z0 z1
    go_wp2_with fail
    go_ret
    exact ⟨by first | rfl | simp, K6.out⟩
  · have s5 : how.tmod 9 = 7 := t5
    have s6 : IntKind.u8.wrap 7 = 7 := by decide
    clear t5 t6 HM hm9
    go_upto_region 36 with fail
    obtain ⟨X, hX⟩ : ∃ X, X = (w5.setCell ⟨bF, 4, none⟩ (.slice none 0 0)) := ⟨_, rfl⟩
    have HZ : Hid (X.heap[zb]? = some (.cells #[.string (str [116]), .slice (some ⟨bF, 0, none⟩) 1 1] 37 (0, 0))) := Lib.hid (by rw [hX]; exact ((heap_setCell_other w5 ⟨bF, 4, none⟩ zb (.slice none 0 0) (by have := HNE.out; show zb ≠ bF; omega)).trans HA5.out.hz))
    have HF : Hid (X.heap[bF]? = some (.cells (famc ⟨[97], K, [], []⟩ (.slice none 0 0)) 45 (0, 0))) := Lib.hid (by rw [hX]; exact (set_heap w5 bF 4 _ _ _ (.slice none 0 0) HA5.out.hF))
    have KX : Hid (Below w.heap.size w X) := Lib.hid (by rw [hX]; exact (K5.out.setCell (p := ⟨bF, 4, none⟩) (by have h1 := HNE.out; have h2 := hsz.out; show w.heap.size ≤ bF; omega) _))
    rw [← hX]
    clear hX z0 z1 f0 f1 f2 f3 f4 p0 p7 p8 l0 l1 ffr pfr lfr HA5 K5
    have RX := Kl.cp_row0 HF.out (Kl.ch_in (by decide) (by decide) (by decide) (by have := HK.out; split at this <;> omega))
    have cX := HC.out.is P [116] _ _ X KX.out RX (Kl.cp_few (by simp) (fun y hy => by cases hy)) HT.out
    rw [show (Kl.why P [116] (fms [(⟨⟨[97], K, [], []⟩, .slice none 0 0, []⟩ : Fs)])).2 = (P == 1) from Kl.cp7 HP.out HK.out] at cX
    have CX := Lib.hid cX
    have z0 : X.cell? ⟨zb, 0, none⟩ = some (.string (str [116])) := by rw [cell_of_row X zb 0 _ _ _ HZ.out]; rfl
    have z1 : X.cell? ⟨zb, 1, none⟩ = some (.slice (some ⟨bF, 0, none⟩) 1 1) := by rw [cell_of_row X zb 1 _ _ _ HZ.out]; rfl
    clear cX RX
    go_wp2_with fail
    refine CX.out.mono ?_; rintro e w6 ⟨rfl, b6⟩
    have K6 := Lib.hid (trans9 KX.out b6)
    clear b6 z0 z1
    go_wp2_with fail
    go_ret
    exact ⟨by first | rfl | simp, K6.out⟩
  · have s5 : how.tmod 9 = 8 := t5
    have s6 : IntKind.u8.wrap 8 = 8 := by decide
    clear t5 t6 HM hm9
    go_upto_region 13 with fail
    go_region
    by_cases e1 : P = 1
    · have d1 : (P == 1) = true := beq_iff_eq.2 e1
      clear e1
      go_upto_region 36 with fail
      obtain ⟨X, hX⟩ : ∃ X, X = ((w5.setCell ⟨bP, 7, none⟩ (.bool true)).setCell ⟨bP, 8, none⟩ (.int .i64 1)).drew := ⟨_, rfl⟩
      have HZ : Hid (X.heap[zb]? = some (.cells #[.string (str [116]), .slice (some ⟨bF, 0, none⟩) 1 1] 37 (0, 0))) := Lib.hid (by rw [hX]; exact ((heap_setCell_other (w5.setCell ⟨bP, 7, none⟩ (.bool true)) ⟨bP, 8, none⟩ zb (.int .i64 1) (by have := HNE.out; show zb ≠ bP; omega)).trans ((heap_setCell_other w5 ⟨bP, 7, none⟩ zb (.bool true) (by have := HNE.out; show zb ≠ bP; omega)).trans HA5.out.hz)))
      have HF : Hid (X.heap[bF]? = some (.cells (famc ⟨[97], K, [], []⟩ (.slice (some ⟨bP, 0, none⟩) 1 1)) 45 (0, 0))) := Lib.hid (by rw [hX]; exact ((heap_setCell_other (w5.setCell ⟨bP, 7, none⟩ (.bool true)) ⟨bP, 8, none⟩ bF (.int .i64 1) (by have := HNE.out; show bF ≠ bP; omega)).trans ((heap_setCell_other w5 ⟨bP, 7, none⟩ bF (.bool true) (by have := HNE.out; show bF ≠ bP; omega)).trans HA5.out.hF)))
      have HPp : Hid (X.heap[bP]? = some (.cells (ptc (.slice (some ⟨bL, 0, none⟩) 1 1) ⟨[([108], [118])], 0, false, 0, 0, 0, 0, true, 1⟩) 27 (0, 0))) := Lib.hid (by rw [hX]; exact (set_heap (w5.setCell ⟨bP, 7, none⟩ (.bool true)) bP 8 _ _ _ (.int .i64 1) (set_heap w5 bP 7 _ _ _ (.bool true) HA5.out.hP)))
      have HLl : Hid (X.heap[bL]? = some (.cells #[.string (str [108]), .string (str [118])] 31 (0, 0))) := Lib.hid (by rw [hX]; exact ((heap_setCell_other (w5.setCell ⟨bP, 7, none⟩ (.bool true)) ⟨bP, 8, none⟩ bL (.int .i64 1) (by have := HNE.out; show bL ≠ bP; omega)).trans ((heap_setCell_other w5 ⟨bP, 7, none⟩ bL (.bool true) (by have := HNE.out; show bL ≠ bP; omega)).trans HA5.out.hL)))
      have KX : Hid (Below w.heap.size w X) := Lib.hid (by rw [hX]; exact (Below.drew ((K5.out.setCell (p := ⟨bP, 7, none⟩) (by have h1 := HNE.out; have h2 := hsz.out; show w.heap.size ≤ bP; omega) _).setCell (p := ⟨bP, 8, none⟩) (by have h1 := HNE.out; have h2 := hsz.out; show w.heap.size ≤ bP; omega) _)))
      rw [← hX]
      clear hX z0 z1 f0 f1 f2 f3 f4 p0 p7 p8 l0 l1 ffr pfr lfr HA5 K5
      have RX := Kl.cp_row HLl.out HPp.out HF.out rfl (Kl.cp_in (by decide) (by decide) (by decide)) (Kl.ch_in (by decide) (by decide) (by decide) (by have := HK.out; split at this <;> omega))
      have cX := HC.out.is P [116] _ _ X KX.out RX (Kl.cp_few (by simp) (fun y hy => by rw [List.mem_singleton.1 hy]; exact Nat.le_refl 1)) HT.out
      rw [show (Kl.why P [116] (fms [(⟨⟨[97], K, [], []⟩, .slice (some ⟨bP, 0, none⟩) 1 1, [(.slice (some ⟨bL, 0, none⟩) 1 1, ⟨[([108], [118])], 0, false, 0, 0, 0, 0, true, 1⟩)]⟩ : Fs)])).2 = ((P == 1) || (P == 2)) from Kl.cp8 HP.out HK.out] at cX
      rw [show ((P == 1) || (P == 2)) = true by first | (rw [d1]; rfl) | (rw [d1, d2]; rfl)] at cX
      have CX := Lib.hid cX
      have z0 : X.cell? ⟨zb, 0, none⟩ = some (.string (str [116])) := by rw [cell_of_row X zb 0 _ _ _ HZ.out]; rfl
      have z1 : X.cell? ⟨zb, 1, none⟩ = some (.slice (some ⟨bF, 0, none⟩) 1 1) := by rw [cell_of_row X zb 1 _ _ _ HZ.out]; rfl
      clear cX RX
      go_wp2_with fail
      refine CX.out.mono ?_; rintro e w6 ⟨rfl, b6⟩
      have K6 := Lib.hid (trans9 KX.out b6)
      clear b6 z0 z1
      go_wp2_with fail
      go_ret
      exact ⟨by first | rfl | simp, K6.out⟩
    have d1 : (P == 1) = false := beq_eq_false_iff_ne.2 e1
    clear e1
    by_cases e2 : P = 2
    · have d2 : (P == 2) = true := beq_iff_eq.2 e2
      clear e2
      go_upto_region 36 with fail
      obtain ⟨X, hX⟩ : ∃ X, X = ((w5.setCell ⟨bP, 7, none⟩ (.bool true)).setCell ⟨bP, 8, none⟩ (.int .i64 1)).drew := ⟨_, rfl⟩
      have HZ : Hid (X.heap[zb]? = some (.cells #[.string (str [116]), .slice (some ⟨bF, 0, none⟩) 1 1] 37 (0, 0))) := Lib.hid (by rw [hX]; exact ((heap_setCell_other (w5.setCell ⟨bP, 7, none⟩ (.bool true)) ⟨bP, 8, none⟩ zb (.int .i64 1) (by have := HNE.out; show zb ≠ bP; omega)).trans ((heap_setCell_other w5 ⟨bP, 7, none⟩ zb (.bool true) (by have := HNE.out; show zb ≠ bP; omega)).trans HA5.out.hz)))
      have HF : Hid (X.heap[bF]? = some (.cells (famc ⟨[97], K, [], []⟩ (.slice (some ⟨bP, 0, none⟩) 1 1)) 45 (0, 0))) := Lib.hid (by rw [hX]; exact ((heap_setCell_other (w5.setCell ⟨bP, 7, none⟩ (.bool true)) ⟨bP, 8, none⟩ bF (.int .i64 1) (by have := HNE.out; show bF ≠ bP; omega)).trans ((heap_setCell_other w5 ⟨bP, 7, none⟩ bF (.bool true) (by have := HNE.out; show bF ≠ bP; omega)).trans HA5.out.hF)))
      have HPp : Hid (X.heap[bP]? = some (.cells (ptc (.slice (some ⟨bL, 0, none⟩) 1 1) ⟨[([108], [118])], 0, false, 0, 0, 0, 0, true, 1⟩) 27 (0, 0))) := Lib.hid (by rw [hX]; exact (set_heap (w5.setCell ⟨bP, 7, none⟩ (.bool true)) bP 8 _ _ _ (.int .i64 1) (set_heap w5 bP 7 _ _ _ (.bool true) HA5.out.hP)))
      have HLl : Hid (X.heap[bL]? = some (.cells #[.string (str [108]), .string (str [118])] 31 (0, 0))) := Lib.hid (by rw [hX]; exact ((heap_setCell_other (w5.setCell ⟨bP, 7, none⟩ (.bool true)) ⟨bP, 8, none⟩ bL (.int .i64 1) (by have := HNE.out; show bL ≠ bP; omega)).trans ((heap_setCell_other w5 ⟨bP, 7, none⟩ bL (.bool true) (by have := HNE.out; show bL ≠ bP; omega)).trans HA5.out.hL)))
      have KX : Hid (Below w.heap.size w X) := Lib.hid (by rw [hX]; exact (Below.drew ((K5.out.setCell (p := ⟨bP, 7, none⟩) (by have h1 := HNE.out; have h2 := hsz.out; show w.heap.size ≤ bP; omega) _).setCell (p := ⟨bP, 8, none⟩) (by have h1 := HNE.out; have h2 := hsz.out; show w.heap.size ≤ bP; omega) _)))
      rw [← hX]
      clear hX z0 z1 f0 f1 f2 f3 f4 p0 p7 p8 l0 l1 ffr pfr lfr HA5 K5
      have RX := Kl.cp_row HLl.out HPp.out HF.out rfl (Kl.cp_in (by decide) (by decide) (by decide)) (Kl.ch_in (by decide) (by decide) (by decide) (by have := HK.out; split at this <;> omega))
      have cX := HC.out.is P [116] _ _ X KX.out RX (Kl.cp_few (by simp) (fun y hy => by rw [List.mem_singleton.1 hy]; exact Nat.le_refl 1)) HT.out
      rw [show (Kl.why P [116] (fms [(⟨⟨[97], K, [], []⟩, .slice (some ⟨bP, 0, none⟩) 1 1, [(.slice (some ⟨bL, 0, none⟩) 1 1, ⟨[([108], [118])], 0, false, 0, 0, 0, 0, true, 1⟩)]⟩ : Fs)])).2 = ((P == 1) || (P == 2)) from Kl.cp8 HP.out HK.out] at cX
      rw [show ((P == 1) || (P == 2)) = true by first | (rw [d1]; rfl) | (rw [d1, d2]; rfl)] at cX
      have CX := Lib.hid cX
      have z0 : X.cell? ⟨zb, 0, none⟩ = some (.string (str [116])) := by rw [cell_of_row X zb 0 _ _ _ HZ.out]; rfl
      have z1 : X.cell? ⟨zb, 1, none⟩ = some (.slice (some ⟨bF, 0, none⟩) 1 1) := by rw [cell_of_row X zb 1 _ _ _ HZ.out]; rfl
      clear cX RX
      go_wp2_with fail
      refine CX.out.mono ?_; rintro e w6 ⟨rfl, b6⟩
      have K6 := Lib.hid (trans9 KX.out b6)
      clear b6 z0 z1
      go_wp2_with fail
      go_ret
      exact ⟨by first | rfl | simp, K6.out⟩
    have d2 : (P == 2) = false := beq_eq_false_iff_ne.2 e2
    clear e2
    go_upto_region 36 with fail
    obtain ⟨X, hX⟩ : ∃ X, X = ((w5.setCell ⟨bP, 7, none⟩ (.bool true)).setCell ⟨bP, 8, none⟩ (.int .i64 1)).drew := ⟨_, rfl⟩
    have HZ : Hid (X.heap[zb]? = some (.cells #[.string (str [116]), .slice (some ⟨bF, 0, none⟩) 1 1] 37 (0, 0))) := Lib.hid (by rw [hX]; exact ((heap_setCell_other (w5.setCell ⟨bP, 7, none⟩ (.bool true)) ⟨bP, 8, none⟩ zb (.int .i64 1) (by have := HNE.out; show zb ≠ bP; omega)).trans ((heap_setCell_other w5 ⟨bP, 7, none⟩ zb (.bool true) (by have := HNE.out; show zb ≠ bP; omega)).trans HA5.out.hz)))
    have HF : Hid (X.heap[bF]? = some (.cells (famc ⟨[97], K, [], []⟩ (.slice (some ⟨bP, 0, none⟩) 1 1)) 45 (0, 0))) := Lib.hid (by rw [hX]; exact ((heap_setCell_other (w5.setCell ⟨bP, 7, none⟩ (.bool true)) ⟨bP, 8, none⟩ bF (.int .i64 1) (by have := HNE.out; show bF ≠ bP; omega)).trans ((heap_setCell_other w5 ⟨bP, 7, none⟩ bF (.bool true) (by have := HNE.out; show bF ≠ bP; omega)).trans HA5.out.hF)))
    have HPp : Hid (X.heap[bP]? = some (.cells (ptc (.slice (some ⟨bL, 0, none⟩) 1 1) ⟨[([108], [118])], 0, false, 0, 0, 0, 0, true, 1⟩) 27 (0, 0))) := Lib.hid (by rw [hX]; exact (set_heap (w5.setCell ⟨bP, 7, none⟩ (.bool true)) bP 8 _ _ _ (.int .i64 1) (set_heap w5 bP 7 _ _ _ (.bool true) HA5.out.hP)))
    have HLl : Hid (X.heap[bL]? = some (.cells #[.string (str [108]), .string (str [118])] 31 (0, 0))) := Lib.hid (by rw [hX]; exact ((heap_setCell_other (w5.setCell ⟨bP, 7, none⟩ (.bool true)) ⟨bP, 8, none⟩ bL (.int .i64 1) (by have := HNE.out; show bL ≠ bP; omega)).trans ((heap_setCell_other w5 ⟨bP, 7, none⟩ bL (.bool true) (by have := HNE.out; show bL ≠ bP; omega)).trans HA5.out.hL)))
    have KX : Hid (Below w.heap.size w X) := Lib.hid (by rw [hX]; exact (Below.drew ((K5.out.setCell (p := ⟨bP, 7, none⟩) (by have h1 := HNE.out; have h2 := hsz.out; show w.heap.size ≤ bP; omega) _).setCell (p := ⟨bP, 8, none⟩) (by have h1 := HNE.out; have h2 := hsz.out; show w.heap.size ≤ bP; omega) _)))
    rw [← hX]
    clear hX z0 z1 f0 f1 f2 f3 f4 p0 p7 p8 l0 l1 ffr pfr lfr HA5 K5
    have RX := Kl.cp_row HLl.out HPp.out HF.out rfl (Kl.cp_in (by decide) (by decide) (by decide)) (Kl.ch_in (by decide) (by decide) (by decide) (by have := HK.out; split at this <;> omega))
    have cX := HC.out.is P [116] _ _ X KX.out RX (Kl.cp_few (by simp) (fun y hy => by rw [List.mem_singleton.1 hy]; exact Nat.le_refl 1)) HT.out
    rw [show (Kl.why P [116] (fms [(⟨⟨[97], K, [], []⟩, .slice (some ⟨bP, 0, none⟩) 1 1, [(.slice (some ⟨bL, 0, none⟩) 1 1, ⟨[([108], [118])], 0, false, 0, 0, 0, 0, true, 1⟩)]⟩ : Fs)])).2 = ((P == 1) || (P == 2)) from Kl.cp8 HP.out HK.out] at cX
    rw [show ((P == 1) || (P == 2)) = false by rw [d1, d2]; rfl] at cX
    have CX := Lib.hid cX
    have z0 : X.cell? ⟨zb, 0, none⟩ = some (.string (str [116])) := by rw [cell_of_row X zb 0 _ _ _ HZ.out]; rfl
    have z1 : X.cell? ⟨zb, 1, none⟩ = some (.slice (some ⟨bF, 0, none⟩) 1 1) := by rw [cell_of_row X zb 1 _ _ _ HZ.out]; rfl
    clear cX RX
    go_wp2_with fail
    refine CX.out.mono ?_; rintro e w6 ⟨rfl, b6⟩
    have K6 := Lib.hid (trans9 KX.out b6)
    clear b6 z0 z1
    go_wp2_with fail
    go_ret
    exact ⟨by first | rfl | simp, K6.out⟩

end Go.Proofs.YtgoibhbmndpgpaaDoor
