/- The texts MrgG, MrgH, MrgJ, MrgM, one behind the other. -/
import Derived.Test.YtjeefgamkoeiaaaGreatDoorMrgP
import Derived.Test.YtjeefgamkoeiaaaGreatDoorBatP
import Derived.Maps.OwnSet
import Derived.Deep.RegionHeld3
import Derived.Deep.DrawnRows
import Derived.Test.YtjeefgamkoeiaaaGreatDoorBatS
import Derived.BigQuiet
import Derived.Test.YtjeefgamkoeiaaaGreatDoorMrgX
import Derived.Test.YtjeefgamkoeiaaaGreatDoorBatQ
import Derived.Test.YtjeefgamkoeiaaaGreatDoorLabelW

/- Rows of batches; the walk of package merge's agree, with the map that it makes. -/
set_option maxRecDepth 100000
set_option linter.unusedVariables false
set_option linter.unusedSimpArgs false
namespace Go.Proofs.YtjeefgamkoeiaaaGreatDoor
open Go.RowKit Go.Sort Go.WideMaps Dc
attribute [local go_sem ↓] Go.wp_at_zero Go.wp_at_succ

/-- a batch: its tenant, the slice of its families, the families -/
structure Bs where
  t : List UInt8
  v : Value
  F : List Fs
def encB (x : Bs) : List Value := [.string (str x.t), x.v]
theorem encB_len (x : Bs) : (encB x).length = 2 := rfl
abbrev bp (x : Bs) : Bp := (x.t, fms x.F)
abbrev bps (l : List Bs) : List Bp := l.map bp
/-- batches that can be read -/
def BtRow (w : World) (v : Value) (l : List Bs) : Prop := KRow encB 2 w v l ∧ ∀ x ∈ l, FmRow w x.v x.F ∧ x.t.length ≤ maxLen
theorem BtRow.below {w w' : World} {v : Value} {l : List Bs} (h : BtRow w v l) (hb : Below w.heap.size w w') : BtRow w' v l := ⟨h.1.below hb, fun x hx => ⟨(h.2 x hx).1.below hb, (h.2 x hx).2⟩⟩
/-- few batches, each of few families -/
structure BtFew (l : List Bs) : Prop where
  n : l.length ≤ 1000
  f : ∀ x ∈ l, FmFew x.F
theorem br_cells {w : World} {b off : Nat} {l : List Bs} (h : ∀ i x, l[i]? = some x → ∀ j u, (encB x)[j]? = some u → w.cell? ⟨b, off + i * 2 + j, none⟩ = some u) {i : Nat} {x : Bs} (hx : l[i]? = some x) :
    w.cell? ⟨b, off + i * 2, none⟩ = some (.string (str x.t)) ∧ w.cell? ⟨b, off + i * 2 + 1, none⟩ = some x.v := ⟨h i x hx 0 _ rfl, h i x hx 1 _ rfl⟩
theorem bs_get {l : List Bs} {i : Nat} (h : i < l.length) : ∃ x, l[i]? = some x ∧ (bps l)[i]? = some (bp x) := ⟨l[i], List.getElem?_eq_getElem h, by simp [bps, List.getElem?_eq_getElem h]⟩
theorem flat_take {l : List Bp} {k : Nat} {x : Bp} (h : l[k]? = some x) : flat (l.take (k + 1)) = flat (l.take k) ++ x.2 := by
  obtain ⟨hk, rfl⟩ := List.getElem?_eq_some_iff.1 h
  rw [List.take_succ_eq_append_getElem hk, flat_append, flat_cons]; simp [flat]
theorem flat_split2 {l : List Bp} {k : Nat} {x : Bp} (h : l[k]? = some x) (j : Nat) : ∀ z ∈ flat (l.take k) ++ x.2.take j, z ∈ flat l := fun z hz => by
  obtain ⟨hk, rfl⟩ := List.getElem?_eq_some_iff.1 h
  rcases List.mem_append.1 hz with h | h
  · obtain ⟨b, hb, hzb⟩ := flat_mem.1 h
    exact flat_mem.2 ⟨b, List.mem_of_mem_take hb, hzb⟩
  · exact flat_mem.2 ⟨l[k], List.getElem_mem hk, List.mem_of_mem_take h⟩

theorem slit (n : List UInt8) : WideAt.IsKeyLit (.string n) := trivial
/-- what the map of the kinds says -/
structure AgD (S : List Fp) (D : DataW Unit) : Prop where
  is : Maps.IsMap D
  has : ∀ n : List UInt8, Maps.has D (.string n) = S.any fun x => decide (x.1.n = n)
  at_ : ∀ x ∈ S, ∀ z, D.atKey (.string x.1.n) z = .lit (.int .i64 x.1.k)
  ag : agreeF S
theorem AgD.empty : AgD [] (.map []) := ⟨Maps.isMap_empty, fun _ => rfl, fun x hx => (by cases hx), fun x hx => (by cases hx)⟩
theorem AgD.no {S : List Fp} {D : DataW Unit} (h : AgD S D) {y : Fp} (hh : Maps.has D (.string y.1.n) = false) : AgD (S ++ [y]) (D.put (.string y.1.n) (.lit (.int .i64 y.1.k))) := by
  have hno : ∀ x ∈ S, x.1.n ≠ y.1.n := fun x hx e => by
    rw [h.has] at hh
    have := List.any_eq_false.1 hh x hx
    exact this (decide_eq_true e)
  refine ⟨h.is.put _ _, fun n => ?_, fun x hx z => ?_, fun x hx z hz e => ?_⟩
  · rw [List.any_append]
    by_cases e : y.1.n = n
    · subst e
      rw [Maps.has_put_same h.is (slit _)]; simp
    · rw [Maps.has_put_other (fun k => e (by injection k with k; exact k.symm)), h.has]; simp [e]
  · rcases List.mem_append.1 hx with hx | hx
    · rw [Maps.atKey_put_other (fun k => hno x hx (by injection k))]
      exact h.at_ x hx z
    · rw [List.mem_singleton.1 hx, Maps.atKey_put_same h.is (slit _)]
  · have e' := cmpF_zero.1 e
    rcases List.mem_append.1 hx with hx | hx <;> rcases List.mem_append.1 hz with hz | hz
    · exact h.ag x hx z hz e
    · rw [List.mem_singleton.1 hz] at e'; exact absurd e' (hno x hx)
    · rw [List.mem_singleton.1 hx] at e'; exact absurd e'.symm (hno z hz)
    · rw [List.mem_singleton.1 hx, List.mem_singleton.1 hz]
/-- who stands at that name -/
theorem AgD.who {S : List Fp} {D : DataW Unit} (h : AgD S D) {n : List UInt8} (hh : Maps.has D (.string n) = true) : ∃ x ∈ S, x.1.n = n ∧ ∀ z, D.atKey (.string n) z = .lit (.int .i64 x.1.k) := by
  rw [h.has] at hh
  obtain ⟨x, hx, e⟩ := List.any_eq_true.1 hh
  have e' := of_decide_eq_true e
  exact ⟨x, hx, e', by rw [← e']; exact h.at_ x hx⟩
theorem AgD.yes {S : List Fp} {D : DataW Unit} (h : AgD S D) {x y : Fp} (hx : x ∈ S) (hn : x.1.n = y.1.n) (hk : x.1.k = y.1.k) : AgD (S ++ [y]) (D.put (.string y.1.n) (.lit (.int .i64 y.1.k))) := by
  have hy : ∀ u ∈ S, u.1.n = y.1.n → u.1.k = y.1.k := fun u hu e => by rw [← hk]; exact h.ag u hu x hx (cmpF_zero.2 (e.trans hn.symm))
  refine ⟨h.is.put _ _, fun n => ?_, fun u hu z => ?_, fun u hu z hz e => ?_⟩
  · rw [List.any_append]
    by_cases e : y.1.n = n
    · subst e
      rw [Maps.has_put_same h.is (slit _)]; simp
    · rw [Maps.has_put_other (fun k => e (by injection k with k; exact k.symm)), h.has]; simp [e]
  · by_cases e : u.1.n = y.1.n
    · rw [e, Maps.atKey_put_same h.is (slit _)]
      rcases List.mem_append.1 hu with hu | hu
      · rw [hy u hu e]
      · rw [List.mem_singleton.1 hu]
    · rw [Maps.atKey_put_other (fun k => e (by injection k))]
      rcases List.mem_append.1 hu with hu | hu
      · exact h.at_ u hu z
      · rw [List.mem_singleton.1 hu] at e; exact absurd rfl e
  · have e' := cmpF_zero.1 e
    rcases List.mem_append.1 hu with hu | hu <;> rcases List.mem_append.1 hz with hz | hz
    · exact h.ag u hu z hz e
    · rw [List.mem_singleton.1 hz] at e' ⊢; exact hy u hu e'
    · rw [List.mem_singleton.1 hu] at e' ⊢; exact (hy z hz e'.symm).symm
    · rw [List.mem_singleton.1 hu, List.mem_singleton.1 hz]
theorem agree_no {S T : List Fp} {x y : Fp} (hx : x ∈ S) (hy : y ∈ T) (hS : ∀ z ∈ S, z ∈ T) (hn : x.1.n = y.1.n) (hk : x.1.k ≠ y.1.k) : ¬ agreeF T := fun h => hk (h x (hS x hx) y hy (cmpF_zero.2 hn))

theorem mlaw : Maps.Keyed Tryz.prog 9 := Maps.string_keyed Tryz.underlying9
theorem mzero (w : World) : (zeroValue 3).run Tryz.prog w = .ok (.int .i64 0) w := by kernel_rfl
theorem mkey {n : List UInt8} (h : n.length ≤ maxLen) : keyOf Tryz.prog 9 (.string (str n)) = some (.string n) := by
  have := keyOf_string_mk Tryz.underlying9 (s := str n) (by rw [str_size]; exact h)
  simpa using this
open Classical in
/-- what agree hands back -/
noncomputable def agB (S : List Fp) : Bool := decide (agreeF S)
theorem agB_yes {S : List Fp} (h : agreeF S) : agB S = true := by unfold agB; simp [h]
theorem agB_no {S : List Fp} (h : ¬ agreeF S) : agB S = false := by unfold agB; simp [h]
/-- the map in the block b, that reads as what is said of S -/
def MapAt (w : World) (b n : Nat) (S : List Fp) : Prop := ∃ D : DataW Unit, w.ownsMap Tryz.prog 9 (plainElem Tryz.prog 3) b n D ∧ AgD S D
theorem MapAt.alloc {w : World} {b n : Nat} {S : List Fp} (h : MapAt w b n S) (o : Obj) : MapAt (w.alloc o) b n S := by obtain ⟨D, h1, h2⟩ := h; exact ⟨D, h1.alloc o, h2⟩

set_option maxHeartbeats 8000000 in
theorem agree_calls (l : List Bs) (v : Value) (w : World) (hv : BtRow w v l) (hf : BtFew l) :
    Calls Tryz.prog 38 #[v] w fun e w' => e = .returned (.bool (agB (flat (bps l)))) ∧ Below w.heap.size w w' := by
  have HP := Lib.hid hv.2
  have hn := hf.n
  have HF := Lib.hid hf.f
  obtain ⟨A, cap, rfl, hlc, hcm, hnil, hrow⟩ := hv.1
  unfold maxLen at hcm
  have HR := Lib.hid hrow
  have HM0 : Hid (MapAt (w.alloc (.map #[] 0)) w.heap.size 0 []) := Lib.hid ⟨_, World.ownsMap_made _ _ _ _, AgD.empty⟩
  have HB0 := Lib.hid (kp_alloc (Below.refl w.heap.size w) (.map #[] 0))
  clear hrow hnil hv hf
  have hmm := @run_makeMap Tryz.prog
  go_enter Tryz.func38, Tryz.ntmps38
  go_wp2_with fail
  go_loopw [13] (fun s wr => ∃ (k n : Nat), k ≤ l.length ∧ s = .int .i64 (k : Nat) ∧ n ≤ k * 1000 ∧ Hid (MapAt wr w.heap.size n (flat ((bps l).take k))) ∧ Below w.heap.size w wr) (fun s _ => l.length - (intOf s).toNat)
  case atStart => exact ⟨0, 0, Nat.zero_le _, rfl, Nat.zero_le _, HM0, HB0.out⟩
  case round =>
    clear HM0 HB0
    obtain ⟨k, n, hk, rfl, hnk, HM, hb⟩ := hrel
    by_cases hkl : k < l.length
    · obtain ⟨b, off, rfl, hbs, hc⟩ := HR.out (by omega)
      obtain ⟨x, hx, hxp⟩ := bs_get hkl
      have hix := HP.out x (List.mem_of_getElem? hx)
      have hfx := HF.out x (List.mem_of_getElem? hx)
      obtain ⟨c0, c1⟩ := br_cells hc hx
      have HXP := Lib.hid hxp
      have hR : ∀ o u, w.cell? ⟨b, o, none⟩ = some u → wr.cell? ⟨b, o, none⟩ = some u := fun o u hu => (hb.cell (p := ⟨b, o, none⟩) hbs).trans hu
      have r0 := hR _ _ c0
      have r1 := hR _ _ c1
      have HPF := Lib.hid hix.1.2
      obtain ⟨A2, cap2, hxv, hlc2, hcm2, _, hrow2⟩ := hix.1.1
      have HR2 := Lib.hid hrow2
      have hfn := hfx.n
      unfold maxLen at hcm2
      clear hc c0 c1 hR hx hix hfx hrow2 hxp
      obtain ⟨t, xv, F⟩ := x
      simp only at hxv hlc2 HPF HR2 r0 r1 hfn
      subst hxv
      have HMA := Lib.hid (HM.out.alloc (.cells #[.string (str t), .slice A2 F.length cap2] 28))
      have HBA := Lib.hid (kp_alloc hb (.cells #[.string (str t), .slice A2 F.length cap2] 28))
      go_wp2_with fail
      clear HM hb r0 r1
      go_loopw [20] (fun s wq => ∃ (j m : Nat), j ≤ F.length ∧ s = .int .i64 (j : Nat) ∧ m ≤ k * 1000 + j ∧ Hid (MapAt wq w.heap.size m (flat ((bps l).take k) ++ (fms F).take j)) ∧ Below w.heap.size w wq) (fun s _ => F.length - (intOf s).toNat)
      case atStart => exact ⟨0, n, Nat.zero_le _, rfl, by omega, Lib.hid (by rw [List.take_zero, List.append_nil]; exact HMA.out), HBA.out⟩
      case round =>
        clear HMA HBA
        obtain ⟨j, m, hj, rfl, hmj, HM, hb⟩ := hrel
        by_cases hjl : j < F.length
        · obtain ⟨b2, off2, rfl, hbs2, hc⟩ := HR2.out (by omega)
          obtain ⟨y, hy, hyp⟩ := fs_get hjl
          have hiy := HPF.out y (List.mem_of_getElem? hy)
          obtain ⟨c0, c1, c2, c3, c4⟩ := fr_cells hc hy
          have hR : ∀ o u, w.cell? ⟨b2, o, none⟩ = some u → wr.cell? ⟨b2, o, none⟩ = some u := fun o u hu => (hb.cell (p := ⟨b2, o, none⟩) hbs2).trans hu
          have r0 := hR _ _ c0
          have r1 := hR _ _ c1
          have r2 := hR _ _ c2
          have r3 := hR _ _ c3
          have r4 := hR _ _ c4
          obtain ⟨A3, n3, cap3, hy1⟩ : ∃ A1 n1 cap1, y.v = .slice A1 n1 cap1 := by obtain ⟨A, cap, he, _⟩ := hiy.1.1; exact ⟨A, _, cap, he⟩
          obtain ⟨D, hown, hag⟩ := HM.out
          have hkey := mkey hiy.2.ln
          have hwf : (Lit.int .i64 y.hd.k).wf = true := WalkArith.wf_i64 ⟨hiy.2.k1, hiy.2.k2⟩
          have hstep : (fms F).take (j + 1) = (fms F).take j ++ [fm y] := by
            obtain ⟨hk2, e⟩ := List.getElem?_eq_some_iff.1 hyp
            rw [List.take_succ_eq_append_getElem hk2, e]
          have HST := Lib.hid hstep
          have hsub := Lib.hid (flat_split2 HXP.out j)
          have hmemy : Hid (fm y ∈ flat (bps l)) := Lib.hid (flat_mem.2 ⟨_, List.mem_of_getElem? HXP.out, List.mem_of_getElem? hyp⟩)
          have hmlt : m < maxLen := by unfold maxLen; omega
          have HAG := Lib.hid hag
          have HWF := Lib.hid hwf
          have hbw : w.heap.size < wr.heap.size := hown.lt
          have hown2 := Lib.hid (fun o => hown.alloc o)
          have HB := Lib.hid (fun o => kp_alloc hb o)
          clear hc c0 c1 c2 c3 c4 hR hy hyp hiy hbs2 HM hag hstep hwf hb
          obtain ⟨⟨yn, yk, yu, yh⟩, yv, yL⟩ := y
          simp only at r0 r1 r2 r3 r4 hy1 hkey HWF
          subst hy1
          obtain ⟨hh, hhe⟩ : ∃ hh, Maps.has D (.string yn) = hh := ⟨_, rfl⟩
          cases hh with
          | false =>
            have hnew := Lib.hid (HAG.out.no (y := fm ⟨⟨yn, yk, yu, yh⟩, .slice A3 n3 cap3, yL⟩) hhe)
            go_wp2_with (first
              | (at_lookup; refine wpList_lookup_own_ok_int _ rfl _ _ 97 rfl 9 3 .i64 mlaw Tryz.underlying97 Tryz.underlying3 (mzero _) w.heap.size m D rfl (hown2.out _) _ _ rfl hkey ?_; intro c hat hwc; rw [hhe])
              | (at_mapUpdate; refine wpList_mapUpdate_own _ rfl _ _ _ 97 rfl 9 3 mlaw Tryz.underlying97 _ w.heap.size m D rfl (hown2.out _) hmlt _ _ _ rfl rfl hkey _ [] (plainElem_int Tryz.underlying3 HWF.out) ?_; intro w1 hown1 hgrow1))
            have HM1 : Hid (MapAt w1 w.heap.size (m + 1) (flat ((bps l).take k) ++ (fms F).take (j + 1))) := Lib.hid ⟨_, hown1, by rw [HST.out, ← List.append_assoc]; exact hnew.out⟩
            have HB1 := Lib.hid ((HB.out _).grown hgrow1 (Below.size (HB.out _)) (fun z hz => by cases hz; exact Nat.le_refl _))
            clear hown1 hgrow1
            go_wp2_with fail
            go_roundw
            case rel => exact ⟨j + 1, m + 1, hjl, by go_num, by omega, HM1, HB1.out⟩
            case measure => simp [intOf]; omega
          | true =>
            obtain ⟨u, hu, hun, hua⟩ := HAG.out.who hhe
            by_cases hke : u.1.k = yk
            · have hnew := Lib.hid (HAG.out.yes (y := fm ⟨⟨yn, yk, yu, yh⟩, .slice A3 n3 cap3, yL⟩) hu hun hke)
              rw [hke] at hua
              have HUA := Lib.hid hua
              clear hu hun hua hke
              have deq : (yk == yk) = true := by simp
              go_wp2_with (first
                | (at_lookup; refine wpList_lookup_own_ok_int _ rfl _ _ 97 rfl 9 3 .i64 mlaw Tryz.underlying97 Tryz.underlying3 (mzero _) w.heap.size m D rfl (hown2.out _) _ _ rfl hkey ?_; intro c hat hwc; rw [HUA.out] at hat; obtain rfl : yk = c := (by injection hat with hat; injection hat); rw [hhe])
                | (at_mapUpdate; refine wpList_mapUpdate_own _ rfl _ _ _ 97 rfl 9 3 mlaw Tryz.underlying97 _ w.heap.size m D rfl (hown2.out _) hmlt _ _ _ rfl rfl hkey _ [] (plainElem_int Tryz.underlying3 HWF.out) ?_; intro w1 hown1 hgrow1))
              have HM1 : Hid (MapAt w1 w.heap.size (m + 1) (flat ((bps l).take k) ++ (fms F).take (j + 1))) := Lib.hid ⟨_, hown1, by rw [HST.out, ← List.append_assoc]; exact hnew.out⟩
              have HB1 := Lib.hid ((HB.out _).grown hgrow1 (Below.size (HB.out _)) (fun z hz => by cases hz; exact Nat.le_refl _))
              clear hown1 hgrow1
              go_wp2_with fail
              go_roundw
              case rel => exact ⟨j + 1, m + 1, hjl, by go_num, by omega, HM1, HB1.out⟩
              case measure => simp [intOf]; omega
            · have hbad := Lib.hid (agB_no (agree_no hu hmemy.out hsub.out hun hke))
              generalize u.1.k = uk at hua hke
              have HUA := Lib.hid hua
              have d1 : (uk == yk) = false := by simpa using hke
              have d2 : decide (uk = yk) = false := decide_eq_false hke
              clear hu hun hua
              go_wp2_with (first
                | (at_lookup; refine wpList_lookup_own_ok_int _ rfl _ _ 97 rfl 9 3 .i64 mlaw Tryz.underlying97 Tryz.underlying3 (mzero _) w.heap.size m D rfl (hown2.out _) _ _ rfl hkey ?_; intro c hat hwc; rw [HUA.out] at hat; obtain rfl : uk = c := (by injection hat with hat; injection hat); rw [hhe]))
              go_ret
              exact ⟨by rw [hbad.out]; rfl, HB.out _⟩
        · have HM1 : Hid (MapAt wr w.heap.size m (flat ((bps l).take (k + 1)))) := Lib.hid (by
            rw [flat_take HXP.out]
            have := HM.out
            rw [show (fms F).take j = fms F from List.take_of_length_le (by rw [List.length_map]; omega)] at this
            exact this)
          have HB := Lib.hid hb
          clear HM hb
          go_wp2_with fail
          go_roundw
          case rel => exact ⟨k + 1, m, hkl, by go_num, by omega, HM1, HB.out⟩
          case measure => simp [intOf]; omega
    · obtain ⟨D, hown, hag⟩ := HM.out
      have hr := Lib.hid (show agB (flat (bps l)) = true from agB_yes (by have := hag.ag; rwa [List.take_of_length_le (by rw [List.length_map]; omega)] at this))
      have HB := Lib.hid hb
      clear hown hag HM hb
      go_wp2
      go_ret
      exact ⟨by rw [hr.out]; rfl, HB.out⟩

end Go.Proofs.YtjeefgamkoeiaaaGreatDoor

/- The walk of package merge's refuse. -/
set_option maxRecDepth 100000
set_option linter.unusedVariables false
set_option linter.unusedSimpArgs false
namespace Go.Proofs.YtjeefgamkoeiaaaGreatDoor
open Go.RowKit Go.Sort Dc
attribute [local go_sem ↓] Go.wp_at_zero Go.wp_at_succ

theorem bps_all {l : List Bs} {P : Bp → Prop} (h : ∀ (i : Nat) (x : Bs), i < l.length → l[i]? = some x → P (bp x)) : ∀ b ∈ bps l, P b := fun b hb => by
  obtain ⟨x, hx, rfl⟩ := List.mem_map.1 hb
  obtain ⟨i, hi, rfl⟩ := List.getElem_of_mem hx
  exact h i _ hi (List.getElem?_eq_getElem hi)
theorem bps_not {l : List Bs} {P : Bp → Prop} {i : Nat} {x : Bs} (hx : l[i]? = some x) (h : ¬ P (bp x)) : ¬ ∀ b ∈ bps l, P b := fun k => h (k _ (List.mem_map_of_mem (List.mem_of_getElem? hx)))
theorem ten_first {l : List Bs} {x : Bs} (h : l[0]? = some x) : ten (bps l) = x.t := by
  cases l with
  | nil => cases h
  | cons y l => obtain rfl : y = x := by simpa using h
                rfl
theorem bat_one {w : World} {v : Value} {F : List Fs} (h : FmRow w v F) : ∃ A cap, v = .slice A F.length cap := by obtain ⟨A, cap, h, _⟩ := h.1; exact ⟨A, cap, h⟩

set_option maxHeartbeats 8000000 in
theorem refuse_calls (l : List Bs) (v : Value) (w : World) (hv : BtRow w v l) (hf : BtFew l) (hT : ShPl w) :
    Calls Tryz.prog 23 #[v] w fun e w' => e = .returned (.int .i64 (mRef (bps l))) ∧ Below w.heap.size w w' := by
  have HP := Lib.hid hv.2
  have hn := hf.n
  have HF := Lib.hid hf.f
  have HT := Lib.hid hT
  have HA := Lib.hid (fun W (hW : Below w.heap.size w W) => agree_calls l v W (hv.below hW) hf)
  obtain ⟨A, cap, rfl, hlc, hcm, hnil, hrow⟩ := hv.1
  unfold maxLen at hcm
  have HR := Lib.hid hrow
  clear hrow hnil hv hf hT
  go_enter Tryz.func23, Tryz.ntmps23
  go_wp2_with fail
  go_loopw [9] (fun s wr => ∃ k : Nat, k ≤ l.length ∧ s = .int .i64 (k : Nat) ∧ Hid (∀ (i : Nat) (x : Bs), i < k → l[i]? = some x → chk (bp x).1 (bp x).2 = 0) ∧ Below w.heap.size w wr) (fun s _ => l.length - (intOf s).toNat)
  case atStart => exact ⟨0, Nat.zero_le _, rfl, Lib.hid (fun i x h => absurd h (by omega)), Below.refl _ _⟩
  case round =>
    obtain ⟨k, hk, rfl, H, hb⟩ := hrel
    by_cases hkl : k < l.length
    · obtain ⟨b, off, rfl, hbs, hc⟩ := HR.out (by omega)
      obtain ⟨x, hx, hxp⟩ := bs_get hkl
      have hix := HP.out x (List.mem_of_getElem? hx)
      obtain ⟨c0, c1⟩ := br_cells hc hx
      have hR : ∀ o u, w.cell? ⟨b, o, none⟩ = some u → wr.cell? ⟨b, o, none⟩ = some u := fun o u hu => (hb.cell (p := ⟨b, o, none⟩) hbs).trans hu
      have r0 := hR _ _ c0
      have r1 := hR _ _ c1
      have hck := Lib.hid (fun W (hW : Below w.heap.size w W) => bcheck_calls x.t x.F x.v W (hix.1.below hW) (HF.out x (List.mem_of_getElem? hx)) hix.2 (shpl_below HT.out hW))
      obtain ⟨A2, cap2, hxv⟩ := bat_one hix.1
      have hno := Lib.hid (fun (h : ¬ chk (bp x).1 (bp x).2 = 0) => mRef_19 (bps_not (P := fun b => chk b.1 b.2 = 0) hx h))
      have hye := Lib.hid (fun (h : chk (bp x).1 (bp x).2 = 0) => show ∀ (i : Nat) (z : Bs), i < k + 1 → l[i]? = some z → chk (bp z).1 (bp z).2 = 0 from fun i z hi hz => by
        by_cases e : i = k
        · subst e; rw [hx] at hz; obtain rfl := Option.some.inj hz; exact h
        · exact H.out i z (by omega) hz)
      clear hc c0 c1 hR hx hxp hix hbs H
      rw [hxv] at r1 hck
      obtain ⟨t, xv, F⟩ := x
      simp only at hck r0 r1 hno hye hxv
      have hB1 := Lib.hid (kp_alloc hb (.cells #[.string (str t), .slice A2 F.length cap2] 28))
      clear hb
      generalize chk t (fms F) = C at *
      generalize F.length = fl at *
      by_cases hC : C = 0
      · subst hC
        have hr := Lib.hid (hye.out rfl)
        clear hno hye
        go_wp2_with fail
        refine (hck.out _ hB1.out).mono ?_; rintro e w2 ⟨rfl, b2⟩
        have hB2 := Lib.hid (trans9 hB1.out b2)
        clear b2 r0 r1
        go_wp2_with fail
        go_roundw
        case rel => exact ⟨k + 1, hkl, by go_num, hr, hB2.out⟩
        case measure => simp [intOf]; omega
      · have hr := Lib.hid (hno.out hC)
        have d1 : (C == 0) = false := by simpa using hC
        have d2 : decide (C = 0) = false := decide_eq_false hC
        clear hno hye
        go_wp2_with fail
        refine (hck.out _ hB1.out).mono ?_; rintro e w2 ⟨rfl, b2⟩
        have hB2 := Lib.hid (trans9 hB1.out b2)
        clear b2 r0 r1
        go_wp2_with fail
        go_ret
        exact ⟨by rw [hr.out]; rfl, hB2.out⟩
    · have H1 : Hid (∀ b ∈ bps l, chk b.1 b.2 = 0) := Lib.hid (bps_all (P := fun b => chk b.1 b.2 = 0) fun i x hi hx => H.out i x (by omega) hx)
      have HB := Lib.hid hb
      clear H hb
      go_wp2_with fail
      go_loopw [19] (fun s wr => ∃ k : Nat, k ≤ l.length ∧ s = .int .i64 (k : Nat) ∧ Hid (∀ (i : Nat) (x : Bs), i < k → l[i]? = some x → (bp x).1 = ten (bps l)) ∧ Below w.heap.size w wr) (fun s _ => l.length - (intOf s).toNat)
      case atStart => exact ⟨0, Nat.zero_le _, rfl, Lib.hid (fun i x h => absurd h (by omega)), HB.out⟩
      case round =>
        clear HB
        obtain ⟨k, hk, rfl, H, hb⟩ := hrel
        by_cases hkl : k < l.length
        · obtain ⟨b, off, rfl, hbs, hc⟩ := HR.out (by omega)
          obtain ⟨x, hx, hxp⟩ := bs_get hkl
          obtain ⟨z, hz, _⟩ := bs_get (show 0 < l.length by omega)
          have hix := HP.out x (List.mem_of_getElem? hx)
          obtain ⟨c0, c1⟩ := br_cells hc hx
          obtain ⟨e0, _⟩ := br_cells hc hz
          rw [Nat.zero_mul, Nat.add_zero] at e0
          have hR : ∀ o u, w.cell? ⟨b, o, none⟩ = some u → wr.cell? ⟨b, o, none⟩ = some u := fun o u hu => (hb.cell (p := ⟨b, o, none⟩) hbs).trans hu
          have r0 := hR _ _ c0
          have r1 := hR _ _ c1
          have r2 := hR _ _ e0
          obtain ⟨A2, cap2, hxv⟩ := bat_one hix.1
          have hten := ten_first hz
          have hno := Lib.hid (fun (h : ¬ (bp x).1 = z.t) => mRef_18 H1.out (bps_not (P := fun b => b.1 = ten (bps l)) hx (by rw [hten]; exact h)))
          have hye := Lib.hid (fun (h : (bp x).1 = z.t) => show ∀ (i : Nat) (u : Bs), i < k + 1 → l[i]? = some u → (bp u).1 = ten (bps l) from fun i u hi hu => by
            by_cases e : i = k
            · subst e; rw [hx] at hu; obtain rfl := Option.some.inj hu; rw [hten]; exact h
            · exact H.out i u (by omega) hu)
          have hlt2 : b < wr.heap.size := Nat.lt_of_lt_of_le hbs hb.size
          clear hc c0 c1 e0 hR hx hxp hix hbs H hz hten
          rw [hxv] at r1
          obtain ⟨t, xv, F⟩ := x
          obtain ⟨t0, _, _⟩ := z
          simp only at r0 r1 r2 hno hye hxv
          have hB1 := Lib.hid (kp_alloc hb (.cells #[.string (str t), .slice A2 F.length cap2] 28))
          have hl0 : (0 : Int) < (l.length : Int) := by omega
          clear hb
          generalize F.length = fl at *
          by_cases hC : t = t0
          · subst hC
            have hr := Lib.hid (hye.out rfl)
            clear hno hye
            go_wp2_with fail
            go_quiet (fail)
            go_wp2_with fail
            go_roundw
            case rel => exact ⟨k + 1, hkl, by go_num, hr, by first | exact hB1.out | exact below_drewN hB1.out _⟩
            case measure => simp [intOf]; omega
          · have hr := Lib.hid (hno.out hC)
            have d1 : (t == t0) = false := by simpa using hC
            have d2 : decide (t = t0) = false := decide_eq_false hC
            clear hno hye
            go_wp2_with fail
            go_quiet (fail)
            go_wp2_with fail
            go_ret
            exact ⟨by rw [hr.out]; rfl, by first | exact hB1.out | exact below_drewN hB1.out _⟩
        · have H2 : Hid (∀ b ∈ bps l, b.1 = ten (bps l)) := Lib.hid (bps_all (P := fun b => b.1 = ten (bps l)) fun i x hi hx => H.out i x (by omega) hx)
          have HB := Lib.hid hb
          clear H hb
          by_cases hag : agreeF (flat (bps l))
          · have hr := Lib.hid (show mRef (bps l) = 0 from mRef_zero.2 ⟨H1.out, H2.out, hag⟩)
            have hA := HA.out wr HB.out
            rw [agB_yes hag] at hA
            have HA2 := Lib.hid hA
            clear hA hag HA
            go_wp2_with fail
            refine HA2.out.mono ?_; rintro e w2 ⟨rfl, b2⟩
            have hB2 := Lib.hid (trans9 HB.out b2)
            clear b2
            go_wp2_with fail
            go_ret
            exact ⟨by rw [hr.out]; rfl, hB2.out⟩
          · have hr := Lib.hid (show mRef (bps l) = 13 from mRef_13 H1.out H2.out hag)
            have hA := HA.out wr HB.out
            rw [agB_no hag] at hA
            have HA2 := Lib.hid hA
            clear hA hag HA
            go_wp2_with fail
            refine HA2.out.mono ?_; rintro e w2 ⟨rfl, b2⟩
            have hB2 := Lib.hid (trans9 HB.out b2)
            clear b2
            go_wp2_with fail
            go_ret
            exact ⟨by rw [hr.out]; rfl, hB2.out⟩

end Go.Proofs.YtjeefgamkoeiaaaGreatDoor

/- The walk of package merge's Merge. -/
set_option maxRecDepth 100000
set_option linter.unusedVariables false
set_option linter.unusedSimpArgs false
namespace Go.Proofs.YtjeefgamkoeiaaaGreatDoor
open Go.RowKit Go.Sort Dc
attribute [local go_sem ↓] Go.wp_at_zero Go.wp_at_succ

theorem allF_append (S T : List Fp) : allF (S ++ T) = mrgF (allF S) T := mrg_append _ _ _
theorem tog_ok {L : List Bp} (h : mRef L = 0) {k : Nat} {x : Bp} (hc : chk (ten L) (allF (flat (L.take (k + 1)))) = 0) (hx : L[k + 1]? = some x) : TogOk (allF (flat (L.take (k + 1)))) x.2 := by
  obtain ⟨h1, h2, h3⟩ := mRef_zero.1 h
  have hxm := List.mem_of_getElem? hx
  have hne : L ≠ [] := fun e => by rw [e] at hx; cases hx
  have hsub : ∀ z ∈ flat (L.take (k + 1)), z ∈ flat L := fun z hz => by
    obtain ⟨b, hb, hzb⟩ := flat_mem.1 hz
    exact flat_mem.2 ⟨b, List.mem_of_mem_take hb, hzb⟩
  have hxs : ∀ z ∈ x.2, z ∈ flat L := fun z hz => flat_mem.2 ⟨x, hxm, hz⟩
  have hok := batOk_iff.1 (all_ok h hne hsub)
  have hp := chk_parts (h1 x hxm)
  obtain ⟨_, g2, g3⟩ := chk_zero hc
  refine ⟨allF_strict _, fun z hz => ?_, agree_kin (fun z hz => ?_) h3, by omega, by have := hp.2.2.2.1; omega, by omega, by have := hp.2.2.2.2; omega⟩
  · rcases List.mem_append.1 hz with hz | hz
    · exact hok.2.1 z hz
    · exact hp.2.1 z hz
  · rcases List.mem_append.1 hz with hz | hz
    · obtain ⟨u, hu, e⟩ := mrg_kin hz
      exact ⟨u, hsub u (by simpa using hu), e⟩
    · exact kin_self (hxs z hz)
theorem tog_few {A B : List Fp} (h : TogOk A B) : FpFew (mrgF A B) := by
  have h1 := h.len B.length
  have h2 := h.pts B.length
  have h3 := h.fams B.length
  rw [List.take_length] at h1 h2 h3
  exact ⟨by omega, fun x hx => by have := h2 x hx; omega, fun x hx => famOk_lab (h3 x hx)⟩
theorem start_all {L : List Bp} {x : Bp} (h : mRef L = 0) (hx : L[0]? = some x) : x.2 = allF (flat (L.take 1)) ∧ chk (ten L) x.2 = 0 ∧ x.1 = ten L := by
  obtain ⟨h1, h2, h3⟩ := mRef_zero.1 h
  have hxm := List.mem_of_getElem? hx
  have hs := (chk_parts (h1 x hxm)).1
  cases L with
  | nil => cases hx
  | cons y L =>
    obtain rfl : y = x := by simpa using hx
    refine ⟨?_, h1 y hxm, rfl⟩
    rw [show (y :: L).take 1 = [y] from rfl, allF_cons hs]; rfl
theorem few_ok {t : List UInt8} {L : List Fp} (h : chk t L = 0) : FpFew L := by
  obtain ⟨h1, h2, h3⟩ := chk_zero h
  have h4 := (batOk_iff.1 h1).2.1
  exact ⟨by omega, fun x hx => by have := nPts_mem hx; omega, fun x hx => famOk_lab (h4 x hx)⟩
theorem BatAt.alloc' {w : World} {b : Nat} {t : List UInt8} {v : Value} (k : BatAt w b t v) (o : Obj) : BatAt (w.alloc o) b t v := k.below ((Below.refl _ _).alloc (Nat.le_refl _) o)
theorem BatAt.set1 {w : World} {b : Nat} {t : List UInt8} {v u : Value} (k : BatAt w b t v) : BatAt (w.setCell ⟨b, 1, none⟩ u) b t u := by
  have h0 := k.c0
  have h1 := k.c1
  exact ⟨by simp [go_sem, h0], by simp [go_sem, h1], fun o => by simpa using k.fr o, by simpa [World.setCell] using k.lt⟩

/-- what Merge hands back -/
def MrgRes (L : List Bp) (e : Ending) (w' : World) : Prop := ∃ A n cap M, e = .returned (.tuple #[batv (mT L) (.slice A n cap), .int .i64 (mErr L)]) ∧ FmRow w' (.slice A n cap) M ∧ fms M = mF L
theorem MrgRes.no {L : List Bp} {w' : World} {c : Int} (h : mErr L = c) (hc : c ≠ 0) : MrgRes L (.returned (.tuple #[batv [] (.slice none 0 0), .int .i64 c])) w' := by
  refine ⟨none, 0, 0, [], ?_, FmRow.nil _, ?_⟩
  · rw [h, mT_bad (by rw [h]; exact hc)]
  · rw [mF_bad (by rw [h]; exact hc)]; rfl
theorem MrgRes.zero {w' : World} : MrgRes [] (.returned (.tuple #[batv [] (.slice none 0 0), .int .i64 0])) w' := by
  refine ⟨none, 0, 0, [], ?_, FmRow.nil _, ?_⟩
  · rw [mErr_nil, mT_good mErr_nil]; rfl
  · rw [mF_good mErr_nil]; rfl
theorem MrgRes.yes {L : List Bp} {w' : World} {A : Option Addr} {n cap : Nat} {M : List Fs} (h : mErr L = 0) (hr : FmRow w' (.slice A n cap) M) (hM : fms M = allF (flat L)) : MrgRes L (.returned (.tuple #[batv (ten L) (.slice A n cap), .int .i64 0])) w' :=
  ⟨A, n, cap, M, by rw [h, mT_good h], hr, by rw [hM, mF_good h]⟩

set_option maxHeartbeats 16000000 in
theorem merge_calls (l : List Bs) (v : Value) (w : World) (hv : BtRow w v l) (hf : BtFew l) (hT : ShPl w) :
    Calls Tryz.prog 10 #[v] w fun e w' => MrgRes (bps l) e w' ∧ Below w.heap.size w w' := by
  have K0 := kp_alloc (Below.refl w.heap.size w) (.cells #[.string ⟨#[]⟩, .slice none 0 0] 28)
  have R0 : BatAt (w.alloc (.cells #[.string ⟨#[]⟩, .slice none 0 0] 28)) w.heap.size [] (.slice none 0 0) := BatAt.new w [] (.slice none 0 0) 28
  have HRF := Lib.hid (fun W (hW : Below w.heap.size w W) => refuse_calls l v W (hv.below hW) hf (shpl_below hT hW))
  have HV := Lib.hid hv
  have HF := Lib.hid hf
  have HT := Lib.hid hT
  have hn := hf.n
  obtain ⟨A, cap, hvv, hlc, hcm, hnil, hrow⟩ := hv.1
  unfold maxLen at hcm
  have HR := Lib.hid hrow
  subst hvv
  obtain ⟨W0, hW0⟩ : ∃ W, W = w.alloc (.cells #[.string ⟨#[]⟩, .slice none 0 0] 28) := ⟨_, rfl⟩
  rw [← hW0] at K0 R0
  have HK0 := Lib.hid K0
  have HR0 := Lib.hid R0
  clear hrow hnil hv hf hT K0 R0
  by_cases hl0 : l = []
  · subst hl0
    obtain ⟨y0, y1, yf, yl⟩ := HR0.out
    go_enter Tryz.func10, Tryz.ntmps10
    go_upto_region 1 with fail
    rw [← hW0]
    clear hW0
    go_wp2
    refine bodyPost_ret (v := .tuple #[.agg #[.string ⟨#[]⟩, .slice none 0 0], .int .i64 0]) (by simp [results, Tryz.results10, go_sem, y0, y1]) rfl ⟨MrgRes.zero, ?_⟩
    exact (HK0.out.setCell (Nat.le_refl _) _).setCell (Nat.le_refl _) _
  have hpos : 0 < l.length := by
    cases l with
    | nil => exact absurd rfl hl0
    | cons _ _ => simp
  have hL0 : bps l ≠ [] := fun e => by have := congrArg List.length e; simp at this; exact hl0 this
  have hd0 : ((l.length : Int) == 0) = false := by simp; omega
  have hd0' : ¬ ((l.length : Int) = 0) := by omega
  by_cases hR : mRef (bps l) = 0
  · obtain ⟨b, off, hA, hbs, hc⟩ := HR.out hpos
    subst hA
    obtain ⟨x0, hx0, hxp0⟩ := bs_get hpos
    have hst := start_all hR hxp0
    have HST := Lib.hid hst
    have hi0 := HV.out.2 x0 (List.mem_of_getElem? hx0)
    obtain ⟨c0, c1⟩ := br_cells hc hx0
    rw [Nat.zero_mul, Nat.add_zero] at c0 c1
    have HC := Lib.hid hc
    have HX0 := Lib.hid hi0.1
    obtain ⟨A1, cap1, hv1⟩ := bat_one hi0.1
    have HRR := Lib.hid hR
    have HL0 := Lib.hid hL0
    have hten : x0.t = ten (bps l) := hst.2.2
    have HTN : Hid (tenOk x0.t = true) := Lib.hid (by rw [hten]; exact (batOk_iff.1 (chk_zero hst.2.1).1).1)
    have htl : Hid (x0.t.length ≤ maxLen) := Lib.hid hi0.2
    rw [hR] at HRF
    have HTEN := Lib.hid hten
    clear hR hL0 hl0 hst hi0 hxp0 hc hx0 hten
    obtain ⟨t0, fv0, F0⟩ := x0
    simp only at hv1 HX0 HTEN htl HST c0 c1 HTN
    subst hv1
    go_enter Tryz.func10, Tryz.ntmps10
    go_upto_region 1 with fail
    rw [← hW0]
    clear hW0
    go_wp2_with fail
    refine (HRF.out W0 HK0.out).mono ?_; rintro e w1 ⟨rfl, b1⟩
    have hK1 := Lib.hid (trans9 HK0.out b1)
    have hR1 := Lib.hid (HR0.out.below b1)
    have r0 := (hK1.out.cell (p := ⟨b, off, none⟩) hbs).trans c0
    have r1 := (hK1.out.cell (p := ⟨b, off + 1, none⟩) hbs).trans c1
    clear b1 c0 c1 HK0 HR0 HRF
    have hl1 : (1 : Int) ≤ (l.length : Int) := by omega
    have hl2 : (0 : Int) < (l.length : Int) := by omega
    have hl3 : 1 ≤ l.length := hpos
    have hc1 : 1 ≤ cap := by omega
    go_upto_region 7 with fail
    obtain ⟨W2, hW2⟩ : ∃ W, W = w1.alloc (.cells #[.string (str t0), .slice A1 F0.length cap1] 28) := ⟨_, rfl⟩
    have hK2 : Hid (Below w.heap.size w W2) := Lib.hid (by rw [hW2]; exact kp_alloc hK1.out _)
    have hR2 : Hid (BatAt W2 w.heap.size [] (.slice none 0 0)) := Lib.hid (by rw [hW2]; exact hR1.out.alloc' _)
    have hQ2 : Hid (BatAt W2 w1.heap.size t0 (.slice A1 F0.length cap1)) := Lib.hid (by rw [hW2]; exact BatAt.new w1 t0 _ _)
    have hqw : w.heap.size ≤ w1.heap.size := hK1.out.size
    have hqn : w.heap.size ≠ w1.heap.size := by have := hR1.out.lt; omega
    have hO2 : Hid (FmOff W2 w1.heap.size (.slice A1 F0.length cap1) F0) := Lib.hid (HX0.out.off hK2.out hqw)
    rw [← hW2]
    clear hW2 r0 r1 hR1 hK1
    generalize w1.heap.size = q at *
    generalize F0.length = fl0 at *
    by_cases hcap : cap = 1
    · have hl1' : l.length = 1 := by omega
      have hall : (bps l).take 1 = bps l := List.take_of_length_le (by rw [List.length_map]; omega)
      have hM : Hid (fms F0 = allF (flat (bps l))) := Lib.hid (by rw [← hall]; exact HST.out.1)
      have hCk : Hid (chk t0 (fms F0) = 0) := Lib.hid (by rw [HTEN.out]; exact HST.out.2.1)
      clear hall
      go_wp2_with fail
      refine wp_loop_rounds 1 ?_
      rw [rounds_succ]
      have he := Lib.hid (show mErr (bps l) = 0 by rw [mErr_all HRR.out HL0.out, ← HTEN.out, ← hM.out]; exact hCk.out)
      have hsc := Lib.hid (stamp_calls t0 t0 F0 (.slice A1 fl0 cap1) W2 hO2.out.row (FpFew.rows (few_ok hCk.out)))
      obtain ⟨z0, z1, zf, zl⟩ := hQ2.out
      clear hCk
      go_wp2_with fail
      refine hsc.out.mono ?_; rintro e w6 ⟨⟨A6, n6, cap6, M6, rfl, hk6, hm6⟩, b6⟩
      have hB6 := Lib.hid (trans9 hK2.out b6)
      obtain ⟨y0, y1, yf, yl⟩ := hR2.out.below b6
      have HK6 := Lib.hid hk6
      have HM6 : Hid (fms M6 = allF (flat (bps l))) := Lib.hid (by rw [hm6, hM.out])
      have hlt : w.heap.size < W2.heap.size := hR2.out.lt
      clear b6 z0 z1 zf zl hQ2 hR2 hO2 hK2 hsc hM hk6 hm6
      go_wp2
      refine bodyPost_ret (v := .tuple #[.agg #[.string (str t0), .slice A6 n6 cap6], .int .i64 0]) (by simp [results, Tryz.results10, go_sem, y0, y1]) rfl ⟨?_, ?_⟩
      · have hy := MrgRes.yes he.out (FmKeep.row ((HK6.out.setOld (b := w.heap.size) (i := 0) (u := .string (str t0)) hlt).setOld (b := w.heap.size) (i := 1) (u := .slice A6 n6 cap6) hlt)) HM6.out
        rw [← HTEN.out] at hy
        exact hy
      · exact (hB6.out.setCell (Nat.le_refl _) _).setCell (Nat.le_refl _) _

    go_wp2_with fail
    go_loopw [25] (fun s wr => ∃ (k : Nat) (fA : Option Addr) (fn fc : Nat) (M : List Fs), k + 1 ≤ l.length ∧ s = .int .i64 (k : Nat) ∧ Hid (BatAt wr q t0 (.slice fA fn fc)) ∧ Hid (BatAt wr w.heap.size [] (.slice none 0 0)) ∧ Hid (FmOff wr q (.slice fA fn fc) M) ∧
      Hid (fms M = allF (flat ((bps l).take (k + 1)))) ∧ Hid (chk t0 (fms M) = 0) ∧ Hid (Below w.heap.size w wr)) (fun s _ => l.length - (intOf s).toNat)
    case atStart => exact ⟨0, _, _, _, F0, by omega, rfl, hQ2, hR2, hO2, Lib.hid HST.out.1, Lib.hid (by rw [HTEN.out]; exact HST.out.2.1), hK2⟩
    case round =>
      clear hQ2 hR2 hO2 hK2 HST HX0
      obtain ⟨k, fA, fn, fc, M, hk, rfl, hQ, hRr, hO, hM, hCk, hB⟩ := hrel
      by_cases hkl : k + 1 < l.length
      · have hk1 : (k : Int) < ((l.length - 1 : Nat) : Int) := by omega
        have hk2 : k < l.length - 1 := by omega
        obtain ⟨x, hx, hxp⟩ := bs_get hkl
        have hix := HV.out.2 x (List.mem_of_getElem? hx)
        obtain ⟨c0, c1⟩ := br_cells HC.out hx
        rw [show off + (k + 1) * 2 = off + 2 + k * 2 by omega] at c0 c1
        have r0 := (hB.out.cell (p := ⟨b, off + 2 + k * 2, none⟩) hbs).trans c0
        have r1 := (hB.out.cell (p := ⟨b, off + 2 + k * 2 + 1, none⟩) hbs).trans c1
        have htog : TogOk (fms M) (fms x.F) := by
          rw [hM.out]
          exact tog_ok HRR.out (by rw [← HTEN.out, ← hM.out]; exact hCk.out) hxp
        have HTG := Lib.hid htog
        have HSTP : Hid (allF (flat ((bps l).take (k + 1 + 1))) = mrgF (fms M) (fms x.F)) := Lib.hid (by rw [flat_take hxp, allF_append, ← hM.out])
        have HLT : Hid (flat (bps l) = flat ((bps l).take (k + 1 + 1)) ++ flat ((bps l).drop (k + 1 + 1))) := Lib.hid (by rw [← flat_append, List.take_append_drop])
        have HXR := Lib.hid hix.1
        obtain ⟨A2, cap2, hv2⟩ := bat_one hix.1
        rw [hv2] at r1
        clear c0 c1 hx hxp hix htog
        obtain ⟨t, xv, F⟩ := x
        simp only at hv2 HXR r0 HTG HSTP
        subst hv2
        generalize hFl : F.length = flen at *
        clear hFl
        obtain ⟨z0, z1, zf, zl⟩ := hQ.out
        go_upto_region 10 with fail
        obtain ⟨W3, hW3⟩ : ∃ W, W = wr.alloc (.cells #[.string (str t), .slice A2 flen cap2] 28) := ⟨_, rfl⟩
        have hB3 : Hid (Below w.heap.size w W3) := Lib.hid (by rw [hW3]; exact kp_alloc hB.out _)
        have hQ3 : Hid (BatAt W3 q t0 (.slice fA fn fc)) := Lib.hid (by rw [hW3]; exact hQ.out.alloc' _)
        have hR3 : Hid (BatAt W3 w.heap.size [] (.slice none 0 0)) := Lib.hid (by rw [hW3]; exact hRr.out.alloc' _)
        have hO3 : Hid (FmOff W3 q (.slice fA fn fc) M) := Lib.hid (by rw [hW3]; exact hO.out.below ((Below.refl _ _).alloc (Nat.le_refl _) _))
        have hN3 : BatAt W3 wr.heap.size t (.slice A2 flen cap2) := by rw [hW3]; exact BatAt.new wr t _ _
        have htc := Lib.hid (together_calls M F (.slice fA fn fc) (.slice A2 flen cap2) q W3 hO3.out (HXR.out.off hB3.out hqw) hQ3.out.lt HTG.out (shpl_below HT.out hB3.out))
        rw [← hW3]
        clear hW3 r0 r1 z0 z1 zf zl hQ hRr hO hB
        have n1 := hN3.c1
        have z1 := hQ3.out.c1
        go_wp2_with fail
        refine htc.out.mono ?_; rintro e w4 ⟨A4, n4, cap4, M4, rfl, ho4, hm4, b4⟩
        have hB4 := Lib.hid (kp_set (trans9 hB3.out b4) hqw (i := 1) (v := .slice A4 n4 cap4))
        have hQ4 := hQ3.out.below b4
        have hQ5 := Lib.hid (hQ4.set1 (u := .slice A4 n4 cap4))
        have hR5 := Lib.hid ((hR3.out.below b4).setOther (c := q) (i := 1) (u := .slice A4 n4 cap4) hqn)
        have hO5 := Lib.hid (ho4.set (i := 1) (u := .slice A4 n4 cap4))
        have hM5 : Hid (fms M4 = allF (flat ((bps l).take (k + 1 + 1)))) := Lib.hid (by rw [HSTP.out, hm4])
        have hfew := FpFew.rows (by rw [hm4]; exact tog_few HTG.out)
        have z1' := hQ4.c1
        have zf' := hQ4.fr 1
        have hck := Lib.hid (bcheck_calls t0 M4 (.slice A4 n4 cap4) _ hO5.out.row hfew htl.out (shpl_below HT.out hB4.out))
        have HFW := Lib.hid hfew
        clear n1 z1 hN3 hQ3 hR3 hO3 hB3 htc ho4 hm4 b4 hQ4 hfew hM hCk HSTP HTG HXR
        go_upto_region 11 with fail
        obtain ⟨W5, hW5⟩ : ∃ W, W = w4.setCell ⟨q, 1, none⟩ (.slice A4 n4 cap4) := ⟨_, rfl⟩
        rw [← hW5] at hck hQ5 hR5 hO5 hB4 ⊢
        clear hW5 z1' zf'
        obtain ⟨u0, u1, uf, ul⟩ := hQ5.out
        have hyes := Lib.hid (fun (h : chk t0 (fms M4) ≠ 0) => chk_early HRR.out HL0.out HLT.out (by rw [← HTEN.out, ← hM5.out]; exact h))
        have hval : Hid (chk t0 (fms M4) ≠ 0 → chk t0 (fms M4) = 14) := Lib.hid (fun h => by have := (hyes.out h).2; rw [← HTEN.out, ← hM5.out] at this; exact this)
        generalize hCe : chk t0 (fms M4) = C at *
        by_cases hC : C = 0
        · subst hC
          have HCE := Lib.hid hCe
          clear hyes hval hCe
          go_wp2_with fail
          refine hck.out.mono ?_; rintro e w6 ⟨rfl, b6⟩
          have hB6 := Lib.hid (trans9 hB4.out b6)
          have hQ6 := Lib.hid (hQ5.out.below b6)
          have hR6 := Lib.hid (hR5.out.below b6)
          have hO6 := Lib.hid (hO5.out.below b6)
          clear b6 u0 u1 uf ul hB4 hQ5 hR5 hO5 hck
          go_wp2_with fail
          go_roundw
          case rel => exact ⟨k + 1, _, _, _, M4, hkl, by go_num, hQ6, hR6, hO6, hM5, HCE, hB6⟩
          case measure => simp [intOf]; omega
        · have he := Lib.hid (hyes.out hC).1
          have h14 := hval.out hC
          subst h14
          clear hyes hval hC hCe
          go_wp2_with fail
          refine hck.out.mono ?_; rintro e w6 ⟨rfl, b6⟩
          have hB6 := Lib.hid (trans9 hB4.out b6)
          obtain ⟨y0, y1, yf, yl⟩ := hR5.out.below b6
          clear b6 u0 u1 uf ul hB4 hQ5 hR5 hO5 hck
          go_wp2
          refine bodyPost_ret (v := .tuple #[.agg #[.string ⟨#[]⟩, .slice none 0 0], .int .i64 14]) (by simp [results, Tryz.results10, go_sem, y0, y1]) rfl ⟨MrgRes.no he.out (by decide), ?_⟩
          exact (hB6.out.setCell (Nat.le_refl _) _).setCell (Nat.le_refl _) _
      · have hk1 : ¬ (k : Int) < ((l.length - 1 : Nat) : Int) := by omega
        have hk2 : ¬ k < l.length - 1 := by omega
        have hall : (bps l).take (k + 1) = bps l := List.take_of_length_le (by rw [List.length_map]; omega)
        rw [hall] at hM
        have he := Lib.hid (show mErr (bps l) = 0 by rw [mErr_all HRR.out HL0.out, ← HTEN.out, ← hM.out]; exact hCk.out)
        have hsc := Lib.hid (stamp_calls t0 t0 M (.slice fA fn fc) wr hO.out.row (FpFew.rows (few_ok hCk.out)))
        obtain ⟨z0, z1, zf, zl⟩ := hQ.out
        clear hall hCk
        go_wp2_with fail
        refine hsc.out.mono ?_; rintro e w6 ⟨⟨A6, n6, cap6, M6, rfl, hk6, hm6⟩, b6⟩
        have hB6 := Lib.hid (trans9 hB.out b6)
        obtain ⟨y0, y1, yf, yl⟩ := hRr.out.below b6
        have HK6 := Lib.hid hk6
        have HM6 : Hid (fms M6 = allF (flat (bps l))) := Lib.hid (by rw [hm6, hM.out])
        have hlt : w.heap.size < wr.heap.size := hRr.out.lt
        clear b6 z0 z1 zf zl hQ hRr hO hB hsc hM hk6 hm6
        go_wp2
        refine bodyPost_ret (v := .tuple #[.agg #[.string (str t0), .slice A6 n6 cap6], .int .i64 0]) (by simp [results, Tryz.results10, go_sem, y0, y1]) rfl ⟨?_, ?_⟩
        · have hy := MrgRes.yes he.out (FmKeep.row ((HK6.out.setOld (b := w.heap.size) (i := 0) (u := .string (str t0)) hlt).setOld (b := w.heap.size) (i := 1) (u := .slice A6 n6 cap6) hlt)) HM6.out
          rw [← HTEN.out] at hy
          exact hy
        · exact (hB6.out.setCell (Nat.le_refl _) _).setCell (Nat.le_refl _) _
  · have he := Lib.hid (mErr_ref hR hL0)
    have HRR := Lib.hid hR
    generalize hCe : mRef (bps l) = C at *
    have d1 : (C == 0) = false := by simpa using hR
    have d2 : decide (C = 0) = false := decide_eq_false hR
    clear hCe hL0 hl0
    go_enter Tryz.func10, Tryz.ntmps10
    go_upto_region 1 with fail
    rw [← hW0]
    clear hW0
    go_wp2_with fail
    refine (HRF.out W0 HK0.out).mono ?_; rintro e w1 ⟨rfl, b1⟩
    have hK1 := Lib.hid (trans9 HK0.out b1)
    obtain ⟨y0, y1, yf, yl⟩ := HR0.out.below b1
    clear b1 HK0 HR0 HRF
    go_wp2
    refine bodyPost_ret (v := .tuple #[.agg #[.string ⟨#[]⟩, .slice none 0 0], .int .i64 C]) (by simp [results, Tryz.results10, go_sem, y0, y1]) rfl ⟨MrgRes.no he.out hR, ?_⟩
    exact (hK1.out.setCell (Nat.le_refl _) _).setCell (Nat.le_refl _) _

end Go.Proofs.YtjeefgamkoeiaaaGreatDoor

/- The walk of package merge's Minus. -/
set_option maxRecDepth 100000
set_option linter.unusedVariables false
set_option linter.unusedSimpArgs false
namespace Go.Proofs.YtjeefgamkoeiaaaGreatDoor
open Go.RowKit Go.Sort Dc
attribute [local go_sem ↓] Go.wp_at_zero Go.wp_at_succ

/-- the families that are not named -/
def minF (es : Nat → ByteArray) (n : Nat) (F : List Fp) : List Fp := F.filter fun x => !inN es n x.1.n
abbrev minS (es : Nat → ByteArray) (n : Nat) (F : List Fs) : List Fs := F.filter fun x => !inN es n x.hd.n
theorem minS_fms (es : Nat → ByteArray) (n : Nat) (F : List Fs) : fms (minS es n F) = minF es n (fms F) := by
  unfold minS minF fms
  rw [List.filter_map]; rfl
theorem minS_in {es : Nat → ByteArray} {n k : Nat} {F : List Fs} {x : Fs} (hx : F[k]? = some x) (h : inN es n x.hd.n = true) : minS es n (F.take k) = minS es n (F.take (k + 1)) := by
  obtain ⟨hk, rfl⟩ := List.getElem?_eq_some_iff.1 hx
  rw [List.take_succ_eq_append_getElem hk, minS, minS, List.filter_append]
  simp [h]
theorem minS_out {es : Nat → ByteArray} {n k : Nat} {F : List Fs} {x : Fs} (hx : F[k]? = some x) (h : inN es n x.hd.n = false) : minS es n (F.take k) ++ [x] = minS es n (F.take (k + 1)) := by
  obtain ⟨hk, rfl⟩ := List.getElem?_eq_some_iff.1 hx
  rw [List.take_succ_eq_append_getElem hk, minS, minS, List.filter_append]
  simp [h]
theorem minS_len (es : Nat → ByteArray) (n k : Nat) (F : List Fs) : (minS es n (F.take k)).length ≤ F.length := by
  have h1 : (minS es n (F.take k)).length ≤ (F.take k).length := List.length_filter_le _ _
  rw [List.length_take] at h1
  omega
theorem minS_few {es : Nat → ByteArray} {n : Nat} {F : List Fs} (h : FmFew F) : FmFew (minS es n F) := by
  have hl : (minS es n F).length ≤ F.length := List.length_filter_le _ _
  exact ⟨by have := h.n; omega, fun x hx => h.p x (List.mem_filter.1 hx).1, fun x hx => h.l x (List.mem_filter.1 hx).1⟩
theorem own_fm {w X : World} {base : Nat} {v : Value} {R : List Fs} (h : FmOwn X base v R) (hin : ∀ x ∈ R, FsIn w x) (hb : Below w.heap.size w X) : FmRow X v R := ⟨KOwn.row encF_len h, fun x hx => (hin x hx).below hb⟩
theorem strRow_below {w w' : World} {v : Value} {n : Nat} {es : Nat → ByteArray} (h : StrRow w v n es) (hb : Below w.heap.size w w') : StrRow w' v n es := by
  obtain ⟨a, cap, rfl, h1, h2, h3⟩ := h
  refine ⟨a, cap, rfl, h1, h2, fun h0 => ?_⟩
  obtain ⟨b, off, rfl, hlt, hc⟩ := h3 h0
  refine ⟨b, off, rfl, Nat.lt_of_lt_of_le hlt hb.size, fun i hi => ?_⟩
  have := hc i hi
  first
    | exact (hb.cell (p := ⟨b, off + i, none⟩) hlt).trans this
    | exact ⟨(hb.cell (p := ⟨b, off + i, none⟩) hlt).trans this.1, this.2⟩

set_option maxHeartbeats 8000000 in
theorem bminus_calls (t : List UInt8) (F : List Fs) (v u : Value) (n : Nat) (es : Nat → ByteArray) (w : World) (hv : FmRow w v F) (hf : FmFew F) (hu : StrRow w u n es) :
    Calls Tryz.prog 13 #[batv t v, u] w fun e w' => (∃ A m cap M, e = .returned (batv t (.slice A m cap)) ∧ FmKeep w' w.heap.size (.slice A m cap) M ∧ fms M = minF es n (fms F)) ∧ Below w.heap.size w w' := by
  have HP := Lib.hid hv.2
  have hn := hf.n
  have HF := Lib.hid hf
  have HU := Lib.hid (fun W (hW : Below w.heap.size w W) x => contains_calls n es u x W (strRow_below hu hW))
  obtain ⟨A, cap, rfl, hlc, hcm, hnil, hrow⟩ := hv.1
  unfold maxLen at hcm
  have HR := Lib.hid hrow
  have k0 := kp_alloc (kp_alloc (Below.refl w.heap.size w) (.cells #[.string (str t), .slice A F.length cap] 28)) (.cells #[.string ⟨#[]⟩, .slice none 0 0] 28)
  have B0 := (BatAt.new w t (.slice A F.length cap) 28).alloc' (.cells #[.string ⟨#[]⟩, .slice none 0 0] 28)
  have R0 := BatAt.new (w.alloc (.cells #[.string (str t), .slice A F.length cap] 28)) [] (.slice none 0 0) 28
  rw [show (w.alloc (.cells #[.string (str t), .slice A F.length cap] 28)).heap.size = w.heap.size + 1 by simp] at R0
  clear hrow hnil hv hf hu
  obtain ⟨W0, hW0⟩ : ∃ W, W = (w.alloc (.cells #[.string (str t), .slice A F.length cap] 28)).alloc (.cells #[.string ⟨#[]⟩, .slice none 0 0] 28) := ⟨_, rfl⟩
  have hK0 : Hid (Below w.heap.size w W0) := Lib.hid (by rw [hW0]; exact k0)
  have hB0 : Hid (BatAt W0 w.heap.size t (.slice A F.length cap)) := Lib.hid (by rw [hW0]; exact B0)
  have hR0 : Hid (BatAt W0 (w.heap.size + 1) [] (.slice none 0 0)) := Lib.hid (by rw [hW0]; exact R0)
  clear k0 B0 R0
  obtain ⟨q0, q1, qf, ql⟩ := hB0.out
  clear qf
  go_enter Tryz.func13, Tryz.ntmps13
  go_upto_region 1 with fail
  rw [← hW0]
  clear hW0
  go_wp2_with fail
  clear q0 q1 ql
  go_loopw [11, 5] (fun s tt wr => ∃ (k : Nat) (tv : Value), k ≤ F.length ∧ s = .int .i64 (k : Nat) ∧ tv = tt ∧ Hid (FmOwn wr W0.heap.size tv (minS es n (F.take k))) ∧ Hid (Below W0.heap.size W0 wr)) (fun s _ _ => F.length - (intOf s).toNat)
  case atStart => exact ⟨0, _, Nat.zero_le _, rfl, rfl, Lib.hid (KOwn.nil _ _ _ _ _), Lib.hid (Below.refl _ _)⟩
  case round =>
    obtain ⟨k, tv, hk, rfl, rfl, O, HB⟩ := hrel
    by_cases hkl : k < F.length
    · obtain ⟨b, off, rfl, hbs, hc⟩ := HR.out (by omega)
      obtain ⟨x, hx, hxp⟩ := fs_get hkl
      have hix := HP.out x (List.mem_of_getElem? hx)
      obtain ⟨c0, c1, c2, c3, c4⟩ := fr_cells hc hx
      have hb := trans9 hK0.out HB.out
      have hR : ∀ o u, w.cell? ⟨b, o, none⟩ = some u → wr.cell? ⟨b, o, none⟩ = some u := fun o u hu => (hb.cell (p := ⟨b, o, none⟩) hbs).trans hu
      have r0 := hR _ _ c0
      have r1 := hR _ _ c1
      have r2 := hR _ _ c2
      have r3 := hR _ _ c3
      have r4 := hR _ _ c4
      have hone := Lib.hid (encF_one hix)
      have hcn := Lib.hid (fun W (hW : Below w.heap.size w W) => HU.out W hW x.hd.n)
      have hin := Lib.hid (fun h => minS_in (es := es) (n := n) hx h)
      have hout := Lib.hid (fun h => minS_out (es := es) (n := n) hx h)
      have hml := minS_len es n k F
      obtain ⟨A1, n1, cap1, hx1⟩ : ∃ A1 n1 cap1, x.v = .slice A1 n1 cap1 := by obtain ⟨A, cap, he, _⟩ := hix.1.1; exact ⟨A, _, cap, he⟩
      clear hc c0 c1 c2 c3 c4 hR hx hxp hix hbs
      have hnew := Lib.hid (fun W => new_fs W x)
      obtain ⟨⟨xn, xk, xu, xh⟩, xv, xL⟩ := x
      simp only at hx1 r0 r1 r2 r3 r4 hcn hin hout
      subst hx1
      have hB1 := Lib.hid (kp_alloc HB.out (.cells #[.string (str xn), .int .i64 xk, .string (str xu), .string (str xh), .slice A1 n1 cap1] 41))
      have hbw := Lib.hid (kp_alloc hb (.cells #[.string (str xn), .int .i64 xk, .string (str xu), .string (str xh), .slice A1 n1 cap1] 41))
      have O1 := Lib.hid (own_alloc O.out (.cells #[.string (str xn), .int .i64 xk, .string (str xu), .string (str xh), .slice A1 n1 cap1] 41))
      clear hb HB O
      generalize inN es n xn = C at *
      cases C with
      | true =>
        have hr := Lib.hid (hin.out rfl)
        clear hin hout
        go_wp2_with fail
        refine (hcn.out _ hbw.out).mono ?_; rintro e w2 ⟨rfl, rfl⟩
        go_wp2_with fail
        go_roundw
        case rel => exact ⟨k + 1, _, hkl, by go_num, rfl, Lib.hid (by rw [← hr.out]; exact O1.out), hB1⟩
        case measure => simp [intOf]; omega
      | false =>
        have hr := Lib.hid (hout.out rfl)
        clear hin hout
        go_wp2_with fail
        refine (hcn.out _ hbw.out).mono ?_; rintro e w2 ⟨rfl, rfl⟩
        have hsz1 := hB1.out.size
        obtain ⟨W1, hW1⟩ : ∃ W, W = wr.alloc (.cells #[.string (str xn), .int .i64 xk, .string (str xu), .string (str xh), .slice A1 n1 cap1] 41) := ⟨_, rfl⟩
        have hF1 : FamAt W1 wr.heap.size ⟨xn, xk, xu, xh⟩ (.slice A1 n1 cap1) := by rw [hW1]; exact FamAt.new wr ⟨xn, xk, xu, xh⟩ _ _
        rw [← hW1] at hB1 O1 hsz1 ⊢
        clear hW1 r0 r1 r2 r3 r4 hbw
        obtain ⟨x0, x1, x2, x3, x4, _, xl⟩ := hF1
        simp only at x0 x1 x2 x3 x4
        go_wp2_with (at_builtin; refine wpList_append_krow fmTy encF_len (by rfl) _ _ (by rfl) W0.heap.size _ (minS es n (F.take k)) (by rfl) (own_alloc O1.out _) _ [(⟨⟨xn, xk, xu, xh⟩, .slice A1 n1 cap1, xL⟩ : Fs)] (by rfl) (hnew.out W1).row (fun z hz => by rw [List.mem_singleton.1 hz]; exact hone.out) (by simp; omega) (by simp; omega) ?_; intro v5 w5 o5 g5)
        have hk5 := Lib.hid (Below.grown (kp_alloc hB1.out _) g5 (by simp; omega) (fun z hz => own_ge O1.out z hz))
        go_wp2_with fail
        go_roundw
        case rel => exact ⟨k + 1, _, hkl, by go_num, rfl, Lib.hid (by rw [← hr.out]; exact o5), hk5⟩
        case measure => simp [intOf]; omega
    · have hall : F.take k = F := List.take_of_length_le (by omega)
      rw [hall] at O
      have hKw := trans9 hK0.out HB.out
      obtain ⟨A2, n2, cap2, ht2⟩ : ∃ A n cap, tv = .slice A n cap := by obtain ⟨A, cap, he, _⟩ := KOwn.row encF_len O.out; exact ⟨A, _, cap, he⟩
      subst ht2
      have hsc := Lib.hid (stamp_calls [] t (minS es n F) (.slice A2 n2 cap2) wr (own_fm O.out (fun x hx => HP.out x (List.mem_filter.1 hx).1) hKw) (minS_few HF.out))
      obtain ⟨q0, q1, _, ql⟩ := hB0.out.below HB.out
      have hR1 := hR0.out.below HB.out
      have hK1 := Lib.hid hKw
      have HR1 := Lib.hid hR1
      clear hall O HB hKw hR1
      go_wp2_with fail
      refine hsc.out.mono ?_; rintro e w6 ⟨⟨A6, n6, cap6, M6, rfl, hk6, hm6⟩, b6⟩
      have hB6 := Lib.hid (trans9 hK1.out b6)
      obtain ⟨y0, y1, yf, yl⟩ := HR1.out.below b6
      have HK6 := Lib.hid hk6
      have HM6 : Hid (fms M6 = minF es n (fms F)) := Lib.hid (by rw [hm6, minS_fms])
      have hlt : w.heap.size + 1 < wr.heap.size := HR1.out.lt
      clear b6 q0 q1 ql hsc hk6 hm6
      go_wp2
      refine bodyPost_ret (v := .agg #[.string (str t), .slice A6 n6 cap6]) (by simp [results, Tryz.results13, go_sem, y0, y1]) rfl ⟨⟨A6, n6, cap6, M6, rfl, ?_, HM6.out⟩, ?_⟩
      · exact ((HK6.out.setOld (by omega)).setOld (by omega)).mono (by omega)
      · exact (hB6.out.setCell (by show w.heap.size ≤ w.heap.size + 1; omega) _).setCell (by show w.heap.size ≤ w.heap.size + 1; omega) _

end Go.Proofs.YtjeefgamkoeiaaaGreatDoor
