/- The texts RefMrgB, RefMrgD, MrgPlainD, RefMrgE, RefMrgC, RefMrgF, one behind the other. -/
import Derived.Test.YtjeefgamkoeiaaaGreatDoorMrgX
import Derived.Test.YtjeefgamkoeiaaaGreatDoorRefBatW
import Derived.Deep.RegionHeld3
import Derived.Test.YtjeefgamkoeiaaaGreatDoorMrgP
import Derived.Test.YtjeefgamkoeiaaaGreatDoorMrgV
import Derived.Test.YtjeefgamkoeiaaaGreatDoorMrgY

/- The reference's SortFamily. -/
set_option maxRecDepth 100000
set_option linter.unusedVariables false
set_option linter.unusedSimpArgs false
namespace Go.Proofs.YtjeefgamkoeiaaaGreatDoor
open Go.RowKit Go.Sort Dc
attribute [local go_sem ↓] Go.wp_at_zero Go.wp_at_succ

/-- a point's nine cells from a place on -/
def Nine (w : World) (b o : Nat) (lv : Value) (p : Pt) : Prop :=
  w.cell? ⟨b, o, none⟩ = some lv ∧ w.cell? ⟨b, o + 1, none⟩ = some (.int .i64 p.ro) ∧ w.cell? ⟨b, o + 2, none⟩ = some (.bool p.inf) ∧ w.cell? ⟨b, o + 3, none⟩ = some (.int .i64 p.bm) ∧ w.cell? ⟨b, o + 4, none⟩ = some (.int .i64 p.bs) ∧ w.cell? ⟨b, o + 5, none⟩ = some (.int .i64 p.m) ∧ w.cell? ⟨b, o + 6, none⟩ = some (.int .i64 p.s) ∧ w.cell? ⟨b, o + 7, none⟩ = some (.bool p.td) ∧ w.cell? ⟨b, o + 8, none⟩ = some (.int .i64 p.ti)
theorem Nine.below {w w' : World} {b o : Nat} {lv : Value} {p : Pt} (h : Nine w b o lv p) (hb : Below w.heap.size w w') (hlt : b < w.heap.size) : Nine w' b o lv p := by
  obtain ⟨y0, y1, y2, y3, y4, y5, y6, y7, y8⟩ := h
  exact ⟨(hb.cell (p := ⟨b, o, none⟩) hlt).trans y0, (hb.cell (p := ⟨b, o + 1, none⟩) hlt).trans y1, (hb.cell (p := ⟨b, o + 2, none⟩) hlt).trans y2, (hb.cell (p := ⟨b, o + 3, none⟩) hlt).trans y3, (hb.cell (p := ⟨b, o + 4, none⟩) hlt).trans y4, (hb.cell (p := ⟨b, o + 5, none⟩) hlt).trans y5, (hb.cell (p := ⟨b, o + 6, none⟩) hlt).trans y6, (hb.cell (p := ⟨b, o + 7, none⟩) hlt).trans y7, (hb.cell (p := ⟨b, o + 8, none⟩) hlt).trans y8⟩
/-- no later one is one with an earlier one -/
theorem nd_take {α : Type} {f : α → α → Int} {l : List α} (h : NdT f l) {k : Nat} {p q : α} (hk : l[k]? = some p) (hq : q ∈ l.take k) : f q p ≠ 0 := by
  obtain ⟨j, hj, e⟩ := List.mem_iff_getElem.1 hq
  rw [List.length_take] at hj
  obtain ⟨hkl, rfl⟩ := List.getElem?_eq_some_iff.1 hk
  rw [← e, List.getElem_take]
  unfold NdT at h
  rw [List.pairwise_iff_getElem] at h
  exact h j k (by omega) hkl (by omega)
theorem perm_ins {α : Type} {R l : List α} {x : α} {k : Nat} (m : Nat) (hp : R.Perm (l.take k)) (hx : l[k]? = some x) : (R.take m ++ [x] ++ R.drop m).Perm (l.take (k + 1)) := by
  obtain ⟨hk, rfl⟩ := List.getElem?_eq_some_iff.1 hx
  rw [List.take_succ_eq_append_getElem hk]
  have h1 : (R.take m ++ [l[k]] ++ R.drop m).Perm (R ++ [l[k]]) := by
    rw [List.append_assoc]
    have h2 : (R.take m ++ ([l[k]] ++ R.drop m)).Perm (R.take m ++ (R.drop m ++ [l[k]])) := (List.perm_append_comm).append_left _
    rwa [← List.append_assoc, ← List.append_assoc, List.take_append_drop, List.append_assoc] at h2
  exact h1.trans (hp.append_right _)
theorem strict_ins {α : Type} {f : α → α → Int} {g : α → α → α} (hf : TP f) (hg : ∀ x y, f x y = 0 → f (g x y) y = 0) {R : List α} {y : α} {m : Nat} (hs : StrictT f R) (hm : m ≤ R.length) (lo : ∀ j x, j < m → R[j]? = some x → f x y < 0) (hi : ∀ j x, m ≤ j → R[j]? = some x → 0 < f x y) : StrictT f (R.take m ++ [y] ++ R.drop m) := by
  have h := ins_strict hf hg y hs
  rw [ins_no (g := g) hf hs hm lo hi] at h
  simpa using h
theorem pts_at {R : List Ps} {j : Nat} {q : Pt} (h : (pts R)[j]? = some q) : ∃ r, R[j]? = some r ∧ r.2 = q := by
  simp only [pts, List.getElem?_map] at h
  cases e : R[j]? with
  | none => rw [e] at h; cases h
  | some r => rw [e] at h; exact ⟨r, rfl, by simpa using h⟩
theorem strictP_ins {R : List Ps} {x : Ps} {m : Nat} (hs : StrictP (pts R)) (hm : m ≤ R.length) (lo : ∀ j r, j < m → R[j]? = some r → cmpP r.2 x.2 < 0) (hi : ∀ j r, m ≤ j → R[j]? = some r → 0 < cmpP r.2 x.2) : StrictP (pts (R.take m ++ [x] ++ R.drop m)) := by
  have h := strict_ins tp_cmpP snd_hg (R := pts R) (y := x.2) (m := m) hs (by simpa [pts] using hm) (fun j q hj hq => by obtain ⟨r, hr, rfl⟩ := pts_at hq; exact lo j r hj hr) (fun j q hj hq => by obtain ⟨r, hr, rfl⟩ := pts_at hq; exact hi j r hj hr)
  simpa [pts, List.map_take, List.map_drop] using h
/-- all below the one that is below -/
theorem lo_all {α : Type} {f : α → α → Int} (hf : TP f) {R : List α} (hs : StrictT f R) {y x : α} {j : Nat} (hj : R[j]? = some x) (h : f x y < 0) : ∀ i z, i < j + 1 → R[i]? = some z → f z y < 0 := fun i z hi hz => by
  by_cases e : i = j
  · subst e; rw [hj] at hz; obtain rfl := Option.some.inj hz; exact h
  · obtain ⟨h1, rfl⟩ := List.getElem?_eq_some_iff.1 hj
    obtain ⟨h2, rfl⟩ := List.getElem?_eq_some_iff.1 hz
    unfold StrictT at hs
    rw [List.pairwise_iff_getElem] at hs
    have k := hs i j h2 h1 (by omega)
    have a := hf.le R[i] R[j] y
    have b := hf.neg R[i] y
    have c := hf.le y R[i] R[j]
    have d := hf.neg R[j] y
    have e2 := hf.neg R[i] R[j]
    by_cases q : f R[i] y < 0
    · exact q
    · have := c (by omega) (by omega)
      omega
theorem loP_all {R : List Ps} (hs : StrictP (pts R)) {p : Pt} {r : Ps} {j : Nat} (hj : R[j]? = some r) (h : cmpP r.2 p < 0) : ∀ i z, i < j + 1 → R[i]? = some z → cmpP z.2 p < 0 := fun i z hi hz =>
  lo_all tp_cmpP hs (x := r.2) (y := p) (j := j) (by simp [pts, hj]) h i z.2 hi (by simp [pts, hz])

set_option maxHeartbeats 16000000 in
theorem rsortfam_calls (h : Hd) (L : List Ps) (v : Value) (w : World) (hv : PtRow w v L) (hn : L.length ≤ 1000) (hND : NdP (pts L)) :
    Calls Tryz.prog 36 #[famv h v] w fun e w' => (∃ A n cap M, e = .returned (.tuple #[famv h (.slice A n cap), .bool true]) ∧ PtOwn w' w.heap.size (.slice A n cap) M ∧ M.Perm L ∧ StrictP (pts M)) ∧ Below w.heap.size w w' := by
  have HV := Lib.hid hv
  have HND := Lib.hid hND
  obtain ⟨A, cap, rfl, hlc, hcm, hnil, hrow⟩ := hv.1
  unfold maxLen at hcm
  have HR := Lib.hid hrow
  have k0 := kp_alloc (kp_alloc (Below.refl w.heap.size w) (.cells (famc h (.slice A L.length cap)) 41)) (.cells (famc hd0 (.slice none 0 0)) 41)
  have F0 := (FamAt.new w h (.slice A L.length cap) 41).alloc' (.cells (famc hd0 (.slice none 0 0)) 41)
  have R0 := FamAt.new (w.alloc (.cells (famc h (.slice A L.length cap)) 41)) hd0 (.slice none 0 0) 41
  rw [show (w.alloc (.cells (famc h (.slice A L.length cap)) 41)).heap.size = w.heap.size + 1 by simp] at R0
  clear hrow hnil hv hND
  go_enter Tryz.func36, Tryz.ntmps36
  go_upto_region 1 with fail
  obtain ⟨W0, hW0⟩ : ∃ W, W = (w.alloc (.cells #[.string (str h.n), .int .i64 h.k, .string (str h.u), .string (str h.h), .slice A L.length cap] 41)).alloc (.cells #[.string ⟨#[]⟩, .int .i64 0, .string ⟨#[]⟩, .string ⟨#[]⟩, .slice none 0 0] 41) := ⟨_, rfl⟩
  have HB : Hid (Below w.heap.size w W0) := Lib.hid (by rw [hW0]; exact k0)
  have HZ : Hid (W0.heap.size = w.heap.size + 1 + 1) := Lib.hid (by rw [hW0]; simp)
  have HF : Hid (FamAt W0 w.heap.size h (.slice A L.length cap)) := Lib.hid (by rw [hW0]; exact F0)
  have HRA : Hid (FamAt W0 (w.heap.size + 1) hd0 (.slice none 0 0)) := Lib.hid (by rw [hW0]; exact R0)
  rw [← hW0]
  clear hW0 k0 F0 R0
  go_wp2_with fail
  go_loopw [4, 5] (fun q i wr => ∃ (k : Nat) (p : Value) (R : List Ps), p = q ∧ k ≤ L.length ∧ i = .int .i64 (k : Nat) ∧ Hid (R.Perm (L.take k)) ∧ Hid (StrictP (pts R)) ∧ Hid (PtOwn wr W0.heap.size p R) ∧ Hid (Below W0.heap.size W0 wr)) (fun _ i _ => L.length - (intOf i).toNat)
  case atStart => exact ⟨0, _, [], rfl, Nat.zero_le _, rfl, List.Perm.refl _, List.Pairwise.nil, KOwn.nil _ _ _ _ _, Below.refl _ _⟩
  case round =>
    obtain ⟨k, pv, R, rfl, hk, rfl, HPm, HSt, HO, HBB⟩ := hrel
    have hRk : Hid (R.length = k) := by have := HPm.out.length_eq; rw [List.length_take] at this; show _ = _; omega
    obtain ⟨A2, cap2, rfl, hlc2, hcm2, _, hr2⟩ := KOwn.row encP_len HO.out
    unfold maxLen at hcm2
    have x4 : wr.cell? ⟨w.heap.size, 4, none⟩ = some (.slice A L.length cap) := (HF.out.below HBB.out).c4
    by_cases hkl : k < L.length
    · obtain ⟨b, off, rfl, hbs, hc⟩ := HR.out (by omega)
      obtain ⟨x, hx, hxp⟩ := ps_get hkl
      have hxi := HV.out.2 x (List.mem_of_getElem? hx)
      have hNE := fun (j : Nat) (r : Ps) (hr : R[j]? = some r) => nd_take (f := cmpP) (q := r.2) HND.out hxp (by
        have h1 := HPm.out.mem_iff.1 (List.mem_of_getElem? hr)
        have h2 := List.mem_map_of_mem (f := fun q : Ps => q.2) h1
        rw [List.map_take] at h2
        exact h2)
      obtain ⟨A1, n1, cap1, hx1⟩ : ∃ A1 n1 cap1, x.1 = .slice A1 n1 cap1 := by obtain ⟨_, _, h, _⟩ := hxi.1; exact ⟨_, _, _, h⟩
      obtain ⟨xv, p⟩ := x
      simp only at hx1
      subst hx1
      simp only at hNE
      have HNE := Lib.hid hNE
      have HX9 : Hid (∀ z, Below wr.heap.size wr z → Nine z b (off + k * 9) (.slice A1 n1 cap1) p) := Lib.hid (fun z hz => (show Nine w b (off + k * 9) (.slice A1 n1 cap1) p from pr_cells hc hx).below (trans9 HB.out (trans9 HBB.out hz)) hbs)
      have HF4 : Hid (∀ z, Below wr.heap.size wr z → z.cell? ⟨w.heap.size, 4, none⟩ = some (.slice (some ⟨b, off, none⟩) L.length cap)) := Lib.hid (fun z hz => (HF.out.below (trans9 HBB.out hz)).c4)
      have HCP : Hid (∀ r ∈ R, ∀ W, Below wr.heap.size wr W → Calls Tryz.prog 35 #[ptv r.1 r.2, ptv (.slice A1 n1 cap1) p] W fun e w' => e = .returned (.int .i64 (cmpP r.2 p)) ∧ Below W.heap.size W w') := Lib.hid (fun r hr W hW => by
        have hri := HV.out.2 r (List.mem_of_mem_take (HPm.out.mem_iff.1 hr))
        have hWW := trans9 HB.out (trans9 HBB.out hW)
        exact rcomparepoints_calls r.1 (.slice A1 n1 cap1) r.2 p W (hri.1.below hWW) (hxi.1.below hWW) hri.2 hxi.2)
      have HSL : Hid (∀ r ∈ R, ∃ A n cap, r.1 = .slice A n cap) := Lib.hid (fun r hr => by
        obtain ⟨_, _, h, _⟩ := (HV.out.2 r (List.mem_of_mem_take (HPm.out.mem_iff.1 hr))).1; exact ⟨_, _, _, h⟩)
      have HON : Hid (∀ r ∈ R, ∀ u ∈ encP r, u.oneCell' = true) := Lib.hid (fun r hr => encP_one (HV.out.2 r (List.mem_of_mem_take (HPm.out.mem_iff.1 hr))))
      have HX1 : Hid (∀ u ∈ encP ((.slice A1 n1 cap1, p) : Ps), u.oneCell' = true) := Lib.hid (encP_one hxi)
      have HPm2 : Hid (∀ m, (R.take m ++ [((.slice A1 n1 cap1, p) : Ps)] ++ R.drop m).Perm (L.take (k + 1))) := Lib.hid (fun m => perm_ins m HPm.out hx)
      have HR2 := Lib.hid hr2
      have hk0 : (0 : Int) ≤ (k : Int) := by omega
      have hkb : (k : Int) < (L.length : Int) := by omega
      have hRl : R.length ≤ 1000 := by have := hRk.out; omega
      clear hc hx hxp hxi hNE hr2
      go_wp2_with fail
      generalize wr = W1 at *
      go_loopw [6] (fun i wi => ∃ m : Nat, m ≤ R.length ∧ i = .int .i64 (m : Nat) ∧ Hid (∀ j r, m ≤ j → R[j]? = some r → 0 < cmpP r.2 p) ∧ Hid (Below W1.heap.size W1 wi)) (fun i _ => (intOf i).toNat)
      case atStart => exact ⟨R.length, Nat.le_refl _, rfl, Lib.hid (fun j r h1 h2 => by have := (List.getElem?_eq_some_iff.1 h2).1; omega), Lib.hid (Below.refl _ _)⟩
      case round =>
        clear x4
        obtain ⟨m, hm, rfl, HU, HBi⟩ := hrel
        obtain ⟨d, hd⟩ : ∃ d : Bool, d = true ↔ (∃ j r, m = j + 1 ∧ R[j]? = some r ∧ 0 < cmpP r.2 p) := by classical exact ⟨decide (∃ j r, m = j + 1 ∧ R[j]? = some r ∧ 0 < cmpP r.2 p), decide_eq_true_iff⟩
        have HD := Lib.hid hd
        clear hd
        go_wp2_with fail
        go_cut [31] from 16 to 31 (fun s wx => s = .bool d ∧ Hid (Below W1.heap.size W1 wx))
        case first =>
          by_cases hm0 : m = 0
          · subst hm0
            obtain rfl : d = false := by
              cases d with
              | false => rfl
              | true => obtain ⟨j, r, h1, _⟩ := HD.out.1 rfl; omega
            rw [show ((0 : Nat) : Int) = 0 from rfl]
            refine wp_region_noPanic ?_
            refine wp_region_held_drew (S := fun X => Below wr.heap.size wr X) (by kernel_rfl) ?_ (fun hHeld => ?_)
            · exact Below.drew (Below.refl _ _)
            have kB : Below wr.heap.size wr wr.drew := Below.drew (Below.refl _ _)
            clear hHeld
            refine tk9 0 kB ?_
            refine tk9 1 kB ?_
            refine tk9 2 kB ?_
            refine tk9 3 kB ?_ (v := undef) (hy := Or.inr ⟨by rfl, rfl⟩)
            refine tk9 4 kB ?_ (v := undef) (hy := Or.inr ⟨by rfl, rfl⟩)
            refine tk9 5 kB ?_ (v := undef) (hy := Or.inr ⟨by rfl, rfl⟩)
            refine tk9 6 kB ?_ (v := undef) (hy := Or.inr ⟨by rfl, rfl⟩)
            refine tk9 7 kB ?_ (v := undef) (hy := Or.inr ⟨by rfl, rfl⟩)
            refine tk9 8 kB ?_ (v := undef) (hy := Or.inr ⟨by rfl, rfl⟩)
            refine tk9 9 kB ?_ (v := undef) (hy := Or.inr ⟨by rfl, rfl⟩)
            refine tk9 10 kB ?_ (v := undef) (hy := Or.inr ⟨by rfl, rfl⟩)
            refine tk9 11 kB ?_ (v := undef) (hy := Or.inr ⟨by rfl, rfl⟩)
            refine tk9 12 kB ?_ (v := undef) (hy := Or.inr ⟨by rfl, rfl⟩)
            refine tk9 13 kB ?_ (v := undef) (hy := Or.inr ⟨by rfl, rfl⟩)
            refine tk9 14 kB ?_ (v := undef) (hy := Or.inr ⟨by rfl, rfl⟩)
            refine tk9 15 kB ?_
            refine wpAnyH_done (by kernel_rfl) ?_ _
            refine NoPanic.normal ?_
            go_wp2_with fail
            go_meet
            exact ⟨rfl, Lib.hid (trans9 HBi.out kB)⟩
          · obtain ⟨j, rfl⟩ : ∃ j, m = j + 1 := ⟨m - 1, by omega⟩
            obtain ⟨r, hr⟩ : ∃ r, Hid (R[j]? = some r) := ⟨R[j], Lib.hid (List.getElem?_eq_getElem (by omega))⟩
            have hjR : j < R.length := by omega
            obtain ⟨_, _, he3, _, _, _, hr3⟩ := KOwn.row encP_len HO.out
            cases he3
            obtain ⟨g2, off2, rfl, hg2, hcc⟩ := hr3 (by omega)
            have hr9 : Hid (∀ z, Below W1.heap.size W1 z → Nine z g2 (off2 + j * 9) r.1 r.2) := Lib.hid (fun z hz => (show Nine W1 g2 (off2 + j * 9) r.1 r.2 from pr_cells hcc hr.out).below hz hg2)
            have hcpr : Hid (∀ W, Below wr.heap.size wr W → _) := Lib.hid (fun W hW => HCP.out r (List.mem_of_getElem? hr.out) W (trans9 HBi.out hW))
            have hsl := Lib.hid (HSL.out r (List.mem_of_getElem? hr.out))
            have hw1 : IntKind.i64.wrap (j : Int) = (j : Int) := IntWalk.i64_in _ (by omega)
            have hmj : ((j + 1 : Nat) : Int) - 1 = (j : Int) := by omega
            have dm : decide ((0 : Int) < ((j + 1 : Nat) : Int)) = true := by first | (simp; done) | (simp; omega)
            have dm2 : decide (0 < j + 1) = true := by simp
            have hj0 : (0 : Int) ≤ (j : Int) := by omega
            have hj1 : (j : Int) < (R.length : Int) := by omega
            clear hr3 hcc
            have hdd : Hid (d = decide (0 < cmpP r.2 p)) := Lib.hid (by
              rw [Bool.eq_iff_iff, decide_eq_true_iff]
              exact HD.out.trans ⟨fun ⟨j', r', h1, h2, h3⟩ => by
                obtain rfl : j = j' := by omega
                rw [hr.out] at h2
                obtain rfl := Option.some.inj h2
                exact h3, fun q => ⟨j, r, rfl, hr.out, q⟩⟩)
            obtain ⟨rv, rp⟩ := r
            simp only at hr9 hcpr hsl hdd
            obtain ⟨A4, n4, cap4, rfl⟩ := hsl.out
            have HR9 := Lib.hid hr9.out
            have hcp := Lib.hid hcpr.out
            clear hr9 hcpr hsl
            generalize cmpP rp p = C at *
            refine wp_region_noPanic ?_
            refine wp_region_held_drew (S := fun X => Below wr.heap.size wr X) (by kernel_rfl) ?_ (fun hHeld => ?_)
            · exact Below.drew (Below.refl _ _)
            have kB : Below wr.heap.size wr wr.drew := Below.drew (Below.refl _ _)
            clear hHeld
            refine tk9 0 kB ?_
            refine tk9 1 kB ?_
            refine tk9 2 kB ?_
            refine tk9 3 kB ?_
            refine tk9 4 kB ?_
            refine tk9 5 kB ?_
            refine tk9 6 kB ?_
            refine tk9 7 kB ?_ (hy := Or.inl ⟨by rfl, by intro x hSw; (try dsimp only at hSw); obtain ⟨y0, y1, y2, y3, y4, y5, y6, y7, y8⟩ := HR9.out x (trans9 HBi.out hSw); first | (go_simp; done) | (go_simp; with_reducible rfl)⟩)
            refine tk9 8 kB ?_
            refine tk9 9 kB ?_ (hy := Or.inl ⟨by rfl, by intro x hSw; (try dsimp only at hSw); have x4 := HF4.out x (trans9 HBi.out hSw); first | (go_simp; done) | (go_simp; with_reducible rfl)⟩)
            refine tk9 10 kB ?_
            refine tk9 11 kB ?_
            refine tk9 12 kB ?_ (hy := Or.inl ⟨by rfl, by intro x hSw; (try dsimp only at hSw); obtain ⟨y0, y1, y2, y3, y4, y5, y6, y7, y8⟩ := HX9.out x (trans9 HBi.out hSw); first | (go_simp; done) | (go_simp; with_reducible rfl)⟩)
            refine wpAnyH_ready (rs := [13]) (by kernel_rfl) (by simp) ?_
            refine AllReadyH.cons (by simp only [List.getElem?_toArray, List.getElem?_cons_succ, List.getElem?_cons_zero]; rfl) (fun K hK => ?_) AllReadyH.nil
            try go_simp
            refine (hcp.out _ kB).mono ?_; rintro e w5 ⟨rfl, b5⟩
            replace kB := trans9 kB b5
            clear b5
            try go_wp2_with fail
            refine hK.out _ _ kB (fun hHeld => ?_)
            clear hK K hHeld
            (try simp only [Act.put, List.setIfInBounds_toArray, List.set_cons_zero, List.set_cons_succ])
            refine tk9 14 kB ?_
            refine tk9 15 kB ?_
            refine wpAnyH_done (by kernel_rfl) ?_ _
            refine NoPanic.normal ?_
            go_wp2_with fail
            go_meet
            first | exact ⟨congrArg Value.bool hdd.out.symm, Lib.hid (trans9 HBi.out kB)⟩ | exact ⟨by rw [hdd.out], Lib.hid (trans9 HBi.out kB)⟩
        case rest =>
          obtain ⟨rfl, HB3⟩ := hcut
          clear HBi
          cases d with
          | true =>
            obtain ⟨j, r, rfl, hr, hp⟩ := HD.out.1 rfl
            have HU2 : Hid (∀ j' r', j ≤ j' → R[j']? = some r' → 0 < cmpP r'.2 p) := Lib.hid (fun i r' h1 h2 => by
              by_cases e : i = j
              · subst e; rw [hr] at h2; obtain rfl := Option.some.inj h2; exact hp
              · exact HU.out i r' (by omega) h2)
            have hw1 : IntKind.i64.wrap (j : Int) = (j : Int) := IntWalk.i64_in _ (by omega)
            have hmj : ((j + 1 : Nat) : Int) - 1 = (j : Int) := by omega
            clear hr hp HU HD
            go_wp2_with fail
            go_roundw
            case rel => exact ⟨j, by omega, by go_num, HU2, HB3⟩
            case measure => simp [intOf]
          | false =>
            have HLO : Hid (∀ i z, i < m → R[i]? = some z → cmpP z.2 p < 0) := Lib.hid (by
              by_cases hm0 : m = 0
              · exact fun i z h1 => by omega
              · obtain ⟨j, rfl⟩ : ∃ j, m = j + 1 := ⟨m - 1, by omega⟩
                have hrj : R[j]? = some R[j] := List.getElem?_eq_getElem (by omega)
                have h1 := HNE.out j _ hrj
                have h2 : ¬ 0 < cmpP R[j].2 p := fun q => absurd (HD.out.2 ⟨j, _, rfl, hrj, q⟩) (by simp)
                exact loP_all HSt.out hrj (by omega))
            clear HD
            go_wp2_with fail
            generalize wc = W2 at *
            go_cut [49] from 34 to 49 (fun s wx => s = .bool false ∧ Hid (Below W1.heap.size W1 wx))
            case first =>
              by_cases hm0 : m = 0
              · subst hm0
                rw [show ((0 : Nat) : Int) = 0 from rfl]
                refine wp_region_noPanic ?_
                refine wp_region_held_drew (S := fun X => Below W2.heap.size W2 X) (by kernel_rfl) ?_ (fun hHeld => ?_)
                · exact Below.drew (Below.refl _ _)
                have kB : Below W2.heap.size W2 W2.drew := Below.drew (Below.refl _ _)
                clear hHeld
                refine tk9 0 kB ?_
                refine tk9 1 kB ?_
                refine tk9 2 kB ?_
                refine tk9 3 kB ?_ (v := undef) (hy := Or.inr ⟨by rfl, rfl⟩)
                refine tk9 4 kB ?_ (v := undef) (hy := Or.inr ⟨by rfl, rfl⟩)
                refine tk9 5 kB ?_ (v := undef) (hy := Or.inr ⟨by rfl, rfl⟩)
                refine tk9 6 kB ?_ (v := undef) (hy := Or.inr ⟨by rfl, rfl⟩)
                refine tk9 7 kB ?_ (v := undef) (hy := Or.inr ⟨by rfl, rfl⟩)
                refine tk9 8 kB ?_ (v := undef) (hy := Or.inr ⟨by rfl, rfl⟩)
                refine tk9 9 kB ?_ (v := undef) (hy := Or.inr ⟨by rfl, rfl⟩)
                refine tk9 10 kB ?_ (v := undef) (hy := Or.inr ⟨by rfl, rfl⟩)
                refine tk9 11 kB ?_ (v := undef) (hy := Or.inr ⟨by rfl, rfl⟩)
                refine tk9 12 kB ?_ (v := undef) (hy := Or.inr ⟨by rfl, rfl⟩)
                refine tk9 13 kB ?_ (v := undef) (hy := Or.inr ⟨by rfl, rfl⟩)
                refine tk9 14 kB ?_ (v := undef) (hy := Or.inr ⟨by rfl, rfl⟩)
                refine tk9 15 kB ?_
                refine wpAnyH_done (by kernel_rfl) ?_ _
                refine NoPanic.normal ?_
                go_wp2_with fail
                go_meet
                exact ⟨rfl, Lib.hid (trans9 HB3.out kB)⟩
              · obtain ⟨j, rfl⟩ : ∃ j, m = j + 1 := ⟨m - 1, by omega⟩
                obtain ⟨r, hr⟩ : ∃ r, Hid (R[j]? = some r) := ⟨R[j], Lib.hid (List.getElem?_eq_getElem (by omega))⟩
                have hjR : j < R.length := by omega
                obtain ⟨_, _, he3, _, _, _, hr3⟩ := KOwn.row encP_len HO.out
                cases he3
                obtain ⟨g2, off2, rfl, hg2, hcc⟩ := hr3 (by omega)
                have hr9 : Hid (∀ z, Below W1.heap.size W1 z → Nine z g2 (off2 + j * 9) r.1 r.2) := Lib.hid (fun z hz => (show Nine W1 g2 (off2 + j * 9) r.1 r.2 from pr_cells hcc hr.out).below hz hg2)
                have hcpr : Hid (∀ W, Below W2.heap.size W2 W → _) := Lib.hid (fun W hW => HCP.out r (List.mem_of_getElem? hr.out) W (trans9 HB3.out hW))
                have hsl := Lib.hid (HSL.out r (List.mem_of_getElem? hr.out))
                have hw1 : IntKind.i64.wrap (j : Int) = (j : Int) := IntWalk.i64_in _ (by omega)
                have hmj : ((j + 1 : Nat) : Int) - 1 = (j : Int) := by omega
                have dm : decide ((0 : Int) < ((j + 1 : Nat) : Int)) = true := by first | (simp; done) | (simp; omega)
                have dm2 : decide (0 < j + 1) = true := by simp
                have hj0 : (0 : Int) ≤ (j : Int) := by omega
                have hj1 : (j : Int) < (R.length : Int) := by omega
                clear hr3 hcc
                have hne : (cmpP r.2 p == 0) = false := by simpa using HNE.out j r hr.out
                obtain ⟨rv, rp⟩ := r
                simp only at hr9 hcpr hsl hne
                obtain ⟨A4, n4, cap4, rfl⟩ := hsl.out
                have HR9 := Lib.hid hr9.out
                have hcp := Lib.hid hcpr.out
                clear hr9 hcpr hsl
                generalize cmpP rp p = C at *
                refine wp_region_noPanic ?_
                refine wp_region_held_drew (S := fun X => Below W2.heap.size W2 X) (by kernel_rfl) ?_ (fun hHeld => ?_)
                · exact Below.drew (Below.refl _ _)
                have kB : Below W2.heap.size W2 W2.drew := Below.drew (Below.refl _ _)
                clear hHeld
                refine tk9 0 kB ?_
                refine tk9 1 kB ?_
                refine tk9 2 kB ?_
                refine tk9 3 kB ?_
                refine tk9 4 kB ?_
                refine tk9 5 kB ?_
                refine tk9 6 kB ?_
                refine tk9 7 kB ?_ (hy := Or.inl ⟨by rfl, by intro x hSw; (try dsimp only at hSw); obtain ⟨y0, y1, y2, y3, y4, y5, y6, y7, y8⟩ := HR9.out x (trans9 HB3.out hSw); first | (go_simp; done) | (go_simp; with_reducible rfl)⟩)
                refine tk9 8 kB ?_
                refine tk9 9 kB ?_ (hy := Or.inl ⟨by rfl, by intro x hSw; (try dsimp only at hSw); have x4 := HF4.out x (trans9 HB3.out hSw); first | (go_simp; done) | (go_simp; with_reducible rfl)⟩)
                refine tk9 10 kB ?_
                refine tk9 11 kB ?_
                refine tk9 12 kB ?_ (hy := Or.inl ⟨by rfl, by intro x hSw; (try dsimp only at hSw); obtain ⟨y0, y1, y2, y3, y4, y5, y6, y7, y8⟩ := HX9.out x (trans9 HB3.out hSw); first | (go_simp; done) | (go_simp; with_reducible rfl)⟩)
                refine wpAnyH_ready (rs := [13]) (by kernel_rfl) (by simp) ?_
                refine AllReadyH.cons (by simp only [List.getElem?_toArray, List.getElem?_cons_succ, List.getElem?_cons_zero]; rfl) (fun K hK => ?_) AllReadyH.nil
                try go_simp
                refine (hcp.out _ kB).mono ?_; rintro e w5 ⟨rfl, b5⟩
                replace kB := trans9 kB b5
                clear b5
                try go_wp2_with fail
                refine hK.out _ _ kB (fun hHeld => ?_)
                clear hK K hHeld
                (try simp only [Act.put, List.setIfInBounds_toArray, List.set_cons_zero, List.set_cons_succ])
                refine tk9 14 kB ?_
                refine tk9 15 kB ?_
                refine wpAnyH_done (by kernel_rfl) ?_ _
                refine NoPanic.normal ?_
                go_wp2_with fail
                go_meet
                exact ⟨rfl, Lib.hid (trans9 HB3.out kB)⟩
            case rest =>
              obtain ⟨rfl, HB4⟩ := hcut
              clear HB3
              have HOW : Hid (PtOwn wc W0.heap.size (.slice A2 R.length cap2) R) := Lib.hid (HO.out.below HB4.out)
              have hrw := KOwn.row encP_len HOW.out
              obtain ⟨u1, eq1, row1⟩ := kr_to ptTy hrw m hm
              obtain ⟨u2, eq2, row2⟩ := kr_from ptTy hrw m hm
              have HTO := Lib.hid (fun z (hz : Below wc.heap.size wc z) => row1 z (hrw.below hz))
              have HFR := Lib.hid (fun z (hz : Below wc.heap.size wc z) => row2 z (hrw.below hz))
              have hnp := Lib.hid (HPm2.out m)
              have hns : Hid (StrictP (pts (R.take m ++ [((.slice A1 n1 cap1, p) : Ps)] ++ R.drop m))) := Lib.hid (strictP_ins HSt.out hm HLO.out HU.out)
              have hlt0 : ([] : List Ps).length + (R.take m).length ≤ 2000 := by rw [List.length_take]; simp; omega
              have hlt1 : (R.take m).length + ([((.slice A1 n1 cap1, p) : Ps)] : List Ps).length ≤ 2000 := by rw [List.length_take]; simp; omega
              have hlt2 : (R.take m ++ [((.slice A1 n1 cap1, p) : Ps)]).length + (R.drop m).length ≤ 2000 := by rw [List.length_append, List.length_take, List.length_drop]; simp; omega
              have HSW : Hid (W0.heap.size ≤ wc.heap.size) := Lib.hid (Nat.le_trans HBB.out.size HB4.out.size)
              clear row1 row2 hrw HU HLO
              go_wp2_with fail
              refine wp_region_noPanic ?_
              refine wp_region_held_drew (S := fun X => Below wc.heap.size wc X) (by kernel_rfl) ?_ (fun hHeld => ?_)
              · exact Below.drew (Below.refl _ _)
              have kB : Below wc.heap.size wc wc.drew := Below.drew (Below.refl _ _)
              clear hHeld
              refine tk9 0 kB ?_
              refine tk9 1 kB ?_
              refine tk9 2 kB ?_
              refine tk9 4 kB ?_
              refine tk9 5 kB ?_ (hy := Or.inl ⟨by rfl, by intro x hSw; (try dsimp only at hSw); have x4 := HF4.out x (trans9 HB4.out hSw); first | (go_simp; done) | (go_simp; with_reducible rfl)⟩)
              refine tk9 6 kB ?_
              refine tk9 7 kB ?_
              refine tk9 8 kB ?_ (hy := Or.inl ⟨by rfl, by intro x hSw; (try dsimp only at hSw); obtain ⟨y0, y1, y2, y3, y4, y5, y6, y7, y8⟩ := HX9.out x (trans9 HB4.out hSw); first | (go_simp; done) | (go_simp; with_reducible rfl)⟩)
              refine tk9 11 kB ?_
              refine tk9 12 kB ?_
              refine tk9 13 kB ?_
              refine wpAnyH_ready (rs := [3, 9]) (by kernel_rfl) (by simp) ?_
              refine AllReadyH.cons (by simp only [List.getElem?_toArray, List.getElem?_cons_succ, List.getElem?_cons_zero]; rfl) (fun K hK => ?_) ?_
              · refine step_append_krow ptTy encP_len (by rfl) (.const (.slice none 0 0)) (.tmp 53) (by rfl) wc.heap.size _ [] (by rfl) (KOwn.nil _ _ _ _ _) _ (R.take m) (by rfl) (HTO.out _ kB) (fun x hx => HON.out x (List.mem_of_mem_take hx)) hlt0 (Below.size kB) ?_
                intro v5 w5 o5 g5
                replace kB := Below.grown kB g5 (Below.size kB) (fun q hq => by cases hq)
                simp only [List.nil_append] at o5
                clear g5
                refine hK.out _ _ kB (fun hHeld => ?_)
                clear hK K hHeld
                (try simp only [Act.put, List.setIfInBounds_toArray, List.set_cons_zero, List.set_cons_succ])
                refine wpAnyH_ready (rs := [9]) (by kernel_rfl) (by simp) ?_
                refine AllReadyH.cons (by simp only [List.getElem?_toArray, List.getElem?_cons_succ, List.getElem?_cons_zero]; rfl) (fun K hK => ?_) AllReadyH.nil
                go_simp
                have kX : KRow encP _ (w5.alloc (.cells #[.slice A1 n1 cap1, .int .i64 p.ro, .bool p.inf, .int .i64 p.bm, .int .i64 p.bs, .int .i64 p.m, .int .i64 p.s, .bool p.td, .int .i64 p.ti] 53)) (.slice (some ⟨w5.heap.size, 0, none⟩) 1 1) [((.slice A1 n1 cap1, p) : Ps)] := new_pt w5 (.slice A1 n1 cap1) p
                replace kB : Below wc.heap.size wc ((w5.alloc (.cells #[.slice A1 n1 cap1, .int .i64 p.ro, .bool p.inf, .int .i64 p.bm, .int .i64 p.bs, .int .i64 p.m, .int .i64 p.s, .bool p.td, .int .i64 p.ti] 53))) := kp_alloc kB _
                replace o5 := own_alloc o5 (.cells #[.slice A1 n1 cap1, .int .i64 p.ro, .bool p.inf, .int .i64 p.bm, .int .i64 p.bs, .int .i64 p.m, .int .i64 p.s, .bool p.td, .int .i64 p.ti] 53)
                obtain ⟨W6, hW6⟩ : ∃ X, X = (w5.alloc (.cells #[.slice A1 n1 cap1, .int .i64 p.ro, .bool p.inf, .int .i64 p.bm, .int .i64 p.bs, .int .i64 p.m, .int .i64 p.s, .bool p.td, .int .i64 p.ti] 53)) := ⟨_, rfl⟩
                rw [← hW6] at kB kX o5 ⊢
                clear hW6
                obtain ⟨xb, hxb⟩ : ∃ X, X = w5.heap.size := ⟨_, rfl⟩
                rw [← hxb] at kX ⊢
                clear hxb
                refine hK.out _ _ kB (fun hHeld => ?_)
                clear hK K hHeld
                (try simp only [Act.put, List.setIfInBounds_toArray, List.set_cons_zero, List.set_cons_succ])
                refine wpAnyH_ready (rs := [10]) (by kernel_rfl) (by simp) ?_
                refine AllReadyH.cons (by simp only [List.getElem?_toArray, List.getElem?_cons_succ, List.getElem?_cons_zero]; rfl) (fun K hK => ?_) AllReadyH.nil
                refine step_append_krow ptTy encP_len (by rfl) (.tmp 54) (.tmp 60) (by rfl) wc.heap.size _ (R.take m) (by rfl) o5 _ [((.slice A1 n1 cap1, p) : Ps)] (by rfl) kX (fun x hx => by rw [List.mem_singleton.1 hx]; exact HX1.out) hlt1 (Below.size kB) ?_
                intro v6 w6 o6 g6
                replace kB := Below.grown kB g6 (Below.size kB) (fun q hq => own_ge o5 q hq)
                clear o5 g6 kX
                refine hK.out _ _ kB (fun hHeld => ?_)
                clear hK K hHeld
                (try simp only [Act.put, List.setIfInBounds_toArray, List.set_cons_zero, List.set_cons_succ])
                refine wpAnyH_ready (rs := [14]) (by kernel_rfl) (by simp) ?_
                refine AllReadyH.cons (by simp only [List.getElem?_toArray, List.getElem?_cons_succ, List.getElem?_cons_zero]; rfl) (fun K hK => ?_) AllReadyH.nil
                refine step_append_krow ptTy encP_len (by rfl) (.tmp 61) (.tmp 64) (by rfl) wc.heap.size _ (R.take m ++ [((.slice A1 n1 cap1, p) : Ps)]) (by rfl) o6 _ (R.drop m) (by rfl) (HFR.out _ kB) (fun x hx => HON.out x (List.mem_of_mem_drop hx)) hlt2 (Below.size kB) ?_
                intro v7 w7 o7 g7
                replace kB := Below.grown kB g7 (Below.size kB) (fun q hq => own_ge o6 q hq)
                clear o6 g7
                refine hK.out _ _ kB (fun hHeld => ?_)
                clear hK K hHeld
                (try simp only [Act.put, List.setIfInBounds_toArray, List.set_cons_zero, List.set_cons_succ])
                refine tk9 15 kB ?_
                refine wpAnyH_done (by kernel_rfl) ?_ _
                refine NoPanic.normal ?_
                have HB7 := Lib.hid (trans9 HBB.out (trans9 HB4.out kB))
                have HO7 := Lib.hid (KOwn.mono o7 HSW.out)
                clear o7 kB eq1 eq2
                go_wp2_with fail
                go_roundw
                case rel => exact ⟨k + 1, _, _, rfl, hkl, by go_num, hnp, hns, HO7, HB7⟩
                case measure => simp [intOf]; omega
              refine AllReadyH.cons (by simp only [List.getElem?_toArray, List.getElem?_cons_succ, List.getElem?_cons_zero]; rfl) (fun K hK => ?_) AllReadyH.nil
              go_simp
              have kX : KRow encP _ (wc.alloc (.cells #[.slice A1 n1 cap1, .int .i64 p.ro, .bool p.inf, .int .i64 p.bm, .int .i64 p.bs, .int .i64 p.m, .int .i64 p.s, .bool p.td, .int .i64 p.ti] 53)).drew (.slice (some ⟨wc.heap.size, 0, none⟩) 1 1) [((.slice A1 n1 cap1, p) : Ps)] := new_pt wc (.slice A1 n1 cap1) p
              replace kB : Below wc.heap.size wc ((wc.alloc (.cells #[.slice A1 n1 cap1, .int .i64 p.ro, .bool p.inf, .int .i64 p.bm, .int .i64 p.bs, .int .i64 p.m, .int .i64 p.s, .bool p.td, .int .i64 p.ti] 53)).drew) := Below.drew (kp_alloc (Below.refl _ _) _)
              obtain ⟨W6, hW6⟩ : ∃ X, X = (wc.alloc (.cells #[.slice A1 n1 cap1, .int .i64 p.ro, .bool p.inf, .int .i64 p.bm, .int .i64 p.bs, .int .i64 p.m, .int .i64 p.s, .bool p.td, .int .i64 p.ti] 53)).drew := ⟨_, rfl⟩
              rw [← hW6] at kB kX  ⊢
              clear hW6
              obtain ⟨xb, hxb⟩ : ∃ X, X = wc.heap.size := ⟨_, rfl⟩
              have kX2 := kX
              rw [← hxb] at kX2 ⊢
              clear kX
              have kX := kX2
              clear kX2 hxb
              refine hK.out _ _ kB (fun hHeld => ?_)
              clear hK K hHeld
              (try simp only [Act.put, List.setIfInBounds_toArray, List.set_cons_zero, List.set_cons_succ])
              refine wpAnyH_ready (rs := [3]) (by kernel_rfl) (by simp) ?_
              refine AllReadyH.cons (by simp only [List.getElem?_toArray, List.getElem?_cons_succ, List.getElem?_cons_zero]; rfl) (fun K hK => ?_) AllReadyH.nil
              refine step_append_krow ptTy encP_len (by rfl) (.const (.slice none 0 0)) (.tmp 53) (by rfl) wc.heap.size _ [] (by rfl) (KOwn.nil _ _ _ _ _) _ (R.take m) (by rfl) (HTO.out _ kB) (fun x hx => HON.out x (List.mem_of_mem_take hx)) hlt0 (Below.size kB) ?_
              intro v5 w5 o5 g5
              replace kX := kX.below (Below.grown (Below.refl _ _) g5 (Nat.le_refl _) (fun q hq => by cases hq))
              replace kB := Below.grown kB g5 (Below.size kB) (fun q hq => by cases hq)
              simp only [List.nil_append] at o5
              clear g5
              refine hK.out _ _ kB (fun hHeld => ?_)
              clear hK K hHeld
              (try simp only [Act.put, List.setIfInBounds_toArray, List.set_cons_zero, List.set_cons_succ])
              refine wpAnyH_ready (rs := [10]) (by kernel_rfl) (by simp) ?_
              refine AllReadyH.cons (by simp only [List.getElem?_toArray, List.getElem?_cons_succ, List.getElem?_cons_zero]; rfl) (fun K hK => ?_) AllReadyH.nil
              refine step_append_krow ptTy encP_len (by rfl) (.tmp 54) (.tmp 60) (by rfl) wc.heap.size _ (R.take m) (by rfl) o5 _ [((.slice A1 n1 cap1, p) : Ps)] (by rfl) kX (fun x hx => by rw [List.mem_singleton.1 hx]; exact HX1.out) hlt1 (Below.size kB) ?_
              intro v6 w6 o6 g6
              replace kB := Below.grown kB g6 (Below.size kB) (fun q hq => own_ge o5 q hq)
              clear o5 g6 kX
              refine hK.out _ _ kB (fun hHeld => ?_)
              clear hK K hHeld
              (try simp only [Act.put, List.setIfInBounds_toArray, List.set_cons_zero, List.set_cons_succ])
              refine wpAnyH_ready (rs := [14]) (by kernel_rfl) (by simp) ?_
              refine AllReadyH.cons (by simp only [List.getElem?_toArray, List.getElem?_cons_succ, List.getElem?_cons_zero]; rfl) (fun K hK => ?_) AllReadyH.nil
              refine step_append_krow ptTy encP_len (by rfl) (.tmp 61) (.tmp 64) (by rfl) wc.heap.size _ (R.take m ++ [((.slice A1 n1 cap1, p) : Ps)]) (by rfl) o6 _ (R.drop m) (by rfl) (HFR.out _ kB) (fun x hx => HON.out x (List.mem_of_mem_drop hx)) hlt2 (Below.size kB) ?_
              intro v7 w7 o7 g7
              replace kB := Below.grown kB g7 (Below.size kB) (fun q hq => own_ge o6 q hq)
              clear o6 g7
              refine hK.out _ _ kB (fun hHeld => ?_)
              clear hK K hHeld
              (try simp only [Act.put, List.setIfInBounds_toArray, List.set_cons_zero, List.set_cons_succ])
              refine tk9 15 kB ?_
              refine wpAnyH_done (by kernel_rfl) ?_ _
              refine NoPanic.normal ?_
              have HB7 := Lib.hid (trans9 HBB.out (trans9 HB4.out kB))
              have HO7 := Lib.hid (KOwn.mono o7 HSW.out)
              clear o7 kB eq1 eq2
              go_wp2_with fail
              go_roundw
              case rel => exact ⟨k + 1, _, _, rfl, hkl, by go_num, hnp, hns, HO7, HB7⟩
              case measure => simp [intOf]; omega
    · have hr : L.take k = L := List.take_of_length_le (by omega)
      have HPM : Hid (R.Perm L) := Lib.hid (by have := HPm.out; rwa [hr] at this)
      obtain ⟨f0, f1, f2, f3, f4, ff, fl⟩ := HF.out.below HBB.out
      obtain ⟨u0, u1, u2, u3, u4, uf, ul⟩ := HRA.out.below HBB.out
      have K : Hid (Below w.heap.size w (((((wr.setCell ⟨w.heap.size + 1, 0, none⟩ (.string (str h.n))).setCell ⟨w.heap.size + 1, 1, none⟩ (.int .i64 h.k)).setCell ⟨w.heap.size + 1, 2, none⟩ (.string (str h.u))).setCell ⟨w.heap.size + 1, 3, none⟩ (.string (str h.h))).setCell ⟨w.heap.size + 1, 4, none⟩ (.slice A2 R.length cap2))) := Lib.hid ((((((trans9 HB.out HBB.out).setCell (by show w.heap.size ≤ w.heap.size + 1; omega) _).setCell (by show w.heap.size ≤ w.heap.size + 1; omega) _).setCell (by show w.heap.size ≤ w.heap.size + 1; omega) _).setCell (by show w.heap.size ≤ w.heap.size + 1; omega) _).setCell (by show w.heap.size ≤ w.heap.size + 1; omega) _)
      have HOF : Hid (PtOwn (((((wr.setCell ⟨w.heap.size + 1, 0, none⟩ (.string (str h.n))).setCell ⟨w.heap.size + 1, 1, none⟩ (.int .i64 h.k)).setCell ⟨w.heap.size + 1, 2, none⟩ (.string (str h.u))).setCell ⟨w.heap.size + 1, 3, none⟩ (.string (str h.h))).setCell ⟨w.heap.size + 1, 4, none⟩ (.slice A2 R.length cap2)) w.heap.size (.slice A2 R.length cap2) R) := Lib.hid (KOwn.mono (HO.out.ofBlock (fun b hb => by
        have h1 := own_ge HO.out b hb
        have h2 := HZ.out
        have hne : b ≠ w.heap.size + 1 := by omega
        rw [Below.heap_setCell _ _ _ _ hne, Below.heap_setCell _ _ _ _ hne, Below.heap_setCell _ _ _ _ hne, Below.heap_setCell _ _ _ _ hne, Below.heap_setCell _ _ _ _ hne])) (by have := HZ.out; omega))
      clear HPm hr x4 hr2
      go_wp2
      refine bodyPost_ret (v := .tuple #[.agg #[.string (str h.n), .int .i64 h.k, .string (str h.u), .string (str h.h), .slice A2 R.length cap2], .bool true]) (by simp [results, Tryz.results36, go_sem, u0, u1, u2, u3, u4]) rfl ⟨⟨A2, R.length, cap2, R, rfl, HOF.out, HPM.out, HSt.out⟩, K.out⟩

end Go.Proofs.YtjeefgamkoeiaaaGreatDoor

/- The walk of the reference's SortFams; families whose points hang on none of some blocks. -/
set_option maxRecDepth 100000
set_option linter.unusedVariables false
set_option linter.unusedSimpArgs false
namespace Go.Proofs.YtjeefgamkoeiaaaGreatDoor
open Go.RowKit Go.Sort Dc
attribute [local go_sem ↓] Go.wp_at_zero Go.wp_at_succ

/-- the sorted points: in new memory, made of the old ones -/
theorem POff.own {w w' : World} {E : Nat → Prop} {v v' : Value} {L M : List Ps} (h : POff w E v L) (hE : ∀ b, E b → b < w.heap.size) (hb : Below w.heap.size w w') (own : PtOwn w' w.heap.size v' M) (hM : ∀ x ∈ M, x ∈ L) : POff w' E v' M := fun X k1 k2 => by
  have hX := h X (fun b hb2 he => (k1 b (Nat.lt_of_lt_of_le hb2 hb.size) he).trans (hb.block b hb2)) (Nat.le_trans hb.size k2)
  exact ⟨KOwn.row encP_len (own.ofBlock fun b hq => k1 b (own_lt own b hq) (fun e => by have := hE b e; have := own_ge own b hq; omega)), fun x hx => hX.2 x (hM x hx)⟩
/-- families read as they are whatever comes into the blocks E -/
abbrev FsOff (w : World) (E : Nat → Prop) (x : Fs) : Prop := HdIn x.hd ∧ POff w E x.v x.L
theorem FsOff.fsin {w : World} {E : Nat → Prop} {x : Fs} (h : FsOff w E x) : FsIn w x := ⟨h.2.row, h.1⟩
theorem FsOff.below {w w' : World} {E : Nat → Prop} {x : Fs} (h : FsOff w E x) (hb : Below w.heap.size w w') : FsOff w' E x := ⟨h.1, h.2.below hb⟩
theorem strictF_ins {R : List Fs} {x : Fs} {m : Nat} (hs : StrictT cmpF (fms R)) (hm : m ≤ R.length) (lo : ∀ j r, j < m → R[j]? = some r → cmpF (fm r) (fm x) < 0) (hi : ∀ j r, m ≤ j → R[j]? = some r → 0 < cmpF (fm r) (fm x)) : StrictT cmpF (fms (R.take m ++ [x] ++ R.drop m)) := by
  have hat : ∀ (j : Nat) (q : Fp), (fms R)[j]? = some q → ∃ r, R[j]? = some r ∧ fm r = q := fun j q h => by
    simp only [fms, List.getElem?_map] at h
    cases e : R[j]? with
    | none => rw [e] at h; cases h
    | some r => rw [e] at h; exact ⟨r, rfl, by simpa using h⟩
  have h := strict_ins tp_cmpF put_hg (R := fms R) (y := fm x) (m := m) hs (by simpa [fms] using hm) (fun j q hj hq => by obtain ⟨r, hr, rfl⟩ := hat j q hq; exact lo j r hj hr) (fun j q hj hq => by obtain ⟨r, hr, rfl⟩ := hat j q hq; exact hi j r hj hr)
  simpa [fms, List.map_take, List.map_drop] using h
theorem loF_all {R : List Fs} (hs : StrictT cmpF (fms R)) {p r : Fs} {j : Nat} (hj : R[j]? = some r) (h : cmpF (fm r) (fm p) < 0) : ∀ i z, i < j + 1 → R[i]? = some z → cmpF (fm z) (fm p) < 0 := fun i z hi hz =>
  lo_all tp_cmpF hs (x := fm r) (y := fm p) (j := j) (by simp [fms, hj]) h i (fm z) hi (by simp [fms, hz])

set_option maxHeartbeats 16000000 in
theorem rsortfams_calls (F : List Fs) (v : Value) (w : World) (E : Nat → Prop) (hE : ∀ b, E b → b < w.heap.size) (hv : KRow encF 5 w v F) (hx : ∀ x ∈ F, FsOff w E x) (hn : F.length ≤ 900) (hL : ∀ x ∈ F, x.L.length ≤ 1000) (hS : ∀ x ∈ F, StrictP (pts x.L)) (hND : NdT cmpF (fms F)) :
    Calls Tryz.prog 27 #[v] w fun e w' => (∃ A n cap M, e = .returned (.tuple #[.slice A n cap, .bool true]) ∧ FmOwn w' w.heap.size (.slice A n cap) M ∧ (∀ x ∈ M, FsOff w' E x) ∧ (fms M).Perm (fms F) ∧ StrictT cmpF (fms M)) ∧ Below w.heap.size w w' := by
  have HX := Lib.hid hx
  have HE := Lib.hid hE
  have HND := Lib.hid hND
  have HL := Lib.hid hL
  have HS := Lib.hid hS
  obtain ⟨A, cap, rfl, hlc, hcm, hnil, hrow⟩ := hv
  unfold maxLen at hcm
  have HR := Lib.hid hrow
  clear hrow hnil hx hE hND hL hS
  go_enter Tryz.func27, Tryz.ntmps27
  go_wp2_with fail
  go_loopw [4, 5] (fun q i wr => ∃ (k : Nat) (p : Value) (R : List Fs), p = q ∧ k ≤ F.length ∧ i = .int .i64 (k : Nat) ∧ Hid ((fms R).Perm ((fms F).take k)) ∧ Hid (StrictT cmpF (fms R)) ∧ Hid (FmOwn wr w.heap.size p R) ∧ Hid (∀ x ∈ R, FsOff wr E x) ∧ Hid (Below w.heap.size w wr)) (fun _ i _ => F.length - (intOf i).toNat)
  case atStart => exact ⟨0, _, [], rfl, Nat.zero_le _, rfl, List.Perm.refl _, List.Pairwise.nil, KOwn.nil _ _ _ _ _, (fun x hx => by cases hx), Lib.hid (Below.refl _ _)⟩
  case round =>
    obtain ⟨k, pv, R, rfl, hk, rfl, HPm, HSt, HO, HRX, HBB⟩ := hrel
    have hRk : Hid (R.length = k) := Lib.hid (by have := HPm.out.length_eq; simp only [List.length_take, fms, List.length_map] at this; omega)
    obtain ⟨A2, cap2, rfl, hlc2, hcm2, _, hr2⟩ := KOwn.row encF_len HO.out
    unfold maxLen at hcm2
    by_cases hkl : k < F.length
    · obtain ⟨b, off, rfl, hbs, hc⟩ := HR.out (by omega)
      obtain ⟨x, hx, hxp⟩ := fs_get hkl
      have hmx := List.mem_of_getElem? hx
      have hxi := HX.out x hmx
      have hfs := (hxi.below HBB.out).fsin
      have hSF := Lib.hid (rsortfam_calls x.hd x.L x.v wr hfs.1 (HL.out x hmx) (strictP_nd (HS.out x hmx)))
      have hXS := Lib.hid (HS.out x hmx)
      have hXO : Hid (POff wr E x.v x.L) := Lib.hid (hxi.2.below HBB.out)
      have hXH := Lib.hid hxi.1
      have HNE : Hid (∀ (j : Nat) (r : Fs), R[j]? = some r → cmpF (fm r) (fm x) ≠ 0) := Lib.hid (fun j r hr => nd_take (f := cmpF) (q := fm r) HND.out hxp (HPm.out.mem_iff.1 (List.mem_map_of_mem (List.mem_of_getElem? hr))))
      obtain ⟨c0, c1, c2, c3, c4⟩ := fr_cells hc hx
      have hR0 : ∀ o u, w.cell? ⟨b, o, none⟩ = some u → wr.cell? ⟨b, o, none⟩ = some u := fun o u hu => (HBB.out.cell (p := ⟨b, o, none⟩) hbs).trans hu
      have r0 := hR0 _ _ c0
      have r1 := hR0 _ _ c1
      have r2 := hR0 _ _ c2
      have r3 := hR0 _ _ c3
      have r4 := hR0 _ _ c4
      have HPm2 : Hid (∀ (m : Nat) (y : Fs), fm y = fm x → (fms (R.take m ++ [y] ++ R.drop m)).Perm ((fms F).take (k + 1))) := Lib.hid (fun m y hy => by
        have h := perm_ins m HPm.out hxp
        rw [← hy] at h
        simpa [fms, List.map_take, List.map_drop] using h)
      have HR2 := Lib.hid hr2
      clear hc c0 c1 c2 c3 c4 hR0 hx hxp hxi hfs hmx hr2 hbs
      obtain ⟨A1, n1, cap1, hx1⟩ : ∃ A1 n1 cap1, x.v = .slice A1 n1 cap1 := by obtain ⟨_, _, h, _⟩ := hXO.out.row.1; exact ⟨_, _, _, h⟩
      obtain ⟨⟨xn, xk, xu, xh⟩, xv, xL⟩ := x
      simp only at hx1 r0 r1 r2 r3 r4 hSF hXS hXO hXH
      subst hx1
      go_wp2_with fail
      refine hSF.out.mono ?_; rintro e w5 ⟨⟨A5, n5, cap5, M5, rfl, o5, pm5, st5⟩, b5⟩
      have HM5 : Hid (pts M5 = pts xL) := Lib.hid (strictP_unique (pm5.map _) st5 hXS.out)
      have HY5 : Hid (FsOff w5 E ⟨⟨xn, xk, xu, xh⟩, .slice A5 n5 cap5, M5⟩) := Lib.hid ⟨hXH.out, hXO.out.own (fun b hb => Nat.lt_of_lt_of_le (HE.out b hb) HBB.out.size) b5 o5 (fun y hy => pm5.mem_iff.1 hy)⟩
      have hkk := (Below.refl w5.heap.size w5).alloc (Nat.le_refl _) (.cells (famc ⟨xn, xk, xu, xh⟩ (.slice A5 n5 cap5)) 41)
      have FA := FamAt.new w5 ⟨xn, xk, xu, xh⟩ (.slice A5 n5 cap5) 41
      clear hSF hXO hXH hXS o5 pm5 st5 r0 r1 r2 r3 r4
      go_upto_region 6 with fail
      obtain ⟨W1, hW1⟩ : ∃ W, W = w5.alloc (.cells #[.string (str xn), .int .i64 xk, .string (str xu), .string (str xh), .slice A5 n5 cap5] 41) := ⟨_, rfl⟩
      have HFA1 : Hid (FamAt W1 w5.heap.size ⟨xn, xk, xu, xh⟩ (.slice A5 n5 cap5)) := Lib.hid (by rw [hW1]; exact FA)
      have HB1 : Hid (Below wr.heap.size wr W1) := Lib.hid (trans9 b5 (by rw [hW1]; exact hkk))
      have HY1 : Hid (FsOff W1 E ⟨⟨xn, xk, xu, xh⟩, .slice A5 n5 cap5, M5⟩) := Lib.hid (HY5.out.below (by rw [hW1]; exact hkk))
      rw [← hW1]
      clear hW1 hkk FA b5 HY5
      generalize w5.heap.size = b6 at *
      have HFM : Hid (fm ⟨⟨xn, xk, xu, xh⟩, .slice A5 n5 cap5, M5⟩ = fm ⟨⟨xn, xk, xu, xh⟩, .slice A1 n1 cap1, xL⟩) := Lib.hid (by show (_, _) = (_, _); rw [HM5.out])
      have HNE1 : Hid (∀ (j : Nat) (r : Fs), R[j]? = some r → cmpF (fm r) (fm (⟨⟨xn, xk, xu, xh⟩, .slice A5 n5 cap5, M5⟩ : Fs)) ≠ 0) := Lib.hid (fun j r hr => by rw [HFM.out]; exact HNE.out j r hr)
      have HPm3 : Hid (∀ m, (fms (R.take m ++ [(⟨⟨xn, xk, xu, xh⟩, .slice A5 n5 cap5, M5⟩ : Fs)] ++ R.drop m)).Perm ((fms F).take (k + 1))) := Lib.hid (fun m => HPm2.out m _ HFM.out)
      have HX1 : Hid (∀ u ∈ encF (⟨⟨xn, xk, xu, xh⟩, .slice A5 n5 cap5, M5⟩ : Fs), u.oneCell' = true) := Lib.hid (encF_one HY1.out.fsin)
      have HO1 : Hid (FmOwn W1 w.heap.size (.slice A2 R.length cap2) R) := Lib.hid (HO.out.below HB1.out)
      have HRX1 : Hid (∀ x ∈ R, FsOff W1 E x) := Lib.hid (fun x hx => (HRX.out x hx).below HB1.out)
      have HON : Hid (∀ r ∈ R, ∀ u ∈ encF r, u.oneCell' = true) := Lib.hid (fun r hr => encF_one (HRX.out r hr).fsin)
      have HBW : Hid (Below w.heap.size w W1) := Lib.hid (trans9 HBB.out HB1.out)
      have hnew := Lib.hid (fun W => (new_fs W (⟨⟨xn, xk, xu, xh⟩, .slice A5 n5 cap5, M5⟩ : Fs)).row)
      have HF0 : Hid (∀ z, Below W1.heap.size W1 z → z.cell? ⟨b6, 0, none⟩ = some (.string (str xn))) := Lib.hid (fun z hz => (HFA1.out.below hz).c0)
      have hRl : R.length ≤ 900 := by have := hRk.out; omega
      clear HNE HPm2 HFM HM5 HO HRX HB1 HBB
      go_wp2_with fail
      go_loopw [8] (fun i wi => ∃ m : Nat, m ≤ R.length ∧ i = .int .i64 (m : Nat) ∧ Hid (∀ j r, m ≤ j → R[j]? = some r → 0 < cmpF (fm r) (fm (⟨⟨xn, xk, xu, xh⟩, .slice A5 n5 cap5, M5⟩ : Fs))) ∧ Hid (Below W1.heap.size W1 wi)) (fun i _ => (intOf i).toNat)
      case atStart => exact ⟨R.length, Nat.le_refl _, rfl, Lib.hid (fun j r h1 h2 => by have := (List.getElem?_eq_some_iff.1 h2).1; omega), Lib.hid (Below.refl _ _)⟩
      case round =>
        obtain ⟨m, hm, rfl, HU, HBi⟩ := hrel
        obtain ⟨d, hd⟩ : ∃ d : Bool, d = true ↔ (∃ j r, m = j + 1 ∧ R[j]? = some r ∧ 0 < cmpF (fm r) (fm (⟨⟨xn, xk, xu, xh⟩, .slice A5 n5 cap5, M5⟩ : Fs))) := by classical exact ⟨decide (∃ j r, m = j + 1 ∧ R[j]? = some r ∧ 0 < cmpF (fm r) (fm (⟨⟨xn, xk, xu, xh⟩, .slice A5 n5 cap5, M5⟩ : Fs))), decide_eq_true_iff⟩
        have HD := Lib.hid hd
        clear hd
        go_wp2_with fail
        go_cut [41] from 27 to 41 (fun s wx => s = .bool d ∧ Hid (Below W1.heap.size W1 wx))
        case first =>
          by_cases hm0 : m = 0
          · subst hm0
            obtain rfl : d = false := by
              cases d with
              | false => rfl
              | true => obtain ⟨j, r, h1, _⟩ := HD.out.1 rfl; omega
            rw [show ((0 : Nat) : Int) = 0 from rfl]
            refine wp_region_noPanic ?_
            refine wp_region_held_drew (S := fun X => Below wr.heap.size wr X) (by kernel_rfl) ?_ (fun hHeld => ?_)
            · exact Below.drew (Below.refl _ _)
            have kB : Below wr.heap.size wr wr.drew := Below.drew (Below.refl _ _)
            clear hHeld
            refine tk9 0 kB ?_
            refine tk9 1 kB ?_
            refine tk9 2 kB ?_
            refine tk9 3 kB ?_ (v := undef) (hy := Or.inr ⟨by rfl, rfl⟩)
            refine tk9 4 kB ?_ (v := undef) (hy := Or.inr ⟨by rfl, rfl⟩)
            refine tk9 5 kB ?_ (v := undef) (hy := Or.inr ⟨by rfl, rfl⟩)
            refine tk9 6 kB ?_ (v := undef) (hy := Or.inr ⟨by rfl, rfl⟩)
            refine tk9 7 kB ?_ (v := undef) (hy := Or.inr ⟨by rfl, rfl⟩)
            refine tk9 8 kB ?_ (v := undef) (hy := Or.inr ⟨by rfl, rfl⟩)
            refine tk9 9 kB ?_ (v := undef) (hy := Or.inr ⟨by rfl, rfl⟩)
            refine tk9 10 kB ?_ (v := undef) (hy := Or.inr ⟨by rfl, rfl⟩)
            refine tk9 11 kB ?_ (v := undef) (hy := Or.inr ⟨by rfl, rfl⟩)
            refine tk9 12 kB ?_ (v := undef) (hy := Or.inr ⟨by rfl, rfl⟩)
            refine tk9 13 kB ?_ (v := undef) (hy := Or.inr ⟨by rfl, rfl⟩)
            refine tk9 14 kB ?_
            refine wpAnyH_done (by kernel_rfl) ?_ _
            refine NoPanic.normal ?_
            go_wp2_with fail
            go_meet
            exact ⟨rfl, Lib.hid (trans9 HBi.out kB)⟩
          · obtain ⟨j, rfl⟩ : ∃ j, m = j + 1 := ⟨m - 1, by omega⟩
            obtain ⟨r, hr⟩ : ∃ r, Hid (R[j]? = some r) := ⟨R[j], Lib.hid (List.getElem?_eq_getElem (by omega))⟩
            have hjR : j < R.length := by omega
            obtain ⟨_, _, he3, _, _, _, hr3⟩ := KOwn.row encF_len HO1.out
            cases he3
            obtain ⟨g2, off2, rfl, hg2, hcc⟩ := hr3 (by omega)
            have HR9 : Hid (∀ z, Below W1.heap.size W1 z → z.cell? ⟨g2, off2 + j * 5, none⟩ = some (.string (str r.hd.n))) := Lib.hid (fun z hz => (hz.cell (p := ⟨g2, off2 + j * 5, none⟩) hg2).trans (fr_cells hcc hr.out).1)
            have hw1 : IntKind.i64.wrap (j : Int) = (j : Int) := IntWalk.i64_in _ (by omega)
            have hmj : ((j + 1 : Nat) : Int) - 1 = (j : Int) := by omega
            have dm : decide ((0 : Int) < ((j + 1 : Nat) : Int)) = true := by first | (simp; done) | (simp; omega)
            have dm2 : decide (0 < j + 1) = true := by simp
            have hj0 : (0 : Int) ≤ (j : Int) := by omega
            have hj1 : (j : Int) < (R.length : Int) := by omega
            clear hr3 hcc
            have hdd : Hid (d = decide (0 < cb r.hd.n xn)) := Lib.hid (by
              rw [Bool.eq_iff_iff, decide_eq_true_iff]
              exact HD.out.trans ⟨fun ⟨j', r', h1, h2, h3⟩ => by
                obtain rfl : j = j' := by omega
                rw [hr.out] at h2
                obtain rfl := Option.some.inj h2
                exact h3, fun q => ⟨j, r, rfl, hr.out, q⟩⟩)
            generalize r.hd.n = yn at *
            have hbl := bl_cb yn xn
            rcases cb_range yn xn with hC | hC | hC
            · rw [decide_eq_true (show cb yn xn < 0 by omega)] at hbl
              have heq : (yn == xn) = false := beq_eq_false_iff_ne.2 (fun e => by rw [(cb_zero _ _).2 e] at hC; exact absurd hC (by decide))
              have hd2 : Hid (d = false) := Lib.hid (by rw [hdd.out, hC]; rfl)
              clear hdd hC
              refine wp_region_noPanic ?_
              refine wp_region_held_drew (S := fun X => Below wr.heap.size wr X) (by kernel_rfl) ?_ (fun hHeld => ?_)
              · exact Below.drew (Below.refl _ _)
              have kB : Below wr.heap.size wr wr.drew := Below.drew (Below.refl _ _)
              clear hHeld
              refine tk9 0 kB ?_
              refine tk9 1 kB ?_
              refine tk9 2 kB ?_
              refine tk9 3 kB ?_
              refine tk9 4 kB ?_
              refine tk9 5 kB ?_
              refine tk9 6 kB ?_
              refine tk9 7 kB ?_
              refine tk9 8 kB ?_
              refine tk9 9 kB ?_ (hy := Or.inl ⟨by rfl, by intro x hSw; (try dsimp only at hSw); have x9 := HR9.out x (trans9 HBi.out hSw); first | (go_simp; done) | (go_simp; with_reducible rfl)⟩)
              refine tk9 10 kB ?_
              refine tk9 11 kB ?_
              refine tk9 12 kB ?_ (hy := Or.inl ⟨by rfl, by intro x hSw; (try dsimp only at hSw); have x0 := HF0.out x (trans9 HBi.out hSw); first | (go_simp; done) | (go_simp; with_reducible rfl)⟩)
              refine tk9 13 kB ?_
              refine tk9 14 kB ?_
              refine wpAnyH_done (by kernel_rfl) ?_ _
              refine NoPanic.normal ?_
              go_wp2_with fail
              go_meet
              first | exact ⟨congrArg Value.bool hd2.out.symm, Lib.hid (trans9 HBi.out kB)⟩ | exact ⟨by rw [hd2.out], Lib.hid (trans9 HBi.out kB)⟩
            · rw [decide_eq_false (show ¬ cb yn xn < 0 by omega)] at hbl
              have heq : (yn == xn) = true := beq_iff_eq.2 (cb_eq _ _ hC)
              have hd2 : Hid (d = false) := Lib.hid (by rw [hdd.out, hC]; rfl)
              clear hdd hC
              refine wp_region_noPanic ?_
              refine wp_region_held_drew (S := fun X => Below wr.heap.size wr X) (by kernel_rfl) ?_ (fun hHeld => ?_)
              · exact Below.drew (Below.refl _ _)
              have kB : Below wr.heap.size wr wr.drew := Below.drew (Below.refl _ _)
              clear hHeld
              refine tk9 0 kB ?_
              refine tk9 1 kB ?_
              refine tk9 2 kB ?_
              refine tk9 3 kB ?_
              refine tk9 4 kB ?_
              refine tk9 5 kB ?_
              refine tk9 6 kB ?_
              refine tk9 7 kB ?_
              refine tk9 8 kB ?_
              refine tk9 9 kB ?_ (hy := Or.inl ⟨by rfl, by intro x hSw; (try dsimp only at hSw); have x9 := HR9.out x (trans9 HBi.out hSw); first | (go_simp; done) | (go_simp; with_reducible rfl)⟩)
              refine tk9 10 kB ?_
              refine tk9 11 kB ?_
              refine tk9 12 kB ?_ (hy := Or.inl ⟨by rfl, by intro x hSw; (try dsimp only at hSw); have x0 := HF0.out x (trans9 HBi.out hSw); first | (go_simp; done) | (go_simp; with_reducible rfl)⟩)
              refine tk9 13 kB ?_
              refine tk9 14 kB ?_
              refine wpAnyH_done (by kernel_rfl) ?_ _
              refine NoPanic.normal ?_
              go_wp2_with fail
              go_meet
              first | exact ⟨congrArg Value.bool hd2.out.symm, Lib.hid (trans9 HBi.out kB)⟩ | exact ⟨by rw [hd2.out], Lib.hid (trans9 HBi.out kB)⟩
            · rw [decide_eq_false (show ¬ cb yn xn < 0 by omega)] at hbl
              have heq : (yn == xn) = false := beq_eq_false_iff_ne.2 (fun e => by rw [(cb_zero _ _).2 e] at hC; exact absurd hC (by decide))
              have hd2 : Hid (d = true) := Lib.hid (by rw [hdd.out, hC]; rfl)
              clear hdd hC
              refine wp_region_noPanic ?_
              refine wp_region_held_drew (S := fun X => Below wr.heap.size wr X) (by kernel_rfl) ?_ (fun hHeld => ?_)
              · exact Below.drew (Below.refl _ _)
              have kB : Below wr.heap.size wr wr.drew := Below.drew (Below.refl _ _)
              clear hHeld
              refine tk9 0 kB ?_
              refine tk9 1 kB ?_
              refine tk9 2 kB ?_
              refine tk9 3 kB ?_
              refine tk9 4 kB ?_
              refine tk9 5 kB ?_
              refine tk9 6 kB ?_
              refine tk9 7 kB ?_
              refine tk9 8 kB ?_
              refine tk9 9 kB ?_ (hy := Or.inl ⟨by rfl, by intro x hSw; (try dsimp only at hSw); have x9 := HR9.out x (trans9 HBi.out hSw); first | (go_simp; done) | (go_simp; with_reducible rfl)⟩)
              refine tk9 10 kB ?_
              refine tk9 11 kB ?_
              refine tk9 12 kB ?_ (hy := Or.inl ⟨by rfl, by intro x hSw; (try dsimp only at hSw); have x0 := HF0.out x (trans9 HBi.out hSw); first | (go_simp; done) | (go_simp; with_reducible rfl)⟩)
              refine tk9 13 kB ?_
              refine tk9 14 kB ?_
              refine wpAnyH_done (by kernel_rfl) ?_ _
              refine NoPanic.normal ?_
              go_wp2_with fail
              go_meet
              first | exact ⟨congrArg Value.bool hd2.out.symm, Lib.hid (trans9 HBi.out kB)⟩ | exact ⟨by rw [hd2.out], Lib.hid (trans9 HBi.out kB)⟩
        case rest =>
          obtain ⟨rfl, HB3⟩ := hcut
          clear HBi
          cases d with
          | true =>
            obtain ⟨j, r, rfl, hr, hp⟩ := HD.out.1 rfl
            have HU2 : Hid (∀ j' r', j ≤ j' → R[j']? = some r' → 0 < cmpF (fm r') (fm (⟨⟨xn, xk, xu, xh⟩, .slice A5 n5 cap5, M5⟩ : Fs))) := Lib.hid (fun i r' h1 h2 => by
              by_cases e : i = j
              · subst e; rw [hr] at h2; obtain rfl := Option.some.inj h2; exact hp
              · exact HU.out i r' (by omega) h2)
            have hw1 : IntKind.i64.wrap (j : Int) = (j : Int) := IntWalk.i64_in _ (by omega)
            have hmj : ((j + 1 : Nat) : Int) - 1 = (j : Int) := by omega
            clear hr hp HU HD
            go_wp2_with fail
            go_roundw
            case rel => exact ⟨j, by omega, by go_num, HU2, HB3⟩
            case measure => simp [intOf]
          | false =>
            have HLO : Hid (∀ i z, i < m → R[i]? = some z → cmpF (fm z) (fm (⟨⟨xn, xk, xu, xh⟩, .slice A5 n5 cap5, M5⟩ : Fs)) < 0) := Lib.hid (by
              by_cases hm0 : m = 0
              · exact fun i z h1 => by omega
              · obtain ⟨j, rfl⟩ : ∃ j, m = j + 1 := ⟨m - 1, by omega⟩
                have hrj : R[j]? = some R[j] := List.getElem?_eq_getElem (by omega)
                have h1 := HNE1.out j _ hrj
                have h2 : ¬ 0 < cmpF (fm R[j]) (fm (⟨⟨xn, xk, xu, xh⟩, .slice A5 n5 cap5, M5⟩ : Fs)) := fun q => absurd (HD.out.2 ⟨j, _, rfl, hrj, q⟩) (by simp)
                exact loF_all HSt.out hrj (by omega))
            clear HD
            go_wp2_with fail
            generalize wc = W2 at *
            go_cut [58] from 44 to 58 (fun s wx => s = .bool false ∧ Hid (Below W1.heap.size W1 wx))
            case first =>
              by_cases hm0 : m = 0
              · subst hm0
                rw [show ((0 : Nat) : Int) = 0 from rfl]
                refine wp_region_noPanic ?_
                refine wp_region_held_drew (S := fun X => Below W2.heap.size W2 X) (by kernel_rfl) ?_ (fun hHeld => ?_)
                · exact Below.drew (Below.refl _ _)
                have kB : Below W2.heap.size W2 W2.drew := Below.drew (Below.refl _ _)
                clear hHeld
                refine tk9 0 kB ?_
                refine tk9 1 kB ?_
                refine tk9 2 kB ?_
                refine tk9 3 kB ?_ (v := undef) (hy := Or.inr ⟨by rfl, rfl⟩)
                refine tk9 4 kB ?_ (v := undef) (hy := Or.inr ⟨by rfl, rfl⟩)
                refine tk9 5 kB ?_ (v := undef) (hy := Or.inr ⟨by rfl, rfl⟩)
                refine tk9 6 kB ?_ (v := undef) (hy := Or.inr ⟨by rfl, rfl⟩)
                refine tk9 7 kB ?_ (v := undef) (hy := Or.inr ⟨by rfl, rfl⟩)
                refine tk9 8 kB ?_ (v := undef) (hy := Or.inr ⟨by rfl, rfl⟩)
                refine tk9 9 kB ?_ (v := undef) (hy := Or.inr ⟨by rfl, rfl⟩)
                refine tk9 10 kB ?_ (v := undef) (hy := Or.inr ⟨by rfl, rfl⟩)
                refine tk9 11 kB ?_ (v := undef) (hy := Or.inr ⟨by rfl, rfl⟩)
                refine tk9 12 kB ?_ (v := undef) (hy := Or.inr ⟨by rfl, rfl⟩)
                refine tk9 13 kB ?_ (v := undef) (hy := Or.inr ⟨by rfl, rfl⟩)
                refine tk9 14 kB ?_
                refine wpAnyH_done (by kernel_rfl) ?_ _
                refine NoPanic.normal ?_
                go_wp2_with fail
                go_meet
                exact ⟨rfl, Lib.hid (trans9 HB3.out kB)⟩
              · obtain ⟨j, rfl⟩ : ∃ j, m = j + 1 := ⟨m - 1, by omega⟩
                obtain ⟨r, hr⟩ : ∃ r, Hid (R[j]? = some r) := ⟨R[j], Lib.hid (List.getElem?_eq_getElem (by omega))⟩
                have hjR : j < R.length := by omega
                obtain ⟨_, _, he3, _, _, _, hr3⟩ := KOwn.row encF_len HO1.out
                cases he3
                obtain ⟨g2, off2, rfl, hg2, hcc⟩ := hr3 (by omega)
                have HR9 : Hid (∀ z, Below W1.heap.size W1 z → z.cell? ⟨g2, off2 + j * 5, none⟩ = some (.string (str r.hd.n))) := Lib.hid (fun z hz => (hz.cell (p := ⟨g2, off2 + j * 5, none⟩) hg2).trans (fr_cells hcc hr.out).1)
                have hw1 : IntKind.i64.wrap (j : Int) = (j : Int) := IntWalk.i64_in _ (by omega)
                have hmj : ((j + 1 : Nat) : Int) - 1 = (j : Int) := by omega
                have dm : decide ((0 : Int) < ((j + 1 : Nat) : Int)) = true := by first | (simp; done) | (simp; omega)
                have dm2 : decide (0 < j + 1) = true := by simp
                have hj0 : (0 : Int) ≤ (j : Int) := by omega
                have hj1 : (j : Int) < (R.length : Int) := by omega
                clear hr3 hcc
                have hne := HNE1.out j r hr.out
                replace hne : cb r.hd.n xn ≠ 0 := hne
                generalize r.hd.n = yn at *
                have heq : (yn == xn) = false := beq_eq_false_iff_ne.2 (fun e => hne ((cb_zero _ _).2 e))
                clear hne
                refine wp_region_noPanic ?_
                refine wp_region_held_drew (S := fun X => Below W2.heap.size W2 X) (by kernel_rfl) ?_ (fun hHeld => ?_)
                · exact Below.drew (Below.refl _ _)
                have kB : Below W2.heap.size W2 W2.drew := Below.drew (Below.refl _ _)
                clear hHeld
                refine tk9 0 kB ?_
                refine tk9 1 kB ?_
                refine tk9 2 kB ?_
                refine tk9 3 kB ?_
                refine tk9 4 kB ?_
                refine tk9 5 kB ?_
                refine tk9 6 kB ?_
                refine tk9 7 kB ?_
                refine tk9 8 kB ?_
                refine tk9 9 kB ?_ (hy := Or.inl ⟨by rfl, by intro x hSw; (try dsimp only at hSw); have x9 := HR9.out x (trans9 HB3.out hSw); first | (go_simp; done) | (go_simp; with_reducible rfl)⟩)
                refine tk9 10 kB ?_
                refine tk9 11 kB ?_
                refine tk9 12 kB ?_ (hy := Or.inl ⟨by rfl, by intro x hSw; (try dsimp only at hSw); have x0 := HF0.out x (trans9 HB3.out hSw); first | (go_simp; done) | (go_simp; with_reducible rfl)⟩)
                refine tk9 13 kB ?_
                refine tk9 14 kB ?_
                refine wpAnyH_done (by kernel_rfl) ?_ _
                refine NoPanic.normal ?_
                go_wp2_with fail
                go_meet
                exact ⟨rfl, Lib.hid (trans9 HB3.out kB)⟩
            case rest =>
              obtain ⟨rfl, HB4⟩ := hcut
              clear HB3
              have HOW : Hid (FmOwn wc w.heap.size (.slice A2 R.length cap2) R) := Lib.hid (HO1.out.below HB4.out)
              have hrw := KOwn.row encF_len HOW.out
              obtain ⟨u1, eq1, row1⟩ := kr_to fmTy hrw m hm
              obtain ⟨u2, eq2, row2⟩ := kr_from fmTy hrw m hm
              have HTO := Lib.hid (fun z (hz : Below wc.heap.size wc z) => row1 z (hrw.below hz))
              have HFR := Lib.hid (fun z (hz : Below wc.heap.size wc z) => row2 z (hrw.below hz))
              have hnp := Lib.hid (HPm3.out m)
              have hns : Hid (StrictT cmpF (fms (R.take m ++ [(⟨⟨xn, xk, xu, xh⟩, .slice A5 n5 cap5, M5⟩ : Fs)] ++ R.drop m))) := Lib.hid (strictF_ins HSt.out hm HLO.out HU.out)
              have hlt0 : ([] : List Fs).length + (R.take m).length ≤ 2000 := by rw [List.length_take]; simp; omega
              have hlt1 : (R.take m).length + ([(⟨⟨xn, xk, xu, xh⟩, .slice A5 n5 cap5, M5⟩ : Fs)] : List Fs).length ≤ 2000 := by rw [List.length_take]; simp; omega
              have hlt2 : (R.take m ++ [(⟨⟨xn, xk, xu, xh⟩, .slice A5 n5 cap5, M5⟩ : Fs)]).length + (R.drop m).length ≤ 2000 := by rw [List.length_append, List.length_take, List.length_drop]; simp; omega
              have HSW : Hid (w.heap.size ≤ wc.heap.size) := Lib.hid (Nat.le_trans HBW.out.size HB4.out.size)
              have HFA := Lib.hid (fun z (hz : Below W1.heap.size W1 z) => HFA1.out.below hz)
              clear row1 row2 hrw HU HLO HFA1
              go_wp2_with fail
              refine wp_region_noPanic ?_
              refine wp_region_held_drew (S := fun X => Below wc.heap.size wc X) (by kernel_rfl) ?_ (fun hHeld => ?_)
              · exact Below.drew (Below.refl _ _)
              have kB : Below wc.heap.size wc wc.drew := Below.drew (Below.refl _ _)
              clear hHeld
              refine tk9 0 kB ?_
              refine tk9 1 kB ?_
              refine tk9 2 kB ?_
              refine tk9 4 kB ?_ (hy := Or.inl ⟨by rfl, by intro x hSw; (try dsimp only at hSw); obtain ⟨f0, f1, f2, f3, f4, ff, fl⟩ := HFA.out x (trans9 HB4.out hSw); first | (go_simp; done) | (go_simp; with_reducible rfl)⟩)
              refine tk9 7 kB ?_
              refine tk9 8 kB ?_
              refine tk9 9 kB ?_
              refine wpAnyH_ready (rs := [3, 5]) (by kernel_rfl) (by simp) ?_
              refine AllReadyH.cons (by simp only [List.getElem?_toArray, List.getElem?_cons_succ, List.getElem?_cons_zero]; rfl) (fun K hK => ?_) ?_
              · refine step_append_krow fmTy encF_len (by rfl) (.const (.slice none 0 0)) (.tmp 61) (by rfl) wc.heap.size _ [] (by rfl) (KOwn.nil _ _ _ _ _) _ (R.take m) (by rfl) (HTO.out _ kB) (fun x hx => HON.out x (List.mem_of_mem_take hx)) hlt0 (Below.size kB) ?_
                intro v5 w5 o5 g5
                replace kB := Below.grown kB g5 (Below.size kB) (fun q hq => by cases hq)
                simp only [List.nil_append] at o5
                clear g5
                refine hK.out _ _ kB (fun hHeld => ?_)
                clear hK K hHeld
                (try simp only [Act.put, List.setIfInBounds_toArray, List.set_cons_zero, List.set_cons_succ])
                refine wpAnyH_ready (rs := [5]) (by kernel_rfl) (by simp) ?_
                refine AllReadyH.cons (by simp only [List.getElem?_toArray, List.getElem?_cons_succ, List.getElem?_cons_zero]; rfl) (fun K hK => ?_) AllReadyH.nil
                go_simp
                have kX : KRow encF _ (w5.alloc (.cells #[.string (str xn), .int .i64 xk, .string (str xu), .string (str xh), .slice A5 n5 cap5] 41)) (.slice (some ⟨w5.heap.size, 0, none⟩) 1 1) [(⟨⟨xn, xk, xu, xh⟩, .slice A5 n5 cap5, M5⟩ : Fs)] := (hnew.out w5)
                replace kB : Below wc.heap.size wc ((w5.alloc (.cells #[.string (str xn), .int .i64 xk, .string (str xu), .string (str xh), .slice A5 n5 cap5] 41))) := kp_alloc kB _
                replace o5 := own_alloc o5 (.cells #[.string (str xn), .int .i64 xk, .string (str xu), .string (str xh), .slice A5 n5 cap5] 41)
                obtain ⟨W6, hW6⟩ : ∃ X, X = (w5.alloc (.cells #[.string (str xn), .int .i64 xk, .string (str xu), .string (str xh), .slice A5 n5 cap5] 41)) := ⟨_, rfl⟩
                rw [← hW6] at kB kX o5 ⊢
                clear hW6
                obtain ⟨xb, hxb⟩ : ∃ X, X = w5.heap.size := ⟨_, rfl⟩
                rw [← hxb] at kX ⊢
                clear hxb
                refine hK.out _ _ kB (fun hHeld => ?_)
                clear hK K hHeld
                (try simp only [Act.put, List.setIfInBounds_toArray, List.set_cons_zero, List.set_cons_succ])
                refine wpAnyH_ready (rs := [6]) (by kernel_rfl) (by simp) ?_
                refine AllReadyH.cons (by simp only [List.getElem?_toArray, List.getElem?_cons_succ, List.getElem?_cons_zero]; rfl) (fun K hK => ?_) AllReadyH.nil
                refine step_append_krow fmTy encF_len (by rfl) (.tmp 62) (.tmp 64) (by rfl) wc.heap.size _ (R.take m) (by rfl) o5 _ [(⟨⟨xn, xk, xu, xh⟩, .slice A5 n5 cap5, M5⟩ : Fs)] (by rfl) kX (fun x hx => by rw [List.mem_singleton.1 hx]; exact HX1.out) hlt1 (Below.size kB) ?_
                intro v6 w6 o6 g6
                replace kB := Below.grown kB g6 (Below.size kB) (fun q hq => own_ge o5 q hq)
                clear o5 g6 kX
                refine hK.out _ _ kB (fun hHeld => ?_)
                clear hK K hHeld
                (try simp only [Act.put, List.setIfInBounds_toArray, List.set_cons_zero, List.set_cons_succ])
                refine wpAnyH_ready (rs := [10]) (by kernel_rfl) (by simp) ?_
                refine AllReadyH.cons (by simp only [List.getElem?_toArray, List.getElem?_cons_succ, List.getElem?_cons_zero]; rfl) (fun K hK => ?_) AllReadyH.nil
                refine step_append_krow fmTy encF_len (by rfl) (.tmp 65) (.tmp 68) (by rfl) wc.heap.size _ (R.take m ++ [(⟨⟨xn, xk, xu, xh⟩, .slice A5 n5 cap5, M5⟩ : Fs)]) (by rfl) o6 _ (R.drop m) (by rfl) (HFR.out _ kB) (fun x hx => HON.out x (List.mem_of_mem_drop hx)) hlt2 (Below.size kB) ?_
                intro v7 w7 o7 g7
                replace kB := Below.grown kB g7 (Below.size kB) (fun q hq => own_ge o6 q hq)
                clear o6 g7
                refine hK.out _ _ kB (fun hHeld => ?_)
                clear hK K hHeld
                (try simp only [Act.put, List.setIfInBounds_toArray, List.set_cons_zero, List.set_cons_succ])
                refine tk9 11 kB ?_
                refine wpAnyH_done (by kernel_rfl) ?_ _
                refine NoPanic.normal ?_
                have HB7 := Lib.hid (trans9 HB4.out kB)
                have HO7 := Lib.hid (KOwn.mono o7 HSW.out)
                have HX7 : Hid (∀ x ∈ R.take m ++ [(⟨⟨xn, xk, xu, xh⟩, .slice A5 n5 cap5, M5⟩ : Fs)] ++ R.drop m, FsOff _ E x) := Lib.hid (fun x hx => by
                  have hx2 : x ∈ R ∨ x = (⟨⟨xn, xk, xu, xh⟩, .slice A5 n5 cap5, M5⟩ : Fs) := by
                    rcases List.mem_append.1 hx with q | q
                    · rcases List.mem_append.1 q with q | q
                      · exact .inl (List.mem_of_mem_take q)
                      · exact .inr (List.mem_singleton.1 q)
                    · exact .inl (List.mem_of_mem_drop q)
                  rcases hx2 with q | rfl
                  · exact (HRX1.out x q).below HB7.out
                  · exact HY1.out.below HB7.out)
                clear o7 kB eq1 eq2
                go_wp2_with fail
                go_roundw
                case rel => exact ⟨k + 1, _, _, rfl, hkl, by go_num, hnp, hns, HO7, HX7, Lib.hid (trans9 HBW.out HB7.out)⟩
                case measure => simp [intOf]; omega
              refine AllReadyH.cons (by simp only [List.getElem?_toArray, List.getElem?_cons_succ, List.getElem?_cons_zero]; rfl) (fun K hK => ?_) AllReadyH.nil
              go_simp
              have kX : KRow encF _ (wc.alloc (.cells #[.string (str xn), .int .i64 xk, .string (str xu), .string (str xh), .slice A5 n5 cap5] 41)).drew (.slice (some ⟨wc.heap.size, 0, none⟩) 1 1) [(⟨⟨xn, xk, xu, xh⟩, .slice A5 n5 cap5, M5⟩ : Fs)] := (hnew.out wc)
              replace kB : Below wc.heap.size wc ((wc.alloc (.cells #[.string (str xn), .int .i64 xk, .string (str xu), .string (str xh), .slice A5 n5 cap5] 41)).drew) := Below.drew (kp_alloc (Below.refl _ _) _)
              obtain ⟨W6, hW6⟩ : ∃ X, X = (wc.alloc (.cells #[.string (str xn), .int .i64 xk, .string (str xu), .string (str xh), .slice A5 n5 cap5] 41)).drew := ⟨_, rfl⟩
              rw [← hW6] at kB kX  ⊢
              clear hW6
              obtain ⟨xb, hxb⟩ : ∃ X, X = wc.heap.size := ⟨_, rfl⟩
              have kX2 := kX
              rw [← hxb] at kX2 ⊢
              clear kX
              have kX := kX2
              clear kX2 hxb
              refine hK.out _ _ kB (fun hHeld => ?_)
              clear hK K hHeld
              (try simp only [Act.put, List.setIfInBounds_toArray, List.set_cons_zero, List.set_cons_succ])
              refine wpAnyH_ready (rs := [3]) (by kernel_rfl) (by simp) ?_
              refine AllReadyH.cons (by simp only [List.getElem?_toArray, List.getElem?_cons_succ, List.getElem?_cons_zero]; rfl) (fun K hK => ?_) AllReadyH.nil
              refine step_append_krow fmTy encF_len (by rfl) (.const (.slice none 0 0)) (.tmp 61) (by rfl) wc.heap.size _ [] (by rfl) (KOwn.nil _ _ _ _ _) _ (R.take m) (by rfl) (HTO.out _ kB) (fun x hx => HON.out x (List.mem_of_mem_take hx)) hlt0 (Below.size kB) ?_
              intro v5 w5 o5 g5
              replace kX := kX.below (Below.grown (Below.refl _ _) g5 (Nat.le_refl _) (fun q hq => by cases hq))
              replace kB := Below.grown kB g5 (Below.size kB) (fun q hq => by cases hq)
              simp only [List.nil_append] at o5
              clear g5
              refine hK.out _ _ kB (fun hHeld => ?_)
              clear hK K hHeld
              (try simp only [Act.put, List.setIfInBounds_toArray, List.set_cons_zero, List.set_cons_succ])
              refine wpAnyH_ready (rs := [6]) (by kernel_rfl) (by simp) ?_
              refine AllReadyH.cons (by simp only [List.getElem?_toArray, List.getElem?_cons_succ, List.getElem?_cons_zero]; rfl) (fun K hK => ?_) AllReadyH.nil
              refine step_append_krow fmTy encF_len (by rfl) (.tmp 62) (.tmp 64) (by rfl) wc.heap.size _ (R.take m) (by rfl) o5 _ [(⟨⟨xn, xk, xu, xh⟩, .slice A5 n5 cap5, M5⟩ : Fs)] (by rfl) kX (fun x hx => by rw [List.mem_singleton.1 hx]; exact HX1.out) hlt1 (Below.size kB) ?_
              intro v6 w6 o6 g6
              replace kB := Below.grown kB g6 (Below.size kB) (fun q hq => own_ge o5 q hq)
              clear o5 g6 kX
              refine hK.out _ _ kB (fun hHeld => ?_)
              clear hK K hHeld
              (try simp only [Act.put, List.setIfInBounds_toArray, List.set_cons_zero, List.set_cons_succ])
              refine wpAnyH_ready (rs := [10]) (by kernel_rfl) (by simp) ?_
              refine AllReadyH.cons (by simp only [List.getElem?_toArray, List.getElem?_cons_succ, List.getElem?_cons_zero]; rfl) (fun K hK => ?_) AllReadyH.nil
              refine step_append_krow fmTy encF_len (by rfl) (.tmp 65) (.tmp 68) (by rfl) wc.heap.size _ (R.take m ++ [(⟨⟨xn, xk, xu, xh⟩, .slice A5 n5 cap5, M5⟩ : Fs)]) (by rfl) o6 _ (R.drop m) (by rfl) (HFR.out _ kB) (fun x hx => HON.out x (List.mem_of_mem_drop hx)) hlt2 (Below.size kB) ?_
              intro v7 w7 o7 g7
              replace kB := Below.grown kB g7 (Below.size kB) (fun q hq => own_ge o6 q hq)
              clear o6 g7
              refine hK.out _ _ kB (fun hHeld => ?_)
              clear hK K hHeld
              (try simp only [Act.put, List.setIfInBounds_toArray, List.set_cons_zero, List.set_cons_succ])
              refine tk9 11 kB ?_
              refine wpAnyH_done (by kernel_rfl) ?_ _
              refine NoPanic.normal ?_
              have HB7 := Lib.hid (trans9 HB4.out kB)
              have HO7 := Lib.hid (KOwn.mono o7 HSW.out)
              have HX7 : Hid (∀ x ∈ R.take m ++ [(⟨⟨xn, xk, xu, xh⟩, .slice A5 n5 cap5, M5⟩ : Fs)] ++ R.drop m, FsOff _ E x) := Lib.hid (fun x hx => by
                have hx2 : x ∈ R ∨ x = (⟨⟨xn, xk, xu, xh⟩, .slice A5 n5 cap5, M5⟩ : Fs) := by
                  rcases List.mem_append.1 hx with q | q
                  · rcases List.mem_append.1 q with q | q
                    · exact .inl (List.mem_of_mem_take q)
                    · exact .inr (List.mem_singleton.1 q)
                  · exact .inl (List.mem_of_mem_drop q)
                rcases hx2 with q | rfl
                · exact (HRX1.out x q).below HB7.out
                · exact HY1.out.below HB7.out)
              clear o7 kB eq1 eq2
              go_wp2_with fail
              go_roundw
              case rel => exact ⟨k + 1, _, _, rfl, hkl, by go_num, hnp, hns, HO7, HX7, Lib.hid (trans9 HBW.out HB7.out)⟩
              case measure => simp [intOf]; omega
    · have hr : (fms F).take k = fms F := List.take_of_length_le (by simp [fms]; omega)
      have HPM : Hid ((fms R).Perm (fms F)) := Lib.hid (by have := HPm.out; rwa [hr] at this)
      clear HPm hr hr2
      go_wp2
      go_ret2
      exact ⟨⟨A2, R.length, cap2, R, rfl, HO.out, HRX.out, HPM.out, HSt.out⟩, HBB.out⟩

end Go.Proofs.YtjeefgamkoeiaaaGreatDoor

/- The reference's putting together, in plain words: points in their places and those behind them; families in the order in which they come. -/
set_option maxRecDepth 100000
set_option linter.unusedVariables false
set_option linter.unusedSimpArgs false
namespace Go.Proofs.YtjeefgamkoeiaaaGreatDoor
open Dc

section
variable {α : Type} {f : α → α → Int} {g : α → α → α}
variable (f) in
/-- p, or the one of b that is like it -/
def rep1 (b : List α) (p : α) : α := (look f b p).getD p
theorem rep1_like (hf : TP f) (b : List α) (p : α) : f (rep1 f b p) p = 0 := by
  unfold rep1
  cases h : look f b p with
  | none => exact hf.refl p
  | some q => exact (look_some h).2
theorem nd_pre (hf : TP f) {l : List α} (h : NdT f l) {k : Nat} {p q : α} (hk : l[k]? = some p) (hq : q ∈ l.take k) : f q p ≠ 0 := by
  obtain ⟨j, hj, e⟩ := List.mem_iff_getElem.1 hq
  rw [List.length_take] at hj
  obtain ⟨hkl, rfl⟩ := List.getElem?_eq_some_iff.1 hk
  rw [← e, List.getElem_take]
  unfold NdT at h
  rw [List.pairwise_iff_getElem] at h
  exact h j k (by omega) hkl (by omega)
theorem take_snoc {l : List α} {k : Nat} {q : α} (hq : l[k]? = some q) : l.take (k + 1) = l.take k ++ [q] := by
  obtain ⟨hk, rfl⟩ := List.getElem?_eq_some_iff.1 hq
  exact List.take_succ_eq_append_getElem hk
theorem look_one (q k : α) : look f [q] k = if f q k = 0 then some q else none := by rw [look_cons]; rfl
theorem rep1_zero (l : List α) (p : α) : rep1 f (l.take 0) p = p := by simp [rep1, look]
theorem rep1_yes (hf : TP f) {b : List α} (hb : NdT f b) {k : Nat} {p q : α} (hq : b[k]? = some q) (h : f (rep1 f (b.take k) p) q = 0) : rep1 f (b.take (k + 1)) p = q := by
  have h1 := rep1_like hf (b.take k) p
  have h2 := hf.zero h1 q
  have hpq : f p q = 0 := h2.1 h
  have hn : look f (b.take k) p = none := look_none.2 fun x hx e => nd_pre hf hb hq hx (by have := hf.zero e q; exact this.2 hpq)
  unfold rep1
  rw [take_snoc hq, look_append, hn, look_one, if_pos (hf.sym hpq)]; rfl
theorem rep1_no (hf : TP f) {b : List α} {k : Nat} {p q : α} (hq : b[k]? = some q) (h : f (rep1 f (b.take k) p) q ≠ 0) : rep1 f (b.take (k + 1)) p = rep1 f (b.take k) p := by
  have h1 := rep1_like hf (b.take k) p
  have hpq : f q p ≠ 0 := fun e => h ((hf.zero h1 q).2 (hf.sym e))
  unfold rep1
  rw [take_snoc hq, look_append, look_one, if_neg hpq, Option.or_none]
/-- one like q stands in a -/
def isIn (f : α → α → Int) (a : List α) (q : α) : Bool := (look f a q).isSome
theorem isIn_zero (a : List α) (q : α) : isIn f (a.take 0) q = false := by simp [isIn, look]
theorem isIn_step {a : List α} {i : Nat} {x q : α} (hx : a[i]? = some x) : isIn f (a.take (i + 1)) q = (isIn f (a.take i) q || decide (f x q = 0)) := by
  unfold isIn
  rw [take_snoc hx, look_append, look_one]
  cases look f (a.take i) q with
  | some y => rfl
  | none =>
    by_cases h : f x q = 0
    · rw [if_pos h, decide_eq_true h]; rfl
    · rw [if_neg h, decide_eq_false h]; rfl
variable (f) in
def putRow (a b : List α) : List α := a.map (rep1 f b) ++ b.filter fun q => !isIn f a q
theorem look_map (hf : TP f) {r : α → α} (hr : ∀ x, f (r x) x = 0) (k : α) : ∀ l : List α, look f (l.map r) k = (look f l k).map r
  | [] => rfl
  | x :: l => by
    have h := hf.zero (hr x) k
    rw [List.map_cons, look_cons, look_cons, look_map hf hr k l]
    by_cases e : f x k = 0
    · rw [if_pos e, if_pos (h.2 e)]; rfl
    · rw [if_neg e, if_neg (fun q => e (h.1 q))]
theorem look_out (hf : TP f) (a : List α) (k : α) : ∀ b : List α, look f (b.filter fun q => !isIn f a q) k = if (look f a k).isSome then none else look f b k
  | [] => by simp [look]
  | q :: b => by
    have ih := look_out hf a k b
    rw [List.filter_cons]
    by_cases e : f q k = 0
    · have hc : look f a q = look f a k := look_congr hf e
      by_cases h : (look f a k).isSome = true
      · have h1 : isIn f a q = true := by unfold isIn; rw [hc]; exact h
        simp only [h1, Bool.not_true, Bool.false_eq_true, if_false]
        rw [ih, if_pos h, if_pos h]
      · have h1 : isIn f a q = false := by unfold isIn; rw [hc]; simpa using h
        simp only [h1, Bool.not_false, if_true]
        rw [look_cons, if_pos e, if_neg h, look_cons, if_pos e]
    · rw [look_cons (f := f) q b, if_neg e, ← ih]
      by_cases h : (!isIn f a q) = true
      · rw [if_pos h, look_cons, if_neg e]
      · rw [if_neg h]
theorem putRow_look (hf : TP f) (a b : List α) (k : α) : look f (putRow f a b) k = comb (fun _ y => y) (look f a k) (look f b k) := by
  unfold putRow
  rw [look_append, look_map hf (rep1_like hf b), look_out hf]
  cases hx : look f a k with
  | none => rw [Option.map_none, Option.none_or]; rfl
  | some x =>
    have hc : look f b x = look f b k := look_congr hf (look_some hx).2
    simp only [Option.map_some, Option.some_or, rep1, hc]
    cases look f b k <;> rfl
theorem putRow_nd (hf : TP f) {a b : List α} (ha : NdT f a) (hb : NdT f b) : NdT f (putRow f a b) := by
  refine List.pairwise_append.2 ⟨List.pairwise_map.2 (ha.imp ?_), hb.filter _, fun z hz y hy e => ?_⟩
  · intro x y h e
    refine h ?_
    have h1 := hf.zero (rep1_like hf b x) (rep1 f b y)
    have h2 := hf.cong' (rep1_like hf b y) x
    have h3 := h1.1 e
    omega
  · obtain ⟨x, hx, rfl⟩ := List.mem_map.1 hz
    have h1 := (List.mem_filter.1 hy).2
    have h2 : look f a y = none := by
      unfold isIn at h1
      cases h : look f a y with
      | none => rfl
      | some u => rw [h] at h1; simp at h1
    exact look_none.1 h2 x hx ((hf.zero (rep1_like hf b x) y).1 e)
end
theorem putRow_perm {a b : List Pt} (ha : StrictP a) (hb : StrictP b) : (mrgP a b).Perm (putRow cmpP a b) :=
  look_perm tp_cmpP (strictT_nd (mrg_strict tp_cmpP snd_hg (m := b) ha)) (putRow_nd tp_cmpP (strictT_nd ha) (strictT_nd hb)) fun k => by
    rw [putRow_look tp_cmpP]
    exact mrg_look tp_cmpP snd_hg k ha (strictT_nd hb)
theorem putRow_sort {a b l m : List Pt} (ha : StrictP a) (hb : StrictP b) (hl : l = putRow cmpP a b) (hp : m.Perm l) (hs : StrictP m) : m = mrgP a b :=
  strictP_unique (hp.trans (by rw [hl]; exact (putRow_perm ha hb).symm)) hs (mrg_strict tp_cmpP snd_hg (m := b) ha)

/-- the families as they are gathered: what is found among them is what is found where all that came are put together -/
structure GrpOk (S G : List Fp) : Prop where
  nd : NdT cmpF G
  lk : ∀ k, look cmpF G k = look cmpF (allF S) k
  has : ∀ s ∈ S, ∃ x ∈ G, cmpF x s = 0 ∧ x.1.k = s.1.k
  frm : ∀ x ∈ G, kin S x
theorem GrpOk.nil : GrpOk [] [] := ⟨List.Pairwise.nil, fun _ => rfl, fun s hs => (by cases hs), fun x hx => (by cases hx)⟩
theorem GrpOk.ag {S G : List Fp} (h : GrpOk S G) : agreeF S := fun x hx y hy e => by
  obtain ⟨u, hu, e1, k1⟩ := h.has x hx
  obtain ⟨v, hv, e2, k2⟩ := h.has y hy
  have h1 := (mem_look tp_cmpF h.nd).1 hu
  have h2 := (mem_look tp_cmpF h.nd).1 hv
  have h3 : cmpF u v = 0 := cmpF_zero.2 ((cmpF_zero.1 e1).trans ((cmpF_zero.1 e).trans (cmpF_zero.1 e2).symm))
  rw [look_congr tp_cmpF h3, h2] at h1
  obtain rfl := Option.some.inj h1
  rw [← k1, k2]
theorem GrpOk.perm {S G : List Fp} (h : GrpOk S G) : G.Perm (allF S) := look_perm tp_cmpF h.nd (strictT_nd (allF_strict S)) h.lk
theorem GrpOk.fam {S G : List Fp} (h : GrpOk S G) (hS : ∀ x ∈ S, famOk x.1 x.2 = true) : ∀ x ∈ G, famOk x.1 x.2 = true := fun x hx =>
  mrg_famOk (l := []) (L := S) (by simpa using hS) (by simpa using h.ag) x (h.perm.mem_iff.1 hx)
theorem GrpOk.add {S G : List Fp} (h : GrpOk S G) {y : Fp} (hn : ∀ x ∈ G, x.1.n ≠ y.1.n) : GrpOk (S ++ [y]) (G ++ [y]) := by
  have hno : look cmpF G y = none := look_none.2 fun x hx e => hn x hx (cmpF_zero.1 e)
  refine ⟨List.pairwise_append.2 ⟨h.nd, List.pairwise_singleton _ _, fun x hx z hz e => ?_⟩, fun k => ?_, fun s hs => ?_, fun x hx => ?_⟩
  · obtain rfl := List.mem_singleton.1 hz
    exact hn x hx (cmpF_zero.1 e)
  · rw [show allF (S ++ [y]) = ins cmpF putP y (allF S) from mrg_snoc _ _ _, ins_look tp_cmpF put_hg y k (allF_strict S), look_append, look_one, ← h.lk k]
    by_cases e : cmpF y k = 0
    · rw [if_pos e, if_pos e, ← look_congr tp_cmpF e, hno]; rfl
    · rw [if_neg e, if_neg e, Option.or_none]
  · rcases List.mem_append.1 hs with hs | hs
    · obtain ⟨x, hx, k⟩ := h.has s hs
      exact ⟨x, List.mem_append_left _ hx, k⟩
    · obtain rfl := List.mem_singleton.1 hs
      exact ⟨s, List.mem_append_right _ (List.mem_singleton.2 rfl), tp_cmpF.refl _, rfl⟩
  · rcases List.mem_append.1 hx with hx | hx
    · exact kin_left (h.frm x hx)
    · obtain rfl := List.mem_singleton.1 hx
      exact kin_right (kin_self (List.mem_singleton.2 rfl))
theorem look_set {G : List Fp} (hn : NdT cmpF G) {i : Nat} {x z : Fp} (hx : G[i]? = some x) (hz : cmpF z x = 0) (k : Fp) : look cmpF (G.set i z) k = if cmpF x k = 0 then some z else look cmpF G k := by
  induction G generalizing i with
  | nil => simp at hx
  | cons u G ih =>
    have n1 := (List.pairwise_cons.1 hn).1
    have n2 := (List.pairwise_cons.1 hn).2
    cases i with
    | zero =>
      obtain rfl : u = x := by simpa using hx
      rw [List.set_cons_zero, look_cons, look_cons]
      have := tp_cmpF.zero hz k
      by_cases e : cmpF u k = 0
      · rw [if_pos (this.2 e), if_pos e]
      · rw [if_neg (fun q => e (this.1 q)), if_neg e, if_neg e]
    | succ i =>
      have hx' : G[i]? = some x := by simpa using hx
      rw [List.set_cons_succ, look_cons, look_cons, ih n2 hx']
      by_cases e : cmpF u k = 0
      · have hne : cmpF x k ≠ 0 := fun q => n1 x (List.mem_of_getElem? hx') (cmpF_zero.2 ((cmpF_zero.1 e).trans (cmpF_zero.1 q).symm))
        rw [if_pos e, if_pos e, if_neg hne]
      · rw [if_neg e, if_neg e]
theorem nd_set {G : List Fp} (hn : NdT cmpF G) {i : Nat} {x z : Fp} (hx : G[i]? = some x) (hz : z.1.n = x.1.n) : NdT cmpF (G.set i z) := by
  have h : ((G.set i z).map fun q => q.1.n).Pairwise (· ≠ ·) := by
    rw [List.map_set, hz]
    obtain ⟨hi, rfl⟩ := List.getElem?_eq_some_iff.1 hx
    rw [show (G.map fun q => q.1.n).set i (G[i].1.n) = G.map fun q => q.1.n by
      refine List.ext_getElem (by simp) fun j h1 h2 => ?_
      rw [List.getElem_set]
      split
      · rename_i e; subst e; simp
      · rfl]
    exact List.pairwise_map.2 (hn.imp fun {a b} k e => k (cmpF_zero.2 e))
  exact (List.pairwise_map.1 h).imp fun {a b} k e => k (cmpF_zero.1 e)
theorem GrpOk.put {S G : List Fp} (h : GrpOk S G) {x y : Fp} {i : Nat} (hx : G[i]? = some x) (hn : x.1.n = y.1.n) (hk : x.1.k = y.1.k) : GrpOk (S ++ [y]) (G.set i (putP x y)) := by
  have hm := List.mem_of_getElem? hx
  have hz : cmpF (putP x y) x = 0 := cmpF_zero.2 rfl
  have hi := (List.getElem?_eq_some_iff.1 hx).1
  refine ⟨nd_set h.nd hx rfl, fun k => ?_, fun s hs => ?_, fun z hz => ?_⟩
  · rw [show allF (S ++ [y]) = ins cmpF putP y (allF S) from mrg_snoc _ _ _, ins_look tp_cmpF put_hg y k (allF_strict S), ← h.lk k, look_set h.nd hx hz k]
    have e0 := tp_cmpF.zero (cmpF_zero.2 hn) k
    by_cases e : cmpF y k = 0
    · rw [if_pos (e0.2 e), if_pos e, ← look_congr tp_cmpF (e0.2 e), (mem_look tp_cmpF h.nd).1 hm]; rfl
    · rw [if_neg (fun q => e (e0.1 q)), if_neg e]
  · rcases List.mem_append.1 hs with hs | hs
    · obtain ⟨u, hu, e, k⟩ := h.has s hs
      by_cases c : u = x
      · subst c
        exact ⟨putP u y, List.mem_set hi _, cmpF_zero.2 (cmpF_zero.1 e), k⟩
      · obtain ⟨j, hj, rfl⟩ := List.mem_iff_getElem.1 hu
        have hij : i ≠ j := fun q => by subst q; rw [List.getElem?_eq_getElem hj] at hx; exact c (Option.some.inj hx)
        refine ⟨G[j], List.mem_iff_getElem.2 ⟨j, by simpa using hj, by rw [List.getElem_set_ne hij]⟩, e, k⟩
    · obtain rfl := List.mem_singleton.1 hs
      exact ⟨putP x s, List.mem_set hi _, cmpF_zero.2 hn, hk⟩
  · rcases List.mem_or_eq_of_mem_set hz with hz | rfl
    · exact kin_left (h.frm z hz)
    · obtain ⟨s, hs, e, k⟩ := h.frm x hm
      exact kin_left ⟨s, hs, cmpF_zero.2 (cmpF_zero.1 e), k⟩
theorem GrpOk.bad {S G : List Fp} (h : GrpOk S G) {x y : Fp} (hx : x ∈ G) (hn : x.1.n = y.1.n) (hk : x.1.k ≠ y.1.k) : ¬ agreeF (S ++ [y]) := fun ha => by
  obtain ⟨s, hs, e, k⟩ := h.frm x hx
  exact hk (k.trans (ha s (List.mem_append_left _ hs) y (List.mem_append_right _ (List.mem_singleton.2 rfl)) (cmpF_zero.2 ((cmpF_zero.1 e).symm.trans hn))))
theorem nPts_app (a b : List Fp) : nPts (a ++ b) = nPts a + nPts b := by unfold nPts; simp
theorem GrpOk.few {S G : List Fp} (h : GrpOk S G) : G.length ≤ S.length ∧ nPts G ≤ nPts S := by
  rw [h.perm.length_eq, nPts_perm h.perm]
  have h1 : (allF S).length ≤ ([] : List Fp).length + S.length := (mrg_len _ _).2
  have h2 : nPts (allF S) ≤ nPts [] + nPts S := nPts_mrg_le S []
  rw [nPts_nil] at h2
  rw [List.length_nil] at h1
  exact ⟨by omega, by omega⟩
/-- what has been gone through is a head of all -/
theorem flat_head {l : List Bp} {k : Nat} {x : Bp} (h : l[k]? = some x) (j : Nat) : ∃ T, flat l = flat (l.take k) ++ x.2.take j ++ T := by
  obtain ⟨hk, rfl⟩ := List.getElem?_eq_some_iff.1 h
  refine ⟨l[k].2.drop j ++ flat (l.drop (k + 1)), ?_⟩
  have e : l = l.take k ++ (l[k] :: l.drop (k + 1)) := by rw [List.getElem_cons_drop, List.take_append_drop]
  have e2 : flat l = flat (l.take k ++ (l[k] :: l.drop (k + 1))) := congrArg flat e
  rw [e2, flat_append, flat_cons, List.append_assoc, ← List.append_assoc (l[k].2.take j), List.take_append_drop]
theorem flat_few : ∀ {l : List Bp}, (∀ b ∈ l, chk b.1 b.2 = 0) → (flat l).length ≤ 30 * l.length ∧ nPts (flat l) ≤ 120 * l.length
  | [], _ => ⟨Nat.le_refl _, Nat.le_refl _⟩
  | b :: l, h => by
    have h1 := chk_parts (h b List.mem_cons_self)
    have h2 := flat_few (l := l) fun c hc => h c (List.mem_cons_of_mem _ hc)
    rw [flat_cons, List.length_append, nPts_app, List.length_cons]
    omega
/-- so few, as long as what is gathered is of four batches -/
theorem GrpOk.four {l : List Bp} (hc : ∀ b ∈ l, chk b.1 b.2 = 0) (hl : l.length ≤ 4) {S G T : List Fp} (hS : flat l = S ++ T) (h : GrpOk S G) : G.length ≤ 120 ∧ nPts G ≤ 480 := by
  have h1 := flat_few hc
  have h2 := h.few
  rw [hS, List.length_append, nPts_app] at h1
  omega

end Go.Proofs.YtjeefgamkoeiaaaGreatDoor

/- The walk of the reference's Put. -/
set_option maxRecDepth 100000
set_option linter.unusedVariables false
set_option linter.unusedSimpArgs false
namespace Go.Proofs.YtjeefgamkoeiaaaGreatDoor
open Go.RowKit Go.Sort Dc
attribute [local go_sem ↓] Go.wp_at_zero Go.wp_at_succ

theorem POff.own2 {w w' : World} {E : Nat → Prop} {va vb v' : Value} {La Lb M : List Ps} {base : Nat} (ha : POff w E va La) (hb : POff w E vb Lb) (hE : ∀ b, E b → b < w.heap.size) (hw : Below w.heap.size w w') (own : PtOwn w' base v' M) (hbase : w.heap.size ≤ base) (hM : ∀ x ∈ M, x ∈ La ++ Lb) : POff w' E v' M := fun X k1 k2 => by
  have h1 : ∀ b, b < w.heap.size → ¬ E b → X.heap[b]? = w.heap[b]? := fun b hb2 he => (k1 b (Nat.lt_of_lt_of_le hb2 hw.size) he).trans (hw.block b hb2)
  have hXa := ha X h1 (Nat.le_trans hw.size k2)
  have hXb := hb X h1 (Nat.le_trans hw.size k2)
  exact ⟨KOwn.row encP_len (own.ofBlock fun b hq => k1 b (own_lt own b hq) (fun e => by have := hE b e; have := own_ge own b hq; omega)), fun x hx => by
    rcases List.mem_append.1 (hM x hx) with h | h
    · exact hXa.2 x h
    · exact hXb.2 x h⟩
/-- what the reference's Put hands back -/
def RPut (E : Nat → Prop) (o : Option Fp) (e : Ending) (w' : World) : Prop :=
  ∃ A n cap M h, e = .returned (.tuple #[famv h (.slice A n cap), .bool o.isSome]) ∧ POff w' E (.slice A n cap) M ∧ (h, pts M) = o.getD (hd0, [])
theorem RPut.no {E : Nat → Prop} {o : Option Fp} {w' : World} (h : o = none) : RPut E o (.returned (.tuple #[famv hd0 (.slice none 0 0), .bool false])) w' :=
  ⟨none, 0, 0, [], hd0, by rw [h]; rfl, fun X _ _ => PtRow.nil X, by rw [h]; rfl⟩
theorem RPut.yes {E : Nat → Prop} {o : Option Fp} {w' : World} {h : Hd} {A : Option Addr} {n cap : Nat} {M : List Ps} (ho : o = some (h, pts M)) (hk : POff w' E (.slice A n cap) M) : RPut E o (.returned (.tuple #[famv h (.slice A n cap), .bool true])) w' :=
  ⟨A, n, cap, M, h, by rw [ho]; rfl, hk, by rw [ho]; rfl⟩
theorem wpList_store_pt {ops : Array Oper} {rest : List Oper} {o : Oper} {a : Act} {w : World} {Q : Exit → Act → World → Prop} (hgd : o.guard = none) (x y : Operand) (ho : o.op = .store 53 x y)
    (b : Nat) (lv0 : Value) (p0 : Pt) (A1 : Option Addr) (n1 c1 : Nat) (p : Pt) (hx : a.eval x = .pointer (some ⟨b, 0, none⟩)) (hy : a.eval y = ptv (.slice A1 n1 c1) p) (h : PtAt w b lv0 p0)
    (hk : wpList Tryz.prog ops Q rest (a.put o.dst undef) (Go.Proofs.YtjeefgamkoeiaaaGreatDoor.set9 w b (.slice A1 n1 c1) p)) : wpList Tryz.prog ops Q (o :: rest) a w :=
  wpList_plain hgd fun K hK => by
    have hr := run_store_pt h A1 n1 c1 p
    unfold Oper.wp execOp
    simp only [ho, hx, hy, Instr.storeAt, Instr.sureAddr, Sem.run_bind, Sem.run_pure, Result.andThen_ok, hr]
    exact hK _ _ hk
theorem belowB_set9 {B : Nat} {a w : World} {c : Nat} {u : Value} {q : Pt} (k : Below B a w) (h : B ≤ c) : Below B a (set9 w c u q) :=
  ((((((((k.setCell h _).setCell h _).setCell h _).setCell h _).setCell h _).setCell h _).setCell h _).setCell h _).setCell h _
theorem PtAt.belowB {w w' : World} {b B : Nat} {lv : Value} {p : Pt} (k : PtAt w b lv p) (hb : Below B w w') (hlt : b < B) : PtAt w' b lv p := by
  have e := hb.block b hlt
  exact ⟨(World.cell?_of_block (a := ⟨b, 0, none⟩) e).trans k.c0, (World.cell?_of_block (a := ⟨b, 1, none⟩) e).trans k.c1, (World.cell?_of_block (a := ⟨b, 2, none⟩) e).trans k.c2, (World.cell?_of_block (a := ⟨b, 3, none⟩) e).trans k.c3, (World.cell?_of_block (a := ⟨b, 4, none⟩) e).trans k.c4, (World.cell?_of_block (a := ⟨b, 5, none⟩) e).trans k.c5, (World.cell?_of_block (a := ⟨b, 6, none⟩) e).trans k.c6, (World.cell?_of_block (a := ⟨b, 7, none⟩) e).trans k.c7, (World.cell?_of_block (a := ⟨b, 8, none⟩) e).trans k.c8,
    fun o => (World.frozen?_of_block (a := ⟨b, o, none⟩) e).trans (k.fr o), Nat.lt_of_lt_of_le k.lt hb.size⟩
theorem PtAt.nine {w : World} {b : Nat} {lv : Value} {p : Pt} (k : PtAt w b lv p) : Nine w b 0 lv p := ⟨k.c0, k.c1, k.c2, k.c3, k.c4, k.c5, k.c6, k.c7, k.c8⟩
theorem Nine.belowB {w w' : World} {b o B : Nat} {lv : Value} {p : Pt} (h : Nine w b o lv p) (hb : Below B w w') (hlt : b < B) : Nine w' b o lv p := by
  obtain ⟨y0, y1, y2, y3, y4, y5, y6, y7, y8⟩ := h
  exact ⟨(hb.cell (p := ⟨b, o, none⟩) hlt).trans y0, (hb.cell (p := ⟨b, o + 1, none⟩) hlt).trans y1, (hb.cell (p := ⟨b, o + 2, none⟩) hlt).trans y2, (hb.cell (p := ⟨b, o + 3, none⟩) hlt).trans y3, (hb.cell (p := ⟨b, o + 4, none⟩) hlt).trans y4, (hb.cell (p := ⟨b, o + 5, none⟩) hlt).trans y5, (hb.cell (p := ⟨b, o + 6, none⟩) hlt).trans y6, (hb.cell (p := ⟨b, o + 7, none⟩) hlt).trans y7, (hb.cell (p := ⟨b, o + 8, none⟩) hlt).trans y8⟩
/-- the points as they are gathered: those of a, each replaced; of b those that a has not -/
theorem rp_step {a b : List Pt} {i : Nat} {p : Pt} (h : a[i]? = some p) : (a.take (i + 1)).map (rep1 cmpP b) = (a.take i).map (rep1 cmpP b) ++ [rep1 cmpP b p] := by
  rw [take_snoc h, List.map_append]; rfl
theorem fl_in {a b : List Pt} {k : Nat} {q : Pt} (h : b[k]? = some q) (hq : isIn cmpP a q = true) : (b.take (k + 1)).filter (fun q => !isIn cmpP a q) = (b.take k).filter fun q => !isIn cmpP a q := by
  rw [take_snoc h, List.filter_append]; simp [hq]
theorem fl_out {a b : List Pt} {k : Nat} {q : Pt} (h : b[k]? = some q) (hq : isIn cmpP a q = false) : (b.take (k + 1)).filter (fun q => !isIn cmpP a q) = (b.take k).filter (fun q => !isIn cmpP a q) ++ [q] := by
  rw [take_snoc h, List.filter_append]; simp [hq]

set_option maxHeartbeats 64000000 in
theorem rput_calls (x y : Fs) (w : World) (E : Nat → Prop) (hE : ∀ b, E b → b < w.heap.size) (hx : FsOff w E x) (hy : FsOff w E y) (hn : x.L.length ≤ 500) (hm : y.L.length ≤ 500) :
    Calls Tryz.prog 16 #[famv x.hd x.v, famv y.hd y.v] w fun e w' => RPut E (putO (fm x) (fm y)) e w' ∧ Below w.heap.size w w' := by
  have hGA := Lib.hid (fun W (hW : Below w.heap.size w W) => rfamily_calls x.hd x.L x.v W (hx.fsin.1.below hW) (by omega) hx.1)
  have hGB := Lib.hid (fun W (hW : Below w.heap.size w W) => rfamily_calls y.hd y.L y.v W (hy.fsin.1.below hW) (by omega) hy.1)
  have HPA := Lib.hid hx.fsin.1
  have HPB := Lib.hid hy.fsin.1
  have HOFF : Hid (∀ (w' : World) (base : Nat) (v' : Value) (M : List Ps), Below w.heap.size w w' → PtOwn w' base v' M → w.heap.size ≤ base → (∀ p ∈ M, p ∈ x.L ++ y.L) → POff w' E v' M) := Lib.hid (fun w' base v' M h1 h2 h3 h4 => hx.2.own2 hy.2 hE h1 h2 h3 h4)
  have hYES := Lib.hid (fun h1 h2 h3 h4 => putO_yes (x := fm x) (y := fm y) h1 h2 h3 h4)
  have hNO := Lib.hid (fun h => putO_no (x := fm x) (y := fm y) h)
  have hSA := Lib.hid (fun h => famOk_strict (h := x.hd) (l := pts x.L) h)
  have hSB := Lib.hid (fun h => famOk_strict (h := y.hd) (l := pts y.L) h)
  have k0 := kp_alloc (kp_alloc (kp_alloc (Below.refl w.heap.size w) (.cells (famc x.hd x.v) 41)) (.cells (famc y.hd y.v) 41)) (.cells (famc hd0 (.slice none 0 0)) 41)
  have F0 := ((FamAt.new w x.hd x.v 41).alloc' (.cells (famc y.hd y.v) 41)).alloc' (.cells (famc hd0 (.slice none 0 0)) 41)
  have G0 := (FamAt.new (w.alloc (.cells (famc x.hd x.v) 41)) y.hd y.v 41).alloc' (.cells (famc hd0 (.slice none 0 0)) 41)
  have R0 := FamAt.new ((w.alloc (.cells (famc x.hd x.v) 41)).alloc (.cells (famc y.hd y.v) 41)) hd0 (.slice none 0 0) 41
  rw [show (w.alloc (.cells (famc x.hd x.v) 41)).heap.size = w.heap.size + 1 by simp] at G0
  rw [show ((w.alloc (.cells (famc x.hd x.v) 41)).alloc (.cells (famc y.hd y.v) 41)).heap.size = w.heap.size + 1 + 1 by simp] at R0
  obtain ⟨A1, cap1, hx1, hca1, hcm1, _, hra⟩ := hx.fsin.1.1
  obtain ⟨A2, cap2, hy1, hca2, hcm2, _, hrb⟩ := hy.fsin.1.1
  unfold maxLen at hcm1 hcm2
  have HRA := Lib.hid hra
  have HRB := Lib.hid hrb
  obtain ⟨O, hO⟩ : ∃ O, O = putO (fm x) (fm y) := ⟨_, rfl⟩
  rw [← hO] at hYES hNO ⊢
  clear hO
  obtain ⟨⟨n, k, u, hh⟩, xv, La⟩ := x
  obtain ⟨⟨n', k', u', hh'⟩, yv, Lb⟩ := y
  simp only at hx1 hy1
  subst hx1 hy1
  simp only [fm] at hYES hNO hGA hGB hSA hSB HPA HPB HRA HRB HOFF hca1 hcm1 hca2 hcm2 hn hm
  generalize hna : La.length = n1 at *
  generalize hnb : Lb.length = n2 at *
  have HNA := Lib.hid hna
  have HNB := Lib.hid hnb
  clear hx hy hE hra hrb hna hnb
  obtain ⟨W0, hW0⟩ : ∃ W, W = ((w.alloc (.cells #[.string (str n), .int .i64 k, .string (str u), .string (str hh), .slice A1 n1 cap1] 41)).alloc (.cells #[.string (str n'), .int .i64 k', .string (str u'), .string (str hh'), .slice A2 n2 cap2] 41)).alloc (.cells #[.string ⟨#[]⟩, .int .i64 0, .string ⟨#[]⟩, .string ⟨#[]⟩, .slice none 0 0] 41) := ⟨_, rfl⟩
  have K0 : Hid (Below w.heap.size w W0) := Lib.hid (by rw [hW0]; exact k0)
  have FA : Hid (FamAt W0 w.heap.size ⟨n, k, u, hh⟩ (.slice A1 n1 cap1)) := Lib.hid (by rw [hW0]; exact F0)
  have FB : Hid (FamAt W0 (w.heap.size + 1) ⟨n', k', u', hh'⟩ (.slice A2 n2 cap2)) := Lib.hid (by rw [hW0]; exact G0)
  have FR : Hid (FamAt W0 (w.heap.size + 1 + 1) hd0 (.slice none 0 0)) := Lib.hid (by rw [hW0]; exact R0)
  clear k0 F0 G0 R0
  go_enter Tryz.func16, Tryz.ntmps16
  go_upto_region 1 with fail
  rw [← hW0]
  clear hW0
  by_cases hn : n = n'
  · subst hn
    by_cases hk : k = k'
    · subst hk
      cases hfa : famOk ⟨n, k, u, hh⟩ (pts La) with
      | false =>
        rw [hfa] at hGA
        have hr := Lib.hid (hNO.out (fun h => by rw [hfa] at h; exact absurd h.2.2.1 (by decide)))
        clear hYES hNO hGB hSA hSB HRA HRB HPA HPB HOFF hfa
        obtain ⟨x0, x1, x2, x3, x4, xf, xl⟩ := FA.out
        obtain ⟨z0, z1, z2, z3, z4, zf, zl⟩ := FB.out
        obtain ⟨y0, y1, y2, y3, y4, yf, yl⟩ := FR.out
        go_wp2_with fail
        refine (hGA.out _ K0.out).mono ?_; rintro e w1 ⟨rfl, c1⟩
        have K1 := Lib.hid (trans9 K0.out c1)
        have FR1 := Lib.hid (FR.out.below c1)
        clear x0 x1 x2 x3 x4 xf xl z0 z1 z2 z3 z4 zf zl y0 y1 y2 y3 y4 yf yl c1
        obtain ⟨y0, y1, y2, y3, y4, yf, yl⟩ := FR1.out
        go_wp2_with ((with_reducible refine bodyPost_ret (v := .tuple #[.agg #[.string ⟨#[]⟩, .int .i64 0, .string ⟨#[]⟩, .string ⟨#[]⟩, .slice none 0 0], .bool false]) ?hr rfl ?hR); (case hr => simp [results, Tryz.results16, go_sem, y0, y1, y2, y3, y4]); (case hR => exact ⟨RPut.no hr.out, (((((K1.out).setCell (by show w.heap.size ≤ w.heap.size + 1 + 1; omega) _).setCell (by show w.heap.size ≤ w.heap.size + 1 + 1; omega) _).setCell (by show w.heap.size ≤ w.heap.size + 1 + 1; omega) _).setCell (by show w.heap.size ≤ w.heap.size + 1 + 1; omega) _).setCell (by show w.heap.size ≤ w.heap.size + 1 + 1; omega) _⟩))
      | true =>
        rw [hfa] at hGA
        cases hfb : famOk ⟨n, k, u', hh'⟩ (pts Lb) with
        | false =>
          rw [hfb] at hGB
          have hr := Lib.hid (hNO.out (fun h => by rw [hfb] at h; exact absurd h.2.2.2 (by decide)))
          clear hYES hNO hSA hSB HRA HRB HPA HPB HOFF hfb hfa
          obtain ⟨x0, x1, x2, x3, x4, xf, xl⟩ := FA.out
          obtain ⟨z0, z1, z2, z3, z4, zf, zl⟩ := FB.out
          obtain ⟨y0, y1, y2, y3, y4, yf, yl⟩ := FR.out
          go_wp2_with fail
          refine (hGA.out _ K0.out).mono ?_; rintro e w1 ⟨rfl, c1⟩
          have K1 := Lib.hid (trans9 K0.out c1)
          have FR1 := Lib.hid (FR.out.below c1)
          have FB1 := Lib.hid (FB.out.below c1)
          clear x0 x1 x2 x3 x4 xf xl z0 z1 z2 z3 z4 zf zl y0 y1 y2 y3 y4 yf yl c1
          obtain ⟨z0, z1, z2, z3, z4, zf, zl⟩ := FB1.out
          go_wp2_with fail
          refine (hGB.out _ K1.out).mono ?_; rintro e w2 ⟨rfl, c2⟩
          have K2 := Lib.hid (trans9 K1.out c2)
          have FR2 := Lib.hid (FR1.out.below c2)
          clear z0 z1 z2 z3 z4 zf zl c2
          obtain ⟨y0, y1, y2, y3, y4, yf, yl⟩ := FR2.out
          go_wp2_with ((with_reducible refine bodyPost_ret (v := .tuple #[.agg #[.string ⟨#[]⟩, .int .i64 0, .string ⟨#[]⟩, .string ⟨#[]⟩, .slice none 0 0], .bool false]) ?hr rfl ?hR); (case hr => simp [results, Tryz.results16, go_sem, y0, y1, y2, y3, y4]); (case hR => exact ⟨RPut.no hr.out, (((((K2.out).setCell (by show w.heap.size ≤ w.heap.size + 1 + 1; omega) _).setCell (by show w.heap.size ≤ w.heap.size + 1 + 1; omega) _).setCell (by show w.heap.size ≤ w.heap.size + 1 + 1; omega) _).setCell (by show w.heap.size ≤ w.heap.size + 1 + 1; omega) _).setCell (by show w.heap.size ≤ w.heap.size + 1 + 1; omega) _⟩))
        | true =>
          rw [hfb] at hGB
          have hr := Lib.hid (hYES.out rfl rfl hfa hfb)
          have hsa := Lib.hid (hSA.out hfa)
          have hsb := Lib.hid (hSB.out hfb)
          clear hYES hNO hSA hSB hfb hfa
          obtain ⟨x0, x1, x2, x3, x4, xf, xl⟩ := FA.out
          obtain ⟨z0, z1, z2, z3, z4, zf, zl⟩ := FB.out
          obtain ⟨y0, y1, y2, y3, y4, yf, yl⟩ := FR.out
          go_wp2_with fail
          refine (hGA.out _ K0.out).mono ?_; rintro e w1 ⟨rfl, c1⟩
          have K1 := Lib.hid (trans9 K0.out c1)
          have FA1 := Lib.hid (FA.out.below c1)
          have FR1 := Lib.hid (FR.out.below c1)
          have FB1 := Lib.hid (FB.out.below c1)
          clear x0 x1 x2 x3 x4 xf xl z0 z1 z2 z3 z4 zf zl y0 y1 y2 y3 y4 yf yl c1
          obtain ⟨z0, z1, z2, z3, z4, zf, zl⟩ := FB1.out
          go_wp2_with fail
          refine (hGB.out _ K1.out).mono ?_; rintro e w2 ⟨rfl, c2⟩
          have K2 := Lib.hid (trans9 K1.out c2)
          have FA2 := Lib.hid (FA1.out.below c2)
          have FB2 := Lib.hid (FB1.out.below c2)
          have FR2 := Lib.hid (FR1.out.below c2)
          clear z0 z1 z2 z3 z4 zf zl c2 K0 K1 FA FB FR FA1 FB1 FR1 hGA hGB
          obtain ⟨x0, x1, x2, x3, x4, xf, xl⟩ := FA2.out
          simp only at x0 x1 x2 x3 x4
          clear xf x4
          have hbo := FR2.out.lt
          have k3 := (Below.refl w2.heap.size w2).alloc (Nat.le_refl _) (.cells (famc ⟨n, k, u, hh⟩ (.slice none 0 0)) 41)
          have O3 := FamAt.new w2 ⟨n, k, u, hh⟩ (.slice none 0 0) 41
          go_upto_region 4 with fail
          obtain ⟨W3, hW3⟩ : ∃ W, W = w2.alloc (.cells #[.string (str n), .int .i64 k, .string (str u), .string (str hh), .slice none 0 0] 41) := ⟨_, rfl⟩
          have K3 : Hid (Below w.heap.size w W3) := Lib.hid (trans9 K2.out (by rw [hW3]; exact k3))
          have FO3 : Hid (FamAt W3 w2.heap.size ⟨n, k, u, hh⟩ (.slice none 0 0)) := Lib.hid (by rw [hW3]; exact O3)
          have HZ3 : Hid (W3.heap.size = w2.heap.size + 1) := Lib.hid (by rw [hW3]; simp)
          have FA3 := Lib.hid (FA2.out.below (w' := W3) (by rw [hW3]; exact k3))
          have FB3 := Lib.hid (FB2.out.below (w' := W3) (by rw [hW3]; exact k3))
          have FR3 := Lib.hid (FR2.out.below (w' := W3) (by rw [hW3]; exact k3))
          rw [← hW3]
          clear hW3 k3 O3 FA2 FB2 FR2 K2 x0 x1 x2 x3 xl
          generalize w2.heap.size = bO at *
          obtain ⟨z0, z1, z2, z3, z4, zf, zl⟩ := FB3.out
          obtain ⟨o0, o1, o2, o3, o4, og, ol⟩ := FO3.out
          simp only at z0 z1 z2 z3 z4 o0 o1 o2 o3 o4
          have of2 := og 2
          clear zf og
          go_upto_if 46 with (fail)
          go_cut [5] from 46 to 51 (fun s wx => s = .bool false ∧ Hid (FamAt wx bO ⟨n, k, orS u' u, hh⟩ (.slice none 0 0)) ∧ Hid (Below bO W3 wx))
          case first =>
            cases hie : u'.isEmpty
            case true =>
              have hu : u' = [] := List.isEmpty_iff.1 hie
              have hor : orS u' u = u := if_pos hu
              have K4 : Hid (FamAt W3 bO ⟨n, k, orS u' u, hh⟩ (.slice none 0 0)) := Lib.hid (by rw [hor]; exact FO3.out)
              clear hor hu hie
              go_wp2_with fail
              go_meet
              exact ⟨rfl, K4, Lib.hid (Below.refl _ _)⟩
            case false =>
              have hu : ¬ u' = [] := fun e => by rw [e] at hie; cases hie
              have hor : orS u' u = u' := if_neg hu
              have K4 : Hid (FamAt (W3.setCell ⟨bO, 2, none⟩ (.string (str u'))) bO ⟨n, k, orS u' u, hh⟩ (.slice none 0 0)) := Lib.hid (by rw [hor]; exact FO3.out.set2 u')
              have K5 : Hid (Below bO W3 (W3.setCell ⟨bO, 2, none⟩ (.string (str u')))) := Lib.hid (Below.setCell (p := ⟨bO, 2, none⟩) (Below.refl _ _) (Nat.le_refl _) _)
              clear hor hu hie
              go_wp2_with fail
              go_meet
              exact ⟨rfl, K4, K5⟩
          case rest =>
            obtain ⟨rfl, FO4, KB4⟩ := hcut
            have hbo4 : bO < wc.heap.size := FO4.out.lt
            have FB4 := Lib.hid (FB3.out.belowB KB4.out (by omega))
            clear z0 z1 z2 z3 z4 zl o0 o1 o2 o3 o4 ol of2
            obtain ⟨z0, z1, z2, z3, z4, zf, zl⟩ := FB4.out
            obtain ⟨o0, o1, o2, o3, o4, og, ol⟩ := FO4.out
            simp only at z0 z1 z2 z3 z4 o0 o1 o2 o3 o4
            have of3 := og 3
            clear zf og
            generalize wc = W4 at *
            go_upto_if 55 with (fail)
            go_cut [5] from 55 to 60 (fun s wx => s = .bool false ∧ Hid (FamAt wx bO ⟨n, k, orS u' u, orS hh' hh⟩ (.slice none 0 0)) ∧ Hid (Below bO W3 wx))
            case first =>
              cases hie : hh'.isEmpty
              case true =>
                have hu : hh' = [] := List.isEmpty_iff.1 hie
                have hor : orS hh' hh = hh := if_pos hu
                have K6 : Hid (FamAt W4 bO ⟨n, k, orS u' u, orS hh' hh⟩ (.slice none 0 0)) := Lib.hid (by rw [hor]; exact FO4.out)
                clear hor hu hie
                go_wp2_with fail
                go_meet
                exact ⟨rfl, K6, KB4⟩
              case false =>
                have hu : ¬ hh' = [] := fun e => by rw [e] at hie; cases hie
                have hor : orS hh' hh = hh' := if_neg hu
                have K6 : Hid (FamAt (W4.setCell ⟨bO, 3, none⟩ (.string (str hh'))) bO ⟨n, k, orS u' u, orS hh' hh⟩ (.slice none 0 0)) := Lib.hid (by rw [hor]; exact FO4.out.set3 hh')
                have K7 : Hid (Below bO W3 (W4.setCell ⟨bO, 3, none⟩ (.string (str hh')))) := Lib.hid (Below.setCell (p := ⟨bO, 3, none⟩) KB4.out (Nat.le_refl _) _)
                clear hor hu hie
                go_wp2_with fail
                go_meet
                exact ⟨rfl, K6, K7⟩
            case rest =>
              obtain ⟨rfl, FO5, KB5⟩ := hcut
              clear z0 z1 z2 z3 z4 zl o0 o1 o2 o3 o4 ol of3 FO4 KB4 FB4 FO3 hbo4
              generalize wc = W5 at *
              obtain ⟨H, hH⟩ : ∃ H : Hd, H = ⟨n, k, orS u' u, orS hh' hh⟩ := ⟨_, rfl⟩
              rw [← hH] at FO5
              have HSZ5 := Lib.hid FO5.out.lt
              have hbo2 := Lib.hid hbo
              have K5 : Hid (Below w.heap.size w W5) := Lib.hid (K3.out.trans (KB5.out.mono (by omega)))
              have FA5 := Lib.hid (FA3.out.belowB KB5.out (by omega))
              have FB5 := Lib.hid (FB3.out.belowB KB5.out (by omega))
              have FR5 := Lib.hid (FR3.out.belowB KB5.out (by omega))
              have HPI : Hid (∀ r ∈ La ++ Lb, PsIn w r) := Lib.hid (fun r hr => by
                rcases List.mem_append.1 hr with h | h
                · exact HPA.out.2 r h
                · exact HPB.out.2 r h)
              have HSL : Hid (∀ r ∈ La ++ Lb, ∃ A n cap, r.1 = .slice A n cap) := Lib.hid (fun r hr => by obtain ⟨_, _, h, _⟩ := (HPI.out r hr).1; exact ⟨_, _, _, h⟩)
              have HON : Hid (∀ r ∈ La ++ Lb, ∀ u ∈ encP r, u.oneCell' = true) := Lib.hid (fun r hr => encP_one (HPI.out r hr))
              have HCMP : Hid (∀ r ∈ La ++ Lb, ∀ t ∈ La ++ Lb, ∀ W, Below w.heap.size w W → Calls Tryz.prog 35 #[ptv r.1 r.2, ptv t.1 t.2] W fun e w' => e = .returned (.int .i64 (cmpP r.2 t.2)) ∧ Below W.heap.size W w') := Lib.hid (fun r hr t ht W hW =>
                rcomparepoints_calls r.1 t.1 r.2 t.2 W ((HPI.out r hr).1.below hW) ((HPI.out t ht).1.below hW) (HPI.out r hr).2 (HPI.out t ht).2)
              have HNDB := Lib.hid (strictT_nd hsb.out)
              clear FA3 FB3 FR3 KB5 K3 HZ3 HPA HPB hbo
              go_wp2_with fail
              go_loopw [7] (fun i wr => ∃ (j : Nat) (tv : Value) (R : List Ps), j ≤ n1 ∧ i = .int .i64 (j : Nat) ∧ Hid (R.length = j) ∧ Hid (PtOwn wr W5.heap.size tv R) ∧ Hid (pts R = ((pts La).take j).map (rep1 cmpP (pts Lb))) ∧ Hid (∀ r ∈ R, r ∈ La ++ Lb) ∧ Hid (FamAt wr bO H tv) ∧ Hid (Below bO W5 wr)) (fun i _ => n1 - (intOf i).toNat)
              case atStart => exact ⟨0, _, [], Nat.zero_le _, rfl, rfl, Lib.hid (KOwn.nil _ _ _ _ _), Lib.hid (by simp), Lib.hid (fun r hr => by cases hr), FO5, Lib.hid (Below.refl _ _)⟩
              case round =>
                obtain ⟨i, tv, R, hi, rfl, hRl, O1, HPl, HM, FO, KB⟩ := hrel
                have hks := Lib.hid KB.out.size
                have KW : Hid (Below w.heap.size w wr) := Lib.hid (K5.out.trans (KB.out.mono (by have := hbo2.out; omega)))
                have FAr := Lib.hid (FA5.out.belowB KB.out (by have := hbo2.out; omega))
                have FBr := Lib.hid (FB5.out.belowB KB.out (by have := hbo2.out; omega))
                have x4 := FAr.out.c4
                by_cases hil : i < n1
                · obtain ⟨b, off, rfl, hbs, hc⟩ := HRA.out (by omega)
                  obtain ⟨x, hx, hxp⟩ := ps_get (L := La) (i := i) (by rw [HNA.out]; omega)
                  have hxm : x ∈ La ++ Lb := List.mem_append_left _ (List.mem_of_getElem? hx)
                  have hx9 := (show Nine w b (off + i * 9) x.1 x.2 from pr_cells hc hx).below KW.out hbs
                  have HRS := Lib.hid (rp_step (b := pts Lb) hxp)
                  obtain ⟨A3, n3, cap3, hx1⟩ := HSL.out x hxm
                  obtain ⟨xv, p⟩ := x
                  simp only at hx1
                  subst hx1
                  simp only at hx9 HRS
                  have HXM := Lib.hid hxm
                  obtain ⟨y0, y1, y2, y3, y4, y5, y6, y7, y8⟩ := hx9
                  have hi0 : (0 : Int) ≤ (i : Int) := by omega
                  have hib : (i : Int) < (n1 : Int) := by omega
                  have PA0 := PtAt.new wr (.slice A3 n3 cap3) p 53
                  have kk0 := (Below.refl wr.heap.size wr).alloc (Nat.le_refl _) (.cells (ptc (.slice A3 n3 cap3) p) 53)
                  clear hc hx hxp hxm hbs
                  go_upto_region 12 with fail
                  obtain ⟨W6, hW6⟩ : ∃ W, W = wr.alloc (.cells #[.slice A3 n3 cap3, .int .i64 p.ro, .bool p.inf, .int .i64 p.bm, .int .i64 p.bs, .int .i64 p.m, .int .i64 p.s, .bool p.td, .int .i64 p.ti] 53) := ⟨_, rfl⟩
                  have PA6 : Hid (PtAt W6 wr.heap.size (.slice A3 n3 cap3) p) := Lib.hid (by rw [hW6]; exact PA0)
                  have KB6 : Hid (Below wr.heap.size wr W6) := Lib.hid (by rw [hW6]; exact kk0)
                  rw [← hW6]
                  clear hW6 PA0 kk0 x4 y0 y1 y2 y3 y4 y5 y6 y7 y8
                  generalize wr = W1 at *
                  obtain ⟨bp, hbp⟩ : ∃ bp, bp = W1.heap.size := ⟨_, rfl⟩
                  rw [← hbp] at PA6 KB6 ⊢
                  have HBP := Lib.hid hbp
                  clear hbp
                  go_wp2_with fail
                  go_loopw [9] (fun j wi => ∃ (m : Nat) (cv : Value) (cur : Pt), m ≤ n2 ∧ j = .int .i64 (m : Nat) ∧ Hid (cur = rep1 cmpP ((pts Lb).take m) p) ∧ Hid ((cv, cur) ∈ La ++ Lb) ∧ Hid (PtAt wi bp cv cur) ∧ Hid (Below bp W6 wi)) (fun j _ => n2 - (intOf j).toNat)
                  case atStart => exact ⟨0, _, p, Nat.zero_le _, rfl, Lib.hid (rep1_zero _ _).symm, HXM, PA6, Lib.hid (Below.refl _ _)⟩
                  case round =>
                    obtain ⟨m, cv, cur, hm, rfl, HC, HCM, PA, KBi⟩ := hrel
                    have FBi := Lib.hid ((FBr.out.belowB KB6.out (by have := FBr.out.lt; have := HBP.out; omega)).belowB KBi.out (by have := FBr.out.lt; have := HBP.out; omega))
                    have z4 := FBi.out.c4
                    obtain ⟨A4, n4, cap4, hcv⟩ := HSL.out _ HCM.out
                    simp only at hcv
                    subst hcv
                    by_cases hml : m < n2
                    · obtain ⟨b2, off2, rfl, hbs2, hc2⟩ := HRB.out (by omega)
                      obtain ⟨y, hy, hyp⟩ := ps_get (L := Lb) (i := m) (by rw [HNB.out]; omega)
                      have hym : y ∈ La ++ Lb := List.mem_append_right _ (List.mem_of_getElem? hy)
                      have hKi : Below w.heap.size w wr := trans9 KW.out (((by have := HBP.out; rw [← this]; exact KB6.out) : Below W1.heap.size W1 W6).trans (KBi.out.mono (by have := HBP.out; omega)))
                      have HQ9 : Hid (∀ z, Below wr.heap.size wr z → Nine z b2 (off2 + m * 9) y.1 y.2) := Lib.hid (fun z hz => (show Nine w b2 (off2 + m * 9) y.1 y.2 from pr_cells hc2 hy).below (trans9 hKi hz) hbs2)
                      have HP9 : Hid (∀ z, Below wr.heap.size wr z → Nine z bp 0 (.slice A4 n4 cap4) cur) := Lib.hid (fun z hz => (PA.out.below hz).nine)
                      have HPZ : Hid (∀ z, Below wr.heap.size wr z → PtAt z bp (.slice A4 n4 cap4) cur) := Lib.hid (fun z hz => PA.out.below hz)
                      have HB4 : Hid (∀ z, Below wr.heap.size wr z → z.cell? ⟨w.heap.size + 1, 4, none⟩ = some (.slice (some ⟨b2, off2, none⟩) n2 cap2)) := Lib.hid (fun z hz => (FBi.out.below hz).c4)
                      have hcp := Lib.hid (fun W (hW : Below wr.heap.size wr W) => HCMP.out _ HCM.out y hym W (trans9 hKi hW))
                      have HYY := Lib.hid (fun (e : cmpP cur y.2 = 0) => rep1_yes tp_cmpP HNDB.out (p := p) hyp (by rw [← HC.out]; exact e))
                      have HNN := Lib.hid (fun (e : cmpP cur y.2 ≠ 0) => rep1_no tp_cmpP (p := p) hyp (by rw [← HC.out]; exact e))
                      have HYM := Lib.hid hym
                      have hm0 : (0 : Int) ≤ (m : Int) := by omega
                      have hmb : (m : Int) < (n2 : Int) := by omega
                      obtain ⟨A5, n5, cap5, hy1⟩ := HSL.out y hym
                      obtain ⟨yv, q⟩ := y
                      simp only at hy1
                      subst hy1
                      simp only at HQ9 hcp HYY HNN
                      clear hc2 hy hyp hym hKi hbs2 FBi
                      generalize cmpP cur q = C at *
                      by_cases hC : C = 0
                      · have hne : (C == 0) = true := by simpa using hC
                        have HY := Lib.hid (HYY.out hC)
                        clear HYY HNN hC
                        go_wp2_with fail
                        refine wp_region_noPanic ?_
                        refine wp_region_held_drew (S := fun X => Below wr.heap.size wr X) (by kernel_rfl) ?_ (fun hHeld => ?_)
                        · exact Below.drew (Below.refl _ _)
                        have kB : Below wr.heap.size wr wr.drew := Below.drew (Below.refl _ _)
                        clear hHeld
                        refine tk9 0 kB ?_ (hy := Or.inl ⟨by rfl, by intro x hSw; (try dsimp only at hSw); obtain ⟨p0, p1, p2, p3, p4, p5, p6, p7, p8⟩ := HP9.out x hSw; first | (go_simp; done) | (go_simp; with_reducible rfl)⟩)
                        refine tk9 1 kB ?_
                        refine tk9 2 kB ?_ (hy := Or.inl ⟨by rfl, by intro x hSw; (try dsimp only at hSw); have x4 := HB4.out x hSw; first | (go_simp; done) | (go_simp; with_reducible rfl)⟩)
                        refine tk9 3 kB ?_
                        refine tk9 4 kB ?_
                        refine tk9 5 kB ?_ (hy := Or.inl ⟨by rfl, by intro x hSw; (try dsimp only at hSw); obtain ⟨y0, y1, y2, y3, y4, y5, y6, y7, y8⟩ := HQ9.out x hSw; first | (go_simp; done) | (go_simp; with_reducible rfl)⟩)
                        refine wpAnyH_ready (rs := [6]) (by kernel_rfl) (by simp) ?_
                        refine AllReadyH.cons (by simp only [List.getElem?_toArray, List.getElem?_cons_succ, List.getElem?_cons_zero]; rfl) (fun K hK => ?_) AllReadyH.nil
                        try go_simp
                        refine (hcp.out _ kB).mono ?_; rintro e w5 ⟨rfl, b5⟩
                        replace kB := trans9 kB b5
                        clear b5
                        try go_wp2_with fail
                        refine hK.out _ _ kB (fun hHeld => ?_)
                        clear hK K hHeld
                        (try simp only [Act.put, List.setIfInBounds_toArray, List.set_cons_zero, List.set_cons_succ])
                        refine tk9 7 kB ?_
                        refine wpAnyH_done (by kernel_rfl) ?_ _
                        refine NoPanic.normal ?_
                        have hq9 := HQ9.out _ kB
                        have z5 := HB4.out _ kB
                        have PZ := HPZ.out _ kB
                        have PS := Lib.hid (PtAt.set9 (lv := .slice A5 n5 cap5) (p := q) PZ)
                        have KBS : Hid (Below bp W6 (set9 w5 bp (.slice A5 n5 cap5) q)) := Lib.hid (belowB_set9 (KBi.out.trans (kB.mono (by have := PA.out.lt; omega))) (Nat.le_refl _))
                        obtain ⟨y0, y1, y2, y3, y4, y5, y6, y7, y8⟩ := hq9
                        skip
                        go_wp2_with (refine wpList_store_pt (by rfl) (.tmp 8) (.tmp 92) (by rfl) bp _ _ _ _ _ q (by rfl) (by rfl) PZ ?_; obtain ⟨W9, hW9⟩ : ∃ W, W = set9 w5 bp (.slice A5 n5 cap5) q := ⟨_, rfl⟩; rw [← hW9] at PS KBS ⊢; clear hW9)
                        skip
                        go_wp2_with fail
                        go_roundw
                        case rel => exact ⟨m + 1, _, q, hml, by go_num, Lib.hid HY.out.symm, HYM, PS, KBS⟩
                        case measure => simp [intOf]; omega
                      · have hne : (C == 0) = false := by simpa using hC
                        have HN := Lib.hid (HNN.out hC)
                        clear HYY HNN hC
                        go_wp2_with fail
                        refine wp_region_noPanic ?_
                        refine wp_region_held_drew (S := fun X => Below wr.heap.size wr X) (by kernel_rfl) ?_ (fun hHeld => ?_)
                        · exact Below.drew (Below.refl _ _)
                        have kB : Below wr.heap.size wr wr.drew := Below.drew (Below.refl _ _)
                        clear hHeld
                        refine tk9 0 kB ?_ (hy := Or.inl ⟨by rfl, by intro x hSw; (try dsimp only at hSw); obtain ⟨p0, p1, p2, p3, p4, p5, p6, p7, p8⟩ := HP9.out x hSw; first | (go_simp; done) | (go_simp; with_reducible rfl)⟩)
                        refine tk9 1 kB ?_
                        refine tk9 2 kB ?_ (hy := Or.inl ⟨by rfl, by intro x hSw; (try dsimp only at hSw); have x4 := HB4.out x hSw; first | (go_simp; done) | (go_simp; with_reducible rfl)⟩)
                        refine tk9 3 kB ?_
                        refine tk9 4 kB ?_
                        refine tk9 5 kB ?_ (hy := Or.inl ⟨by rfl, by intro x hSw; (try dsimp only at hSw); obtain ⟨y0, y1, y2, y3, y4, y5, y6, y7, y8⟩ := HQ9.out x hSw; first | (go_simp; done) | (go_simp; with_reducible rfl)⟩)
                        refine wpAnyH_ready (rs := [6]) (by kernel_rfl) (by simp) ?_
                        refine AllReadyH.cons (by simp only [List.getElem?_toArray, List.getElem?_cons_succ, List.getElem?_cons_zero]; rfl) (fun K hK => ?_) AllReadyH.nil
                        try go_simp
                        refine (hcp.out _ kB).mono ?_; rintro e w5 ⟨rfl, b5⟩
                        replace kB := trans9 kB b5
                        clear b5
                        try go_wp2_with fail
                        refine hK.out _ _ kB (fun hHeld => ?_)
                        clear hK K hHeld
                        (try simp only [Act.put, List.setIfInBounds_toArray, List.set_cons_zero, List.set_cons_succ])
                        refine tk9 7 kB ?_
                        refine wpAnyH_done (by kernel_rfl) ?_ _
                        refine NoPanic.normal ?_
                        have PZ := Lib.hid (HPZ.out _ kB)
                        have KBS := Lib.hid (KBi.out.trans (kB.mono (by have := PA.out.lt; omega)))
                        go_wp2_with fail
                        go_roundw
                        case rel => exact ⟨m + 1, _, cur, hml, by go_num, Lib.hid (by rw [HN.out]; exact HC.out), HCM, PZ, KBS⟩
                        case measure => simp [intOf]; omega
                    · have hall : (pts Lb).take m = pts Lb := List.take_of_length_le (by have := HNB.out; simp [pts]; omega)
                      rw [hall] at HC
                      have hKi : Below W1.heap.size W1 wr := ((by have := HBP.out; rw [← this]; exact KB6.out) : Below W1.heap.size W1 W6).trans (KBi.out.mono (by have := HBP.out; omega))
                      have FOi := Lib.hid (FO.out.below hKi)
                      have OI := Lib.hid (O1.out.below hKi)
                      have hsz : W5.heap.size ≤ wr.heap.size := Nat.le_trans hks.out hKi.size
                      have KBI : Hid (Below bO W5 wr) := Lib.hid (KB.out.trans (hKi.mono (by have := hks.out; have := HSZ5.out; omega)))
                      obtain ⟨p0, p1, p2, p3, p4, p5, p6, p7, p8, _, pl⟩ := PA.out
                      obtain ⟨o0, o1, o2, o3, o4, og, ol⟩ := FOi.out
                      have HMI : Hid (∀ r ∈ R ++ [((.slice A4 n4 cap4, cur) : Ps)], r ∈ La ++ Lb) := Lib.hid (fun r hr => by
                        rcases List.mem_append.1 hr with h | h
                        · exact HM.out r h
                        · rw [List.mem_singleton.1 h]; exact HCM.out)
                      have HPI2 : Hid (pts (R ++ [((.slice A4 n4 cap4, cur) : Ps)]) = ((pts La).take (i + 1)).map (rep1 cmpP (pts Lb))) := Lib.hid (by rw [HRS.out, ← HPl.out, ← HC.out]; simp [pts])
                      have hone := Lib.hid (HON.out _ HCM.out)
                      have hrl := hRl.out
                      have kA := (Below.refl wr.heap.size wr).alloc (Nat.le_refl _) (.cells #[.slice A4 n4 cap4, .int .i64 cur.ro, .bool cur.inf, .int .i64 cur.bm, .int .i64 cur.bs, .int .i64 cur.m, .int .i64 cur.s, .bool cur.td, .int .i64 cur.ti] 53)
                      clear hall hKi HC KB6 PA6 og
                      have hl2 : R.length + ([((.slice A4 n4 cap4, cur) : Ps)] : List Ps).length ≤ 2000 := by rw [hrl, List.length_singleton]; omega
                      have hbs7 : W5.heap.size ≤ (wr.alloc (.cells #[.slice A4 n4 cap4, .int .i64 cur.ro, .bool cur.inf, .int .i64 cur.bm, .int .i64 cur.bs, .int .i64 cur.m, .int .i64 cur.s, .bool cur.td, .int .i64 cur.ti] 53)).heap.size := Nat.le_trans hsz kA.size
                      have kX := new_pt wr (.slice A4 n4 cap4) cur
                      have oX := own_alloc OI.out (.cells #[.slice A4 n4 cap4, .int .i64 cur.ro, .bool cur.inf, .int .i64 cur.bm, .int .i64 cur.bs, .int .i64 cur.m, .int .i64 cur.s, .bool cur.td, .int .i64 cur.ti] 53)
                      have hK7 : Hid (∀ (v7 : Value) (w7 : World), (wr.alloc (.cells #[.slice A4 n4 cap4, .int .i64 cur.ro, .bool cur.inf, .int .i64 cur.bm, .int .i64 cur.bs, .int .i64 cur.m, .int .i64 cur.s, .bool cur.td, .int .i64 cur.ti] 53)).grownBy w7 tv.ownBlock → Below W5.heap.size wr w7) := Lib.hid (fun v7 w7 g7 => Below.grown (kA.mono hsz) g7 hbs7 (fun z hz => own_ge OI.out z hz))
                      have hone' : ∀ z ∈ [((.slice A4 n4 cap4, cur) : Ps)], ∀ u ∈ encP z, u.oneCell' = true := fun z hz => by rw [List.mem_singleton.1 hz]; exact hone.out
                      have HFZ : Hid (∀ w7, Below W5.heap.size wr w7 → w7.cell? ⟨bO, 4, none⟩ = some tv ∧ w7.frozen? ⟨bO, 4, none⟩ = false) := Lib.hid (fun w7 k => ⟨(FOi.out.belowB k HSZ5.out).c4, (FOi.out.belowB k HSZ5.out).fr 4⟩)
                      have hKY : ∀ v7 : Value, ∀ w7, PtOwn w7 W5.heap.size v7 (R ++ [((.slice A4 n4 cap4, cur) : Ps)]) → ∃ A n cap, v7 = .slice A n cap := fun v7 w7 o7 => by obtain ⟨A, cap, he, _⟩ := KOwn.row encP_len o7; exact ⟨A, _, cap, he⟩
                      go_wp2_with (at_builtin; refine wpList_append_krow ptTy encP_len (by rfl) _ _ (by rfl) W5.heap.size _ R (by rfl) oX _ [((.slice A4 n4 cap4, cur) : Ps)] (by rfl) kX hone' hl2 hbs7 ?_; intro v7 w7 o7 g7; have kG := hK7.out v7 w7 g7; obtain ⟨A7, n7, cap7, rfl⟩ := hKY v7 w7 o7; obtain ⟨o4, of4⟩ := HFZ.out w7 kG)
                      have FO7 := FOi.out.belowB kG HSZ5.out
                      have FO8 := Lib.hid (FO7.set4 (u := .slice A7 n7 cap7))
                      have O8 : Hid (PtOwn (w7.setCell ⟨bO, 4, none⟩ (.slice A7 n7 cap7)) W5.heap.size (.slice A7 n7 cap7) (R ++ [((.slice A4 n4 cap4, cur) : Ps)])) := Lib.hid (o7.ofBlock (fun z hz => Below.heap_setCell _ _ _ _ (by have h1 := own_ge o7 z hz; have h2 := HSZ5.out; show z ≠ bO; omega)))
                      have KB8 : Hid (Below bO W5 (w7.setCell ⟨bO, 4, none⟩ (.slice A7 n7 cap7))) := Lib.hid (Below.setCell (p := ⟨bO, 4, none⟩) (KBI.out.trans (kG.mono (by have := HSZ5.out; omega))) (Nat.le_refl _) _)
                      clear o7 g7 kG kA FO7 kX oX hone' hl2 hbs7 p0 p1 p2 p3 p4 p5 p6 p7 p8 pl
                      go_wp2_with fail
                      go_roundw
                      case rel => exact ⟨i + 1, _, _, hil, by go_num, Lib.hid (by rw [List.length_append, hrl]; rfl), O8, HPI2, HMI, FO8, KB8⟩
                      case measure => simp [intOf]; omega
                · have hall : (pts La).take i = pts La := List.take_of_length_le (by have := HNA.out; simp [pts]; omega)
                  rw [hall] at HPl
                  clear hall
                  have HH := Lib.hid hH
                  have HPl0 : Hid (pts R = (pts La).map (rep1 cmpP (pts Lb)) ++ ((pts Lb).take 0).filter fun q => !isIn cmpP (pts La) q) := Lib.hid (by rw [HPl.out]; simp)
                  have HRl0 : Hid (R.length ≤ n1 + 0) := Lib.hid (by have := hRl.out; omega)
                  clear hH HPl hRl FAr FBr KW hks
                  go_wp2_with fail
                  go_loopw [10] (fun i wr => ∃ (c : Nat) (tv : Value) (R : List Ps), c ≤ n2 ∧ i = .int .i64 (c : Nat) ∧ Hid (R.length ≤ n1 + c) ∧ Hid (PtOwn wr W5.heap.size tv R) ∧ Hid (pts R = (pts La).map (rep1 cmpP (pts Lb)) ++ ((pts Lb).take c).filter fun q => !isIn cmpP (pts La) q) ∧ Hid (∀ r ∈ R, r ∈ La ++ Lb) ∧ Hid (FamAt wr bO H tv) ∧ Hid (Below bO W5 wr)) (fun i _ => n2 - (intOf i).toNat)
                  case atStart => exact ⟨0, tv, R, Nat.zero_le _, rfl, HRl0, O1, HPl0, HM, FO, KB⟩
                  case round =>
                    clear HPl0 HRl0 O1 HM FO KB
                    obtain ⟨c, tv, R, hc, rfl, hRl, O1, HPl, HM, FO, KB⟩ := hrel
                    have hks := Lib.hid KB.out.size
                    have KW : Hid (Below w.heap.size w wr) := Lib.hid (K5.out.trans (KB.out.mono (by have := hbo2.out; omega)))
                    have FAr := Lib.hid (FA5.out.belowB KB.out (by have := hbo2.out; omega))
                    have FBr := Lib.hid (FB5.out.belowB KB.out (by have := hbo2.out; omega))
                    have z4 := FBr.out.c4
                    by_cases hcl : c < n2
                    · obtain ⟨b2, off2, rfl, hbs2, hc2⟩ := HRB.out (by omega)
                      obtain ⟨y, hy, hyp⟩ := ps_get (L := Lb) (i := c) (by rw [HNB.out]; omega)
                      have hym : y ∈ La ++ Lb := List.mem_append_right _ (List.mem_of_getElem? hy)
                      have HQB : Hid (∀ z, Below bO wr z → Nine z b2 (off2 + c * 9) y.1 y.2) := Lib.hid (fun z hz => (show Nine w b2 (off2 + c * 9) y.1 y.2 from pr_cells hc2 hy).belowB (KW.out.trans (hz.mono (by have := hbo2.out; omega))) hbs2)
                      have HBB : Hid (∀ z, Below bO wr z → z.cell? ⟨w.heap.size + 1, 4, none⟩ = some (.slice (some ⟨b2, off2, none⟩) n2 cap2)) := Lib.hid (fun z hz => (FBr.out.belowB hz (by have := hbo2.out; omega)).c4)
                      have HFI := Lib.hid (fun h => fl_in (a := pts La) hyp h)
                      have HFO := Lib.hid (fun h => fl_out (a := pts La) hyp h)
                      have HYM := Lib.hid hym
                      have hone := Lib.hid (HON.out _ hym)
                      have hc0 : (0 : Int) ≤ (c : Int) := by omega
                      have hcb : (c : Int) < (n2 : Int) := by omega
                      obtain ⟨A5, n5, cap5, hy1⟩ := HSL.out y hym
                      obtain ⟨yv, q⟩ := y
                      simp only at hy1
                      subst hy1
                      simp only at HQB HFI HFO
                      clear hc2 hy hyp hym hbs2
                      go_wp2_with fail
                      generalize wr = W1 at *
                      have hbs1 : bO < W1.heap.size := by have := hks.out; have := HSZ5.out; omega
                      go_loopw [11, 12] (fun fl j wi => ∃ m : Nat, m ≤ n1 ∧ fl = .bool (isIn cmpP ((pts La).take m) q) ∧ j = .int .i64 (m : Nat) ∧ Hid (Below W1.heap.size W1 wi)) (fun _ j _ => n1 - (intOf j).toNat)
                      case atStart => exact ⟨0, Nat.zero_le _, by rw [isIn_zero], rfl, Lib.hid (Below.refl _ _)⟩
                      case round =>
                        clear z4
                        obtain ⟨m, hm, rfl, rfl, HBi⟩ := hrel
                        have x4 := (FAr.out.below HBi.out).c4
                        by_cases hml : m < n1
                        · obtain ⟨b, off, rfl, hbs, hcx⟩ := HRA.out (by omega)
                          obtain ⟨x, hx, hxp⟩ := ps_get (L := La) (i := m) (by rw [HNA.out]; omega)
                          have hxm : x ∈ La ++ Lb := List.mem_append_left _ (List.mem_of_getElem? hx)
                          have HX9 : Hid (∀ z, Below wr.heap.size wr z → Nine z b (off + m * 9) x.1 x.2) := Lib.hid (fun z hz => (show Nine w b (off + m * 9) x.1 x.2 from pr_cells hcx hx).below (trans9 KW.out (trans9 HBi.out hz)) hbs)
                          have HA4 : Hid (∀ z, Below wr.heap.size wr z → z.cell? ⟨w.heap.size, 4, none⟩ = some (.slice (some ⟨b, off, none⟩) n1 cap1)) := Lib.hid (fun z hz => (FAr.out.below (trans9 HBi.out hz)).c4)
                          have HB4 : Hid (∀ z, Below wr.heap.size wr z → z.cell? ⟨w.heap.size + 1, 4, none⟩ = some (.slice (some ⟨b2, off2, none⟩) n2 cap2)) := Lib.hid (fun z hz => HBB.out z ((trans9 HBi.out hz).mono (by omega)))
                          have HQ9 : Hid (∀ z, Below W1.heap.size W1 z → Nine z b2 (off2 + c * 9) (.slice A5 n5 cap5) q) := Lib.hid (fun z hz => HQB.out z (hz.mono (by omega)))
                          have hcp := Lib.hid (fun W (hW : Below wr.heap.size wr W) => HCMP.out x hxm _ HYM.out W (trans9 KW.out (trans9 HBi.out hW)))
                          have hst : Hid (isIn cmpP ((pts La).take (m + 1)) q = (isIn cmpP ((pts La).take m) q || decide (cmpP x.2 q = 0))) := Lib.hid (isIn_step hxp)
                          have hm0 : (0 : Int) ≤ (m : Int) := by omega
                          have hmb : (m : Int) < (n1 : Int) := by omega
                          obtain ⟨A3, n3, cap3, hx1⟩ := HSL.out x hxm
                          obtain ⟨xv, p⟩ := x
                          simp only at hx1
                          subst hx1
                          simp only at HX9 hcp hst
                          clear hcx hx hxp hxm hbs
                          generalize isIn cmpP ((pts La).take m) q = C0 at *
                          generalize cmpP p q = C at *
                          cases C0 with
                          | true =>
                            have hst2 : Hid (isIn cmpP ((pts La).take (m + 1)) q = true) := Lib.hid (by rw [hst.out]; rfl)
                            clear hst
                            go_wp2_with fail
                            refine wp_region_noPanic ?_
                            refine wp_region_held_drew (S := fun X => Below wr.heap.size wr X) (by kernel_rfl) ?_ (fun hHeld => ?_)
                            · exact Below.drew (Below.refl _ _)
                            have kB : Below wr.heap.size wr wr.drew := Below.drew (Below.refl _ _)
                            clear hHeld
                            refine tk9 0 kB ?_
                            refine tk9 1 kB ?_
                            refine tk9 2 kB ?_ (v := undef) (hy := Or.inr ⟨by rfl, rfl⟩)
                            refine tk9 3 kB ?_ (v := undef) (hy := Or.inr ⟨by rfl, rfl⟩)
                            refine tk9 4 kB ?_ (v := undef) (hy := Or.inr ⟨by rfl, rfl⟩)
                            refine tk9 5 kB ?_ (v := undef) (hy := Or.inr ⟨by rfl, rfl⟩)
                            refine tk9 6 kB ?_ (v := undef) (hy := Or.inr ⟨by rfl, rfl⟩)
                            refine tk9 7 kB ?_ (v := undef) (hy := Or.inr ⟨by rfl, rfl⟩)
                            refine tk9 8 kB ?_ (v := undef) (hy := Or.inr ⟨by rfl, rfl⟩)
                            refine tk9 9 kB ?_ (v := undef) (hy := Or.inr ⟨by rfl, rfl⟩)
                            refine tk9 10 kB ?_ (v := undef) (hy := Or.inr ⟨by rfl, rfl⟩)
                            refine tk9 11 kB ?_ (v := undef) (hy := Or.inr ⟨by rfl, rfl⟩)
                            refine tk9 12 kB ?_ (v := undef) (hy := Or.inr ⟨by rfl, rfl⟩)
                            refine tk9 13 kB ?_ (v := undef) (hy := Or.inr ⟨by rfl, rfl⟩)
                            refine tk9 14 kB ?_
                            refine tk9 15 kB ?_
                            refine wpAnyH_done (by kernel_rfl) ?_ _
                            refine NoPanic.normal ?_
                            go_wp2_with fail
                            go_roundw
                            case rel => exact ⟨m + 1, hml, by rw [hst2.out], by go_num, Lib.hid (trans9 HBi.out kB)⟩
                            case measure => simp [intOf]; omega
                          | false =>
                            by_cases hC : C = 0
                            · have hne : (C == 0) = true := by simpa using hC
                              have hst2 : Hid (isIn cmpP ((pts La).take (m + 1)) q = true) := Lib.hid (by rw [hst.out, decide_eq_true hC]; rfl)
                              clear hst hC
                              go_wp2_with fail
                              refine wp_region_noPanic ?_
                              refine wp_region_held_drew (S := fun X => Below wr.heap.size wr X) (by kernel_rfl) ?_ (fun hHeld => ?_)
                              · exact Below.drew (Below.refl _ _)
                              have kB : Below wr.heap.size wr wr.drew := Below.drew (Below.refl _ _)
                              clear hHeld
                              refine tk9 0 kB ?_
                              refine tk9 1 kB ?_
                              refine tk9 2 kB ?_
                              refine tk9 3 kB ?_ (hy := Or.inl ⟨by rfl, by intro x hSw; (try dsimp only at hSw); have x4 := HA4.out x hSw; first | (go_simp; done) | (go_simp; with_reducible rfl)⟩)
                              refine tk9 4 kB ?_
                              refine tk9 5 kB ?_
                              refine tk9 6 kB ?_ (hy := Or.inl ⟨by rfl, by intro x hSw; (try dsimp only at hSw); obtain ⟨p0, p1, p2, p3, p4, p5, p6, p7, p8⟩ := HX9.out x hSw; first | (go_simp; done) | (go_simp; with_reducible rfl)⟩)
                              refine tk9 7 kB ?_
                              refine tk9 8 kB ?_ (hy := Or.inl ⟨by rfl, by intro x hSw; (try dsimp only at hSw); have x4 := HB4.out x hSw; first | (go_simp; done) | (go_simp; with_reducible rfl)⟩)
                              refine tk9 9 kB ?_
                              refine tk9 10 kB ?_
                              refine tk9 11 kB ?_ (hy := Or.inl ⟨by rfl, by intro x hSw; (try dsimp only at hSw); obtain ⟨y0, y1, y2, y3, y4, y5, y6, y7, y8⟩ := HQ9.out x (trans9 HBi.out hSw); first | (go_simp; done) | (go_simp; with_reducible rfl)⟩)
                              refine wpAnyH_ready (rs := [12]) (by kernel_rfl) (by simp) ?_
                              refine AllReadyH.cons (by simp only [List.getElem?_toArray, List.getElem?_cons_succ, List.getElem?_cons_zero]; rfl) (fun K hK => ?_) AllReadyH.nil
                              try go_simp
                              refine (hcp.out _ kB).mono ?_; rintro e w5 ⟨rfl, b5⟩
                              replace kB := trans9 kB b5
                              clear b5
                              try go_wp2_with fail
                              refine hK.out _ _ kB (fun hHeld => ?_)
                              clear hK K hHeld
                              (try simp only [Act.put, List.setIfInBounds_toArray, List.set_cons_zero, List.set_cons_succ])
                              refine tk9 13 kB ?_
                              refine tk9 14 kB ?_
                              refine tk9 15 kB ?_
                              refine wpAnyH_done (by kernel_rfl) ?_ _
                              refine NoPanic.normal ?_
                              go_wp2_with fail
                              go_roundw
                              case rel => exact ⟨m + 1, hml, by rw [hst2.out], by go_num, Lib.hid (trans9 HBi.out kB)⟩
                              case measure => simp [intOf]; omega
                            · have hne : (C == 0) = false := by simpa using hC
                              have hst2 : Hid (isIn cmpP ((pts La).take (m + 1)) q = false) := Lib.hid (by rw [hst.out, decide_eq_false hC]; rfl)
                              clear hst hC
                              go_wp2_with fail
                              refine wp_region_noPanic ?_
                              refine wp_region_held_drew (S := fun X => Below wr.heap.size wr X) (by kernel_rfl) ?_ (fun hHeld => ?_)
                              · exact Below.drew (Below.refl _ _)
                              have kB : Below wr.heap.size wr wr.drew := Below.drew (Below.refl _ _)
                              clear hHeld
                              refine tk9 0 kB ?_
                              refine tk9 1 kB ?_
                              refine tk9 2 kB ?_
                              refine tk9 3 kB ?_ (hy := Or.inl ⟨by rfl, by intro x hSw; (try dsimp only at hSw); have x4 := HA4.out x hSw; first | (go_simp; done) | (go_simp; with_reducible rfl)⟩)
                              refine tk9 4 kB ?_
                              refine tk9 5 kB ?_
                              refine tk9 6 kB ?_ (hy := Or.inl ⟨by rfl, by intro x hSw; (try dsimp only at hSw); obtain ⟨p0, p1, p2, p3, p4, p5, p6, p7, p8⟩ := HX9.out x hSw; first | (go_simp; done) | (go_simp; with_reducible rfl)⟩)
                              refine tk9 7 kB ?_
                              refine tk9 8 kB ?_ (hy := Or.inl ⟨by rfl, by intro x hSw; (try dsimp only at hSw); have x4 := HB4.out x hSw; first | (go_simp; done) | (go_simp; with_reducible rfl)⟩)
                              refine tk9 9 kB ?_
                              refine tk9 10 kB ?_
                              refine tk9 11 kB ?_ (hy := Or.inl ⟨by rfl, by intro x hSw; (try dsimp only at hSw); obtain ⟨y0, y1, y2, y3, y4, y5, y6, y7, y8⟩ := HQ9.out x (trans9 HBi.out hSw); first | (go_simp; done) | (go_simp; with_reducible rfl)⟩)
                              refine wpAnyH_ready (rs := [12]) (by kernel_rfl) (by simp) ?_
                              refine AllReadyH.cons (by simp only [List.getElem?_toArray, List.getElem?_cons_succ, List.getElem?_cons_zero]; rfl) (fun K hK => ?_) AllReadyH.nil
                              try go_simp
                              refine (hcp.out _ kB).mono ?_; rintro e w5 ⟨rfl, b5⟩
                              replace kB := trans9 kB b5
                              clear b5
                              try go_wp2_with fail
                              refine hK.out _ _ kB (fun hHeld => ?_)
                              clear hK K hHeld
                              (try simp only [Act.put, List.setIfInBounds_toArray, List.set_cons_zero, List.set_cons_succ])
                              refine tk9 13 kB ?_
                              refine tk9 14 kB ?_
                              refine tk9 15 kB ?_
                              refine wpAnyH_done (by kernel_rfl) ?_ _
                              refine NoPanic.normal ?_
                              go_wp2_with fail
                              go_roundw
                              case rel => exact ⟨m + 1, hml, by rw [hst2.out], by go_num, Lib.hid (trans9 HBi.out kB)⟩
                              case measure => simp [intOf]; omega
                        · have hall : (pts La).take m = pts La := List.take_of_length_le (by have := HNA.out; simp [pts]; omega)
                          rw [hall]
                          have KB2 : Hid (Below bO W5 wr) := Lib.hid (KB.out.trans (HBi.out.mono (by omega)))
                          have O2 := Lib.hid (O1.out.below HBi.out)
                          have A2' := Lib.hid (FO.out.below HBi.out)
                          have HS2 : Hid (W5.heap.size ≤ wr.heap.size) := Lib.hid (Nat.le_trans hks.out HBi.out.size)
                          cases hC : isIn cmpP (pts La) q with
                          | true =>
                            have hr := Lib.hid (HFI.out hC)
                            have HPn : Hid (pts R = (pts La).map (rep1 cmpP (pts Lb)) ++ ((pts Lb).take (c + 1)).filter fun q => !isIn cmpP (pts La) q) := Lib.hid (by rw [hr.out]; exact HPl.out)
                            clear hall HFI HFO hC
                            go_wp2_with fail
                            go_roundw
                            case rel => exact ⟨c + 1, tv, R, hcl, by go_num, Lib.hid (by have := hRl.out; omega), O2, HPn, HM, A2', KB2⟩
                            case measure => simp [intOf]; omega
                          | false =>
                            have hr := Lib.hid (HFO.out hC)
                            have HPn : Hid (pts (R ++ [((.slice A5 n5 cap5, q) : Ps)]) = (pts La).map (rep1 cmpP (pts Lb)) ++ ((pts Lb).take (c + 1)).filter fun q => !isIn cmpP (pts La) q) := Lib.hid (by rw [hr.out, ← List.append_assoc, ← HPl.out]; simp [pts])
                            have HMn : Hid (∀ r ∈ R ++ [((.slice A5 n5 cap5, q) : Ps)], r ∈ La ++ Lb) := Lib.hid (fun r hr => by
                              rcases List.mem_append.1 hr with h | h
                              · exact HM.out r h
                              · rw [List.mem_singleton.1 h]; exact HYM.out)
                            have hrl := hRl.out
                            have HG4 : Hid (∀ z, Below bO wr z → z.cell? ⟨w.heap.size + 1, 4, none⟩ = some (.slice (some ⟨b2, off2, none⟩) n2 cap2)) := Lib.hid (fun z hz => HBB.out z ((HBi.out.mono (by omega)).trans hz))
                            have HG9 : Hid (∀ z, Below bO wr z → Nine z b2 (off2 + c * 9) (.slice A5 n5 cap5) q) := Lib.hid (fun z hz => HQB.out z ((HBi.out.mono (by omega)).trans hz))
                            clear hall HFI HFO hC
                            go_wp2_with fail
                            generalize wr = W2 at *
                            refine wp_region_noPanic ?_
                            refine wp_region_held_drew (S := fun X => Below bO W2 X) (by kernel_rfl) ?_ (fun hHeld => ?_)
                            · exact Below.drew (Below.refl _ _)
                            have kB : Below bO W2 W2.drew := Below.drew (Below.refl _ _)
                            clear hHeld
                            have kF : Below W2.heap.size W2 W2.drew := Below.drew (Below.refl _ _)
                            have kG : Below W5.heap.size W2 W2.drew := Below.drew (Below.refl _ _)
                            refine tk9 0 kB ?_
                            refine tk9 2 kB ?_
                            refine tk9 3 kB ?_ (hy := Or.inl ⟨by rfl, by intro x hSw; (try dsimp only at hSw); have x4 := HG4.out x hSw; first | (go_simp; done) | (go_simp; with_reducible rfl)⟩)
                            refine tk9 4 kB ?_
                            refine tk9 5 kB ?_
                            refine tk9 6 kB ?_ (hy := Or.inl ⟨by rfl, by intro x hSw; (try dsimp only at hSw); obtain ⟨y0, y1, y2, y3, y4, y5, y6, y7, y8⟩ := HG9.out x hSw; first | (go_simp; done) | (go_simp; with_reducible rfl)⟩)
                            refine wpAnyH_ready (rs := [1, 7]) (by kernel_rfl) (by simp) ?_
                            refine AllReadyH.cons (by simp only [List.getElem?_toArray, List.getElem?_cons_succ, List.getElem?_cons_zero]; rfl) (fun K hK => ?_) ?_
                            · have yA := A2'.out.belowB kG (HSZ5.out)
                              obtain ⟨z0, z1, z2, z3, z4, zf, zl⟩ := A2'.out
                              obtain ⟨y0, y1, y2, y3, y4, yf, yl⟩ := yA
                              go_simp
                              clear y0 y1 y2 y3 y4 yf yl z0 z1 z2 z3 z4 zf zl
                              refine hK.out _ _ kB (fun hHeld => ?_)
                              clear hK K hHeld
                              (try simp only [Act.put, List.setIfInBounds_toArray, List.set_cons_zero, List.set_cons_succ])
                              refine wpAnyH_ready (rs := [7]) (by kernel_rfl) (by simp) ?_
                              refine AllReadyH.cons (by simp only [List.getElem?_toArray, List.getElem?_cons_succ, List.getElem?_cons_zero]; rfl) (fun K hK => ?_) AllReadyH.nil
                              go_simp
                              have kX : KRow _ _ (W2.alloc (.cells #[.slice A5 n5 cap5, .int .i64 q.ro, .bool q.inf, .int .i64 q.bm, .int .i64 q.bs, .int .i64 q.m, .int .i64 q.s, .bool q.td, .int .i64 q.ti] 53)).drew (.slice (some ⟨W2.heap.size, 0, none⟩) 1 1) [((.slice A5 n5 cap5, q) : Ps)] := new_pt W2 (.slice A5 n5 cap5) q
                              replace kB : Below bO W2 ((W2.alloc (.cells #[.slice A5 n5 cap5, .int .i64 q.ro, .bool q.inf, .int .i64 q.bm, .int .i64 q.bs, .int .i64 q.m, .int .i64 q.s, .bool q.td, .int .i64 q.ti] 53)).drew) := Below.drew (kb_alloc (Below.refl _ _) (by have := HSZ5.out; have := HS2.out; omega) _)
                              replace kF : Below W2.heap.size W2 ((W2.alloc (.cells #[.slice A5 n5 cap5, .int .i64 q.ro, .bool q.inf, .int .i64 q.bm, .int .i64 q.bs, .int .i64 q.m, .int .i64 q.s, .bool q.td, .int .i64 q.ti] 53)).drew) := Below.drew (kp_alloc (Below.refl _ _) _)
                              replace kG : Below W5.heap.size W2 ((W2.alloc (.cells #[.slice A5 n5 cap5, .int .i64 q.ro, .bool q.inf, .int .i64 q.bm, .int .i64 q.bs, .int .i64 q.m, .int .i64 q.s, .bool q.td, .int .i64 q.ti] 53)).drew) := Below.drew (kb_alloc (Below.refl _ _) (HS2.out) _)
                              obtain ⟨W6, hW6⟩ : ∃ X, X = (W2.alloc (.cells #[.slice A5 n5 cap5, .int .i64 q.ro, .bool q.inf, .int .i64 q.bm, .int .i64 q.bs, .int .i64 q.m, .int .i64 q.s, .bool q.td, .int .i64 q.ti] 53)).drew := ⟨_, rfl⟩
                              rw [← hW6] at kB kF kG kX ⊢
                              clear hW6
                              obtain ⟨xb, hxb⟩ : ∃ X, X = W2.heap.size := ⟨_, rfl⟩
                              have kX2 := kX
                              rw [← hxb] at kX2 ⊢
                              clear kX hxb
                              have kX := kX2
                              clear kX2
                              refine hK.out _ _ kB (fun hHeld => ?_)
                              clear hK K hHeld
                              (try simp only [Act.put, List.setIfInBounds_toArray, List.set_cons_zero, List.set_cons_succ])
                              refine wpAnyH_ready (rs := [8]) (by kernel_rfl) (by simp) ?_
                              refine AllReadyH.cons (by simp only [List.getElem?_toArray, List.getElem?_cons_succ, List.getElem?_cons_zero]; rfl) (fun K hK => ?_) AllReadyH.nil
                              have o5 := (O2.out).below kF
                              refine step_append_krow ptTy encP_len (by rfl) (.tmp 131) (.tmp 137) (by rfl) W5.heap.size _ (R) (by rfl) o5 _ [((.slice A5 n5 cap5, q) : Ps)] (by rfl) kX (fun z hz => by rw [List.mem_singleton.1 hz]; exact hone.out) (by simp; omega) (Nat.le_trans (HS2.out) kF.size) ?_
                              intro v7 w7 o7 g7
                              replace kB := Below.grown kB g7 (Nat.le_trans (by have := HSZ5.out; have := HS2.out; omega) kF.size) (fun q hq => Nat.le_trans (by have := HSZ5.out; omega) (own_ge o5 q hq))
                              replace kG := Below.grown kG g7 (Nat.le_trans (HS2.out) kF.size) (fun q hq => own_ge o5 q hq)
                              have hl7 := g7.size
                              have hl8 := kF.size
                              clear o5 g7 kX kF
                              refine hK.out _ _ kB (fun hHeld => ?_)
                              clear hK K hHeld
                              (try simp only [Act.put, List.setIfInBounds_toArray, List.set_cons_zero, List.set_cons_succ])
                              refine tk9 9 kB ?_
                              refine wpAnyH_ready (rs := [10]) (by kernel_rfl) (by simp) ?_
                              refine AllReadyH.cons (by simp only [List.getElem?_toArray, List.getElem?_cons_succ, List.getElem?_cons_zero]; rfl) (fun K hK => ?_) AllReadyH.nil
                              obtain ⟨As, ns, cs, rfl⟩ : ∃ A n cap, v7 = .slice A n cap := (by obtain ⟨A, cap, he, _⟩ := KOwn.row encP_len o7; exact ⟨A, _, cap, he⟩)
                              have yA := A2'.out.belowB kG (HSZ5.out)
                              have kA := FamAt.set4 yA (u := .slice As ns cs)
                              have kO := KOwn.ofBlock (X := w7.setCell ⟨bO, 4, none⟩ (.slice As ns cs)) o7 (fun q hq => Below.heap_setCell _ _ _ _ (by have h1 := own_ge o7 q hq; have h2 : bO < W5.heap.size := HSZ5.out; show q ≠ bO; omega))
                              obtain ⟨y0, y1, y2, y3, y4, yf, yl⟩ := yA
                              go_simp
                              replace kB := Below.setCell kB (p := ⟨bO, 4, none⟩) (by first | exact Nat.le_refl _ | (show _ ≤ _; omega)) (.slice As ns cs)
                              clear y0 y1 y2 y3 y4 yf yl o7 kG hl7 hl8
                              refine hK.out _ _ kB (fun hHeld => ?_)
                              clear hK K hHeld
                              (try simp only [Act.put, List.setIfInBounds_toArray, List.set_cons_zero, List.set_cons_succ])
                              refine wpAnyH_done (by kernel_rfl) ?_ _
                              refine NoPanic.normal ?_
                              have HB8 := Lib.hid (KB2.out.trans kB)
                              go_wp2_with fail
                              go_roundw
                              case rel => exact ⟨c + 1, _, _, hcl, by go_num, Lib.hid (by rw [List.length_append]; simp; omega), Lib.hid kO, HPn, HMn, Lib.hid kA, HB8⟩
                              case measure => simp [intOf]; omega
                            refine AllReadyH.cons (by simp only [List.getElem?_toArray, List.getElem?_cons_succ, List.getElem?_cons_zero]; rfl) (fun K hK => ?_) AllReadyH.nil
                            go_simp
                            have kX : KRow _ _ (W2.alloc (.cells #[.slice A5 n5 cap5, .int .i64 q.ro, .bool q.inf, .int .i64 q.bm, .int .i64 q.bs, .int .i64 q.m, .int .i64 q.s, .bool q.td, .int .i64 q.ti] 53)).drew (.slice (some ⟨W2.heap.size, 0, none⟩) 1 1) [((.slice A5 n5 cap5, q) : Ps)] := new_pt W2 (.slice A5 n5 cap5) q
                            replace kB : Below bO W2 ((W2.alloc (.cells #[.slice A5 n5 cap5, .int .i64 q.ro, .bool q.inf, .int .i64 q.bm, .int .i64 q.bs, .int .i64 q.m, .int .i64 q.s, .bool q.td, .int .i64 q.ti] 53)).drew) := Below.drew (kb_alloc (Below.refl _ _) (by have := HSZ5.out; have := HS2.out; omega) _)
                            replace kF : Below W2.heap.size W2 ((W2.alloc (.cells #[.slice A5 n5 cap5, .int .i64 q.ro, .bool q.inf, .int .i64 q.bm, .int .i64 q.bs, .int .i64 q.m, .int .i64 q.s, .bool q.td, .int .i64 q.ti] 53)).drew) := Below.drew (kp_alloc (Below.refl _ _) _)
                            replace kG : Below W5.heap.size W2 ((W2.alloc (.cells #[.slice A5 n5 cap5, .int .i64 q.ro, .bool q.inf, .int .i64 q.bm, .int .i64 q.bs, .int .i64 q.m, .int .i64 q.s, .bool q.td, .int .i64 q.ti] 53)).drew) := Below.drew (kb_alloc (Below.refl _ _) (HS2.out) _)
                            obtain ⟨W6, hW6⟩ : ∃ X, X = (W2.alloc (.cells #[.slice A5 n5 cap5, .int .i64 q.ro, .bool q.inf, .int .i64 q.bm, .int .i64 q.bs, .int .i64 q.m, .int .i64 q.s, .bool q.td, .int .i64 q.ti] 53)).drew := ⟨_, rfl⟩
                            rw [← hW6] at kB kF kG kX ⊢
                            clear hW6
                            obtain ⟨xb, hxb⟩ : ∃ X, X = W2.heap.size := ⟨_, rfl⟩
                            have kX2 := kX
                            rw [← hxb] at kX2 ⊢
                            clear kX hxb
                            have kX := kX2
                            clear kX2
                            refine hK.out _ _ kB (fun hHeld => ?_)
                            clear hK K hHeld
                            (try simp only [Act.put, List.setIfInBounds_toArray, List.set_cons_zero, List.set_cons_succ])
                            refine wpAnyH_ready (rs := [1]) (by kernel_rfl) (by simp) ?_
                            refine AllReadyH.cons (by simp only [List.getElem?_toArray, List.getElem?_cons_succ, List.getElem?_cons_zero]; rfl) (fun K hK => ?_) AllReadyH.nil
                            have yA := A2'.out.belowB kG (HSZ5.out)
                            obtain ⟨z0, z1, z2, z3, z4, zf, zl⟩ := A2'.out
                            obtain ⟨y0, y1, y2, y3, y4, yf, yl⟩ := yA
                            go_simp
                            clear y0 y1 y2 y3 y4 yf yl z0 z1 z2 z3 z4 zf zl
                            refine hK.out _ _ kB (fun hHeld => ?_)
                            clear hK K hHeld
                            (try simp only [Act.put, List.setIfInBounds_toArray, List.set_cons_zero, List.set_cons_succ])
                            refine wpAnyH_ready (rs := [8]) (by kernel_rfl) (by simp) ?_
                            refine AllReadyH.cons (by simp only [List.getElem?_toArray, List.getElem?_cons_succ, List.getElem?_cons_zero]; rfl) (fun K hK => ?_) AllReadyH.nil
                            have o5 := (O2.out).below kF
                            refine step_append_krow ptTy encP_len (by rfl) (.tmp 131) (.tmp 137) (by rfl) W5.heap.size _ (R) (by rfl) o5 _ [((.slice A5 n5 cap5, q) : Ps)] (by rfl) kX (fun z hz => by rw [List.mem_singleton.1 hz]; exact hone.out) (by simp; omega) (Nat.le_trans (HS2.out) kF.size) ?_
                            intro v7 w7 o7 g7
                            replace kB := Below.grown kB g7 (Nat.le_trans (by have := HSZ5.out; have := HS2.out; omega) kF.size) (fun q hq => Nat.le_trans (by have := HSZ5.out; omega) (own_ge o5 q hq))
                            replace kG := Below.grown kG g7 (Nat.le_trans (HS2.out) kF.size) (fun q hq => own_ge o5 q hq)
                            have hl7 := g7.size
                            have hl8 := kF.size
                            clear o5 g7 kX kF
                            refine hK.out _ _ kB (fun hHeld => ?_)
                            clear hK K hHeld
                            (try simp only [Act.put, List.setIfInBounds_toArray, List.set_cons_zero, List.set_cons_succ])
                            refine tk9 9 kB ?_
                            refine wpAnyH_ready (rs := [10]) (by kernel_rfl) (by simp) ?_
                            refine AllReadyH.cons (by simp only [List.getElem?_toArray, List.getElem?_cons_succ, List.getElem?_cons_zero]; rfl) (fun K hK => ?_) AllReadyH.nil
                            obtain ⟨As, ns, cs, rfl⟩ : ∃ A n cap, v7 = .slice A n cap := (by obtain ⟨A, cap, he, _⟩ := KOwn.row encP_len o7; exact ⟨A, _, cap, he⟩)
                            have yA := A2'.out.belowB kG (HSZ5.out)
                            have kA := FamAt.set4 yA (u := .slice As ns cs)
                            have kO := KOwn.ofBlock (X := w7.setCell ⟨bO, 4, none⟩ (.slice As ns cs)) o7 (fun q hq => Below.heap_setCell _ _ _ _ (by have h1 := own_ge o7 q hq; have h2 : bO < W5.heap.size := HSZ5.out; show q ≠ bO; omega))
                            obtain ⟨y0, y1, y2, y3, y4, yf, yl⟩ := yA
                            go_simp
                            replace kB := Below.setCell kB (p := ⟨bO, 4, none⟩) (by first | exact Nat.le_refl _ | (show _ ≤ _; omega)) (.slice As ns cs)
                            clear y0 y1 y2 y3 y4 yf yl o7 kG hl7 hl8
                            refine hK.out _ _ kB (fun hHeld => ?_)
                            clear hK K hHeld
                            (try simp only [Act.put, List.setIfInBounds_toArray, List.set_cons_zero, List.set_cons_succ])
                            refine wpAnyH_done (by kernel_rfl) ?_ _
                            refine NoPanic.normal ?_
                            have HB8 := Lib.hid (KB2.out.trans kB)
                            go_wp2_with fail
                            go_roundw
                            case rel => exact ⟨c + 1, _, _, hcl, by go_num, Lib.hid (by rw [List.length_append]; simp; omega), Lib.hid kO, HPn, HMn, Lib.hid kA, HB8⟩
                            case measure => simp [intOf]; omega
                    · have hall : (pts Lb).take c = pts Lb := List.take_of_length_le (by have := HNB.out; simp [pts]; omega)
                      rw [hall] at HPl
                      have HPR : Hid (pts R = putRow cmpP (pts La) (pts Lb)) := HPl
                      have HRow : PtRow wr tv R := ⟨KOwn.row encP_len O1.out, fun r hr => ⟨(HPI.out r (HM.out r hr)).1.below KW.out, (HPI.out r (HM.out r hr)).2⟩⟩
                      obtain ⟨A6, n6, cap6, htv⟩ : ∃ A n cap, tv = .slice A n cap := by obtain ⟨A, cap, he, _⟩ := HRow.1; exact ⟨A, _, cap, he⟩
                      subst htv
                      have hso := Lib.hid (rsortfam_calls H R (.slice A6 n6 cap6) wr HRow (by have := hRl.out; omega) (by rw [HPR.out]; exact putRow_nd tp_cmpP (strictT_nd hsa.out) (strictT_nd hsb.out)))
                      have FRr := Lib.hid (FR5.out.belowB KB.out (by have := hbo2.out; omega))
                      obtain ⟨o0, o1, o2, o3, o4, og, ol⟩ := FO.out
                      clear hall HRow og HPl
                      go_wp2_with fail
                      refine hso.out.mono ?_; rintro e w8 ⟨⟨A8, n8, cap8, M, rfl, o8, pm8, st8⟩, b8⟩
                      have HMM : Hid (pts M = mrgP (pts La) (pts Lb)) := Lib.hid (putRow_sort hsa.out hsb.out HPR.out (pm8.map _) st8)
                      have hr2 : Hid (O = some (H, pts M)) := Lib.hid (by rw [hr.out, HH.out, HMM.out]; rfl)
                      have FR8 := Lib.hid (FRr.out.below b8)
                      have K8 := Lib.hid (trans9 KW.out b8)
                      have KX : Hid (Below w.heap.size w (((((w8.setCell ⟨w.heap.size + 1 + 1, 0, none⟩ (.string (str H.n))).setCell ⟨w.heap.size + 1 + 1, 1, none⟩ (.int .i64 H.k)).setCell ⟨w.heap.size + 1 + 1, 2, none⟩ (.string (str H.u))).setCell ⟨w.heap.size + 1 + 1, 3, none⟩ (.string (str H.h))).setCell ⟨w.heap.size + 1 + 1, 4, none⟩ (.slice A8 n8 cap8))) := Lib.hid ((((((K8.out).setCell (by show w.heap.size ≤ w.heap.size + 1 + 1; omega) _).setCell (by show w.heap.size ≤ w.heap.size + 1 + 1; omega) _).setCell (by show w.heap.size ≤ w.heap.size + 1 + 1; omega) _).setCell (by show w.heap.size ≤ w.heap.size + 1 + 1; omega) _).setCell (by show w.heap.size ≤ w.heap.size + 1 + 1; omega) _)
                      have OX : Hid (PtOwn (((((w8.setCell ⟨w.heap.size + 1 + 1, 0, none⟩ (.string (str H.n))).setCell ⟨w.heap.size + 1 + 1, 1, none⟩ (.int .i64 H.k)).setCell ⟨w.heap.size + 1 + 1, 2, none⟩ (.string (str H.u))).setCell ⟨w.heap.size + 1 + 1, 3, none⟩ (.string (str H.h))).setCell ⟨w.heap.size + 1 + 1, 4, none⟩ (.slice A8 n8 cap8)) wr.heap.size (.slice A8 n8 cap8) M) := Lib.hid (o8.ofBlock (fun z hz => by
                        have h1 := own_ge o8 z hz
                        have h2 := FRr.out.lt
                        have hne : z ≠ w.heap.size + 1 + 1 := by omega
                        rw [Below.heap_setCell _ _ _ _ hne, Below.heap_setCell _ _ _ _ hne, Below.heap_setCell _ _ _ _ hne, Below.heap_setCell _ _ _ _ hne, Below.heap_setCell _ _ _ _ hne]))
                      have hmem : ∀ z ∈ M, z ∈ La ++ Lb := fun z hz => HM.out z (pm8.mem_iff.1 hz)
                      have hsw : w.heap.size ≤ wr.heap.size := KW.out.size
                      have kx := KX.out
                      have ox := OX.out
                      skip
                      have HPO := Lib.hid (HOFF.out _ _ _ _ kx ox hsw hmem)
                      clear hmem hsw kx ox
                      clear o8 pm8 st8 b8 hso o0 o1 o2 o3 o4 ol z4
                      obtain ⟨y0, y1, y2, y3, y4, yf, yl⟩ := FR8.out
                      skip
                      go_wp2_with ((with_reducible refine bodyPost_ret (v := .tuple #[.agg #[.string (str H.n), .int .i64 H.k, .string (str H.u), .string (str H.h), .slice A8 n8 cap8], .bool true]) ?hr rfl ?hR); (case hr => simp [results, Tryz.results16, go_sem, y0, y1, y2, y3, y4]); (case hR => exact ⟨RPut.yes hr2.out HPO.out, KX.out⟩))
    · have d1 : (k == k') = false := by simpa using hk
      have d2 : decide (k = k') = false := decide_eq_false hk
      have hr := Lib.hid (hNO.out (fun h => hk h.2.1))
      clear hYES hNO hGA hGB hSA hSB HRA HRB HPA HPB HOFF HNA HNB hca1 hcm1 hca2 hcm2
      obtain ⟨x0, x1, x2, x3, x4, xf, xl⟩ := FA.out
      obtain ⟨z0, z1, z2, z3, z4, zf, zl⟩ := FB.out
      obtain ⟨y0, y1, y2, y3, y4, yf, yl⟩ := FR.out
      go_wp2_with ((with_reducible refine bodyPost_ret (v := .tuple #[.agg #[.string ⟨#[]⟩, .int .i64 0, .string ⟨#[]⟩, .string ⟨#[]⟩, .slice none 0 0], .bool false]) ?hr rfl ?hR); (case hr => simp [results, Tryz.results16, go_sem, y0, y1, y2, y3, y4]); (case hR => exact ⟨RPut.no hr.out, (((((K0.out).setCell (by show w.heap.size ≤ w.heap.size + 1 + 1; omega) _).setCell (by show w.heap.size ≤ w.heap.size + 1 + 1; omega) _).setCell (by show w.heap.size ≤ w.heap.size + 1 + 1; omega) _).setCell (by show w.heap.size ≤ w.heap.size + 1 + 1; omega) _).setCell (by show w.heap.size ≤ w.heap.size + 1 + 1; omega) _⟩))
  · have d1 : (n == n') = false := by simpa using hn
    have d2 : decide (n = n') = false := decide_eq_false hn
    have hr := Lib.hid (hNO.out (fun h => hn h.1))
    clear hYES hNO hGA hGB hSA hSB HRA HRB HPA HPB HOFF HNA HNB hca1 hcm1 hca2 hcm2
    obtain ⟨x0, x1, x2, x3, x4, xf, xl⟩ := FA.out
    obtain ⟨z0, z1, z2, z3, z4, zf, zl⟩ := FB.out
    obtain ⟨y0, y1, y2, y3, y4, yf, yl⟩ := FR.out
    go_wp2_with ((with_reducible refine bodyPost_ret (v := .tuple #[.agg #[.string ⟨#[]⟩, .int .i64 0, .string ⟨#[]⟩, .string ⟨#[]⟩, .slice none 0 0], .bool false]) ?hr rfl ?hR); (case hr => simp [results, Tryz.results16, go_sem, y0, y1, y2, y3, y4]); (case hR => exact ⟨RPut.no hr.out, (((((K0.out).setCell (by show w.heap.size ≤ w.heap.size + 1 + 1; omega) _).setCell (by show w.heap.size ≤ w.heap.size + 1 + 1; omega) _).setCell (by show w.heap.size ≤ w.heap.size + 1 + 1; omega) _).setCell (by show w.heap.size ≤ w.heap.size + 1 + 1; omega) _).setCell (by show w.heap.size ≤ w.heap.size + 1 + 1; omega) _⟩))

end Go.Proofs.YtjeefgamkoeiaaaGreatDoor

/- The walk of the reference's Minus. -/
set_option maxRecDepth 100000
set_option linter.unusedVariables false
set_option linter.unusedSimpArgs false
namespace Go.Proofs.YtjeefgamkoeiaaaGreatDoor
open Go.RowKit Go.Sort Dc
attribute [local go_sem ↓] Go.wp_at_zero Go.wp_at_succ

theorem bat_same {w w' : World} {b : Nat} {t : List UInt8} {v : Value} (k : BatAt w b t v) (e : w'.heap[b]? = w.heap[b]?) (hl : b < w'.heap.size) : BatAt w' b t v :=
  ⟨(World.cell?_of_block (a := ⟨b, 0, none⟩) e).trans k.c0, (World.cell?_of_block (a := ⟨b, 1, none⟩) e).trans k.c1, fun o => (World.frozen?_of_block (a := ⟨b, o, none⟩) e).trans (k.fr o), hl⟩
theorem KRow.drew' {α : Type} {enc : α → List Value} {k : Nat} {w : World} {v : Value} {l : List α} (h : KRow enc k w v l) : KRow enc k w.drew v l := h.below (Below.drew (Below.refl _ _))
set_option maxHeartbeats 16000000 in
theorem rbminus_calls (t : List UInt8) (F : List Fs) (v u : Value) (n : Nat) (es : Nat → ByteArray) (w : World) (hv : FmRow w v F) (hf : FmFew F) (hu : StrRow w u n es) :
    Calls Tryz.prog 14 #[batv t v, u] w fun e w' => (∃ A m cap M, e = .returned (batv t (.slice A m cap)) ∧ FmRow w' (.slice A m cap) M ∧ fms M = minF es n (fms F)) ∧ Below w.heap.size w w' := by
  have HP := Lib.hid hv.2
  have hn := hf.n
  obtain ⟨A, cap, rfl, hlc, hcm, hnil, hrow⟩ := hv.1
  obtain ⟨B, capb, rfl, hlb, hcb, hrb⟩ := hu
  unfold maxLen at hcm hcb
  have HR := Lib.hid hrow
  have HRB := Lib.hid hrb
  have k0 := kp_alloc (kp_alloc (kp_alloc (Below.refl w.heap.size w) (.cells #[.string (str t), .slice A F.length cap] 28)) (.cells #[.string ⟨#[]⟩, .slice none 0 0] 28)) (.cells #[.string (str t), .slice none 0 0] 28)
  have B0 := ((BatAt.new w t (.slice A F.length cap) 28).alloc' (.cells #[.string ⟨#[]⟩, .slice none 0 0] 28)).alloc' (.cells #[.string (str t), .slice none 0 0] 28)
  have R0 := (BatAt.new (w.alloc (.cells #[.string (str t), .slice A F.length cap] 28)) [] (.slice none 0 0) 28).alloc' (.cells #[.string (str t), .slice none 0 0] 28)
  have S0 := BatAt.new ((w.alloc (.cells #[.string (str t), .slice A F.length cap] 28)).alloc (.cells #[.string ⟨#[]⟩, .slice none 0 0] 28)) t (.slice none 0 0) 28
  rw [show (w.alloc (.cells #[.string (str t), .slice A F.length cap] 28)).heap.size = w.heap.size + 1 by simp] at R0
  rw [show ((w.alloc (.cells #[.string (str t), .slice A F.length cap] 28)).alloc (.cells #[.string ⟨#[]⟩, .slice none 0 0] 28)).heap.size = w.heap.size + 1 + 1 by simp] at S0
  clear hrow hrb hnil hv hf
  go_enter Tryz.func14, Tryz.ntmps14
  go_upto_region 2 with fail
  obtain ⟨W0, hW0⟩ : ∃ W, W = ((w.alloc (.cells #[.string (str t), .slice A F.length cap] 28)).alloc (.cells #[.string ⟨#[]⟩, .slice none 0 0] 28)).alloc (.cells #[.string (str t), .slice none 0 0] 28) := ⟨_, rfl⟩
  have HB : Hid (Below w.heap.size w W0) := Lib.hid (by rw [hW0]; exact k0)
  have HZ : Hid (W0.heap.size = w.heap.size + 1 + 1 + 1) := Lib.hid (by rw [hW0]; simp)
  have HA : Hid (BatAt W0 w.heap.size t (.slice A F.length cap)) := Lib.hid (by rw [hW0]; exact B0)
  have HRB0 : Hid (BatAt W0 (w.heap.size + 1) [] (.slice none 0 0)) := Lib.hid (by rw [hW0]; exact R0)
  have HS0 : Hid (BatAt W0 (w.heap.size + 1 + 1) t (.slice none 0 0)) := Lib.hid (by rw [hW0]; exact S0)
  rw [← hW0]
  clear hW0 k0 B0 R0 S0
  go_wp2_with fail
  go_loopw [6] (fun i wr => ∃ (k : Nat) (tv : Value), k ≤ F.length ∧ i = .int .i64 (k : Nat) ∧ Hid (FmOwn wr W0.heap.size tv (minS es n (F.take k))) ∧ Hid (BatAt wr (w.heap.size + 1 + 1) t tv) ∧ Hid (Below (w.heap.size + 1 + 1) W0 wr)) (fun i _ => F.length - (intOf i).toNat)
  case atStart => exact ⟨0, _, Nat.zero_le _, rfl, Lib.hid (KOwn.nil _ _ _ _ _), HS0, Lib.hid (Below.refl _ _)⟩
  case round =>
    obtain ⟨k, tv, hk, rfl, O, AT, HBB⟩ := hrel
    have hS1 := HBB.out.size
    have hZ1 := HZ.out
    have HAr : Hid (BatAt wr w.heap.size t (.slice A F.length cap)) := Lib.hid (HA.out.belowB HBB.out (by omega))
    have HBw : Hid (Below w.heap.size w wr) := Lib.hid (HB.out.trans (HBB.out.mono (by omega)))
    obtain ⟨q0, q1, qf, ql⟩ := HAr.out
    clear qf
    by_cases hkl : k < F.length
    · obtain ⟨b, off, rfl, hbs, hc⟩ := HR.out (by omega)
      obtain ⟨x, hx, hxp⟩ := fs_get hkl
      have hix := HP.out x (List.mem_of_getElem? hx)
      have hone := Lib.hid (encF_one hix)
      have hin := Lib.hid (fun h => minS_in (es := es) (n := n) hx h)
      have hout := Lib.hid (fun h => minS_out (es := es) (n := n) hx h)
      have hml := minS_len es n k F
      obtain ⟨A1, n1, cap1, hx1⟩ : ∃ A1 n1 cap1, x.v = .slice A1 n1 cap1 := by obtain ⟨A, cap, he, _⟩ := hix.1.1; exact ⟨A, _, cap, he⟩
      have HG : Hid (∀ z, Below (w.heap.size + 1 + 1) wr z → z.cell? ⟨b, off + k * 5, none⟩ = some (.string (str x.hd.n)) ∧ z.cell? ⟨b, off + k * 5 + 1, none⟩ = some (.int .i64 x.hd.k) ∧ z.cell? ⟨b, off + k * 5 + 2, none⟩ = some (.string (str x.hd.u)) ∧ z.cell? ⟨b, off + k * 5 + 3, none⟩ = some (.string (str x.hd.h)) ∧ z.cell? ⟨b, off + k * 5 + 4, none⟩ = some x.v) := Lib.hid (fun z hz => by
        obtain ⟨c0, c1, c2, c3, c4⟩ := fr_cells hc hx
        have hR : ∀ o, z.cell? ⟨b, o, none⟩ = w.cell? ⟨b, o, none⟩ := fun o => (hz.cell (p := ⟨b, o, none⟩) (by show b < _; omega)).trans (HBw.out.cell (p := ⟨b, o, none⟩) hbs)
        exact ⟨(hR _).trans c0, (hR _).trans c1, (hR _).trans c2, (hR _).trans c3, (hR _).trans c4⟩)
      have hnew := Lib.hid (fun W => (new_fs W x).row)
      clear hc hx hxp hix
      obtain ⟨⟨xn, xk, xu, xh⟩, xv, xL⟩ := x
      simp only at hx1 hin hout HG
      subst hx1
      have HG1 : Hid (∀ z, Below (w.heap.size + 1 + 1) wr z → z.cell? ⟨w.heap.size, 1, none⟩ = some (.slice (some ⟨b, off, none⟩) F.length cap)) := Lib.hid (fun z hz => (HAr.out.belowB hz (by omega)).c1)
      have HF1 : Hid (∀ z, Below wr.heap.size wr z → z.cell? ⟨w.heap.size, 1, none⟩ = some (.slice (some ⟨b, off, none⟩) F.length cap)) := Lib.hid (fun z hz => (HAr.out.below hz).c1)
      have HX0 : Hid (∀ z, Below wr.heap.size wr z → z.cell? ⟨b, off + k * 5, none⟩ = some (.string (str xn))) := Lib.hid (fun z hz => (HG.out z (hz.mono (by omega))).1)
      have hk0 : (0 : Int) ≤ (k : Int) := by omega
      have hkb : (k : Int) < (F.length : Int) := by omega
      go_wp2_with fail
      clear q0 q1 ql
      generalize wr = W1 at *
      go_loopw [7, 8] (fun fl j wi => ∃ m : Nat, m ≤ n ∧ fl = .bool (inN es m xn) ∧ j = .int .i64 (m : Nat) ∧ Hid (Below W1.heap.size W1 wi)) (fun _ j _ => n - (intOf j).toNat)
      case atStart => exact ⟨0, Nat.zero_le _, rfl, rfl, Lib.hid (Below.refl _ _)⟩
      case round =>
        obtain ⟨m, hm, rfl, rfl, HBi⟩ := hrel
        by_cases hmn : m < n
        · obtain ⟨bb, offb, rfl, hbbs, hcc⟩ := HRB.out (by omega)
          have h1 := (hcc m hmn).1
          rw [str_self (es m)] at h1
          have HE : Hid (∀ z, Below W1.heap.size W1 z → z.cell? ⟨bb, offb + m, none⟩ = some (.string (str (es m).data.toList))) := Lib.hid (fun z hz => ((trans9 HBw.out hz).cell (p := ⟨bb, offb + m, none⟩) hbbs).trans h1)
          have hst : Hid (inN es (m + 1) xn = (inN es m xn || decide ((es m).data.toList = xn))) := Lib.hid rfl
          have hm0 : (0 : Int) ≤ (m : Int) := by omega
          have hmb : (m : Int) < (n : Int) := by omega
          clear hcc h1
          generalize (es m).data.toList = y at *
          generalize inN es m xn = C at *
          cases C with
          | true =>
            have hst2 : Hid (inN es (m + 1) xn = true) := Lib.hid (by rw [hst.out]; rfl)
            clear hst
            go_wp2_with fail
            refine wp_region_noPanic ?_
            refine wp_region_held_drew (S := fun X => Below wr.heap.size wr X) (by kernel_rfl) ?_ (fun hHeld => ?_)
            · exact Below.drew (Below.refl _ _)
            have kB : Below wr.heap.size wr wr.drew := Below.drew (Below.refl _ _)
            clear hHeld
            refine tk9 0 kB ?_
            refine tk9 1 kB ?_
            refine tk9 2 kB ?_ (v := undef) (hy := Or.inr ⟨by rfl, rfl⟩)
            refine tk9 3 kB ?_ (v := undef) (hy := Or.inr ⟨by rfl, rfl⟩)
            refine tk9 4 kB ?_ (v := undef) (hy := Or.inr ⟨by rfl, rfl⟩)
            refine tk9 5 kB ?_ (v := undef) (hy := Or.inr ⟨by rfl, rfl⟩)
            refine tk9 6 kB ?_ (v := undef) (hy := Or.inr ⟨by rfl, rfl⟩)
            refine tk9 7 kB ?_ (v := undef) (hy := Or.inr ⟨by rfl, rfl⟩)
            refine tk9 8 kB ?_ (v := undef) (hy := Or.inr ⟨by rfl, rfl⟩)
            refine tk9 9 kB ?_ (v := undef) (hy := Or.inr ⟨by rfl, rfl⟩)
            refine tk9 10 kB ?_ (v := undef) (hy := Or.inr ⟨by rfl, rfl⟩)
            refine tk9 11 kB ?_ (v := undef) (hy := Or.inr ⟨by rfl, rfl⟩)
            refine tk9 12 kB ?_ (v := undef) (hy := Or.inr ⟨by rfl, rfl⟩)
            refine tk9 13 kB ?_ (v := undef) (hy := Or.inr ⟨by rfl, rfl⟩)
            refine tk9 14 kB ?_
            refine tk9 15 kB ?_
            refine wpAnyH_done (by kernel_rfl) ?_ _
            refine NoPanic.normal ?_
            go_wp2_with fail
            go_roundw
            case rel => exact ⟨m + 1, hmn, by rw [hst2.out], by go_num, Lib.hid (trans9 HBi.out kB)⟩
            case measure => simp [intOf]; omega
          | false =>
            by_cases hxy : xn = y
            · have heq : (xn == y) = true := beq_iff_eq.2 hxy
              have hst2 : Hid (inN es (m + 1) xn = true) := Lib.hid (by rw [hst.out, decide_eq_true hxy.symm]; rfl)
              clear hst hxy
              go_wp2_with fail
              refine wp_region_noPanic ?_
              refine wp_region_held_drew (S := fun X => Below wr.heap.size wr X) (by kernel_rfl) ?_ (fun hHeld => ?_)
              · exact Below.drew (Below.refl _ _)
              have kB : Below wr.heap.size wr wr.drew := Below.drew (Below.refl _ _)
              clear hHeld
              refine tk9 0 kB ?_
              refine tk9 1 kB ?_
              refine tk9 2 kB ?_
              refine tk9 3 kB ?_ (hy := Or.inl ⟨by rfl, by intro x hSw; (try dsimp only at hSw); have x1 := HF1.out x (trans9 HBi.out hSw); first | (go_simp; done) | (go_simp; with_reducible rfl)⟩)
              refine tk9 4 kB ?_
              refine tk9 5 kB ?_
              refine tk9 6 kB ?_
              refine tk9 7 kB ?_
              refine tk9 8 kB ?_ (hy := Or.inl ⟨by rfl, by intro x hSw; (try dsimp only at hSw); have x0 := HX0.out x (trans9 HBi.out hSw); first | (go_simp; done) | (go_simp; with_reducible rfl)⟩)
              refine tk9 9 kB ?_
              refine tk9 10 kB ?_
              refine tk9 11 kB ?_
              refine tk9 12 kB ?_ (hy := Or.inl ⟨by rfl, by intro x hSw; (try dsimp only at hSw); have xe := HE.out x (trans9 HBi.out hSw); first | (go_simp; done) | (go_simp; with_reducible rfl)⟩)
              refine tk9 13 kB ?_
              refine tk9 14 kB ?_
              refine tk9 15 kB ?_
              refine wpAnyH_done (by kernel_rfl) ?_ _
              refine NoPanic.normal ?_
              go_wp2_with fail
              go_roundw
              case rel => exact ⟨m + 1, hmn, by rw [hst2.out], by go_num, Lib.hid (trans9 HBi.out kB)⟩
              case measure => simp [intOf]; omega
            · have heq : (xn == y) = false := beq_eq_false_iff_ne.2 hxy
              have hst2 : Hid (inN es (m + 1) xn = false) := Lib.hid (by rw [hst.out, decide_eq_false (fun e => hxy e.symm)]; rfl)
              clear hst hxy
              go_wp2_with fail
              refine wp_region_noPanic ?_
              refine wp_region_held_drew (S := fun X => Below wr.heap.size wr X) (by kernel_rfl) ?_ (fun hHeld => ?_)
              · exact Below.drew (Below.refl _ _)
              have kB : Below wr.heap.size wr wr.drew := Below.drew (Below.refl _ _)
              clear hHeld
              refine tk9 0 kB ?_
              refine tk9 1 kB ?_
              refine tk9 2 kB ?_
              refine tk9 3 kB ?_ (hy := Or.inl ⟨by rfl, by intro x hSw; (try dsimp only at hSw); have x1 := HF1.out x (trans9 HBi.out hSw); first | (go_simp; done) | (go_simp; with_reducible rfl)⟩)
              refine tk9 4 kB ?_
              refine tk9 5 kB ?_
              refine tk9 6 kB ?_
              refine tk9 7 kB ?_
              refine tk9 8 kB ?_ (hy := Or.inl ⟨by rfl, by intro x hSw; (try dsimp only at hSw); have x0 := HX0.out x (trans9 HBi.out hSw); first | (go_simp; done) | (go_simp; with_reducible rfl)⟩)
              refine tk9 9 kB ?_
              refine tk9 10 kB ?_
              refine tk9 11 kB ?_
              refine tk9 12 kB ?_ (hy := Or.inl ⟨by rfl, by intro x hSw; (try dsimp only at hSw); have xe := HE.out x (trans9 HBi.out hSw); first | (go_simp; done) | (go_simp; with_reducible rfl)⟩)
              refine tk9 13 kB ?_
              refine tk9 14 kB ?_
              refine tk9 15 kB ?_
              refine wpAnyH_done (by kernel_rfl) ?_ _
              refine NoPanic.normal ?_
              go_wp2_with fail
              go_roundw
              case rel => exact ⟨m + 1, hmn, by rw [hst2.out], by go_num, Lib.hid (trans9 HBi.out kB)⟩
              case measure => simp [intOf]; omega
        · obtain rfl : n = m := by omega
          generalize inN es n xn = C at *
          cases C with
          | true =>
            have hr := Lib.hid (hin.out rfl)
            have HK := Lib.hid (KOwn.below O.out HBi.out)
            have HK2 := Lib.hid (AT.out.below HBi.out)
            have HK3 := Lib.hid (HBB.out.trans (HBi.out.mono (by omega)))
            clear hin hout O AT
            go_wp2_with fail
            go_roundw
            case rel => exact ⟨k + 1, _, hkl, by go_num, Lib.hid (by rw [← hr.out]; exact HK.out), HK2, HK3⟩
            case measure => simp [intOf]; omega
          | false =>
            have hr := Lib.hid (hout.out rfl)
            have O2 := Lib.hid (KOwn.below O.out HBi.out)
            have A2 := Lib.hid (AT.out.below HBi.out)
            have HB2 := Lib.hid (HBB.out.trans (HBi.out.mono (by omega)))
            have HS2 : Hid (W0.heap.size ≤ wr.heap.size) := Lib.hid (Nat.le_trans hS1 HBi.out.size)
            replace HG := Lib.hid (fun z hz => HG.out z ((HBi.out.mono (by omega)).trans hz))
            replace HG1 := Lib.hid (fun z hz => HG1.out z ((HBi.out.mono (by omega)).trans hz))
            clear hin hout O AT HX0 HF1
            go_wp2_with fail
            generalize wr = W2 at *
            refine wp_region_noPanic ?_
            refine wp_region_held_drew (S := fun X => Below (w.heap.size + 1 + 1) W2 X) (by kernel_rfl) ?_ (fun hHeld => ?_)
            · exact Below.drew (Below.refl _ _)
            have kB : Below (w.heap.size + 1 + 1) W2 W2.drew := Below.drew (Below.refl _ _)
            clear hHeld
            have kF : Below W2.heap.size W2 W2.drew := Below.drew (Below.refl _ _)
            have kG : Below W0.heap.size W2 W2.drew := Below.drew (Below.refl _ _)
            refine tk9 0 kB ?_
            refine tk9 2 kB ?_
            refine tk9 3 kB ?_ (hy := Or.inl ⟨by rfl, by intro x hSw; (try dsimp only at hSw); have x1 := HG1.out x hSw; first | (go_simp; done) | (go_simp; with_reducible rfl)⟩)
            refine tk9 4 kB ?_
            refine tk9 5 kB ?_
            refine tk9 6 kB ?_ (hy := Or.inl ⟨by rfl, by intro x hSw; (try dsimp only at hSw); obtain ⟨x0, x1, x2, x3, x4⟩ := HG.out x hSw; first | (go_simp; done) | (go_simp; with_reducible rfl)⟩)
            refine wpAnyH_ready (rs := [1, 7]) (by kernel_rfl) (by simp) ?_
            refine AllReadyH.cons (by simp only [List.getElem?_toArray, List.getElem?_cons_succ, List.getElem?_cons_zero]; rfl) (fun K hK => ?_) ?_
            · have yA := A2.out.belowB kG ((by have := HZ.out; omega))
              obtain ⟨z0, z1, zf, zl⟩ := A2.out
              obtain ⟨y0, y1, yf, yl⟩ := yA
              go_simp
              clear y0 y1 yf yl z0 z1 zf zl
              refine hK.out _ _ kB (fun hHeld => ?_)
              clear hK K hHeld
              (try simp only [Act.put, List.setIfInBounds_toArray, List.set_cons_zero, List.set_cons_succ])
              refine wpAnyH_ready (rs := [7]) (by kernel_rfl) (by simp) ?_
              refine AllReadyH.cons (by simp only [List.getElem?_toArray, List.getElem?_cons_succ, List.getElem?_cons_zero]; rfl) (fun K hK => ?_) AllReadyH.nil
              go_simp
              have kX : KRow _ _ (W2.alloc (.cells #[.string (str xn), .int .i64 xk, .string (str xu), .string (str xh), .slice A1 n1 cap1] 41)).drew (.slice (some ⟨W2.heap.size, 0, none⟩) 1 1) [(⟨⟨xn, xk, xu, xh⟩, .slice A1 n1 cap1, xL⟩ : Fs)] := (hnew.out W2)
              replace kB : Below (w.heap.size + 1 + 1) W2 ((W2.alloc (.cells #[.string (str xn), .int .i64 xk, .string (str xu), .string (str xh), .slice A1 n1 cap1] 41)).drew) := Below.drew (kb_alloc (Below.refl _ _) (by have := HZ.out; have := HS2.out; omega) _)
              replace kF : Below W2.heap.size W2 ((W2.alloc (.cells #[.string (str xn), .int .i64 xk, .string (str xu), .string (str xh), .slice A1 n1 cap1] 41)).drew) := Below.drew (kp_alloc (Below.refl _ _) _)
              replace kG : Below W0.heap.size W2 ((W2.alloc (.cells #[.string (str xn), .int .i64 xk, .string (str xu), .string (str xh), .slice A1 n1 cap1] 41)).drew) := Below.drew (kb_alloc (Below.refl _ _) (HS2.out) _)
              obtain ⟨W6, hW6⟩ : ∃ X, X = (W2.alloc (.cells #[.string (str xn), .int .i64 xk, .string (str xu), .string (str xh), .slice A1 n1 cap1] 41)).drew := ⟨_, rfl⟩
              rw [← hW6] at kB kF kG kX ⊢
              clear hW6
              obtain ⟨xb, hxb⟩ : ∃ X, X = W2.heap.size := ⟨_, rfl⟩
              have kX2 := kX
              rw [← hxb] at kX2 ⊢
              clear kX hxb
              have kX := kX2
              clear kX2
              refine hK.out _ _ kB (fun hHeld => ?_)
              clear hK K hHeld
              (try simp only [Act.put, List.setIfInBounds_toArray, List.set_cons_zero, List.set_cons_succ])
              refine wpAnyH_ready (rs := [8]) (by kernel_rfl) (by simp) ?_
              refine AllReadyH.cons (by simp only [List.getElem?_toArray, List.getElem?_cons_succ, List.getElem?_cons_zero]; rfl) (fun K hK => ?_) AllReadyH.nil
              have o5 := (O2.out).below kF
              refine step_append_krow fmTy encF_len (by rfl) (.tmp 43) (.tmp 49) (by rfl) W0.heap.size _ (minS es n (F.take k)) (by rfl) o5 _ [(⟨⟨xn, xk, xu, xh⟩, .slice A1 n1 cap1, xL⟩ : Fs)] (by rfl) kX (fun z hz => by rw [List.mem_singleton.1 hz]; exact hone.out) (by simp; omega) (Nat.le_trans (HS2.out) kF.size) ?_
              intro v7 w7 o7 g7
              replace kB := Below.grown kB g7 (Nat.le_trans (by have := HZ.out; have := HS2.out; omega) kF.size) (fun q hq => Nat.le_trans (by have := HZ.out; omega) (own_ge o5 q hq))
              replace kG := Below.grown kG g7 (Nat.le_trans (HS2.out) kF.size) (fun q hq => own_ge o5 q hq)
              have hl7 := g7.size
              have hl8 := kF.size
              clear o5 g7 kX kF
              refine hK.out _ _ kB (fun hHeld => ?_)
              clear hK K hHeld
              (try simp only [Act.put, List.setIfInBounds_toArray, List.set_cons_zero, List.set_cons_succ])
              refine tk9 9 kB ?_
              refine wpAnyH_ready (rs := [10]) (by kernel_rfl) (by simp) ?_
              refine AllReadyH.cons (by simp only [List.getElem?_toArray, List.getElem?_cons_succ, List.getElem?_cons_zero]; rfl) (fun K hK => ?_) AllReadyH.nil
              obtain ⟨As, ns, cs, rfl⟩ : ∃ A n cap, v7 = .slice A n cap := (by obtain ⟨A, cap, he, _⟩ := KOwn.row encF_len o7; exact ⟨A, _, cap, he⟩)
              have yA := A2.out.belowB kG ((by have := HZ.out; omega))
              have kA := BatAt.set1 yA (u := .slice As ns cs)
              have kO := KOwn.ofBlock (X := w7.setCell ⟨(w.heap.size + 1 + 1), 1, none⟩ (.slice As ns cs)) o7 (fun q hq => Below.heap_setCell _ _ _ _ (by have h1 := own_ge o7 q hq; have h2 : (w.heap.size + 1 + 1) < W0.heap.size := (by have := HZ.out; omega); show q ≠ (w.heap.size + 1 + 1); omega))
              obtain ⟨y0, y1, yf, yl⟩ := yA
              go_simp
              replace kB := Below.setCell kB (p := ⟨(w.heap.size + 1 + 1), 1, none⟩) (by first | exact Nat.le_refl _ | (show _ ≤ _; omega)) (.slice As ns cs)
              clear y0 y1 yf yl o7 kG hl7 hl8
              refine hK.out _ _ kB (fun hHeld => ?_)
              clear hK K hHeld
              (try simp only [Act.put, List.setIfInBounds_toArray, List.set_cons_zero, List.set_cons_succ])
              refine wpAnyH_done (by kernel_rfl) ?_ _
              refine NoPanic.normal ?_
              have HB8 := Lib.hid (HB2.out.trans kB)
              go_wp2_with fail
              go_roundw
              case rel => exact ⟨k + 1, _, hkl, by go_num, Lib.hid (by rw [← hr.out]; exact kO), Lib.hid kA, HB8⟩
              case measure => simp [intOf]; omega
            refine AllReadyH.cons (by simp only [List.getElem?_toArray, List.getElem?_cons_succ, List.getElem?_cons_zero]; rfl) (fun K hK => ?_) AllReadyH.nil
            go_simp
            have kX : KRow _ _ (W2.alloc (.cells #[.string (str xn), .int .i64 xk, .string (str xu), .string (str xh), .slice A1 n1 cap1] 41)).drew (.slice (some ⟨W2.heap.size, 0, none⟩) 1 1) [(⟨⟨xn, xk, xu, xh⟩, .slice A1 n1 cap1, xL⟩ : Fs)] := (hnew.out W2)
            replace kB : Below (w.heap.size + 1 + 1) W2 ((W2.alloc (.cells #[.string (str xn), .int .i64 xk, .string (str xu), .string (str xh), .slice A1 n1 cap1] 41)).drew) := Below.drew (kb_alloc (Below.refl _ _) (by have := HZ.out; have := HS2.out; omega) _)
            replace kF : Below W2.heap.size W2 ((W2.alloc (.cells #[.string (str xn), .int .i64 xk, .string (str xu), .string (str xh), .slice A1 n1 cap1] 41)).drew) := Below.drew (kp_alloc (Below.refl _ _) _)
            replace kG : Below W0.heap.size W2 ((W2.alloc (.cells #[.string (str xn), .int .i64 xk, .string (str xu), .string (str xh), .slice A1 n1 cap1] 41)).drew) := Below.drew (kb_alloc (Below.refl _ _) (HS2.out) _)
            obtain ⟨W6, hW6⟩ : ∃ X, X = (W2.alloc (.cells #[.string (str xn), .int .i64 xk, .string (str xu), .string (str xh), .slice A1 n1 cap1] 41)).drew := ⟨_, rfl⟩
            rw [← hW6] at kB kF kG kX ⊢
            clear hW6
            obtain ⟨xb, hxb⟩ : ∃ X, X = W2.heap.size := ⟨_, rfl⟩
            have kX2 := kX
            rw [← hxb] at kX2 ⊢
            clear kX hxb
            have kX := kX2
            clear kX2
            refine hK.out _ _ kB (fun hHeld => ?_)
            clear hK K hHeld
            (try simp only [Act.put, List.setIfInBounds_toArray, List.set_cons_zero, List.set_cons_succ])
            refine wpAnyH_ready (rs := [1]) (by kernel_rfl) (by simp) ?_
            refine AllReadyH.cons (by simp only [List.getElem?_toArray, List.getElem?_cons_succ, List.getElem?_cons_zero]; rfl) (fun K hK => ?_) AllReadyH.nil
            have yA := A2.out.belowB kG ((by have := HZ.out; omega))
            obtain ⟨z0, z1, zf, zl⟩ := A2.out
            obtain ⟨y0, y1, yf, yl⟩ := yA
            go_simp
            clear y0 y1 yf yl z0 z1 zf zl
            refine hK.out _ _ kB (fun hHeld => ?_)
            clear hK K hHeld
            (try simp only [Act.put, List.setIfInBounds_toArray, List.set_cons_zero, List.set_cons_succ])
            refine wpAnyH_ready (rs := [8]) (by kernel_rfl) (by simp) ?_
            refine AllReadyH.cons (by simp only [List.getElem?_toArray, List.getElem?_cons_succ, List.getElem?_cons_zero]; rfl) (fun K hK => ?_) AllReadyH.nil
            have o5 := (O2.out).below kF
            refine step_append_krow fmTy encF_len (by rfl) (.tmp 43) (.tmp 49) (by rfl) W0.heap.size _ (minS es n (F.take k)) (by rfl) o5 _ [(⟨⟨xn, xk, xu, xh⟩, .slice A1 n1 cap1, xL⟩ : Fs)] (by rfl) kX (fun z hz => by rw [List.mem_singleton.1 hz]; exact hone.out) (by simp; omega) (Nat.le_trans (HS2.out) kF.size) ?_
            intro v7 w7 o7 g7
            replace kB := Below.grown kB g7 (Nat.le_trans (by have := HZ.out; have := HS2.out; omega) kF.size) (fun q hq => Nat.le_trans (by have := HZ.out; omega) (own_ge o5 q hq))
            replace kG := Below.grown kG g7 (Nat.le_trans (HS2.out) kF.size) (fun q hq => own_ge o5 q hq)
            have hl7 := g7.size
            have hl8 := kF.size
            clear o5 g7 kX kF
            refine hK.out _ _ kB (fun hHeld => ?_)
            clear hK K hHeld
            (try simp only [Act.put, List.setIfInBounds_toArray, List.set_cons_zero, List.set_cons_succ])
            refine tk9 9 kB ?_
            refine wpAnyH_ready (rs := [10]) (by kernel_rfl) (by simp) ?_
            refine AllReadyH.cons (by simp only [List.getElem?_toArray, List.getElem?_cons_succ, List.getElem?_cons_zero]; rfl) (fun K hK => ?_) AllReadyH.nil
            obtain ⟨As, ns, cs, rfl⟩ : ∃ A n cap, v7 = .slice A n cap := (by obtain ⟨A, cap, he, _⟩ := KOwn.row encF_len o7; exact ⟨A, _, cap, he⟩)
            have yA := A2.out.belowB kG ((by have := HZ.out; omega))
            have kA := BatAt.set1 yA (u := .slice As ns cs)
            have kO := KOwn.ofBlock (X := w7.setCell ⟨(w.heap.size + 1 + 1), 1, none⟩ (.slice As ns cs)) o7 (fun q hq => Below.heap_setCell _ _ _ _ (by have h1 := own_ge o7 q hq; have h2 : (w.heap.size + 1 + 1) < W0.heap.size := (by have := HZ.out; omega); show q ≠ (w.heap.size + 1 + 1); omega))
            obtain ⟨y0, y1, yf, yl⟩ := yA
            go_simp
            replace kB := Below.setCell kB (p := ⟨(w.heap.size + 1 + 1), 1, none⟩) (by first | exact Nat.le_refl _ | (show _ ≤ _; omega)) (.slice As ns cs)
            clear y0 y1 yf yl o7 kG hl7 hl8
            refine hK.out _ _ kB (fun hHeld => ?_)
            clear hK K hHeld
            (try simp only [Act.put, List.setIfInBounds_toArray, List.set_cons_zero, List.set_cons_succ])
            refine wpAnyH_done (by kernel_rfl) ?_ _
            refine NoPanic.normal ?_
            have HB8 := Lib.hid (HB2.out.trans kB)
            go_wp2_with fail
            go_roundw
            case rel => exact ⟨k + 1, _, hkl, by go_num, Lib.hid (by rw [← hr.out]; exact kO), Lib.hid kA, HB8⟩
            case measure => simp [intOf]; omega
    · have hall : F.take k = F := List.take_of_length_le (by omega)
      rw [hall] at O
      obtain ⟨A2, n2, cap2, ht2⟩ : ∃ A n cap, tv = .slice A n cap := by obtain ⟨A, cap, he, _⟩ := KOwn.row encF_len O.out; exact ⟨A, _, cap, he⟩
      subst ht2
      have HRr : Hid (BatAt wr (w.heap.size + 1) [] (.slice none 0 0)) := Lib.hid (HRB0.out.belowB HBB.out (by omega))
      obtain ⟨a0, a1, af, al⟩ := AT.out
      obtain ⟨y0, y1, yf, yl⟩ := HRr.out
      have HKX : Hid (Below w.heap.size w ((wr.setCell ⟨w.heap.size + 1, 0, none⟩ (.string (str t))).setCell ⟨w.heap.size + 1, 1, none⟩ (.slice A2 n2 cap2))) := Lib.hid ((HBw.out.setCell (by show w.heap.size ≤ w.heap.size + 1; omega) _).setCell (by show w.heap.size ≤ w.heap.size + 1; omega) _)
      have HRW : Hid (FmRow ((wr.setCell ⟨w.heap.size + 1, 0, none⟩ (.string (str t))).setCell ⟨w.heap.size + 1, 1, none⟩ (.slice A2 n2 cap2)) (.slice A2 n2 cap2) (minS es n F)) := Lib.hid (own_fm (O.out.ofBlock (fun q hq => by
        have h1 := own_ge O.out q hq
        have hne : q ≠ w.heap.size + 1 := by omega
        rw [Below.heap_setCell _ _ _ _ hne, Below.heap_setCell _ _ _ _ hne])) (fun x hx => HP.out x (List.mem_filter.1 hx).1) HKX.out)
      clear hall O AT HRr
      go_wp2
      refine bodyPost_ret (v := .agg #[.string (str t), .slice A2 n2 cap2]) (by simp [results, Tryz.results14, go_sem, y0, y1]) rfl ⟨⟨A2, n2, cap2, _, rfl, HRW.out, minS_fms _ _ _⟩, HKX.out⟩

end Go.Proofs.YtjeefgamkoeiaaaGreatDoor

/- The walk of the reference's Merge. -/
set_option maxRecDepth 100000
set_option linter.unusedVariables false
set_option linter.unusedSimpArgs false
namespace Go.Proofs.YtjeefgamkoeiaaaGreatDoor
open Go.RowKit Go.Sort Dc
attribute [local go_sem ↓] Go.wp_at_zero Go.wp_at_succ

theorem FamAt.drew' {w : World} {b : Nat} {h : Hd} {v : Value} (k : FamAt w b h v) : FamAt w.drew b h v := ⟨k.c0, k.c1, k.c2, k.c3, k.c4, k.fr, k.lt⟩
theorem FamAt.set5' {w : World} {b : Nat} {h h0 : Hd} {v u : Value} (k : FamAt w b h0 v) : FamAt (((((w.setCell ⟨b, 0, none⟩ (.string (str h.n))).setCell ⟨b, 1, none⟩ (.int .i64 h.k)).setCell ⟨b, 2, none⟩ (.string (str h.u))).setCell ⟨b, 3, none⟩ (.string (str h.h))).setCell ⟨b, 4, none⟩ u) b h u := by
  have h0 := k.c0
  have h1 := k.c1
  have h2 := k.c2
  have h3 := k.c3
  have h4 := k.c4
  exact ⟨by simp [go_sem, h0], by simp [go_sem, h1], by simp [go_sem, h2], by simp [go_sem, h3], by simp [go_sem, h4], fun o => by simpa using k.fr o, by simpa [World.setCell] using k.lt⟩
/-- one more block that may be written: the newest -/
theorem POff.snoc {w : World} {E : Nat → Prop} {v : Value} {L : List Ps} (h : POff w E v L) (o : Obj) : POff (w.alloc o) (fun b => E b ∨ b = w.heap.size) v L :=
  h.move (fun b hb _ => ((Below.refl w.heap.size w).alloc (Nat.le_refl _) o).block b hb) (by simp) (fun b hb e => e.elim id (fun e => absurd hb (by omega)))
theorem POff.set5 {w : World} {E : Nat → Prop} {x : Nat} {v v5 : Value} {L : List Ps} {n u h : List UInt8} {k : Int} (hp : POff w (fun b => E b ∨ b = x) v L) : POff (((((w.setCell ⟨x, 0, none⟩ (.string (str n))).setCell ⟨x, 1, none⟩ (.int .i64 k)).setCell ⟨x, 2, none⟩ (.string (str u))).setCell ⟨x, 3, none⟩ (.string (str h))).setCell ⟨x, 4, none⟩ v5) (fun b => E b ∨ b = x) v L :=
  hp.move (fun b hb he => by
    have hne : b ≠ x := fun e => he (Or.inr e)
    rw [Below.heap_setCell _ _ _ _ hne, Below.heap_setCell _ _ _ _ hne, Below.heap_setCell _ _ _ _ hne, Below.heap_setCell _ _ _ _ hne, Below.heap_setCell _ _ _ _ hne]) (by simp [World.setCell]) (fun _ _ e => e)
theorem POff.fewer {w : World} {E E' : Nat → Prop} {v : Value} {L : List Ps} (h : POff w E v L) (hE : ∀ b, E' b → E b) : POff w E' v L := h.move (fun _ _ _ => rfl) (Nat.le_refl _) (fun b _ e => hE b e)
/-- what came in hangs on no later block -/
theorem PtRow.offw {w w' : World} {E : Nat → Prop} {v : Value} {L : List Ps} (h : PtRow w v L) (hb : Below w.heap.size w w') (hE : ∀ b, E b → w.heap.size ≤ b) : POff w' E v L := fun X k1 k2 => by
  have hk : Below w.heap.size w ⟨X.heap, w.tape, w.drawn, w.os, w.output⟩ := ⟨rfl, rfl, rfl, Nat.le_trans hb.size k2, fun b hlt => (k1 b (Nat.lt_of_lt_of_le hlt hb.size) (fun e => by have := hE b e; omega)).trans (hb.block b hlt)⟩
  have := h.below hk
  exact this
/-- the families that are being gathered: a row of one's own, whose points hang neither on it nor on the blocks E -/
structure GTog (base : Nat) (E : Nat → Prop) (wr : World) (v : Value) (M : List Fs) : Prop where
  own : FmOwn wr base v M
  pts : ∀ x ∈ M, FsOff wr (fun b => E b ∨ v.ownBlock = some b) x
theorem GTog.below {base : Nat} {E : Nat → Prop} {wr w2 : World} {v : Value} {M : List Fs} (h : GTog base E wr v M) (hb : Below wr.heap.size wr w2) : GTog base E w2 v M := ⟨h.own.below hb, fun x hx => (h.pts x hx).below hb⟩
theorem GTog.one {base : Nat} {E : Nat → Prop} {wr : World} {v : Value} {M : List Fs} (h : GTog base E wr v M) : ∀ x ∈ M, ∀ u ∈ encF x, u.oneCell' = true := fun x hx => encF_one (h.pts x hx).fsin
theorem GTog.snoc {base : Nat} {E : Nat → Prop} {wr w' : World} {v v' : Value} {M : List Fs} {y : Fs} (h : GTog base E wr v M) (own : FmOwn w' base v' (M ++ [y])) (hg : wr.grownBy w' v.ownBlock) (hv : v'.ownBlock = v.ownBlock ∨ v'.ownBlock = some wr.heap.size)
    (hy : FsOff w' (fun b => E b ∨ v'.ownBlock = some b) y) : GTog base E w' v' (M ++ [y]) := ⟨own, fun x hx => by
  rcases List.mem_append.1 hx with k | k
  · refine ⟨(h.pts x k).1, (h.pts x k).2.move (fun b hb he => hg.block b hb (fun e => he (Or.inr e.symm))) hg.size (fun b hb e => ?_)⟩
    rcases e with e | e
    · exact Or.inl e
    · rcases hv with hv | hv
      · exact Or.inr (by rw [← hv]; exact e)
      · rw [hv] at e; cases e; omega
  · rw [List.mem_singleton.1 k]; exact hy⟩
theorem GTog.put {base : Nat} {E : Nat → Prop} {wr w3 : World} {g cap i : Nat} {M : List Fs} {x : Fs} {hd : Hd} {lv : Value} {L' : List Ps} (h : GTog base E wr (.slice (some ⟨g, 0, none⟩) M.length cap) M) (hx : M[i]? = some x) (hb : Below wr.heap.size wr w3) (hin : HdIn hd)
    (hk : POff w3 (fun b => E b ∨ some g = some b) lv L') :
    GTog base E (((((w3.setCell ⟨g, i * 5, none⟩ (.string (str hd.n))).setCell ⟨g, i * 5 + 1, none⟩ (.int .i64 hd.k)).setCell ⟨g, i * 5 + 2, none⟩ (.string (str hd.u))).setCell ⟨g, i * 5 + 3, none⟩ (.string (str hd.h))).setCell ⟨g, i * 5 + 4, none⟩ lv) (.slice (some ⟨g, 0, none⟩) (M.set i ⟨hd, lv, L'⟩).length cap) (M.set i ⟨hd, lv, L'⟩) := by
  have hi : i < M.length := (List.getElem?_eq_some_iff.1 hx).1
  have o0 := KOwn.set (j := 0) (y := ⟨⟨hd.n, x.hd.k, x.hd.u, x.hd.h⟩, x.v, x.L⟩) (u := .string (str hd.n)) encF_len (h.own.below hb) hx (by omega) rfl
  have o1 := KOwn.set (j := 1) (y := ⟨⟨hd.n, hd.k, x.hd.u, x.hd.h⟩, x.v, x.L⟩) (u := .int .i64 hd.k) encF_len o0 (set_at _ hi) (by omega) rfl
  have o2 := KOwn.set (j := 2) (y := ⟨⟨hd.n, hd.k, hd.u, x.hd.h⟩, x.v, x.L⟩) (u := .string (str hd.u)) encF_len o1 (set_at _ (by rw [List.length_set]; exact hi)) (by omega) rfl
  have o3 := KOwn.set (j := 3) (y := ⟨⟨hd.n, hd.k, hd.u, hd.h⟩, x.v, x.L⟩) (u := .string (str hd.h)) encF_len o2 (set_at _ (by rw [List.length_set, List.length_set]; exact hi)) (by omega) rfl
  have o4 := KOwn.set (j := 4) (y := ⟨hd, lv, L'⟩) (u := lv) encF_len o3 (set_at _ (by rw [List.length_set, List.length_set, List.length_set]; exact hi)) (by omega) rfl
  simp only [List.set_set, Nat.add_zero] at o4
  refine ⟨o4, fun z hz => ?_⟩
  have hmv : ∀ (v : Value) (L : List Ps), POff w3 (fun b => E b ∨ some g = some b) v L → POff (((((w3.setCell ⟨g, i * 5, none⟩ (.string (str hd.n))).setCell ⟨g, i * 5 + 1, none⟩ (.int .i64 hd.k)).setCell ⟨g, i * 5 + 2, none⟩ (.string (str hd.u))).setCell ⟨g, i * 5 + 3, none⟩ (.string (str hd.h))).setCell ⟨g, i * 5 + 4, none⟩ lv) (fun b => E b ∨ some g = some b) v L := fun v L k =>
    k.move (fun b hb he => by
      have hbg : b ≠ g := fun e => he (Or.inr (by rw [e]))
      rw [Below.heap_setCell _ _ _ _ hbg, Below.heap_setCell _ _ _ _ hbg, Below.heap_setCell _ _ _ _ hbg, Below.heap_setCell _ _ _ _ hbg, Below.heap_setCell _ _ _ _ hbg]) (by simp [World.setCell]) (fun _ _ e => e)
  rcases List.mem_or_eq_of_mem_set hz with k | rfl
  · exact ⟨(h.pts z k).1, hmv _ _ ((h.pts z k).2.below hb)⟩
  · exact ⟨hin, hmv _ _ hk⟩
theorem GTog.list {base : Nat} {E : Nat → Prop} {wr : World} {v : Value} {M : List Fs} (h : GTog base E wr v M) (hM : 0 < M.length) : ∃ g cap, v = .slice (some ⟨g, 0, none⟩) M.length cap ∧ base ≤ g ∧ g < wr.heap.size := by
  rcases h.own.2 with ⟨_, h0⟩ | ⟨g, cap, cur, rfl, hg, hc, _⟩
  · omega
  · exact ⟨g, cap, rfl, hg, (Array.getElem?_eq_some_iff.1 hc).1⟩
theorem GTog.cells {base : Nat} {E : Nat → Prop} {wr : World} {g cap : Nat} {M : List Fs} (h : GTog base E wr (.slice (some ⟨g, 0, none⟩) M.length cap) M) {i : Nat} {x : Fs} (hx : M[i]? = some x) :
    wr.cell? ⟨g, i * 5, none⟩ = some (.string (str x.hd.n)) ∧ wr.cell? ⟨g, i * 5 + 1, none⟩ = some (.int .i64 x.hd.k) ∧ wr.cell? ⟨g, i * 5 + 2, none⟩ = some (.string (str x.hd.u)) ∧ wr.cell? ⟨g, i * 5 + 3, none⟩ = some (.string (str x.hd.h)) ∧ wr.cell? ⟨g, i * 5 + 4, none⟩ = some x.v ∧ ∀ o, wr.frozen? ⟨g, o, none⟩ = false := by
  obtain ⟨A, cap', he, _, _, _, h3⟩ := KOwn.row encF_len h.own
  cases he
  obtain ⟨b, off, he, hlt, hc⟩ := h3 (Nat.lt_of_le_of_lt (Nat.zero_le _) (List.getElem?_eq_some_iff.1 hx).1)
  cases he
  obtain ⟨c0, c1, c2, c3, c4⟩ := fr_cells hc hx
  simp only [Nat.zero_add] at c0 c1 c2 c3 c4
  refine ⟨c0, c1, c2, c3, c4, fun o => ?_⟩
  rcases h.own.2 with ⟨he, _⟩ | ⟨g', cap', cur, he, _, hc, _⟩
  · cases he
  · cases he; exact frozen_of_row wr g o cur _ hc
/-- five stores into a block, from a place on -/
abbrev set5f (w : World) (b o : Nat) (h : Hd) (v : Value) : World := ((((w.setCell ⟨b, o, none⟩ (.string (str h.n))).setCell ⟨b, o + 1, none⟩ (.int .i64 h.k)).setCell ⟨b, o + 2, none⟩ (.string (str h.u))).setCell ⟨b, o + 3, none⟩ (.string (str h.h))).setCell ⟨b, o + 4, none⟩ v
theorem run_store_fm {w : World} {b o : Nat} {s0 s2 s3 : List UInt8} {k0 : Int} {v0 : Value} (c0 : w.cell? ⟨b, o, none⟩ = some (.string (str s0))) (c1 : w.cell? ⟨b, o + 1, none⟩ = some (.int .i64 k0)) (c2 : w.cell? ⟨b, o + 2, none⟩ = some (.string (str s2))) (c3 : w.cell? ⟨b, o + 3, none⟩ = some (.string (str s3))) (c4 : w.cell? ⟨b, o + 4, none⟩ = some v0) (hf : ∀ i, w.frozen? ⟨b, i, none⟩ = false)
    (h : Hd) (A1 : Option Addr) (n1 k1 : Nat) : (storeVar 41 ⟨b, o, none⟩ (famv h (.slice A1 n1 k1))).run Tryz.prog w = .ok () (Go.Proofs.YtjeefgamkoeiaaaGreatDoor.set5f w b o h (.slice A1 n1 k1)) := by
  have f0 := hf o
  have f1 := hf (o + 1)
  have f2 := hf (o + 2)
  have f3 := hf (o + 3)
  have f4 := hf (o + 4)
  clear hf
  go_simp
theorem step_store_fm {ops : Array Oper} {o : Oper} {a : Act} {w : World} {K : Act → World → Prop} {Q : Exit → Act → World → Prop} {E : Prop} (hgd : o.guard = none) (x y : Operand) (ho : o.op = .store 41 x y)
    (b : Nat) (h0 : Hd) (v0 : Value) (h : Hd) (A1 : Option Addr) (n1 c1 : Nat) (hx : a.eval x = .pointer (some ⟨b, 0, none⟩)) (hy : a.eval y = famv h (.slice A1 n1 c1)) (k : FamAt w b h0 v0) (hk : K (a.put o.dst undef) (Go.Proofs.YtjeefgamkoeiaaaGreatDoor.set5f w b 0 h (.slice A1 n1 c1))) :
    if Region.wanted o (yielded ops a.tmps) = true then Oper.wp Tryz.prog o a w K Q else E := by
  have hw : Region.wanted o (yielded ops a.tmps) = true := by simp [Region.wanted, hgd]
  rw [if_pos hw]
  have hr := run_store_fm (o := 0) k.c0 k.c1 k.c2 k.c3 k.c4 k.fr h A1 n1 c1
  unfold Oper.wp execOp
  simp only [ho, hx, hy, Instr.storeAt, Instr.sureAddr, Sem.run_bind, Sem.run_pure, Result.andThen_ok, hr]
  exact hk
theorem wpList_store_fm {ops : Array Oper} {rest : List Oper} {o : Oper} {a : Act} {w : World} {Q : Exit → Act → World → Prop} (hgd : o.guard = none) (x y : Operand) (ho : o.op = .store 41 x y)
    (b i : Nat) (h : Hd) (A1 : Option Addr) (n1 c1 : Nat) (hx : a.eval x = .pointer (some ⟨b, i, none⟩)) (hy : a.eval y = famv h (.slice A1 n1 c1)) {s0 s2 s3 : List UInt8} {k0 : Int} {v0 : Value} (c0 : w.cell? ⟨b, i, none⟩ = some (.string (str s0))) (c1' : w.cell? ⟨b, i + 1, none⟩ = some (.int .i64 k0)) (c2 : w.cell? ⟨b, i + 2, none⟩ = some (.string (str s2))) (c3 : w.cell? ⟨b, i + 3, none⟩ = some (.string (str s3))) (c4 : w.cell? ⟨b, i + 4, none⟩ = some v0) (hf : ∀ i, w.frozen? ⟨b, i, none⟩ = false)
    (hk : wpList Tryz.prog ops Q rest (a.put o.dst undef) (Go.Proofs.YtjeefgamkoeiaaaGreatDoor.set5f w b i h (.slice A1 n1 c1))) : wpList Tryz.prog ops Q (o :: rest) a w :=
  wpList_plain hgd fun K hK => by
    have hr := run_store_fm c0 c1' c2 c3 c4 hf h A1 n1 c1
    unfold Oper.wp execOp
    simp only [ho, hx, hy, Instr.storeAt, Instr.sureAddr, Sem.run_bind, Sem.run_pure, Result.andThen_ok, hr]
    exact hK _ _ hk
theorem bps_ne {l : List Bs} (h : l ≠ []) : bps l ≠ [] := fun e => h (by cases l with | nil => rfl | cons _ _ => cases e)
theorem putO_is {x y : Fp} (hn : x.1.n = y.1.n) (hx : famOk x.1 x.2 = true) (hy : famOk y.1 y.2 = true) : (x.1.k = y.1.k → putO x y = some (putP x y)) ∧ (x.1.k ≠ y.1.k → putO x y = none) :=
  ⟨fun hk => putO_yes hn hk hx hy, fun hk => putO_no (fun h => hk h.2.1)⟩
theorem flat_kin {l : List Bp} {k : Nat} {x : Bp} (hx : l[k]? = some x) {j : Nat} {y : Fp} (hy : x.2[j]? = some y) : ∀ z ∈ flat (l.take k) ++ x.2.take j ++ [y], z ∈ flat l := fun z hz => by
  have h := flat_split2 hx (j + 1)
  rw [take_snoc hy, ← List.append_assoc] at h
  exact h z hz
theorem mem_pts {F : List Fs} {x : Fs} {n : Nat} (h : x ∈ F) (hn : nPts (fms F) ≤ n) : x.L.length ≤ n := by
  have h1 : (pts x.L).length ≤ nPts (fms F) := nPts_mem (x := fm x) (List.mem_map_of_mem h)
  rw [List.length_map] at h1
  exact Nat.le_trans h1 hn

set_option maxHeartbeats 64000000 in
theorem rmerge_calls (l : List Bs) (v : Value) (w : World) (hv : BtRow w v l) (hf : BtFew l) (hl4 : l.length ≤ 4) :
    Calls Tryz.prog 11 #[v] w fun e w' => MrgRes (bps l) e w' ∧ Below w.heap.size w w' := by
  have K0 := kp_alloc (Below.refl w.heap.size w) (.cells #[.string ⟨#[]⟩, .slice none 0 0] 28)
  have R0 : BatAt (w.alloc (.cells #[.string ⟨#[]⟩, .slice none 0 0] 28)) w.heap.size [] (.slice none 0 0) := BatAt.new w [] (.slice none 0 0) 28
  have HV := Lib.hid hv.2
  have HF := Lib.hid hf.f
  obtain ⟨A, cap, hvv, hlc, hcm, hnil, hrow⟩ := hv.1
  have HR := Lib.hid hrow
  subst hvv
  obtain ⟨W0, hW0⟩ : ∃ W, W = w.alloc (.cells #[.string ⟨#[]⟩, .slice none 0 0] 28) := ⟨_, rfl⟩
  rw [← hW0] at K0 R0
  have HK0 := Lib.hid K0
  have HR0 := Lib.hid R0
  clear hrow hnil hv hf K0 R0 hlc hcm
  by_cases hl0 : l = []
  · subst hl0
    go_enter Tryz.func11, Tryz.ntmps11
    go_upto_region 1 with fail
    rw [← hW0]
    clear hW0
    obtain ⟨y0, y1, yf, yl⟩ := HR0.out
    go_wp2_with ((with_reducible refine bodyPost_ret (v := .tuple #[.agg #[.string ⟨#[]⟩, .slice none 0 0], .int .i64 0]) ?hr rfl ?hR); (case hr => simp [results, Tryz.results11, go_sem, y0, y1]); (case hR => exact ⟨MrgRes.zero, (HK0.out.setCell (Nat.le_refl _) _).setCell (Nat.le_refl _) _⟩))
  have hpos : 0 < l.length := by
    cases l with
    | nil => exact absurd rfl hl0
    | cons _ _ => simp
  have hL0 := Lib.hid (bps_ne hl0)
  have hdz : ((l.length : Int) == 0) = false := by simp; omega
  have hdz' : ¬ ((l.length : Int) = 0) := by omega
  clear hl0
  go_enter Tryz.func11, Tryz.ntmps11
  go_upto_region 1 with fail
  rw [← hW0]
  clear hW0
  go_wp2_with fail
  go_loopw [4] (fun s wr => ∃ k : Nat, k ≤ l.length ∧ s = .int .i64 (k : Nat) ∧ Hid (∀ (i : Nat) (x : Bs), i < k → l[i]? = some x → chk (bp x).1 (bp x).2 = 0) ∧ Hid (Below W0.heap.size W0 wr)) (fun s _ => l.length - (intOf s).toNat)
  case atStart => exact ⟨0, Nat.zero_le _, rfl, Lib.hid (fun i x h => absurd h (by omega)), Lib.hid (Below.refl _ _)⟩
  case round =>
    obtain ⟨k, hk, rfl, H, HB0⟩ := hrel
    have HB := Lib.hid (trans9 HK0.out HB0.out)
    have HRb := Lib.hid (HR0.out.below HB0.out)
    by_cases hkl : k < l.length
    · obtain ⟨b, off, rfl, hbs, hc⟩ := HR.out (by omega)
      obtain ⟨x, hx, hxp⟩ := bs_get hkl
      have hix := HV.out x (List.mem_of_getElem? hx)
      obtain ⟨c0, c1⟩ := br_cells hc hx
      have r0 := (HB.out.cell (p := ⟨b, off + k * 2, none⟩) hbs).trans c0
      have r1 := (HB.out.cell (p := ⟨b, off + k * 2 + 1, none⟩) hbs).trans c1
      have hck := Lib.hid (rcheck_calls x.t x.F x.v wr (hix.1.below HB.out) (HF.out x (List.mem_of_getElem? hx)) hix.2)
      obtain ⟨A2, cap2, hxv⟩ := bat_one hix.1
      have hno := Lib.hid (fun (h : ¬ chk (bp x).1 (bp x).2 = 0) => mRef_19 (bps_not (P := fun b => chk b.1 b.2 = 0) hx h))
      have hye := Lib.hid (fun (h : chk (bp x).1 (bp x).2 = 0) => show ∀ (i : Nat) (z : Bs), i < k + 1 → l[i]? = some z → chk (bp z).1 (bp z).2 = 0 from fun i z hi hz => by
        by_cases e : i = k
        · subst e; rw [hx] at hz; obtain rfl := Option.some.inj hz; exact h
        · exact H.out i z (by omega) hz)
      clear hc c0 c1 hx hxp hix hbs H
      rw [hxv] at r1 hck
      obtain ⟨t, xv, F⟩ := x
      simp only at hck r0 r1 hno hye hxv
      have hk0 : (0 : Int) ≤ (k : Int) := by omega
      have hkb : (k : Int) < (l.length : Int) := by omega
      generalize chk t (fms F) = C at *
      generalize F.length = fl at *
      by_cases hC : C = 0
      · subst hC
        have hr := Lib.hid (hye.out rfl)
        clear hno hye
        go_wp2_with fail
        refine hck.out.mono ?_; rintro e w2 ⟨rfl, b2⟩
        have hB2 := Lib.hid (trans9 HB0.out b2)
        clear b2 r0 r1 hck
        go_wp2_with fail
        go_roundw
        case rel => exact ⟨k + 1, hkl, by go_num, hr, hB2⟩
        case measure => simp [intOf]; omega
      · have hr := Lib.hid (hno.out hC)
        have hm : Hid (mErr (bps l) = 19) := Lib.hid (by rw [mErr_ref (by rw [hr.out]; decide) hL0.out, hr.out])
        have d1 : (C == 0) = false := by simpa using hC
        have d2 : decide (C = 0) = false := decide_eq_false hC
        clear hno hye hr
        go_wp2_with fail
        refine hck.out.mono ?_; rintro e w2 ⟨rfl, b2⟩
        have hB2 := Lib.hid (trans9 HB.out b2)
        have HRc := Lib.hid (HRb.out.below b2)
        clear b2 r0 r1 hck
        obtain ⟨y0, y1, yf, yl⟩ := HRc.out
        go_wp2_with ((with_reducible refine bodyPost_ret (v := .tuple #[.agg #[.string ⟨#[]⟩, .slice none 0 0], .int .i64 19]) ?hr rfl ?hR); (case hr => simp [results, Tryz.results11, go_sem, y0, y1]); (case hR => exact ⟨MrgRes.no hm.out (by decide), (hB2.out.setCell (Nat.le_refl _) _).setCell (Nat.le_refl _) _⟩))
    · have H1 : Hid (∀ b ∈ bps l, chk b.1 b.2 = 0) := Lib.hid (bps_all (P := fun b => chk b.1 b.2 = 0) fun i x hi hx => H.out i x (by omega) hx)
      obtain ⟨b, off, rfl, hbs, hc⟩ := HR.out hpos
      obtain ⟨x0, hx0, hxp0⟩ := bs_get hpos
      have hi0 := HV.out x0 (List.mem_of_getElem? hx0)
      obtain ⟨c0, c1⟩ := br_cells hc hx0
      rw [Nat.zero_mul, Nat.add_zero] at c0
      have r0 := (HB.out.cell (p := ⟨b, off, none⟩) hbs).trans c0
      have HTEN : Hid (ten (bps l) = x0.t) := Lib.hid (ten_first hx0)
      have HTL := Lib.hid hi0.2
      have HC := Lib.hid hc
      have hl1 : (0 : Int) < (l.length : Int) := by omega
      generalize x0.t = t0 at *
      have kk5 := (Below.refl wr.heap.size wr).alloc (Nat.le_refl _) (.cells #[.string (str t0), .slice none 0 0] 28)
      have Q0 := BatAt.new wr t0 (.slice none 0 0) 28
      have hbr := HRb.out.lt
      clear hi0 c0 c1 hx0 hxp0 hc H x0
      go_upto_region 9 with fail
      obtain ⟨W5, hW5⟩ : ∃ W, W = wr.alloc (.cells #[.string (str t0), .slice none 0 0] 28) := ⟨_, rfl⟩
      have K5 : Hid (Below w.heap.size w W5) := Lib.hid (trans9 HB.out (by rw [hW5]; exact kk5))
      have HQ5 : Hid (BatAt W5 wr.heap.size t0 (.slice none 0 0)) := Lib.hid (by rw [hW5]; exact Q0)
      have HR5 : Hid (BatAt W5 w.heap.size [] (.slice none 0 0)) := Lib.hid (HRb.out.below (by rw [hW5]; exact kk5))
      rw [← hW5]
      clear hW5 kk5 Q0 r0 HB0 HB HRb HK0 HR0
      generalize wr.heap.size = bO at *
      go_wp2_with fail
      go_loopw [6] (fun s wr => ∃ k : Nat, k ≤ l.length ∧ s = .int .i64 (k : Nat) ∧ Hid (∀ (i : Nat) (x : Bs), i < k → l[i]? = some x → (bp x).1 = ten (bps l)) ∧ Hid (Below W5.heap.size W5 wr)) (fun s _ => l.length - (intOf s).toNat)
      case atStart => exact ⟨0, Nat.zero_le _, rfl, Lib.hid (fun i x h => absurd h (by omega)), Lib.hid (Below.refl _ _)⟩
      case round =>
        obtain ⟨k, hk, rfl, H, KB⟩ := hrel
        have KW := Lib.hid (trans9 K5.out KB.out)
        by_cases hkl : k < l.length
        · obtain ⟨x, hx, hxp⟩ := bs_get hkl
          have HX0 : Hid (∀ z, Below wr.heap.size wr z → z.cell? ⟨b, off + k * 2, none⟩ = some (.string (str x.t))) := Lib.hid (fun z hz => ((trans9 KW.out hz).cell (p := ⟨b, off + k * 2, none⟩) hbs).trans (br_cells HC.out hx).1)
          have HO0 : Hid (∀ z, Below wr.heap.size wr z → z.cell? ⟨bO, 0, none⟩ = some (.string (str t0))) := Lib.hid (fun z hz => (HQ5.out.below (trans9 KB.out hz)).c0)
          have hno := Lib.hid (fun (h : ¬ (bp x).1 = ten (bps l)) => mRef_18 H1.out (bps_not (P := fun b => b.1 = ten (bps l)) hx h))
          have hye := Lib.hid (fun (h : (bp x).1 = ten (bps l)) => show ∀ (i : Nat) (z : Bs), i < k + 1 → l[i]? = some z → (bp z).1 = ten (bps l) from fun i z hi hz => by
            by_cases e : i = k
            · subst e; rw [hx] at hz; obtain rfl := Option.some.inj hz; exact h
            · exact H.out i z (by omega) hz)
          rw [HTEN.out] at hno hye
          have hk0 : (0 : Int) ≤ (k : Int) := by omega
          have hkb : (k : Int) < (l.length : Int) := by omega
          clear hx hxp H
          obtain ⟨xt, xv, xF⟩ := x
          simp only at HX0 hno hye
          by_cases hC : xt = t0
          · have heq : (xt == t0) = true := beq_iff_eq.2 hC
            have hr := Lib.hid (hye.out hC)
            clear hno hye hC
            go_wp2_with fail
            refine wp_region_noPanic ?_
            refine wp_region_held_drew (S := fun X => Below wr.heap.size wr X) (by kernel_rfl) ?_ (fun hHeld => ?_)
            · exact Below.drew (Below.refl _ _)
            have kB : Below wr.heap.size wr wr.drew := Below.drew (Below.refl _ _)
            clear hHeld
            refine tk9 0 kB ?_
            refine tk9 1 kB ?_
            refine tk9 2 kB ?_
            refine tk9 3 kB ?_
            refine tk9 4 kB ?_ (hy := Or.inl ⟨by rfl, by intro x hSw; (try dsimp only at hSw); have x0 := HX0.out x hSw; first | (go_simp; done) | (go_simp; with_reducible rfl)⟩)
            refine tk9 5 kB ?_
            refine tk9 6 kB ?_ (hy := Or.inl ⟨by rfl, by intro x hSw; (try dsimp only at hSw); have x1 := HO0.out x hSw; first | (go_simp; done) | (go_simp; with_reducible rfl)⟩)
            refine tk9 7 kB ?_
            refine wpAnyH_done (by kernel_rfl) ?_ _
            refine NoPanic.normal ?_
            have KB2 := Lib.hid (trans9 KB.out kB)
            go_wp2_with fail
            go_roundw
            case rel => exact ⟨k + 1, hkl, by go_num, Lib.hid (fun i z h1 h2 => (hr.out i z h1 h2).trans HTEN.out.symm), KB2⟩
            case measure => simp [intOf]; omega
          · have heq : (xt == t0) = false := beq_eq_false_iff_ne.2 hC
            have hr := Lib.hid (hno.out hC)
            have hm : Hid (mErr (bps l) = 18) := Lib.hid (by rw [mErr_ref (by rw [hr.out]; decide) hL0.out, hr.out])
            clear hno hye hC hr
            go_wp2_with fail
            refine wp_region_noPanic ?_
            refine wp_region_held_drew (S := fun X => Below wr.heap.size wr X) (by kernel_rfl) ?_ (fun hHeld => ?_)
            · exact Below.drew (Below.refl _ _)
            have kB : Below wr.heap.size wr wr.drew := Below.drew (Below.refl _ _)
            clear hHeld
            refine tk9 0 kB ?_
            refine tk9 1 kB ?_
            refine tk9 2 kB ?_
            refine tk9 3 kB ?_
            refine tk9 4 kB ?_ (hy := Or.inl ⟨by rfl, by intro x hSw; (try dsimp only at hSw); have x0 := HX0.out x hSw; first | (go_simp; done) | (go_simp; with_reducible rfl)⟩)
            refine tk9 5 kB ?_
            refine tk9 6 kB ?_ (hy := Or.inl ⟨by rfl, by intro x hSw; (try dsimp only at hSw); have x1 := HO0.out x hSw; first | (go_simp; done) | (go_simp; with_reducible rfl)⟩)
            refine tk9 7 kB ?_
            refine wpAnyH_done (by kernel_rfl) ?_ _
            refine NoPanic.normal ?_
            have KB2 := Lib.hid (trans9 KW.out kB)
            obtain ⟨y0, y1, yf, yl⟩ := (HR5.out.below KB.out)
            go_wp2_with ((with_reducible refine bodyPost_ret (v := .tuple #[.agg #[.string ⟨#[]⟩, .slice none 0 0], .int .i64 18]) ?hr rfl ?hR); (case hr => simp [results, Tryz.results11, go_sem, y0, y1]); (case hR => exact ⟨MrgRes.no hm.out (by decide), (KB2.out.setCell (Nat.le_refl _) _).setCell (Nat.le_refl _) _⟩))
        · have H2 : Hid (∀ b ∈ bps l, b.1 = ten (bps l)) := Lib.hid (bps_all (P := fun b => b.1 = ten (bps l)) fun i x hi hx => H.out i x (by omega) hx)
          clear H
          go_wp2_with fail
          go_loopw [7, 8] (fun q i wr => ∃ (k : Nat) (fv : Value) (G : List Fs), fv = q ∧ k ≤ l.length ∧ i = .int .i64 (k : Nat) ∧ Hid (GTog W5.heap.size (fun b => b = w.heap.size ∨ b = bO) wr fv G) ∧ Hid (GrpOk (flat ((bps l).take k)) (fms G)) ∧ Hid (Below W5.heap.size W5 wr)) (fun _ i _ => l.length - (intOf i).toNat)
          case atStart => exact ⟨0, _, [], rfl, Nat.zero_le _, rfl, Lib.hid ⟨KOwn.nil _ _ _ _ _, fun x hx => (by cases hx)⟩, Lib.hid (by simpa [flat] using GrpOk.nil), KB⟩
          case round =>
            clear KB KW
            obtain ⟨k, fv, G, rfl, hk, rfl, TG, GR, KB⟩ := hrel
            by_cases hkl : k < l.length
            · obtain ⟨x, hx, hxp⟩ := bs_get hkl
              have hxm := List.mem_of_getElem? hx
              have hix := HV.out x hxm
              have HXC : Hid (∀ z, Below W5.heap.size W5 z → z.cell? ⟨b, off + k * 2 + 1, none⟩ = some x.v) := Lib.hid (fun z hz => ((trans9 K5.out hz).cell (p := ⟨b, off + k * 2 + 1, none⟩) hbs).trans (br_cells HC.out hx).2)
              have HXR := Lib.hid hix.1
              have HCK : Hid (chk (bp x).1 (bp x).2 = 0) := Lib.hid (H1.out _ (List.mem_map_of_mem hxm))
              have HXP : Hid ((bps l)[k]? = some (x.t, fms x.F)) := Lib.hid hxp
              have HFT := Lib.hid (flat_take hxp)
              obtain ⟨A1, cap1, hv1⟩ := bat_one hix.1
              have hk0 : (0 : Int) ≤ (k : Int) := by omega
              have hkb : (k : Int) < (l.length : Int) := by omega
              clear hx hxp hxm hix
              obtain ⟨xt, xv, xF⟩ := x
              simp only at hv1 HXC HXR HCK HXP HFT
              subst hv1
              obtain ⟨A9, cap9, hA9, _, _, _, hr9⟩ := HXR.out.1
              cases hA9
              have HRX := Lib.hid hr9
              have GR0 : Hid (GrpOk (flat ((bps l).take k) ++ (fms xF).take 0) (fms G)) := Lib.hid (by simpa using GR.out)
              have hnf : xF.length ≤ 30 := by have h1 := (chk_parts (b := (xt, fms xF)) HCK.out).2.2.2.1; rwa [List.length_map] at h1
              generalize hfl : xF.length = nF at *
              have HNF := Lib.hid hfl
              clear hr9 hfl GR
              go_wp2_with fail
              go_loopw [7, 9] (fun q i wr => ∃ (j : Nat) (fv : Value) (G : List Fs), fv = q ∧ j ≤ nF ∧ i = .int .i64 (j : Nat) ∧ Hid (GTog W5.heap.size (fun b => b = w.heap.size ∨ b = bO) wr fv G) ∧ Hid (GrpOk (flat ((bps l).take k) ++ (fms xF).take j) (fms G)) ∧ Hid (Below W5.heap.size W5 wr)) (fun _ i _ => nF - (intOf i).toNat)
              case atStart => exact ⟨0, _, G, rfl, Nat.zero_le _, rfl, TG, GR0, KB⟩
              case round =>
                clear KB TG GR0
                obtain ⟨j, fv, G, rfl, hj, rfl, TG, GR, KB⟩ := hrel
                have xc := HXC.out wr KB.out
                have KW := Lib.hid (trans9 K5.out KB.out)
                by_cases hjl : j < nF
                · obtain ⟨b3, off3, rfl, hbs3, hc3⟩ := HRX.out (by omega)
                  obtain ⟨y, hy, hyp⟩ := fs_get (F := xF) (i := j) (by rw [HNF.out]; exact hjl)
                  have hym := List.mem_of_getElem? hy
                  have hyi := HXR.out.2 y hym
                  obtain ⟨c0, c1, c2, c3, c4⟩ := fr_cells hc3 hy
                  have hR : ∀ o u, w.cell? ⟨b3, o, none⟩ = some u → wr.cell? ⟨b3, o, none⟩ = some u := fun o u hu => (KW.out.cell (p := ⟨b3, o, none⟩) hbs3).trans hu
                  have r0 := hR _ _ c0
                  have r1 := hR _ _ c1
                  have r2 := hR _ _ c2
                  have r3 := hR _ _ c3
                  have r4 := hR _ _ c4
                  have hparts := chk_parts (b := (xt, fms xF)) HCK.out
                  have HYOK : Hid (famOk y.hd (pts y.L) = true) := Lib.hid (hparts.2.1 (fm y) (List.mem_of_getElem? hyp))
                  have HYL : Hid (y.L.length ≤ 500) := Lib.hid (by have := mem_pts hym hparts.2.2.2.2; omega)
                  have HYH := Lib.hid hyi.2
                  have HYP := Lib.hid hyi.1
                  have HALL : Hid (∀ z ∈ flat ((bps l).take k) ++ (fms xF).take j ++ [fm y], z ∈ flat (bps l)) := Lib.hid (flat_kin HXP.out hyp)
                  have HTS : Hid ((fms xF).take (j + 1) = (fms xF).take j ++ [fm y]) := Lib.hid (take_snoc hyp)
                  obtain ⟨T, hT⟩ := flat_head HXP.out j
                  have h4 := GR.out.four H1.out (by rw [List.length_map]; exact hl4) hT
                  have HGL : Hid (G.length ≤ 120) := Lib.hid (by have := h4.1; rwa [List.length_map] at this)
                  have HGP := Lib.hid h4.2
                  obtain ⟨A3, n3, cap3, hy1⟩ : ∃ A1 n1 cap1, y.v = .slice A1 n1 cap1 := by obtain ⟨A, cap, he, _⟩ := hyi.1.1; exact ⟨A, _, cap, he⟩
                  have hnew := Lib.hid (fun W => (new_fs W y).row)
                  have hone := Lib.hid (encF_one hyi)
                  have hj0 : (0 : Int) ≤ (j : Int) := by omega
                  have hjb : (j : Int) < (nF : Int) := by omega
                  clear hc3 c0 c1 c2 c3 c4 hR hy hyp hym hyi hparts hT h4 T
                  obtain ⟨⟨yn, yk, yu, yh⟩, yv, yL⟩ := y
                  simp only at hy1 r0 r1 r2 r3 r4 HYOK HYL HYH HYP
                  subst hy1
                  have kk6 := (Below.refl wr.heap.size wr).alloc (Nat.le_refl _) (.cells (famc ⟨yn, yk, yu, yh⟩ (.slice A3 n3 cap3)) 41)
                  have Y0 := FamAt.new wr ⟨yn, yk, yu, yh⟩ (.slice A3 n3 cap3) 41
                  go_upto_region 22 with fail
                  obtain ⟨W6, hW6⟩ : ∃ W, W = wr.alloc (.cells #[.string (str yn), .int .i64 yk, .string (str yu), .string (str yh), .slice A3 n3 cap3] 41) := ⟨_, rfl⟩
                  have YA : Hid (FamAt W6 wr.heap.size ⟨yn, yk, yu, yh⟩ (.slice A3 n3 cap3)) := Lib.hid (by rw [hW6]; exact Y0)
                  have TG6 : Hid (GTog W5.heap.size (fun b => b = w.heap.size ∨ b = bO) W6 fv G) := Lib.hid (TG.out.below (by rw [hW6]; exact kk6))
                  have KB6 : Hid (Below W5.heap.size W5 W6) := Lib.hid (trans9 KB.out (by rw [hW6]; exact kk6))
                  have hby : Hid (wr.heap.size < W6.heap.size) := Lib.hid YA.out.lt
                  rw [← hW6]
                  clear hW6 kk6 Y0 xc r0 r1 r2 r3 r4 TG KB KW
                  generalize wr.heap.size = bY at *
                  have hgl0 := HGL.out
                  obtain ⟨A2, cap2, hfv, _, _, _, _⟩ := KOwn.row encF_len TG6.out.own
                  subst hfv
                  go_wp2_with fail
                  go_loopw [11, 12] (fun a i wr => ∃ (m : Nat) (c : Int), m ≤ G.length ∧ i = .int .i64 (m : Nat) ∧ a = .int .i64 c ∧ Hid ((c = -1 ∧ ∀ z ∈ G.take m, z.hd.n ≠ yn) ∨ ∃ (p : Nat) (z : Fs), c = (p : Int) ∧ p < m ∧ G[p]? = some z ∧ z.hd.n = yn) ∧ Hid (Below W6.heap.size W6 wr)) (fun _ i _ => G.length - (intOf i).toNat)
                  case atStart => exact ⟨0, -1, Nat.zero_le _, rfl, rfl, Lib.hid (Or.inl ⟨rfl, fun z hz => (by simp at hz)⟩), Lib.hid (Below.refl _ _)⟩
                  case round =>
                    obtain ⟨m, c, hm, rfl, rfl, HCC, KBi⟩ := hrel
                    by_cases hml : m < G.length
                    · obtain ⟨g, cap4, he, hg1, hg2⟩ := TG6.out.list (by omega)
                      cases he
                      obtain ⟨z, hz⟩ : ∃ z, G[m]? = some z := ⟨G[m], List.getElem?_eq_getElem hml⟩
                      have HG0 : Hid (∀ X, Below wr.heap.size wr X → X.cell? ⟨g, m * 5, none⟩ = some (.string (str z.hd.n))) := Lib.hid (fun X hX => ((trans9 KBi.out hX).cell (p := ⟨g, m * 5, none⟩) hg2).trans (TG6.out.cells hz).1)
                      have HY0 : Hid (∀ X, Below wr.heap.size wr X → X.cell? ⟨bY, 0, none⟩ = some (.string (str yn))) := Lib.hid (fun X hX => (YA.out.below (trans9 KBi.out hX)).c0)
                      have hyes : Hid (z.hd.n = yn → ((m : Int) = -1 ∧ ∀ z ∈ G.take (m + 1), z.hd.n ≠ yn) ∨ ∃ (p : Nat) (u : Fs), (m : Int) = (p : Int) ∧ p < m + 1 ∧ G[p]? = some u ∧ u.hd.n = yn) := Lib.hid (fun e => Or.inr ⟨m, z, rfl, by omega, hz, e⟩)
                      have hnot : Hid (z.hd.n ≠ yn → (c = -1 ∧ ∀ z ∈ G.take (m + 1), z.hd.n ≠ yn) ∨ ∃ (p : Nat) (u : Fs), c = (p : Int) ∧ p < m + 1 ∧ G[p]? = some u ∧ u.hd.n = yn) := Lib.hid (fun e => by
                        rcases HCC.out with ⟨h1, h2⟩ | ⟨p, u, h1, h2, h3, h5⟩
                        · refine Or.inl ⟨h1, fun u hu => ?_⟩
                          rw [take_snoc hz] at hu
                          rcases List.mem_append.1 hu with q | q
                          · exact h2 u q
                          · rw [List.mem_singleton.1 q]; exact e
                        · exact Or.inr ⟨p, u, h1, by omega, h3, h5⟩)
                      have hm0 : (0 : Int) ≤ (m : Int) := by omega
                      have hmb : (m : Int) < (G.length : Int) := by omega
                      clear hz
                      generalize z.hd.n = zn at *
                      by_cases hC : zn = yn
                      · have heq : (zn == yn) = true := beq_iff_eq.2 hC
                        have hr := Lib.hid (hyes.out hC)
                        clear hyes hnot hC
                        go_wp2_with fail
                        refine wp_region_noPanic ?_
                        refine wp_region_held_drew (S := fun X => Below wr.heap.size wr X) (by kernel_rfl) ?_ (fun hHeld => ?_)
                        · exact Below.drew (Below.refl _ _)
                        have kB : Below wr.heap.size wr wr.drew := Below.drew (Below.refl _ _)
                        clear hHeld
                        refine tk9 0 kB ?_
                        refine tk9 1 kB ?_
                        refine tk9 2 kB ?_
                        refine tk9 3 kB ?_
                        refine tk9 4 kB ?_
                        refine tk9 5 kB ?_ (hy := Or.inl ⟨by rfl, by intro x hSw; (try dsimp only at hSw); have x0 := HG0.out x hSw; first | (go_simp; done) | (go_simp; with_reducible rfl)⟩)
                        refine tk9 6 kB ?_
                        refine tk9 7 kB ?_
                        refine tk9 8 kB ?_ (hy := Or.inl ⟨by rfl, by intro x hSw; (try dsimp only at hSw); have x1 := HY0.out x hSw; first | (go_simp; done) | (go_simp; with_reducible rfl)⟩)
                        refine tk9 9 kB ?_
                        refine wpAnyH_done (by kernel_rfl) ?_ _
                        refine NoPanic.normal ?_
                        have KB2 := Lib.hid (trans9 KBi.out kB)
                        go_wp2_with fail
                        go_roundw
                        case rel => exact ⟨m + 1, _, hml, by go_num, rfl, hr, KB2⟩
                        case measure => simp [intOf]; omega
                      · have heq : (zn == yn) = false := beq_eq_false_iff_ne.2 hC
                        have hr := Lib.hid (hnot.out hC)
                        clear hyes hnot hC
                        go_wp2_with fail
                        refine wp_region_noPanic ?_
                        refine wp_region_held_drew (S := fun X => Below wr.heap.size wr X) (by kernel_rfl) ?_ (fun hHeld => ?_)
                        · exact Below.drew (Below.refl _ _)
                        have kB : Below wr.heap.size wr wr.drew := Below.drew (Below.refl _ _)
                        clear hHeld
                        refine tk9 0 kB ?_
                        refine tk9 1 kB ?_
                        refine tk9 2 kB ?_
                        refine tk9 3 kB ?_
                        refine tk9 4 kB ?_
                        refine tk9 5 kB ?_ (hy := Or.inl ⟨by rfl, by intro x hSw; (try dsimp only at hSw); have x0 := HG0.out x hSw; first | (go_simp; done) | (go_simp; with_reducible rfl)⟩)
                        refine tk9 6 kB ?_
                        refine tk9 7 kB ?_
                        refine tk9 8 kB ?_ (hy := Or.inl ⟨by rfl, by intro x hSw; (try dsimp only at hSw); have x1 := HY0.out x hSw; first | (go_simp; done) | (go_simp; with_reducible rfl)⟩)
                        refine tk9 9 kB ?_
                        refine wpAnyH_done (by kernel_rfl) ?_ _
                        refine NoPanic.normal ?_
                        have KB2 := Lib.hid (trans9 KBi.out kB)
                        go_wp2_with fail
                        go_roundw
                        case rel => exact ⟨m + 1, _, hml, by go_num, rfl, hr, KB2⟩
                        case measure => simp [intOf]; omega
                    · have hall : G.take m = G := List.take_of_length_le (by omega)
                      have KB7 := Lib.hid (trans9 KB6.out KBi.out)
                      have TG7 := Lib.hid (TG6.out.below KBi.out)
                      have YA7 := Lib.hid (YA.out.below KBi.out)
                      have hgl := HGL.out
                      rcases HCC.out with ⟨rfl, hnm⟩ | ⟨p, z, rfl, hpm, hz, hzn⟩
                      · rw [hall] at hnm
                        have GR8 : Hid (GrpOk (flat ((bps l).take k) ++ (fms xF).take (j + 1)) (fms (G ++ [(⟨⟨yn, yk, yu, yh⟩, .slice A3 n3 cap3, yL⟩ : Fs)]))) := Lib.hid (by
                          have h := GR.out.add (y := fm ⟨⟨yn, yk, yu, yh⟩, .slice A3 n3 cap3, yL⟩) (fun x hx => by obtain ⟨u, hu, rfl⟩ := List.mem_map.1 hx; exact hnm u hu)
                          rw [HTS.out, ← List.append_assoc]
                          simpa [fms] using h)
                        have kA := (Below.refl wr.heap.size wr).alloc (Nat.le_refl _) (.cells (famc ⟨yn, yk, yu, yh⟩ (.slice A3 n3 cap3)) 41)
                        have TG8 := Lib.hid (TG7.out.below kA)
                        have KB8 := Lib.hid (trans9 KB7.out kA)
                        have hsz := Lib.hid KB8.out.size
                        have kX := hnew.out wr
                        obtain ⟨x0, x1, x2, x3, x4, xf, xl⟩ := YA7.out
                        simp only at x0 x1 x2 x3 x4
                        clear xf kA hall hnm
                        go_wp2_with (at_builtin; refine wpList_append_knw fmTy encF_len (by rfl) _ _ (by rfl) W5.heap.size _ G (by rfl) TG8.out.own _ [(⟨⟨yn, yk, yu, yh⟩, .slice A3 n3 cap3, yL⟩ : Fs)] (by rfl) kX (by simp) (fun z hz => by rw [List.mem_singleton.1 hz]; exact hone.out) (by simp; omega) hsz.out ?_; intro v7 w7 o7 g7 hv7)
                        have KB9 : Hid (Below W5.heap.size W5 w7) := Lib.hid (Below.grown KB8.out g7 hsz.out (fun q hq => own_ge TG8.out.own q hq))
                        have TG9 : Hid (GTog W5.heap.size (fun b => b = w.heap.size ∨ b = bO) w7 v7 (G ++ [(⟨⟨yn, yk, yu, yh⟩, .slice A3 n3 cap3, yL⟩ : Fs)])) := Lib.hid (TG8.out.snoc o7 g7 hv7 ⟨HYH.out, HYP.out.offw (trans9 K5.out KB9.out) (fun q hq => by
                          have h1 := K5.out.size
                          rcases hq with (e | e) | e
                          · omega
                          · omega
                          · have := own_ge o7 q e; omega)⟩)
                        clear o7 g7 hv7 kX x0 x1 x2 x3 x4 xl
                        go_wp2_with fail
                        go_roundw
                        case rel => exact ⟨j + 1, _, _, rfl, hjl, by go_num, TG9, GR8, KB9⟩
                        case measure => simp [intOf]; omega
                      · obtain ⟨g, cap4, he, hg1, hg2⟩ := TG7.out.list (by have := (List.getElem?_eq_some_iff.1 hz).1; omega)
                        cases he
                        obtain ⟨q0, q1, q2, q3, q4, qf⟩ := TG7.out.cells hz
                        have hzm := List.mem_of_getElem? hz
                        have hzo := TG7.out.pts z hzm
                        have hzfam : famOk z.hd (pts z.L) = true := GR.out.fam (fun x hx => by
                          obtain ⟨bb, hb1, hb2⟩ := flat_mem.1 (HALL.out x (List.mem_append_left _ hx))
                          exact (chk_parts (H1.out bb hb1)).2.1 x hb2) (fm z) (List.mem_map_of_mem hzm)
                        have hzl : z.L.length ≤ 500 := by have := mem_pts hzm HGP.out; omega
                        have hpO := putO_is (x := fm z) (y := fm ⟨⟨yn, yk, yu, yh⟩, .slice A3 n3 cap3, yL⟩) hzn hzfam HYOK.out
                        have hyo : FsOff wr (fun b => (b = w.heap.size ∨ b = bO) ∨ some g = some b) ⟨⟨yn, yk, yu, yh⟩, .slice A3 n3 cap3, yL⟩ := ⟨HYH.out, HYP.out.offw (trans9 K5.out KB7.out) (fun q hq => by
                          have h1 := K5.out.size
                          rcases hq with (e | e) | e
                          · omega
                          · omega
                          · cases e; omega)⟩
                        obtain ⟨EE, hEE⟩ : ∃ EE : Nat → Prop, EE = fun b => (b = w.heap.size ∨ b = bO) ∨ some g = some b := ⟨_, rfl⟩
                        have hzo2 : FsOff wr EE z := by rw [hEE]; exact hzo
                        rw [← hEE] at hyo
                        have HEL : Hid (∀ b, EE b → b < wr.heap.size) := Lib.hid (fun q hq => by
                          have h1 := KB7.out.size
                          have h2 := HQ5.out.lt
                          have h3 := HR5.out.lt
                          rw [hEE] at hq
                          rcases hq with (e | e) | e
                          · omega
                          · omega
                          · cases e; exact hg2)
                        have HPUT : Hid (∀ (X : World) (E2 : Nat → Prop), Below wr.heap.size wr X → (∀ b, b < wr.heap.size → E2 b → EE b) → (∀ b, E2 b → b < X.heap.size) → Calls Tryz.prog 16 #[famv z.hd z.v, famv ⟨yn, yk, yu, yh⟩ (.slice A3 n3 cap3)] X fun e w' => RPut E2 (putO (fm z) (fm ⟨⟨yn, yk, yu, yh⟩, .slice A3 n3 cap3, yL⟩)) e w' ∧ Below X.heap.size X w') := Lib.hid (fun X E2 hX h1 h2 =>
                          rput_calls z ⟨⟨yn, yk, yu, yh⟩, .slice A3 n3 cap3, yL⟩ X E2 h2 ⟨hzo2.1, hzo2.2.move (fun b hb _ => hX.block b hb) hX.size h1⟩ ⟨hyo.1, hyo.2.move (fun b hb _ => hX.block b hb) hX.size h1⟩ hzl HYL.out)
                        have HG5 : Hid (∀ X, Below wr.heap.size wr X → X.cell? ⟨g, p * 5, none⟩ = some (.string (str z.hd.n)) ∧ X.cell? ⟨g, p * 5 + 1, none⟩ = some (.int .i64 z.hd.k) ∧ X.cell? ⟨g, p * 5 + 2, none⟩ = some (.string (str z.hd.u)) ∧ X.cell? ⟨g, p * 5 + 3, none⟩ = some (.string (str z.hd.h)) ∧ X.cell? ⟨g, p * 5 + 4, none⟩ = some z.v) := Lib.hid (fun X hX => ⟨(hX.cell (p := ⟨g, p * 5, none⟩) hg2).trans q0, (hX.cell (p := ⟨g, p * 5 + 1, none⟩) hg2).trans q1, (hX.cell (p := ⟨g, p * 5 + 2, none⟩) hg2).trans q2, (hX.cell (p := ⟨g, p * 5 + 3, none⟩) hg2).trans q3, (hX.cell (p := ⟨g, p * 5 + 4, none⟩) hg2).trans q4⟩)
                        have HFZ : Hid (∀ X, Below wr.heap.size wr X → ∀ o, X.frozen? ⟨g, o, none⟩ = false) := Lib.hid (fun X hX o => (hX.frozen (p := ⟨g, o, none⟩) hg2).trans (qf o))
                        have HY5 : Hid (∀ X, Below wr.heap.size wr X → FamAt X bY ⟨yn, yk, yu, yh⟩ (.slice A3 n3 cap3)) := Lib.hid (fun X hX => YA7.out.below hX)
                        have HZ := Lib.hid hz
                        have HZH := Lib.hid hzo.1
                        have hpg : p < G.length := (List.getElem?_eq_some_iff.1 hz).1
                        have hpI : (p : Int) < (G.length : Int) := by omega
                        have hp0 : (0 : Int) ≤ (p : Int) := by omega
                        have hpn : ¬ (p : Int) < 0 := by omega
                        have dpn : decide ((p : Int) < 0) = false := decide_eq_false hpn
                        have HEE := Lib.hid hEE
                        have HG1 := Lib.hid hg1
                        obtain ⟨A4, n4, cap6, hz1⟩ : ∃ A1 n1 cap1, z.v = .slice A1 n1 cap1 := by obtain ⟨A, cap, he, _⟩ := hzo.2.row.1; exact ⟨A, _, cap, he⟩
                        have HZN := Lib.hid hzn
                        clear q0 q1 q2 q3 q4 qf hzo hzo2 hyo hzfam hzl hall hz hzm hEE
                        obtain ⟨⟨zn, zk, zu, zh⟩, zv, zL⟩ := z
                        simp only at hz1 HG5 HPUT HZH HZN hpO hzn
                        subst hz1
                        clear hzn
                        by_cases hkk : zk = yk
                        · have hO := hpO.1 hkk
                          rw [hO] at HPUT
                          obtain ⟨P, hP⟩ : ∃ P, P = putP (fm ⟨⟨zn, zk, zu, zh⟩, .slice A4 n4 cap6, zL⟩) (fm ⟨⟨yn, yk, yu, yh⟩, .slice A3 n3 cap3, yL⟩) := ⟨_, rfl⟩
                          rw [← hP] at HPUT
                          have HP := Lib.hid hP
                          have HKK := Lib.hid hkk
                          clear hO hpO hP hkk
                          go_wp2_with fail
                          refine wp_region_noPanic ?_
                          refine wp_region_held_drew (S := fun X => Below wr.heap.size wr X) (by kernel_rfl) ?_ (fun hHeld => ?_)
                          · exact Below.drew (Below.refl _ _)
                          have kB : Below wr.heap.size wr wr.drew := Below.drew (Below.refl _ _)
                          clear hHeld
                          refine tk9 0 kB ?_
                          refine tk9 1 kB ?_
                          refine tk9 2 kB ?_
                          refine tk9 3 kB ?_ (hy := Or.inl ⟨by rfl, by intro x hSw; (try dsimp only at hSw); obtain ⟨q0, q1, q2, q3, q4⟩ := HG5.out x hSw; first | (go_simp; done) | (go_simp; with_reducible rfl)⟩)
                          refine tk9 4 kB ?_ (hy := Or.inl ⟨by rfl, by intro x hSw; (try dsimp only at hSw); obtain ⟨f0, f1, f2, f3, f4, ff, fl⟩ := HY5.out x hSw; first | (go_simp; done) | (go_simp; with_reducible rfl)⟩)
                          refine wpAnyH_ready (rs := [5, 9]) (by kernel_rfl) (by simp) ?_
                          refine AllReadyH.cons (by simp only [List.getElem?_toArray, List.getElem?_cons_succ, List.getElem?_cons_zero]; rfl) (fun K hK => ?_) ?_
                          · try go_simp
                            refine (HPUT.out _ EE kB (fun b _ hb => hb) (fun b hb => Nat.lt_of_lt_of_le (HEL.out b hb) kB.size)).mono ?_; rintro e w5 ⟨⟨A5, n5, cap5, L5, h5, rfl, po5, hp5⟩, b5⟩
                            replace kB := trans9 kB b5
                            clear b5
                            obtain ⟨n5n, n5k, n5u, n5h⟩ := h5
                            try go_wp2_with fail
                            refine hK.out _ _ kB (fun hHeld => ?_)
                            clear hK K hHeld
                            (try simp only [Act.put, List.setIfInBounds_toArray, List.set_cons_zero, List.set_cons_succ])
                            refine tk9 6 kB ?_
                            refine tk9 7 kB ?_
                            refine tk9 8 kB ?_
                            refine wpAnyH_ready (rs := [9]) (by kernel_rfl) (by simp) ?_
                            refine AllReadyH.cons (by simp only [List.getElem?_toArray, List.getElem?_cons_succ, List.getElem?_cons_zero]; rfl) (fun K hK => ?_) AllReadyH.nil
                            go_simp
                            have kN : FamAt (w5.alloc (.cells #[.string ⟨#[]⟩, .int .i64 0, .string ⟨#[]⟩, .string ⟨#[]⟩, .slice none 0 0] 41)) w5.heap.size hd0 (.slice none 0 0) := (FamAt.new w5 hd0 (.slice none 0 0) 41)
                            have hge : wr.heap.size ≤ w5.heap.size := kB.size
                            replace po5 := po5.snoc ((.cells #[.string ⟨#[]⟩, .int .i64 0, .string ⟨#[]⟩, .string ⟨#[]⟩, .slice none 0 0] 41))
                            replace kB : Below wr.heap.size wr (w5.alloc (.cells #[.string ⟨#[]⟩, .int .i64 0, .string ⟨#[]⟩, .string ⟨#[]⟩, .slice none 0 0] 41)) := kp_alloc kB _
                            obtain ⟨W9, hW9⟩ : ∃ X, X = (w5.alloc (.cells #[.string ⟨#[]⟩, .int .i64 0, .string ⟨#[]⟩, .string ⟨#[]⟩, .slice none 0 0] 41)) := ⟨_, rfl⟩
                            rw [← hW9] at kB kN po5 ⊢
                            clear hW9
                            obtain ⟨xb, hxb⟩ : ∃ X, X = w5.heap.size := ⟨_, rfl⟩
                            rw [← hxb] at kN hge po5 ⊢
                            clear hxb
                            refine hK.out _ _ kB (fun hHeld => ?_)
                            clear hK K hHeld
                            (try simp only [Act.put, List.setIfInBounds_toArray, List.set_cons_zero, List.set_cons_succ])
                            refine wpAnyH_ready (rs := [10]) (by kernel_rfl) (by simp) ?_
                            refine AllReadyH.cons (by simp only [List.getElem?_toArray, List.getElem?_cons_succ, List.getElem?_cons_zero]; rfl) (fun K hK => ?_) AllReadyH.nil
                            refine step_store_fm (by rfl) (.tmp 13) (.tmp 107) (by rfl) xb _ _ ⟨n5n, n5k, n5u, n5h⟩ A5 n5 cap5 (by rfl) (by rfl) kN ?_
                            have kN5 : FamAt (set5f W9 xb 0 ⟨n5n, n5k, n5u, n5h⟩ (.slice A5 n5 cap5)) xb ⟨n5n, n5k, n5u, n5h⟩ (.slice A5 n5 cap5) := FamAt.set5' (h := ⟨n5n, n5k, n5u, n5h⟩) (u := .slice A5 n5 cap5) kN
                            replace po5 : POff (set5f W9 xb 0 ⟨n5n, n5k, n5u, n5h⟩ (.slice A5 n5 cap5)) (fun b => EE b ∨ b = xb) (.slice A5 n5 cap5) L5 := po5.set5 (n := n5n) (k := n5k) (u := n5u) (h := n5h) (v5 := .slice A5 n5 cap5)
                            replace kB : Below wr.heap.size wr (set5f W9 xb 0 ⟨n5n, n5k, n5u, n5h⟩ (.slice A5 n5 cap5)) := ((((kB.setCell hge _).setCell hge _).setCell hge _).setCell hge _).setCell hge _
                            obtain ⟨W10, hW10⟩ : ∃ X, X = (set5f W9 xb 0 ⟨n5n, n5k, n5u, n5h⟩ (.slice A5 n5 cap5)) := ⟨_, rfl⟩
                            rw [← hW10] at kB kN5 po5 ⊢
                            clear hW10 kN
                            refine hK.out _ _ kB (fun hHeld => ?_)
                            clear hK K hHeld
                            (try simp only [Act.put, List.setIfInBounds_toArray, List.set_cons_zero, List.set_cons_succ])
                            refine tk9 11 kB ?_
                            refine wpAnyH_done (by kernel_rfl) ?_ _
                            refine NoPanic.normal ?_
                            have hp6 : (⟨n5n, n5k, n5u, n5h⟩, pts L5) = P := hp5
                            have KBX := Lib.hid (trans9 KB7.out kB)
                            have TGX : Hid (GTog W5.heap.size (fun b => b = w.heap.size ∨ b = bO) W10 (.slice (some ⟨g, 0, none⟩) G.length cap2) G) := Lib.hid (TG7.out.below kB)
                            have POX : Hid (POff W10 (fun b => (b = w.heap.size ∨ b = bO) ∨ some g = some b) (.slice A5 n5 cap5) L5) := Lib.hid (po5.fewer (fun b hb => Or.inl (by rw [HEE.out]; exact hb)))
                            have TGY := TGX.out.put (hd := ⟨n5n, n5k, n5u, n5h⟩) (lv := .slice A5 n5 cap5) (L' := L5) HZ.out (Below.refl _ _) (putP_in (x := ⟨⟨zn, zk, zu, zh⟩, .slice A4 n4 cap6, zL⟩) (y := ⟨⟨yn, yk, yu, yh⟩, .slice A3 n3 cap3, yL⟩) HZH.out HYH.out (hp6.trans HP.out)) POX.out
                            have GRY : Hid (GrpOk (flat ((bps l).take k) ++ (fms xF).take (j + 1)) (fms (G.set p ⟨⟨n5n, n5k, n5u, n5h⟩, .slice A5 n5 cap5, L5⟩))) := Lib.hid (by
                              have h := GR.out.put (i := p) (x := fm ⟨⟨zn, zk, zu, zh⟩, .slice A4 n4 cap6, zL⟩) (y := fm ⟨⟨yn, yk, yu, yh⟩, .slice A3 n3 cap3, yL⟩) (by rw [List.getElem?_map, HZ.out]; rfl) HZN.out HKK.out
                              rw [HTS.out, ← List.append_assoc, fms_set]
                              rw [← HP.out, ← hp6] at h
                              exact h)
                            have KBY := Lib.hid (Below.setCell (p := ⟨g, p * 5 + 4, none⟩) (Below.setCell (p := ⟨g, p * 5 + 3, none⟩) (Below.setCell (p := ⟨g, p * 5 + 2, none⟩) (Below.setCell (p := ⟨g, p * 5 + 1, none⟩) (Below.setCell (p := ⟨g, p * 5, none⟩) KBX.out HG1.out (.string (str n5n))) HG1.out (.int .i64 n5k)) HG1.out (.string (str n5u))) HG1.out (.string (str n5h))) HG1.out (.slice A5 n5 cap5))
                            simp only [List.length_set] at TGY
                            have TGZ := Lib.hid TGY
                            obtain ⟨q0, q1, q2, q3, q4⟩ := HG5.out W10 kB
                            have fz := HFZ.out W10 kB
                            obtain ⟨z0, z1, z2, z3, z4, zf, zl⟩ := kN5
                            simp only at z0 z1 z2 z3 z4
                            clear zf TGY hp5 hp6 po5 kB
                            replace TGZ : Hid (GTog W5.heap.size (fun b => b = w.heap.size ∨ b = bO) (set5f W10 g (p * 5) ⟨n5n, n5k, n5u, n5h⟩ (.slice A5 n5 cap5)) (.slice (some ⟨g, 0, none⟩) G.length cap2) (G.set p ⟨⟨n5n, n5k, n5u, n5h⟩, .slice A5 n5 cap5, L5⟩)) := TGZ
                            replace KBY : Hid (Below W5.heap.size W5 (set5f W10 g (p * 5) ⟨n5n, n5k, n5u, n5h⟩ (.slice A5 n5 cap5))) := KBY
                            go_wp2_with (refine wpList_store_fm (by rfl) (.tmp 115) (.tmp 114) (by rfl) g (p * 5) ⟨n5n, n5k, n5u, n5h⟩ A5 n5 cap5 (by rfl) (by rfl) q0 q1 q2 q3 q4 fz ?_; obtain ⟨W11, hW11⟩ : ∃ X, X = set5f W10 g (p * 5) ⟨n5n, n5k, n5u, n5h⟩ (.slice A5 n5 cap5) := ⟨_, rfl⟩; rw [← hW11] at TGZ KBY ⊢; clear hW11)
                            go_wp2_with fail
                            go_roundw
                            case rel => exact ⟨j + 1, _, _, rfl, hjl, by go_num, TGZ, GRY, KBY⟩
                            case measure => simp [intOf]; omega
                          refine AllReadyH.cons (by simp only [List.getElem?_toArray, List.getElem?_cons_succ, List.getElem?_cons_zero]; rfl) (fun K hK => ?_) AllReadyH.nil
                          go_simp
                          have kN : FamAt (wr.alloc (.cells #[.string ⟨#[]⟩, .int .i64 0, .string ⟨#[]⟩, .string ⟨#[]⟩, .slice none 0 0] 41)).drew wr.heap.size hd0 (.slice none 0 0) := (FamAt.new wr hd0 (.slice none 0 0) 41).drew'
                          have hge : wr.heap.size ≤ wr.heap.size := Nat.le_refl _
                          replace kB : Below wr.heap.size wr (wr.alloc (.cells #[.string ⟨#[]⟩, .int .i64 0, .string ⟨#[]⟩, .string ⟨#[]⟩, .slice none 0 0] 41)).drew := Below.drew (kp_alloc (Below.refl _ _) _)
                          obtain ⟨W9, hW9⟩ : ∃ X, X = (wr.alloc (.cells #[.string ⟨#[]⟩, .int .i64 0, .string ⟨#[]⟩, .string ⟨#[]⟩, .slice none 0 0] 41)).drew := ⟨_, rfl⟩
                          rw [← hW9] at kB kN  ⊢
                          clear hW9
                          obtain ⟨xb, hxb⟩ : ∃ X, X = wr.heap.size := ⟨_, rfl⟩
                          have kN2 := kN
                          have hge2 := hge
                          rw [← hxb] at kN2 ⊢
                          replace hge2 : wr.heap.size ≤ xb := (by rw [hxb]; exact Nat.le_refl _)
                          clear hxb kN hge
                          have kN := kN2
                          have hge := hge2
                          clear kN2 hge2
                          refine hK.out _ _ kB (fun hHeld => ?_)
                          clear hK K hHeld
                          (try simp only [Act.put, List.setIfInBounds_toArray, List.set_cons_zero, List.set_cons_succ])
                          refine wpAnyH_ready (rs := [5]) (by kernel_rfl) (by simp) ?_
                          refine AllReadyH.cons (by simp only [List.getElem?_toArray, List.getElem?_cons_succ, List.getElem?_cons_zero]; rfl) (fun K hK => ?_) AllReadyH.nil
                          try go_simp
                          refine (HPUT.out _ (fun b => EE b ∨ b = xb) kB (fun b hlt hb => hb.elim id (fun e => absurd hlt (by omega))) (fun b hb => hb.elim (fun e => Nat.lt_of_lt_of_le (HEL.out b e) kB.size) (fun e => by rw [e]; exact kN.lt))).mono ?_; rintro e w5 ⟨⟨A5, n5, cap5, L5, h5, rfl, po5, hp5⟩, b5⟩
                          replace kN := kN.below b5
                          replace kB := trans9 kB b5
                          clear b5
                          obtain ⟨n5n, n5k, n5u, n5h⟩ := h5
                          try go_wp2_with fail
                          refine hK.out _ _ kB (fun hHeld => ?_)
                          clear hK K hHeld
                          (try simp only [Act.put, List.setIfInBounds_toArray, List.set_cons_zero, List.set_cons_succ])
                          refine tk9 6 kB ?_
                          refine tk9 7 kB ?_
                          refine tk9 8 kB ?_
                          refine wpAnyH_ready (rs := [10]) (by kernel_rfl) (by simp) ?_
                          refine AllReadyH.cons (by simp only [List.getElem?_toArray, List.getElem?_cons_succ, List.getElem?_cons_zero]; rfl) (fun K hK => ?_) AllReadyH.nil
                          refine step_store_fm (by rfl) (.tmp 13) (.tmp 107) (by rfl) xb _ _ ⟨n5n, n5k, n5u, n5h⟩ A5 n5 cap5 (by rfl) (by rfl) kN ?_
                          have kN5 : FamAt (set5f w5 xb 0 ⟨n5n, n5k, n5u, n5h⟩ (.slice A5 n5 cap5)) xb ⟨n5n, n5k, n5u, n5h⟩ (.slice A5 n5 cap5) := FamAt.set5' (h := ⟨n5n, n5k, n5u, n5h⟩) (u := .slice A5 n5 cap5) kN
                          replace po5 : POff (set5f w5 xb 0 ⟨n5n, n5k, n5u, n5h⟩ (.slice A5 n5 cap5)) (fun b => EE b ∨ b = xb) (.slice A5 n5 cap5) L5 := po5.set5 (n := n5n) (k := n5k) (u := n5u) (h := n5h) (v5 := .slice A5 n5 cap5)
                          replace kB : Below wr.heap.size wr (set5f w5 xb 0 ⟨n5n, n5k, n5u, n5h⟩ (.slice A5 n5 cap5)) := ((((kB.setCell hge _).setCell hge _).setCell hge _).setCell hge _).setCell hge _
                          obtain ⟨W10, hW10⟩ : ∃ X, X = (set5f w5 xb 0 ⟨n5n, n5k, n5u, n5h⟩ (.slice A5 n5 cap5)) := ⟨_, rfl⟩
                          rw [← hW10] at kB kN5 po5 ⊢
                          clear hW10 kN
                          refine hK.out _ _ kB (fun hHeld => ?_)
                          clear hK K hHeld
                          (try simp only [Act.put, List.setIfInBounds_toArray, List.set_cons_zero, List.set_cons_succ])
                          refine tk9 11 kB ?_
                          refine wpAnyH_done (by kernel_rfl) ?_ _
                          refine NoPanic.normal ?_
                          have hp6 : (⟨n5n, n5k, n5u, n5h⟩, pts L5) = P := hp5
                          have KBX := Lib.hid (trans9 KB7.out kB)
                          have TGX : Hid (GTog W5.heap.size (fun b => b = w.heap.size ∨ b = bO) W10 (.slice (some ⟨g, 0, none⟩) G.length cap2) G) := Lib.hid (TG7.out.below kB)
                          have POX : Hid (POff W10 (fun b => (b = w.heap.size ∨ b = bO) ∨ some g = some b) (.slice A5 n5 cap5) L5) := Lib.hid (po5.fewer (fun b hb => Or.inl (by rw [HEE.out]; exact hb)))
                          have TGY := TGX.out.put (hd := ⟨n5n, n5k, n5u, n5h⟩) (lv := .slice A5 n5 cap5) (L' := L5) HZ.out (Below.refl _ _) (putP_in (x := ⟨⟨zn, zk, zu, zh⟩, .slice A4 n4 cap6, zL⟩) (y := ⟨⟨yn, yk, yu, yh⟩, .slice A3 n3 cap3, yL⟩) HZH.out HYH.out (hp6.trans HP.out)) POX.out
                          have GRY : Hid (GrpOk (flat ((bps l).take k) ++ (fms xF).take (j + 1)) (fms (G.set p ⟨⟨n5n, n5k, n5u, n5h⟩, .slice A5 n5 cap5, L5⟩))) := Lib.hid (by
                            have h := GR.out.put (i := p) (x := fm ⟨⟨zn, zk, zu, zh⟩, .slice A4 n4 cap6, zL⟩) (y := fm ⟨⟨yn, yk, yu, yh⟩, .slice A3 n3 cap3, yL⟩) (by rw [List.getElem?_map, HZ.out]; rfl) HZN.out HKK.out
                            rw [HTS.out, ← List.append_assoc, fms_set]
                            rw [← HP.out, ← hp6] at h
                            exact h)
                          have KBY := Lib.hid (Below.setCell (p := ⟨g, p * 5 + 4, none⟩) (Below.setCell (p := ⟨g, p * 5 + 3, none⟩) (Below.setCell (p := ⟨g, p * 5 + 2, none⟩) (Below.setCell (p := ⟨g, p * 5 + 1, none⟩) (Below.setCell (p := ⟨g, p * 5, none⟩) KBX.out HG1.out (.string (str n5n))) HG1.out (.int .i64 n5k)) HG1.out (.string (str n5u))) HG1.out (.string (str n5h))) HG1.out (.slice A5 n5 cap5))
                          simp only [List.length_set] at TGY
                          have TGZ := Lib.hid TGY
                          obtain ⟨q0, q1, q2, q3, q4⟩ := HG5.out W10 kB
                          have fz := HFZ.out W10 kB
                          obtain ⟨z0, z1, z2, z3, z4, zf, zl⟩ := kN5
                          simp only at z0 z1 z2 z3 z4
                          clear zf TGY hp5 hp6 po5 kB
                          replace TGZ : Hid (GTog W5.heap.size (fun b => b = w.heap.size ∨ b = bO) (set5f W10 g (p * 5) ⟨n5n, n5k, n5u, n5h⟩ (.slice A5 n5 cap5)) (.slice (some ⟨g, 0, none⟩) G.length cap2) (G.set p ⟨⟨n5n, n5k, n5u, n5h⟩, .slice A5 n5 cap5, L5⟩)) := TGZ
                          replace KBY : Hid (Below W5.heap.size W5 (set5f W10 g (p * 5) ⟨n5n, n5k, n5u, n5h⟩ (.slice A5 n5 cap5))) := KBY
                          go_wp2_with (refine wpList_store_fm (by rfl) (.tmp 115) (.tmp 114) (by rfl) g (p * 5) ⟨n5n, n5k, n5u, n5h⟩ A5 n5 cap5 (by rfl) (by rfl) q0 q1 q2 q3 q4 fz ?_; obtain ⟨W11, hW11⟩ : ∃ X, X = set5f W10 g (p * 5) ⟨n5n, n5k, n5u, n5h⟩ (.slice A5 n5 cap5) := ⟨_, rfl⟩; rw [← hW11] at TGZ KBY ⊢; clear hW11)
                          go_wp2_with fail
                          go_roundw
                          case rel => exact ⟨j + 1, _, _, rfl, hjl, by go_num, TGZ, GRY, KBY⟩
                          case measure => simp [intOf]; omega
                        · have hO := hpO.2 hkk
                          rw [hO] at HPUT
                          have hbad := GR.out.bad (y := fm ⟨⟨yn, yk, yu, yh⟩, .slice A3 n3 cap3, yL⟩) (List.mem_map_of_mem (f := fm) (List.mem_of_getElem? HZ.out)) HZN.out hkk
                          have hm13 : Hid (mErr (bps l) = 13) := Lib.hid (by
                            have hr : mRef (bps l) = 13 := mRef_13 H1.out H2.out (fun ha => hbad (agree_sub HALL.out ha))
                            rw [mErr_ref (by rw [hr]; decide) hL0.out, hr])
                          clear hO hpO hbad hkk
                          go_wp2_with fail
                          refine wp_region_noPanic ?_
                          refine wp_region_held_drew (S := fun X => Below wr.heap.size wr X) (by kernel_rfl) ?_ (fun hHeld => ?_)
                          · exact Below.drew (Below.refl _ _)
                          have kB : Below wr.heap.size wr wr.drew := Below.drew (Below.refl _ _)
                          clear hHeld
                          refine tk9 0 kB ?_
                          refine tk9 1 kB ?_
                          refine tk9 2 kB ?_
                          refine tk9 3 kB ?_ (hy := Or.inl ⟨by rfl, by intro x hSw; (try dsimp only at hSw); obtain ⟨q0, q1, q2, q3, q4⟩ := HG5.out x hSw; first | (go_simp; done) | (go_simp; with_reducible rfl)⟩)
                          refine tk9 4 kB ?_ (hy := Or.inl ⟨by rfl, by intro x hSw; (try dsimp only at hSw); obtain ⟨f0, f1, f2, f3, f4, ff, fl⟩ := HY5.out x hSw; first | (go_simp; done) | (go_simp; with_reducible rfl)⟩)
                          refine wpAnyH_ready (rs := [5, 9]) (by kernel_rfl) (by simp) ?_
                          refine AllReadyH.cons (by simp only [List.getElem?_toArray, List.getElem?_cons_succ, List.getElem?_cons_zero]; rfl) (fun K hK => ?_) ?_
                          · try go_simp
                            refine (HPUT.out _ EE kB (fun b _ hb => hb) (fun b hb => Nat.lt_of_lt_of_le (HEL.out b hb) kB.size)).mono ?_; rintro e w5 ⟨⟨A5, n5, cap5, L5, h5, rfl, po5, hp5⟩, b5⟩
                            replace kB := trans9 kB b5
                            clear b5
                            obtain ⟨n5n, n5k, n5u, n5h⟩ := h5
                            try go_wp2_with fail
                            refine hK.out _ _ kB (fun hHeld => ?_)
                            clear hK K hHeld
                            (try simp only [Act.put, List.setIfInBounds_toArray, List.set_cons_zero, List.set_cons_succ])
                            refine tk9 6 kB ?_
                            refine tk9 7 kB ?_
                            refine tk9 8 kB ?_
                            refine wpAnyH_ready (rs := [9]) (by kernel_rfl) (by simp) ?_
                            refine AllReadyH.cons (by simp only [List.getElem?_toArray, List.getElem?_cons_succ, List.getElem?_cons_zero]; rfl) (fun K hK => ?_) AllReadyH.nil
                            go_simp
                            have kN : FamAt (w5.alloc (.cells #[.string ⟨#[]⟩, .int .i64 0, .string ⟨#[]⟩, .string ⟨#[]⟩, .slice none 0 0] 41)) w5.heap.size hd0 (.slice none 0 0) := (FamAt.new w5 hd0 (.slice none 0 0) 41)
                            have hge : wr.heap.size ≤ w5.heap.size := kB.size
                            replace po5 := po5.snoc ((.cells #[.string ⟨#[]⟩, .int .i64 0, .string ⟨#[]⟩, .string ⟨#[]⟩, .slice none 0 0] 41))
                            replace kB : Below wr.heap.size wr (w5.alloc (.cells #[.string ⟨#[]⟩, .int .i64 0, .string ⟨#[]⟩, .string ⟨#[]⟩, .slice none 0 0] 41)) := kp_alloc kB _
                            obtain ⟨W9, hW9⟩ : ∃ X, X = (w5.alloc (.cells #[.string ⟨#[]⟩, .int .i64 0, .string ⟨#[]⟩, .string ⟨#[]⟩, .slice none 0 0] 41)) := ⟨_, rfl⟩
                            rw [← hW9] at kB kN po5 ⊢
                            clear hW9
                            obtain ⟨xb, hxb⟩ : ∃ X, X = w5.heap.size := ⟨_, rfl⟩
                            rw [← hxb] at kN hge po5 ⊢
                            clear hxb
                            refine hK.out _ _ kB (fun hHeld => ?_)
                            clear hK K hHeld
                            (try simp only [Act.put, List.setIfInBounds_toArray, List.set_cons_zero, List.set_cons_succ])
                            refine wpAnyH_ready (rs := [10]) (by kernel_rfl) (by simp) ?_
                            refine AllReadyH.cons (by simp only [List.getElem?_toArray, List.getElem?_cons_succ, List.getElem?_cons_zero]; rfl) (fun K hK => ?_) AllReadyH.nil
                            refine step_store_fm (by rfl) (.tmp 13) (.tmp 107) (by rfl) xb _ _ ⟨n5n, n5k, n5u, n5h⟩ A5 n5 cap5 (by rfl) (by rfl) kN ?_
                            have kN5 : FamAt (set5f W9 xb 0 ⟨n5n, n5k, n5u, n5h⟩ (.slice A5 n5 cap5)) xb ⟨n5n, n5k, n5u, n5h⟩ (.slice A5 n5 cap5) := FamAt.set5' (h := ⟨n5n, n5k, n5u, n5h⟩) (u := .slice A5 n5 cap5) kN
                            replace po5 : POff (set5f W9 xb 0 ⟨n5n, n5k, n5u, n5h⟩ (.slice A5 n5 cap5)) (fun b => EE b ∨ b = xb) (.slice A5 n5 cap5) L5 := po5.set5 (n := n5n) (k := n5k) (u := n5u) (h := n5h) (v5 := .slice A5 n5 cap5)
                            replace kB : Below wr.heap.size wr (set5f W9 xb 0 ⟨n5n, n5k, n5u, n5h⟩ (.slice A5 n5 cap5)) := ((((kB.setCell hge _).setCell hge _).setCell hge _).setCell hge _).setCell hge _
                            obtain ⟨W10, hW10⟩ : ∃ X, X = (set5f W9 xb 0 ⟨n5n, n5k, n5u, n5h⟩ (.slice A5 n5 cap5)) := ⟨_, rfl⟩
                            rw [← hW10] at kB kN5 po5 ⊢
                            clear hW10 kN
                            refine hK.out _ _ kB (fun hHeld => ?_)
                            clear hK K hHeld
                            (try simp only [Act.put, List.setIfInBounds_toArray, List.set_cons_zero, List.set_cons_succ])
                            refine tk9 11 kB ?_
                            refine wpAnyH_done (by kernel_rfl) ?_ _
                            refine NoPanic.normal ?_
                            have KBX := Lib.hid (trans9 K5.out (trans9 KB7.out kB))
                            have HRc := Lib.hid (HR5.out.below (trans9 KB7.out kB))
                            clear hp5 po5 kN5 HPUT
                            obtain ⟨y0, y1, yf, yl⟩ := HRc.out
                            go_wp2_with ((with_reducible refine bodyPost_ret (v := .tuple #[.agg #[.string ⟨#[]⟩, .slice none 0 0], .int .i64 13]) ?hr rfl ?hR); (case hr => simp [results, Tryz.results11, go_sem, y0, y1]); (case hR => exact ⟨MrgRes.no hm13.out (by decide), (KBX.out.setCell (Nat.le_refl _) _).setCell (Nat.le_refl _) _⟩))
                          refine AllReadyH.cons (by simp only [List.getElem?_toArray, List.getElem?_cons_succ, List.getElem?_cons_zero]; rfl) (fun K hK => ?_) AllReadyH.nil
                          go_simp
                          have kN : FamAt (wr.alloc (.cells #[.string ⟨#[]⟩, .int .i64 0, .string ⟨#[]⟩, .string ⟨#[]⟩, .slice none 0 0] 41)).drew wr.heap.size hd0 (.slice none 0 0) := (FamAt.new wr hd0 (.slice none 0 0) 41).drew'
                          have hge : wr.heap.size ≤ wr.heap.size := Nat.le_refl _
                          replace kB : Below wr.heap.size wr (wr.alloc (.cells #[.string ⟨#[]⟩, .int .i64 0, .string ⟨#[]⟩, .string ⟨#[]⟩, .slice none 0 0] 41)).drew := Below.drew (kp_alloc (Below.refl _ _) _)
                          obtain ⟨W9, hW9⟩ : ∃ X, X = (wr.alloc (.cells #[.string ⟨#[]⟩, .int .i64 0, .string ⟨#[]⟩, .string ⟨#[]⟩, .slice none 0 0] 41)).drew := ⟨_, rfl⟩
                          rw [← hW9] at kB kN  ⊢
                          clear hW9
                          obtain ⟨xb, hxb⟩ : ∃ X, X = wr.heap.size := ⟨_, rfl⟩
                          have kN2 := kN
                          have hge2 := hge
                          rw [← hxb] at kN2 ⊢
                          replace hge2 : wr.heap.size ≤ xb := (by rw [hxb]; exact Nat.le_refl _)
                          clear hxb kN hge
                          have kN := kN2
                          have hge := hge2
                          clear kN2 hge2
                          refine hK.out _ _ kB (fun hHeld => ?_)
                          clear hK K hHeld
                          (try simp only [Act.put, List.setIfInBounds_toArray, List.set_cons_zero, List.set_cons_succ])
                          refine wpAnyH_ready (rs := [5]) (by kernel_rfl) (by simp) ?_
                          refine AllReadyH.cons (by simp only [List.getElem?_toArray, List.getElem?_cons_succ, List.getElem?_cons_zero]; rfl) (fun K hK => ?_) AllReadyH.nil
                          try go_simp
                          refine (HPUT.out _ (fun b => EE b ∨ b = xb) kB (fun b hlt hb => hb.elim id (fun e => absurd hlt (by omega))) (fun b hb => hb.elim (fun e => Nat.lt_of_lt_of_le (HEL.out b e) kB.size) (fun e => by rw [e]; exact kN.lt))).mono ?_; rintro e w5 ⟨⟨A5, n5, cap5, L5, h5, rfl, po5, hp5⟩, b5⟩
                          replace kN := kN.below b5
                          replace kB := trans9 kB b5
                          clear b5
                          obtain ⟨n5n, n5k, n5u, n5h⟩ := h5
                          try go_wp2_with fail
                          refine hK.out _ _ kB (fun hHeld => ?_)
                          clear hK K hHeld
                          (try simp only [Act.put, List.setIfInBounds_toArray, List.set_cons_zero, List.set_cons_succ])
                          refine tk9 6 kB ?_
                          refine tk9 7 kB ?_
                          refine tk9 8 kB ?_
                          refine wpAnyH_ready (rs := [10]) (by kernel_rfl) (by simp) ?_
                          refine AllReadyH.cons (by simp only [List.getElem?_toArray, List.getElem?_cons_succ, List.getElem?_cons_zero]; rfl) (fun K hK => ?_) AllReadyH.nil
                          refine step_store_fm (by rfl) (.tmp 13) (.tmp 107) (by rfl) xb _ _ ⟨n5n, n5k, n5u, n5h⟩ A5 n5 cap5 (by rfl) (by rfl) kN ?_
                          have kN5 : FamAt (set5f w5 xb 0 ⟨n5n, n5k, n5u, n5h⟩ (.slice A5 n5 cap5)) xb ⟨n5n, n5k, n5u, n5h⟩ (.slice A5 n5 cap5) := FamAt.set5' (h := ⟨n5n, n5k, n5u, n5h⟩) (u := .slice A5 n5 cap5) kN
                          replace po5 : POff (set5f w5 xb 0 ⟨n5n, n5k, n5u, n5h⟩ (.slice A5 n5 cap5)) (fun b => EE b ∨ b = xb) (.slice A5 n5 cap5) L5 := po5.set5 (n := n5n) (k := n5k) (u := n5u) (h := n5h) (v5 := .slice A5 n5 cap5)
                          replace kB : Below wr.heap.size wr (set5f w5 xb 0 ⟨n5n, n5k, n5u, n5h⟩ (.slice A5 n5 cap5)) := ((((kB.setCell hge _).setCell hge _).setCell hge _).setCell hge _).setCell hge _
                          obtain ⟨W10, hW10⟩ : ∃ X, X = (set5f w5 xb 0 ⟨n5n, n5k, n5u, n5h⟩ (.slice A5 n5 cap5)) := ⟨_, rfl⟩
                          rw [← hW10] at kB kN5 po5 ⊢
                          clear hW10 kN
                          refine hK.out _ _ kB (fun hHeld => ?_)
                          clear hK K hHeld
                          (try simp only [Act.put, List.setIfInBounds_toArray, List.set_cons_zero, List.set_cons_succ])
                          refine tk9 11 kB ?_
                          refine wpAnyH_done (by kernel_rfl) ?_ _
                          refine NoPanic.normal ?_
                          have KBX := Lib.hid (trans9 K5.out (trans9 KB7.out kB))
                          have HRc := Lib.hid (HR5.out.below (trans9 KB7.out kB))
                          clear hp5 po5 kN5 HPUT
                          obtain ⟨y0, y1, yf, yl⟩ := HRc.out
                          go_wp2_with ((with_reducible refine bodyPost_ret (v := .tuple #[.agg #[.string ⟨#[]⟩, .slice none 0 0], .int .i64 13]) ?hr rfl ?hR); (case hr => simp [results, Tryz.results11, go_sem, y0, y1]); (case hR => exact ⟨MrgRes.no hm13.out (by decide), (KBX.out.setCell (Nat.le_refl _) _).setCell (Nat.le_refl _) _⟩))
                · have hall : (fms xF).take j = fms xF := List.take_of_length_le (by have := HNF.out; simp [fms]; omega)
                  have GR2 : Hid (GrpOk (flat ((bps l).take (k + 1))) (fms G)) := Lib.hid (by rw [HFT.out, ← hall]; exact GR.out)
                  clear hall GR
                  go_wp2_with fail
                  go_roundw
                  case rel => exact ⟨k + 1, fv, G, rfl, hkl, by go_num, TG, GR2, KB⟩
                  case measure => simp [intOf]; omega
            · have hall : (bps l).take k = bps l := List.take_of_length_le (by rw [List.length_map]; omega)
              rw [hall] at GR
              have KW := Lib.hid (trans9 K5.out KB.out)
              have h4 := GR.out.four (T := []) H1.out (by rw [List.length_map]; exact hl4) (by simp)
              have HGL : Hid (G.length ≤ 120) := Lib.hid (by have := h4.1; rwa [List.length_map] at this)
              have HGP := Lib.hid h4.2
              have hfam : ∀ x ∈ fms G, famOk x.1 x.2 = true := GR.out.fam (fun x hx => by
                obtain ⟨bb, hb1, hb2⟩ := flat_mem.1 hx
                exact (chk_parts (H1.out bb hb1)).2.1 x hb2)
              have hso := Lib.hid (rsortfams_calls G fv wr (fun b => b = w.heap.size ∨ b = bO) (fun q hq => by
                have h1 := KB.out.size
                have h2 := HQ5.out.lt
                have h3 := HR5.out.lt
                rcases hq with e | e <;> omega) (KOwn.row encF_len TG.out.own) (fun x hx => ⟨(TG.out.pts x hx).1, (TG.out.pts x hx).2.fewer (fun b hb => Or.inl hb)⟩) (by have := HGL.out; omega) (fun x hx => by have := mem_pts hx HGP.out; omega) (fun x hx => famOk_strict (hfam (fm x) (List.mem_map_of_mem hx))) GR.out.nd)
              have HFM := Lib.hid hfam
              have HPM := Lib.hid GR.out.perm
              clear h4 hfam hall
              go_wp2_with fail
              refine hso.out.mono ?_; rintro e w8 ⟨⟨A8, n8, cap8, M, rfl, o8, x8, pm8, st8⟩, b8⟩
              have HM8 : Hid (fms M = allF (flat (bps l))) := Lib.hid (strictT_unique tp_cmpF (pm8.trans HPM.out) st8 (allF_strict _))
              have HFM8 : Hid (∀ x ∈ fms M, famOk x.1 x.2 = true) := Lib.hid (fun x hx => HFM.out x (pm8.mem_iff.1 hx))
              have HFEW : Hid (FmFew M) := Lib.hid ⟨by have h1 := pm8.length_eq; have h2 := HGL.out; rw [List.length_map, List.length_map] at h1; omega, fun x hx => by have h1 := nPts_perm pm8; have h2 := HGP.out; exact Nat.le_trans (mem_pts hx (by rw [h1]; exact h2)) (by omega), fun x hx y hy => famOk_lab (HFM8.out (fm x) (List.mem_map_of_mem hx)) y.2 (List.mem_map_of_mem hy)⟩
              have KB8 := Lib.hid (trans9 KB.out b8)
              have hbO : bO < wr.heap.size := Nat.lt_of_lt_of_le HQ5.out.lt KB.out.size
              have hbR : w.heap.size < wr.heap.size := Nat.lt_of_lt_of_le HR5.out.lt KB.out.size
              have Q8 := HQ5.out.below KB8.out
              have OW : Hid (FmOwn (w8.setCell ⟨bO, 1, none⟩ (.slice A8 n8 cap8)) wr.heap.size (.slice A8 n8 cap8) M) := Lib.hid (o8.ofBlock (fun q hq => Below.heap_setCell _ _ _ _ (by have h1 := own_ge o8 q hq; show q ≠ bO; omega)))
              have XW : Hid (∀ x ∈ M, FsOff (w8.setCell ⟨bO, 1, none⟩ (.slice A8 n8 cap8)) (fun b => b = w.heap.size ∨ b = bO) x) := Lib.hid (fun x hx => ⟨(x8 x hx).1, (x8 x hx).2.move (fun q hq he => Below.heap_setCell _ _ _ _ (fun e => he (Or.inr e))) (by simp [World.setCell]) (fun _ _ e => e)⟩)
              have QW : Hid (BatAt (w8.setCell ⟨bO, 1, none⟩ (.slice A8 n8 cap8)) bO t0 (.slice A8 n8 cap8)) := Lib.hid Q8.set1
              have RW : Hid (BatAt (w8.setCell ⟨bO, 1, none⟩ (.slice A8 n8 cap8)) w.heap.size [] (.slice none 0 0)) := Lib.hid (bat_same (HR5.out.below KB8.out) (Below.heap_setCell _ _ _ _ (by show w.heap.size ≠ bO; omega)) (by have := KB8.out.size; have := HR5.out.lt; simp [World.setCell]; omega))
              have KX : Hid (Below w.heap.size w (w8.setCell ⟨bO, 1, none⟩ (.slice A8 n8 cap8))) := Lib.hid (Below.setCell (p := ⟨bO, 1, none⟩) (trans9 K5.out KB8.out) (by show w.heap.size ≤ bO; omega) _)
              obtain ⟨z0, z1, zf, zl⟩ := Q8
              have zf1 := zf 1
              have hszw : wr.heap.size ≤ w8.heap.size := b8.size
              clear zf o8 x8 pm8 st8 b8 hso
              go_upto_region 35 with fail
              obtain ⟨W9, hW9⟩ : ∃ W, W = w8.setCell ⟨bO, 1, none⟩ (.slice A8 n8 cap8) := ⟨_, rfl⟩
              have hszw9 : W9.heap.size = w8.heap.size := by rw [hW9]; simp [World.setCell]
              rw [← hW9] at OW XW QW RW KX ⊢
              clear hW9 z0 z1 zl zf1
              have hck := Lib.hid (rcheck_calls t0 M (.slice A8 n8 cap8) W9 ⟨KOwn.row encF_len OW.out, fun x hx => (XW.out x hx).fsin⟩ HFEW.out HTL.out)
              have HME : Hid (mErr (bps l) = chk t0 (fms M)) := Lib.hid (by rw [mErr_all (mRef_zero.2 ⟨H1.out, H2.out, GR.out.ag⟩) hL0.out, HTEN.out, HM8.out])
              obtain ⟨z0, z1, zf, zl⟩ := QW.out
              clear zf
              generalize chk t0 (fms M) = C at *
              go_wp2_with fail
              refine hck.out.mono ?_; rintro e w10 ⟨rfl, b10⟩
              have QX := Lib.hid (QW.out.below b10)
              have RX := Lib.hid (RW.out.below b10)
              have KY := Lib.hid (trans9 KX.out b10)
              have XX := Lib.hid (fun x hx => (XW.out x hx).below b10)
              have OX := Lib.hid (OW.out.below b10)
              clear b10 z0 z1 zl hck
              by_cases hC : C = 0
              · have d1 : (C == 0) = true := by simpa using hC
                have d2 : decide (C = 0) = true := decide_eq_true hC
                have hm0 : Hid (mErr (bps l) = 0) := Lib.hid (by rw [HME.out, hC])
                obtain ⟨z0, z1, zf, zl⟩ := QX.out
                obtain ⟨y0, y1, yf, yl⟩ := RX.out
                have hFin : Hid (FmRow ((w10.setCell ⟨w.heap.size, 0, none⟩ (.string (str t0))).setCell ⟨w.heap.size, 1, none⟩ (.slice A8 n8 cap8)) (.slice A8 n8 cap8) M) := Lib.hid ⟨KOwn.row encF_len (OX.out.ofBlock (fun q hq => by
                  have h1 := own_ge OX.out q hq
                  have hne : q ≠ w.heap.size := by omega
                  rw [Below.heap_setCell _ _ _ _ hne, Below.heap_setCell _ _ _ _ hne])), fun x hx => FsOff.fsin (E := fun b => b = w.heap.size ∨ b = bO) ⟨(XX.out x hx).1, (XX.out x hx).2.move (fun q hq he => by
                  have hne : q ≠ w.heap.size := fun e => he (Or.inl e)
                  rw [Below.heap_setCell _ _ _ _ hne, Below.heap_setCell _ _ _ _ hne]) (by simp [World.setCell]) (fun _ _ e => e)⟩⟩
                have HYES := Lib.hid (MrgRes.yes hm0.out hFin.out HM8.out)
                rw [HTEN.out] at HYES
                have KYY : Hid (Below w.heap.size w ((w10.setCell ⟨w.heap.size, 0, none⟩ (.string (str t0))).setCell ⟨w.heap.size, 1, none⟩ (.slice A8 n8 cap8))) := Lib.hid ((KY.out.setCell (Nat.le_refl _) _).setCell (Nat.le_refl _) _)
                clear hC zf
                go_wp2_with ((with_reducible refine bodyPost_ret (v := .tuple #[.agg #[.string (str t0), .slice A8 n8 cap8], .int .i64 0]) ?hr rfl ?hR); (case hr => simp [results, Tryz.results11, go_sem, y0, y1]); (case hR => exact ⟨HYES.out, KYY.out⟩))
              · have d1 : (C == 0) = false := by simpa using hC
                have d2 : decide (C = 0) = false := decide_eq_false hC
                have HCC := Lib.hid hC
                clear hC
                obtain ⟨y0, y1, yf, yl⟩ := RX.out
                go_wp2_with ((with_reducible refine bodyPost_ret (v := .tuple #[.agg #[.string ⟨#[]⟩, .slice none 0 0], .int .i64 C]) ?hr rfl ?hR); (case hr => simp [results, Tryz.results11, go_sem, y0, y1]); (case hR => exact ⟨MrgRes.no HME.out HCC.out, (KY.out.setCell (Nat.le_refl _) _).setCell (Nat.le_refl _) _⟩))
end Go.Proofs.YtjeefgamkoeiaaaGreatDoor
