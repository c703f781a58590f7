/- The texts MrgPL, MrgHp, MrgSt, MrgArg, one behind the other. -/
import Derived.Test.YtjeefgamkoeiaaaGreatDoorMrgP
import Derived.Test.YtjeefgamkoeiaaaGreatDoorRefMrgA
import Derived.Test.YtjeefgamkoeiaaaGreatDoorMrgW
import Derived.Test.YtjeefgamkoeiaaaGreatDoorBatS
import Derived.Deep.RegionLaw
import Derived.Test.YtjeefgamkoeiaaaGreatDoorMrgK
import Derived.Deep.RegionHeld3
import Derived.Test.YtjeefgamkoeiaaaGreatDoorMrgY

/- Points that are looked up, in plain words. -/
set_option maxRecDepth 100000
set_option linter.unusedVariables false
set_option linter.unusedSimpArgs false
namespace Go.Proofs.YtjeefgamkoeiaaaGreatDoor
open Dc

/-- the first point like p in the families of that name -/
def ptLook (F : List Fp) (n : List UInt8) (p : Pt) : Option Pt := F.findSome? fun x => if x.1.n = n then look cmpP x.2 p else none
theorem ptLook_nil (n : List UInt8) (p : Pt) : ptLook [] n p = none := rfl
theorem ptLook_cons (x : Fp) (F : List Fp) (n : List UInt8) (p : Pt) : ptLook (x :: F) n p = (if x.1.n = n then look cmpP x.2 p else none).or (ptLook F n p) := by
  unfold ptLook
  rw [List.findSome?_cons]
  cases (if x.1.n = n then look cmpP x.2 p else none) <;> rfl
theorem ptLook_no {F : List Fp} {n : List UInt8} {p : Pt} (h : ∀ x ∈ F, x.1.n ≠ n) : ptLook F n p = none := by
  induction F with
  | nil => rfl
  | cons x F ih =>
    rw [ptLook_cons, if_neg (h x List.mem_cons_self), ih fun y hy => h y (List.mem_cons_of_mem _ hy)]; rfl
theorem ptLook_at {F : List Fp} (hs : StrictT cmpF F) {x : Fp} (hx : x ∈ F) (p : Pt) : ptLook F x.1.n p = look cmpP x.2 p := by
  induction F with
  | nil => cases hx
  | cons y F ih =>
    have h1 := (List.pairwise_cons.1 hs).1
    rw [ptLook_cons]
    rcases List.mem_cons.1 hx with rfl | hx
    · rw [if_pos rfl, ptLook_no (fun z hz e => by have := h1 z hz; have h2 : cmpF x z = 0 := cmpF_zero.2 e.symm; omega)]
      simp
    · rw [if_neg (fun e => by have := h1 x hx; have h2 : cmpF y x = 0 := cmpF_zero.2 e; omega), ih (List.pairwise_cons.1 hs).2 hx]
      simp
/-- in a rising row: by the family of that name -/
theorem ptLook_look {F : List Fp} (hs : StrictT cmpF F) (x : Fp) (p : Pt) : ptLook F x.1.n p = (look cmpF F x).bind fun y => look cmpP y.2 p := by
  cases h : look cmpF F x with
  | none => exact ptLook_no fun y hy e => look_none.1 h y hy (cmpF_zero.2 e)
  | some y =>
    have hy := look_some h
    have e := cmpF_zero.1 hy.2
    rw [← e]
    exact ptLook_at hs hy.1 p
/-- what is looked up in what both are together: in the later one, else in the other one -/
theorem ptLook_mrg {A B : List Fp} (hA : StrictT cmpF A) (hB : StrictT cmpF B) (pA : ∀ x ∈ A, StrictP x.2) (pB : ∀ x ∈ B, StrictP x.2) (n : List UInt8) (p : Pt) :
    ptLook (mrgF A B) n p = (ptLook B n p).or (ptLook A n p) := by
  have hx : n = (⟨⟨n, 0, [], []⟩, []⟩ : Fp).1.n := rfl
  rw [hx, ptLook_look (mrgF_strict hA B), ptLook_look hA, ptLook_look hB, mrgF, mrg_look tp_cmpF put_hg _ hA (strictT_nd hB)]
  cases hb : look cmpF B (⟨n, 0, [], []⟩, []) with
  | none => cases look cmpF A (⟨n, 0, [], []⟩, []) <;> simp [comb]
  | some y =>
    cases ha : look cmpF A (⟨n, 0, [], []⟩, []) with
    | none => simp [comb]
    | some x =>
      show look cmpP (putP x y).2 p = _
      have h1 := mrg_look tp_cmpP snd_hg p (pA x (look_some ha).1) (strictT_nd (pB y (look_some hb).1))
      show look cmpP (mrgP x.2 y.2) p = (look cmpP y.2 p).or (look cmpP x.2 p)
      rw [mrgP, h1]
      cases look cmpP x.2 p <;> cases look cmpP y.2 p <;> rfl
/-- a point of a family is found as itself -/
theorem ptLook_self {F : List Fp} (hs : StrictT cmpF F) (hp : ∀ x ∈ F, StrictP x.2) {x : Fp} (hx : x ∈ F) {p : Pt} (h : p ∈ x.2) : ptLook F x.1.n p = some p := by
  rw [ptLook_at hs hx]
  exact look_mem tp_cmpP (strictT_nd (hp x hx)) h (tp_cmpP.refl p)

/-- batches that were put together -/
structure AllOk (L : List Bp) : Prop where
  c : ∀ b ∈ L, chk b.1 b.2 = 0
  ag : agreeF (flat L)
theorem AllOk.of {L : List Bp} (h : mRef L = 0) : AllOk L := ⟨(mRef_zero.1 h).1, (mRef_zero.1 h).2.2⟩
theorem AllOk.strict {L : List Bp} (h : AllOk L) (k : Nat) : ∀ x ∈ allF (flat (L.take k)), StrictP x.2 := fun x hx => fam_strict (mrg_famOk (fun y hy => by
  obtain ⟨b, hb, hyb⟩ := flat_mem.1 (by simpa using hy)
  exact (chk_parts (h.c b (List.mem_of_mem_take hb))).2.1 y hyb) (agree_sub (fun y hy => by
    obtain ⟨b, hb, hyb⟩ := flat_mem.1 (by simpa using hy)
    exact flat_mem.2 ⟨b, List.mem_of_mem_take hb, hyb⟩) h.ag) x hx)
theorem flat_take' {l : List Bp} {k : Nat} {x : Bp} (h : l[k]? = some x) : flat (l.take (k + 1)) = flat (l.take k) ++ x.2 := by
  obtain ⟨hk, rfl⟩ := List.getElem?_eq_some_iff.1 h
  rw [List.take_succ_eq_append_getElem hk, flat_append, flat_cons]; simp [flat]
theorem AllOk.step {L : List Bp} (h : AllOk L) {k : Nat} {b : Bp} (hb : L[k]? = some b) (n : List UInt8) (p : Pt) :
    ptLook (allF (flat (L.take (k + 1)))) n p = (ptLook b.2 n p).or (ptLook (allF (flat (L.take k))) n p) := by
  have hm := List.mem_of_getElem? hb
  have hc := h.c b hm
  rw [flat_take' hb, allF, mrgF, mrg_append]
  exact ptLook_mrg (allF_strict _) (chk_parts hc).1 (h.strict k) (chk_ps hc) n p
/-- each point of each batch is there -/
theorem AllOk.there {L : List Bp} (h : AllOk L) {n : List UInt8} {p : Pt} : ∀ (k j : Nat) {b : Bp}, k < j → j ≤ L.length → L[k]? = some b → (ptLook b.2 n p).isSome = true → (ptLook (allF (flat (L.take j))) n p).isSome = true
  | k, 0, b, hkj, _, _, _ => by omega
  | k, j + 1, b, hkj, hj, hb, hs => by
    rw [h.step (List.getElem?_eq_getElem (show j < L.length by omega))]
    by_cases e : k = j
    · subst e
      obtain ⟨hk, rfl⟩ := List.getElem?_eq_some_iff.1 hb
      cases hx : ptLook L[k].2 n p with
      | none => rw [hx] at hs; cases hs
      | some x => rfl
    · have h1 := AllOk.there h k j (by omega) (by omega) hb hs
      cases ptLook (L[j]'(by omega)).2 n p with
      | none => simpa using h1
      | some x => rfl
theorem there_all {L : List Bp} (h : AllOk L) {n : List UInt8} {p : Pt} {k : Nat} {b : Bp} (hb : L[k]? = some b) (hs : (ptLook b.2 n p).isSome = true) : (ptLook (allF (flat L)) n p).isSome = true := by
  have h1 := h.there (n := n) (p := p) k L.length (List.getElem?_eq_some_iff.1 hb).1 (Nat.le_refl _) hb hs
  rwa [List.take_length] at h1

end Go.Proofs.YtjeefgamkoeiaaaGreatDoor

/- The walk of polyglothelp.Point. -/
set_option maxRecDepth 100000
set_option linter.unusedVariables false
set_option linter.unusedSimpArgs false
namespace Go.Proofs.YtjeefgamkoeiaaaGreatDoor
open Go.RowKit Go.Sort Dc
attribute [local go_sem ↓] Go.wp_at_zero Go.wp_at_succ

def pt0 : Pt := ⟨[], 0, false, 0, 0, 0, 0, false, 0⟩
/-- what is handed back: the point that was found, its labels readable; or none -/
def HpRes (o : Option Pt) (e : Ending) (w' : World) : Prop := ∃ A n cap q, e = .returned (.tuple #[ptv (.slice A n cap) q, .bool o.isSome]) ∧ LbRow w' (.slice A n cap) q.l ∧ PtIn q ∧ q = o.getD pt0
theorem pt0_in : PtIn pt0 := ⟨by show (-9223372036854775808 : Int) ≤ 0; decide, by show (0 : Int) ≤ 9223372036854775807; decide, by show (-9223372036854775808 : Int) ≤ 0; decide, by show (0 : Int) ≤ 9223372036854775807; decide, by show (-9223372036854775808 : Int) ≤ 0; decide, by show (0 : Int) ≤ 9223372036854775807; decide, fun x hx => by cases hx⟩
theorem lb_nil (w : World) : LbRow w (.slice none 0 0) [] := ⟨none, 0, rfl, Nat.le_refl _, by unfold maxLen; omega, fun _ => rfl, fun h => absurd h (by simp)⟩
theorem HpRes.no {o : Option Pt} {w' : World} (h : o = none) : HpRes o (.returned (.tuple #[ptv (.slice none 0 0) pt0, .bool false])) w' := ⟨none, 0, 0, pt0, by rw [h]; rfl, lb_nil _, pt0_in, by rw [h]; rfl⟩
theorem HpRes.yes {o : Option Pt} {w' : World} {A : Option Addr} {n cap : Nat} {q : Pt} (h : o = some q) (hl : LbRow w' (.slice A n cap) q.l) (hq : PtIn q) : HpRes o (.returned (.tuple #[ptv (.slice A n cap) q, .bool true])) w' := ⟨A, n, cap, q, by rw [h]; rfl, hl, hq, by rw [h]; rfl⟩
theorem ptLook_drop {F : List Fp} {k : Nat} {x : Fp} (h : F[k]? = some x) (n : List UInt8) (p : Pt) : ptLook (F.drop k) n p = (if x.1.n = n then look cmpP x.2 p else none).or (ptLook (F.drop (k + 1)) n p) := by
  obtain ⟨hk, rfl⟩ := List.getElem?_eq_some_iff.1 h
  rw [List.drop_eq_getElem_cons hk, ptLook_cons]
theorem look_drop {l : List Pt} {k : Nat} {x : Pt} (h : l[k]? = some x) (p : Pt) : look cmpP (l.drop k) p = if cmpP x p = 0 then some x else look cmpP (l.drop (k + 1)) p := by
  obtain ⟨hk, rfl⟩ := List.getElem?_eq_some_iff.1 h
  rw [List.drop_eq_getElem_cons hk, look_cons]

set_option maxHeartbeats 16000000 in
theorem hpoint_calls (t : List UInt8) (F : List Fs) (v : Value) (nm : List UInt8) (y : Ps) (w : World) (hv : FmRow w v F) (hf : FmFew F) (hy : PsIn w y) :
    Calls Tryz.prog 19 #[batv t v, .string (str nm), ptv y.1 y.2] w fun e w' => HpRes (ptLook (fms F) nm y.2) e w' ∧ Below w.heap.size w w' := by
  have HP := Lib.hid hv.2
  have hn := hf.n
  have HF := Lib.hid hf
  have HY := Lib.hid hy
  obtain ⟨A, cap, rfl, hlc, hcm, hnil, hrow⟩ := hv.1
  unfold maxLen at hcm
  have HR := Lib.hid hrow
  obtain ⟨A2, n2, cap2, hy1⟩ : ∃ A1 n1 cap1, y.1 = .slice A1 n1 cap1 := by obtain ⟨_, _, h, _⟩ := hy.1; exact ⟨_, _, _, h⟩
  obtain ⟨yv, yp⟩ := y
  simp only at hy1
  subst hy1
  have k0 := kp_alloc (kp_alloc (kp_alloc (Below.refl w.heap.size w) (.cells #[.string (str t), .slice A F.length cap] 28)) (.cells (ptc (.slice A2 n2 cap2) yp) 53)) (.cells (ptc (.slice none 0 0) pt0) 53)
  have B0 := (BatAt.new w t (.slice A F.length cap) 28).below (((Below.refl _ _).alloc (Nat.le_refl _) (.cells (ptc (.slice A2 n2 cap2) yp) 53)).alloc (by simp) (.cells (ptc (.slice none 0 0) pt0) 53))
  have P0 := (PtAt.new (w.alloc (.cells #[.string (str t), .slice A F.length cap] 28)) (.slice A2 n2 cap2) yp 53).alloc (.cells (ptc (.slice none 0 0) pt0) 53)
  have R0 := PtAt.new ((w.alloc (.cells #[.string (str t), .slice A F.length cap] 28)).alloc (.cells (ptc (.slice A2 n2 cap2) yp) 53)) (.slice none 0 0) pt0 53
  rw [show (w.alloc (.cells #[.string (str t), .slice A F.length cap] 28)).heap.size = w.heap.size + 1 by simp] at P0
  rw [show ((w.alloc (.cells #[.string (str t), .slice A F.length cap] 28)).alloc (.cells (ptc (.slice A2 n2 cap2) yp) 53)).heap.size = w.heap.size + 1 + 1 by simp] at R0
  generalize hPL : ptLook (fms F) nm yp = PLv at *
  have HPL := Lib.hid hPL
  clear hPL
  have HLK := Lib.hid (fun (k : Nat) (x : Fp) (h : (fms F)[k]? = some x) => ptLook_drop h nm yp)
  have HLD := Lib.hid (fun (l : List Pt) (k : Nat) (x : Pt) (h : l[k]? = some x) => look_drop h yp)
  have HNO := Lib.hid (show ptLook ((fms F).drop F.length) nm yp = none by rw [List.drop_eq_nil_of_le (by simp)]; rfl)
  obtain ⟨YP, hYP⟩ : ∃ q, q = yp := ⟨_, rfl⟩
  obtain ⟨ql, ro2, inf2, bm2, bs2, m2, s2, td2, ti2⟩ := yp
  rw [← hYP] at HPL HLK HLD HNO
  have HCP : Hid (∀ (x : Ps), PsIn w x → ∀ W, Below w.heap.size w W → Calls Tryz.prog 35 #[ptv x.1 x.2, ptv (.slice A2 n2 cap2) ⟨ql, ro2, inf2, bm2, bs2, m2, s2, td2, ti2⟩] W fun e w' => e = .returned (.int .i64 (cmpP x.2 YP)) ∧ Below W.heap.size W w') := Lib.hid (fun x hx W hW => by
    rw [hYP]
    exact rcomparepoints_calls x.1 (.slice A2 n2 cap2) x.2 ⟨ql, ro2, inf2, bm2, bs2, m2, s2, td2, ti2⟩ W (hx.1.below hW) (HY.out.1.below hW) hx.2 HY.out.2)
  have HYP := Lib.hid hYP
  clear hYP
  clear hrow hnil hv hf hy
  obtain ⟨W0, hW0⟩ : ∃ W, W = ((w.alloc (.cells #[.string (str t), .slice A F.length cap] 28)).alloc (.cells #[.slice A2 n2 cap2, .int .i64 ro2, .bool inf2, .int .i64 bm2, .int .i64 bs2, .int .i64 m2, .int .i64 s2, .bool td2, .int .i64 ti2] 53)).alloc (.cells #[.slice none 0 0, .int .i64 0, .bool false, .int .i64 0, .int .i64 0, .int .i64 0, .int .i64 0, .bool false, .int .i64 0] 53) := ⟨_, rfl⟩
  have HB : Hid (Below w.heap.size w W0) := Lib.hid (by rw [hW0]; exact k0)
  have HX : Hid (BatAt W0 w.heap.size t (.slice A F.length cap)) := Lib.hid (by rw [hW0]; exact B0)
  have HYA : Hid (PtAt W0 (w.heap.size + 1) (.slice A2 n2 cap2) ⟨ql, ro2, inf2, bm2, bs2, m2, s2, td2, ti2⟩) := Lib.hid (by rw [hW0]; exact P0)
  have HRA : Hid (PtAt W0 (w.heap.size + 1 + 1) (.slice none 0 0) pt0) := Lib.hid (by rw [hW0]; exact R0)
  clear k0 B0 P0 R0
  have hx1 : Hid (∀ z, Below W0.heap.size W0 z → z.cell? ⟨w.heap.size, 1, none⟩ = some (.slice A F.length cap)) := Lib.hid (fun z hz => (hz.cell (p := ⟨w.heap.size, 1, none⟩) HX.out.lt).trans HX.out.c1)
  have t0 : Hid (∀ z, Below W0.heap.size W0 z → z.cell? ⟨w.heap.size + 1, 0, none⟩ = some (.slice A2 n2 cap2)) := Lib.hid (fun z hz => (hz.cell (p := ⟨w.heap.size + 1, 0, none⟩) HYA.out.lt).trans HYA.out.c0)
  have t1 : Hid (∀ z, Below W0.heap.size W0 z → z.cell? ⟨w.heap.size + 1, 1, none⟩ = some (.int .i64 ro2)) := Lib.hid (fun z hz => (hz.cell (p := ⟨w.heap.size + 1, 1, none⟩) HYA.out.lt).trans HYA.out.c1)
  have t2 : Hid (∀ z, Below W0.heap.size W0 z → z.cell? ⟨w.heap.size + 1, 2, none⟩ = some (.bool inf2)) := Lib.hid (fun z hz => (hz.cell (p := ⟨w.heap.size + 1, 2, none⟩) HYA.out.lt).trans HYA.out.c2)
  have t3 : Hid (∀ z, Below W0.heap.size W0 z → z.cell? ⟨w.heap.size + 1, 3, none⟩ = some (.int .i64 bm2)) := Lib.hid (fun z hz => (hz.cell (p := ⟨w.heap.size + 1, 3, none⟩) HYA.out.lt).trans HYA.out.c3)
  have t4 : Hid (∀ z, Below W0.heap.size W0 z → z.cell? ⟨w.heap.size + 1, 4, none⟩ = some (.int .i64 bs2)) := Lib.hid (fun z hz => (hz.cell (p := ⟨w.heap.size + 1, 4, none⟩) HYA.out.lt).trans HYA.out.c4)
  have t5 : Hid (∀ z, Below W0.heap.size W0 z → z.cell? ⟨w.heap.size + 1, 5, none⟩ = some (.int .i64 m2)) := Lib.hid (fun z hz => (hz.cell (p := ⟨w.heap.size + 1, 5, none⟩) HYA.out.lt).trans HYA.out.c5)
  have t6 : Hid (∀ z, Below W0.heap.size W0 z → z.cell? ⟨w.heap.size + 1, 6, none⟩ = some (.int .i64 s2)) := Lib.hid (fun z hz => (hz.cell (p := ⟨w.heap.size + 1, 6, none⟩) HYA.out.lt).trans HYA.out.c6)
  have t7 : Hid (∀ z, Below W0.heap.size W0 z → z.cell? ⟨w.heap.size + 1, 7, none⟩ = some (.bool td2)) := Lib.hid (fun z hz => (hz.cell (p := ⟨w.heap.size + 1, 7, none⟩) HYA.out.lt).trans HYA.out.c7)
  have t8 : Hid (∀ z, Below W0.heap.size W0 z → z.cell? ⟨w.heap.size + 1, 8, none⟩ = some (.int .i64 ti2)) := Lib.hid (fun z hz => (hz.cell (p := ⟨w.heap.size + 1, 8, none⟩) HYA.out.lt).trans HYA.out.c8)
  go_enter Tryz.func19, Tryz.ntmps19
  go_wp2_with fail
  rw [← hW0]
  clear hW0
  go_loopw [8] (fun s wr => ∃ i : Nat, i ≤ F.length ∧ s = .int .i64 (i : Nat) ∧ Hid (PLv = ptLook ((fms F).drop i) nm YP) ∧ Below W0.heap.size W0 wr) (fun s _ => F.length - (intOf s).toNat)
  case atStart => exact ⟨0, Nat.zero_le _, rfl, Lib.hid (by rw [← HPL.out]; rfl), Below.refl _ _⟩
  case round =>
    obtain ⟨i, hi, rfl, HI, hb⟩ := hrel
    have x1 := hx1.out _ hb
    by_cases hil : i < F.length
    · obtain ⟨b, off, rfl, hbs, hc⟩ := HR.out (by omega)
      obtain ⟨x, hx, hxp⟩ := fs_get hil
      have hxm := List.mem_of_getElem? hx
      have hix := HP.out x hxm
      obtain ⟨c0, _, _, _, c4⟩ := fr_cells hc hx
      have HC0 : Hid (∀ z, Below W0.heap.size W0 z → z.cell? ⟨b, off + i * 5, none⟩ = some (.string (str x.hd.n))) := Lib.hid (fun z hz => ((trans9 HB.out hz).cell (p := ⟨b, off + i * 5, none⟩) hbs).trans c0)
      have HC4 : Hid (∀ z, Below W0.heap.size W0 z → z.cell? ⟨b, off + i * 5 + 4, none⟩ = some x.v) := Lib.hid (fun z hz => ((trans9 HB.out hz).cell (p := ⟨b, off + i * 5 + 4, none⟩) hbs).trans c4)
      have HLI := Lib.hid (HLK.out i (fm x) hxp)
      have hlx := HF.out.p x hxm
      have HPX := Lib.hid hix.1.2
      obtain ⟨A3, cap3, hxv, hlc3, hcm3, _, hrow3⟩ := hix.1.1
      unfold maxLen at hcm3
      have HR3 := Lib.hid hrow3
      rw [hxv] at HC4
      have hi1 : (i : Int) < (F.length : Int) := by omega
      have hi2 : (0 : Int) ≤ (i : Int) := by omega
      have HBB := Lib.hid hb
      clear hc c0 c4 hx hxp hxm hix hbs hrow3 hb
      obtain ⟨⟨xn, xk, xu, xh⟩, xv, xL⟩ := x
      simp only [fm] at HLI hxv HC0 HPX HR3 hlc3 hlx HC4
      clear hxv
      go_wp2_with fail
      go_loopw [9] (fun s wr => ∃ k : Nat, k ≤ xL.length ∧ s = .int .i64 (k : Nat) ∧ (xn ≠ nm → k = 0) ∧ Hid (PLv = (if xn = nm then look cmpP ((pts xL).drop k) YP else none).or (ptLook ((fms F).drop (i + 1)) nm YP)) ∧ Below W0.heap.size W0 wr) (fun s _ => xL.length - (intOf s).toNat)
      case atStart => exact ⟨0, Nat.zero_le _, rfl, fun _ => rfl, Lib.hid (by rw [HI.out, HLI.out]; rfl), HBB.out⟩
      case round =>
        clear HBB
        obtain ⟨k, hk, rfl, hk0, HK, hb⟩ := hrel
        have x1 := hx1.out _ hb
        have r0 := HC0.out _ hb
        have r4 := HC4.out _ hb
        by_cases hkl : k < xL.length
        · have hk1 : (k : Int) < (xL.length : Int) := by omega
          have dk : decide ((k : Int) < (xL.length : Int)) = true := decide_eq_true hk1
          by_cases hnm : xn = nm
          · subst hnm
            obtain ⟨b3, off3, rfl, hbs3, hc3⟩ := HR3.out (by omega)
            obtain ⟨z, hz, hzp⟩ := ps_get hkl
            have hiz := HPX.out z (List.mem_of_getElem? hz)
            obtain ⟨e0, e1, e2, e3, e4, e5, e6, e7, e8⟩ := pr_cells hc3 hz
            have hcp := Lib.hid (fun W (hW : Below W0.heap.size W0 W) => HCP.out z hiz W (trans9 HB.out hW))
            have hld := HLD.out (pts xL) k z.2 hzp
            have HLB := Lib.hid (fun W (hW : Below w.heap.size w W) => hiz.1.below hW)
            have HIN := Lib.hid hiz.2
            have hr4 := HC4
            obtain ⟨A1, n1, cap1, hz1⟩ : ∃ A1 n1 cap1, z.1 = .slice A1 n1 cap1 := by obtain ⟨_, _, h, _⟩ := hiz.1; exact ⟨_, _, _, h⟩
            obtain ⟨zv, p⟩ := z
            simp only at hz1
            subst hz1
            have hR : ∀ o u, w.cell? ⟨b3, o, none⟩ = some u → ∀ z, Below W0.heap.size W0 z → z.cell? ⟨b3, o, none⟩ = some u := fun o u hu z hz => ((trans9 HB.out hz).cell (p := ⟨b3, o, none⟩) hbs3).trans hu
            obtain ⟨P, hP⟩ : ∃ q, q = p := ⟨_, rfl⟩
            simp only at e0 e1 e2 e3 e4 e5 e6 e7 e8 hcp hld HLB HIN
            rw [← hP] at hld HIN
            have hcmp : cmpP P YP = cmpP p YP := by rw [hP]
            rw [hcmp] at hld
            have HPP := Lib.hid hP
            clear hP hcmp
            obtain ⟨pl, ro, inf, bm, bs, m, s, td, ti⟩ := p
            have r0p := Lib.hid (hR _ _ e0)
            have r1p := Lib.hid (hR _ _ e1)
            have r2p := Lib.hid (hR _ _ e2)
            have r3p := Lib.hid (hR _ _ e3)
            have r4p := Lib.hid (hR _ _ e4)
            have r5p := Lib.hid (hR _ _ e5)
            have r6p := Lib.hid (hR _ _ e6)
            have r7p := Lib.hid (hR _ _ e7)
            have r8p := Lib.hid (hR _ _ e8)
            have hk2 : (0 : Int) ≤ (k : Int) := by omega
            have hld2 := Lib.hid hld
            clear hc3 e0 e1 e2 e3 e4 e5 e6 e7 e8 hR hz hzp hiz hbs3 hld
            rw [if_pos rfl] at HK
            generalize cmpP _ _ = C at hld2 hcp
            by_cases hC : C = 0
            · have d1 : (C == 0) = true := by simpa using hC
              have hr : Hid (PLv = some P) := Lib.hid (by rw [HK.out, hld2.out, if_pos hC]; rfl)
              clear hld2 hk0
              have x1r := hx1.out
              have r4r := hr4.out
              have g0 := r0p.out
              have g1 := r1p.out
              have g2 := r2p.out
              have g3 := r3p.out
              have g4 := r4p.out
              have g5 := r5p.out
              have g6 := r6p.out
              have g7 := r7p.out
              have g8 := r8p.out
              have v0 := t0.out
              have v1 := t1.out
              have v2 := t2.out
              have v3 := t3.out
              have v4 := t4.out
              have v5 := t5.out
              have v6 := t6.out
              have v7 := t7.out
              have v8 := t8.out
              go_wp2_with fail
              go_region_held3 (fun z => Below W0.heap.size W0 z)
                (((repeat' first | assumption | exact Below.refl _ _ | exact Nat.le_refl _ | apply kp_alloc | apply kp_set | apply Below.drew | omega); done))
                ((first
                  | (go_at_call 35; refine (hcp.out _ (by (repeat' first | assumption | apply Below.drew))).mono ?_; rintro e w3 ⟨rfl, b3'⟩; have k3 : Below W0.heap.size W0 w3 := (by refine trans9 ?_ b3'; (repeat' first | assumption | exact Below.refl _ _ | exact Nat.le_refl _ | apply kp_alloc | apply kp_set | apply Below.drew | omega)))))
              all_goals
                clear x1r r4r g0 g1 g2 g3 g4 g5 g6 g7 g8 v0 v1 v2 v3 v4 v5 v6 v7 v8
                have y1 := hx1.out _ k3
                have y4 := hr4.out _ k3
                have q0 := r0p.out _ k3
                have q1 := r1p.out _ k3
                have q2 := r2p.out _ k3
                have q3 := r3p.out _ k3
                have q4 := r4p.out _ k3
                have q5 := r5p.out _ k3
                have q6 := r6p.out _ k3
                have q7 := r7p.out _ k3
                have q8 := r8p.out _ k3
                obtain ⟨u0, u1, u2, u3, u4, u5, u6, u7, u8, uf, ul⟩ := HRA.out.below k3
                have K3 := Lib.hid (trans9 HB.out k3)
                have K4 : Hid (Below w.heap.size w (((((((((w3.setCell ⟨w.heap.size + 1 + 1, 0, none⟩ (.slice A1 n1 cap1)).setCell ⟨w.heap.size + 1 + 1, 1, none⟩ (.int .i64 ro)).setCell ⟨w.heap.size + 1 + 1, 2, none⟩ (.bool inf)).setCell ⟨w.heap.size + 1 + 1, 3, none⟩ (.int .i64 bm)).setCell ⟨w.heap.size + 1 + 1, 4, none⟩ (.int .i64 bs)).setCell ⟨w.heap.size + 1 + 1, 5, none⟩ (.int .i64 m)).setCell ⟨w.heap.size + 1 + 1, 6, none⟩ (.int .i64 s)).setCell ⟨w.heap.size + 1 + 1, 7, none⟩ (.bool td)).setCell ⟨w.heap.size + 1 + 1, 8, none⟩ (.int .i64 ti))) := Lib.hid (((((((((((trans9 HB.out k3).setCell (by show w.heap.size ≤ w.heap.size + 1 + 1; omega) _).setCell (by show w.heap.size ≤ w.heap.size + 1 + 1; omega) _).setCell (by show w.heap.size ≤ w.heap.size + 1 + 1; omega) _).setCell (by show w.heap.size ≤ w.heap.size + 1 + 1; omega) _).setCell (by show w.heap.size ≤ w.heap.size + 1 + 1; omega) _).setCell (by show w.heap.size ≤ w.heap.size + 1 + 1; omega) _).setCell (by show w.heap.size ≤ w.heap.size + 1 + 1; omega) _).setCell (by show w.heap.size ≤ w.heap.size + 1 + 1; omega) _).setCell (by show w.heap.size ≤ w.heap.size + 1 + 1; omega) _))
                have hP2 := HPP.out
                have hr2 : PLv = some ⟨pl, ro, inf, bm, bs, m, s, td, ti⟩ := by rw [hr.out, hP2]
                have HIN2 : PtIn ⟨pl, ro, inf, bm, bs, m, s, td, ti⟩ := by rw [← hP2]; exact HIN.out
                have HLB2 := Lib.hid (fun W hW => HLB.out W hW)
                have HR2' := Lib.hid hr2
                have HI2' := Lib.hid HIN2
                clear hr2 HIN2 hP2 K3
                go_wp2
                refine bodyPost_ret (v := .tuple #[.agg #[.slice A1 n1 cap1, .int .i64 ro, .bool inf, .int .i64 bm, .int .i64 bs, .int .i64 m, .int .i64 s, .bool td, .int .i64 ti], .bool true]) (by simp [results, Tryz.results19, go_sem, u0, u1, u2, u3, u4, u5, u6, u7, u8]) rfl ⟨HpRes.yes HR2'.out ?_ HI2'.out, K4.out⟩
                exact HLB2.out _ K4.out
            · have d1 : (C == 0) = false := by simpa using hC
              have hr : Hid (PLv = (if xn = xn then look cmpP ((pts xL).drop (k + 1)) YP else none).or (ptLook ((fms F).drop (i + 1)) xn YP)) := Lib.hid (by rw [HK.out, hld2.out, if_neg hC, if_pos rfl])
              clear hld2 hk0
              have x1r := hx1.out
              have r4r := hr4.out
              have g0 := r0p.out
              have g1 := r1p.out
              have g2 := r2p.out
              have g3 := r3p.out
              have g4 := r4p.out
              have g5 := r5p.out
              have g6 := r6p.out
              have g7 := r7p.out
              have g8 := r8p.out
              have v0 := t0.out
              have v1 := t1.out
              have v2 := t2.out
              have v3 := t3.out
              have v4 := t4.out
              have v5 := t5.out
              have v6 := t6.out
              have v7 := t7.out
              have v8 := t8.out
              go_wp2_with fail
              go_region_held3 (fun z => Below W0.heap.size W0 z)
                (((repeat' first | assumption | exact Below.refl _ _ | exact Nat.le_refl _ | apply kp_alloc | apply kp_set | apply Below.drew | omega); done))
                ((first
                  | (go_at_call 35; refine (hcp.out _ (by (repeat' first | assumption | apply Below.drew))).mono ?_; rintro e w3 ⟨rfl, b3'⟩; have k3 : Below W0.heap.size W0 w3 := (by refine trans9 ?_ b3'; (repeat' first | assumption | exact Below.refl _ _ | exact Nat.le_refl _ | apply kp_alloc | apply kp_set | apply Below.drew | omega)))))
              all_goals
                clear x1r r4r g0 g1 g2 g3 g4 g5 g6 g7 g8 v0 v1 v2 v3 v4 v5 v6 v7 v8
                go_wp2_with fail
                go_roundw
                case rel => exact ⟨k + 1, hkl, by go_num, fun h => absurd rfl h, hr, k3⟩
                case measure => simp [intOf]; omega
          · have dn : (xn == nm) = false := by simpa using hnm
            have dn2 : decide (xn = nm) = false := decide_eq_false hnm
            have hr : Hid (PLv = ptLook ((fms F).drop (i + 1)) nm YP) := Lib.hid (by rw [HK.out, if_neg hnm]; simp)
            have HB2 := Lib.hid hb
            clear HK hb
            go_wp2_with fail
            go_roundw
            case rel => exact ⟨i + 1, hil, by go_num, hr, HB2.out⟩
            case measure => simp [intOf]; omega
        · have hk1 : ¬ (k : Int) < (xL.length : Int) := by omega
          have dk : decide ((k : Int) < (xL.length : Int)) = false := decide_eq_false hk1
          have hr : Hid (PLv = ptLook ((fms F).drop (i + 1)) nm YP) := Lib.hid (by
            rw [HK.out, List.drop_eq_nil_of_le (by simp [pts]; omega)]
            split <;> simp [look])
          have HB2 := Lib.hid hb
          clear HK hb
          go_wp2_with fail
          go_roundw
          case rel => exact ⟨i + 1, hil, by go_num, hr, HB2.out⟩
          case measure => simp [intOf]; omega
    · have hr : Hid (PLv = none) := Lib.hid (by rw [HI.out, show i = F.length by omega]; exact HNO.out)
      obtain ⟨u0, u1, u2, u3, u4, u5, u6, u7, u8, uf, ul⟩ := HRA.out.below hb
      have K3 := Lib.hid (trans9 HB.out hb)
      clear hb HI
      go_wp2
      refine bodyPost_ret (v := .tuple #[.agg #[.slice none 0 0, .int .i64 0, .bool false, .int .i64 0, .int .i64 0, .int .i64 0, .int .i64 0, .bool false, .int .i64 0], .bool false]) (by simp [results, Tryz.results19, go_sem, u0, u1, u2, u3, u4, u5, u6, u7, u8]) rfl ⟨HpRes.no hr.out, ?_⟩
      exact (((((((((K3.out.setCell (by show w.heap.size ≤ w.heap.size + 1 + 1; omega) _).setCell (by show w.heap.size ≤ w.heap.size + 1 + 1; omega) _).setCell (by show w.heap.size ≤ w.heap.size + 1 + 1; omega) _).setCell (by show w.heap.size ≤ w.heap.size + 1 + 1; omega) _).setCell (by show w.heap.size ≤ w.heap.size + 1 + 1; omega) _).setCell (by show w.heap.size ≤ w.heap.size + 1 + 1; omega) _).setCell (by show w.heap.size ≤ w.heap.size + 1 + 1; omega) _).setCell (by show w.heap.size ≤ w.heap.size + 1 + 1; omega) _).setCell (by show w.heap.size ≤ w.heap.size + 1 + 1; omega) _)

end Go.Proofs.YtjeefgamkoeiaaaGreatDoor

/- Nine stores into a block that holds a point. -/
set_option maxRecDepth 100000
set_option linter.unusedVariables false
set_option linter.unusedSimpArgs false
namespace Go.Proofs.YtjeefgamkoeiaaaGreatDoor
open Go.RowKit Go.Sort Dc

/-- what is put together is of few families -/
theorem mF_few2 (L : List Bp) : FpFew (mF L) := by
  have few_nil2 : FpFew ([] : List Fp) := ⟨by simp, fun x hx => (by cases hx), fun x hx => (by cases hx)⟩
  by_cases h : mErr L = 0
  · rw [mF_good h]
    by_cases h0 : L = []
    · rw [h0]; exact few_nil2
    · exact few_ok ((mErr_zero h0).1 h).2
  · rw [mF_bad h]; exact few_nil2
theorem PtAt.setOther {w : World} {b c i : Nat} {lv u : Value} {p : Pt} (k : PtAt w b lv p) (hne : b ≠ c) : PtAt (w.setCell ⟨c, i, none⟩ u) b lv p := by
  have e : (w.setCell ⟨c, i, none⟩ u).heap[b]? = w.heap[b]? := Below.heap_setCell _ _ _ _ hne
  exact ⟨(World.cell?_of_block (a := ⟨b, 0, none⟩) e).trans k.c0, (World.cell?_of_block (a := ⟨b, 1, none⟩) e).trans k.c1, (World.cell?_of_block (a := ⟨b, 2, none⟩) e).trans k.c2, (World.cell?_of_block (a := ⟨b, 3, none⟩) e).trans k.c3, (World.cell?_of_block (a := ⟨b, 4, none⟩) e).trans k.c4, (World.cell?_of_block (a := ⟨b, 5, none⟩) e).trans k.c5, (World.cell?_of_block (a := ⟨b, 6, none⟩) e).trans k.c6, (World.cell?_of_block (a := ⟨b, 7, none⟩) e).trans k.c7, (World.cell?_of_block (a := ⟨b, 8, none⟩) e).trans k.c8,
    fun o => (World.frozen?_of_block (a := ⟨b, o, none⟩) e).trans (k.fr o), by simpa [World.setCell] using k.lt⟩
/-- nine stores into a block -/
abbrev set9 (w : World) (b : Nat) (lv : Value) (p : Pt) : World := ((((((((w.setCell ⟨b, 0, none⟩ lv).setCell ⟨b, 1, none⟩ (.int .i64 p.ro)).setCell ⟨b, 2, none⟩ (.bool p.inf)).setCell ⟨b, 3, none⟩ (.int .i64 p.bm)).setCell ⟨b, 4, none⟩ (.int .i64 p.bs)).setCell ⟨b, 5, none⟩ (.int .i64 p.m)).setCell ⟨b, 6, none⟩ (.int .i64 p.s)).setCell ⟨b, 7, none⟩ (.bool p.td)).setCell ⟨b, 8, none⟩ (.int .i64 p.ti)
theorem PtAt.set9 {w : World} {b : Nat} {lv0 lv : Value} {p0 p : Pt} (k : PtAt w b lv0 p0) : PtAt (Go.Proofs.YtjeefgamkoeiaaaGreatDoor.set9 w b lv p) b lv p := by
  have h0 := k.c0
  have h1 := k.c1
  have h2 := k.c2
  have h3 := k.c3
  have h4 := k.c4
  have h5 := k.c5
  have h6 := k.c6
  have h7 := k.c7
  have h8 := k.c8
  exact ⟨by simp [go_sem, h0], by simp [go_sem, h1], by simp [go_sem, h2], by simp [go_sem, h3], by simp [go_sem, h4], by simp [go_sem, h5], by simp [go_sem, h6], by simp [go_sem, h7], by simp [go_sem, h8], fun o => by simpa using k.fr o, by simpa [World.setCell] using k.lt⟩
theorem PtAt.set9o {w : World} {b c : Nat} {lv u : Value} {p q : Pt} (k : PtAt w b lv p) (hne : b ≠ c) : PtAt (Go.Proofs.YtjeefgamkoeiaaaGreatDoor.set9 w c u q) b lv p :=
  ((((((((k.setOther hne).setOther hne).setOther hne).setOther hne).setOther hne).setOther hne).setOther hne).setOther hne).setOther hne
theorem below_set9 {a w : World} {c : Nat} {u : Value} {q : Pt} (k : Below a.heap.size a w) (h : a.heap.size ≤ c) : Below a.heap.size a (set9 w c u q) :=
  ((((((((k.setCell h _).setCell h _).setCell h _).setCell h _).setCell h _).setCell h _).setCell h _).setCell h _).setCell h _
theorem nPts_step {F : List Fp} {i : Nat} {x : Fp} (h : F[i]? = some x) : nPts (F.take (i + 1)) = nPts (F.take i) + x.2.length := nPts_take h

/-- a text's cell, where a point lies in the block that is stored into: not one of its nine -/
theorem PtAt.set9_text {w : World} {c : Nat} {lv u : Value} {p q : Pt} {A1 : Option Addr} {n1 c1 : Nat} (hlv : lv = .slice A1 n1 c1) (k : PtAt w c lv p) {b o : Nat} {s : _} (h : w.cell? ⟨b, o, none⟩ = some (.string s)) :
    (Go.Proofs.YtjeefgamkoeiaaaGreatDoor.set9 w c u q).cell? ⟨b, o, none⟩ = some (.string s) := by
  have h0 := k.c0
  have h1 := k.c1
  have h2 := k.c2
  have h3 := k.c3
  have h4 := k.c4
  have h5 := k.c5
  have h6 := k.c6
  have h7 := k.c7
  have h8 := k.c8
  rw [hlv] at h0
  have key : ∀ i, i ≤ 8 → (⟨c, i, none⟩ : Addr) ≠ ⟨b, o, none⟩ := fun i hi e => by
    obtain ⟨rfl, rfl⟩ : c = b ∧ i = o := by simpa using e
    obtain rfl | rfl | rfl | rfl | rfl | rfl | rfl | rfl | rfl : i = 0 ∨ i = 1 ∨ i = 2 ∨ i = 3 ∨ i = 4 ∨ i = 5 ∨ i = 6 ∨ i = 7 ∨ i = 8 := by omega
    all_goals simp_all
  rw [World.cell?_setCell_other _ _ _ _ (key 8 (by omega)), World.cell?_setCell_other _ _ _ _ (key 7 (by omega)), World.cell?_setCell_other _ _ _ _ (key 6 (by omega)), World.cell?_setCell_other _ _ _ _ (key 5 (by omega)), World.cell?_setCell_other _ _ _ _ (key 4 (by omega)), World.cell?_setCell_other _ _ _ _ (key 3 (by omega)), World.cell?_setCell_other _ _ _ _ (key 2 (by omega)), World.cell?_setCell_other _ _ _ _ (key 1 (by omega)), World.cell?_setCell_other _ _ _ _ (key 0 (by omega))]
  exact h
theorem LbRow.set9 {w : World} {c : Nat} {lv u v : Value} {p q : Pt} {l : List Lb} {A1 : Option Addr} {n1 c1 : Nat} (h : LbRow w v l) (hlv : lv = .slice A1 n1 c1) (k : PtAt w c lv p) : LbRow (Go.Proofs.YtjeefgamkoeiaaaGreatDoor.set9 w c u q) v l := by
  obtain ⟨A, cap, rfl, h1, h2, hn, h3⟩ := h
  refine ⟨A, cap, rfl, h1, h2, hn, fun h0 => ?_⟩
  obtain ⟨b, off, rfl, hlt, hc⟩ := h3 h0
  exact ⟨b, off, rfl, by simpa [World.setCell] using hlt, fun i p hp => ⟨k.set9_text hlv (hc i p hp).1, k.set9_text hlv (hc i p hp).2⟩⟩

/-- the store of a whole point -/
theorem run_store_pt {w : World} {b : Nat} {lv0 : Value} {p0 : Pt} (k : PtAt w b lv0 p0) (A1 : Option Addr) (n1 c1 : Nat) (p : Pt) :
    (storeVar 53 ⟨b, 0, none⟩ (ptv (.slice A1 n1 c1) p)).run Tryz.prog w = .ok () (Go.Proofs.YtjeefgamkoeiaaaGreatDoor.set9 w b (.slice A1 n1 c1) p) := by
  have h0 := k.c0
  have h1 := k.c1
  have h2 := k.c2
  have h3 := k.c3
  have h4 := k.c4
  have h5 := k.c5
  have h6 := k.c6
  have h7 := k.c7
  have h8 := k.c8
  have hf := k.fr
  clear k
  go_simp
theorem step_store_pt {ops : Array Oper} {o : Oper} {a : Act} {w : World} {K : Act → World → Prop} {Q : Exit → Act → World → Prop} {E : Prop} (hgd : o.guard = none) (x y : Operand) (ho : o.op = .store 53 x y)
    (b : Nat) (lv0 : Value) (p0 : Pt) (A1 : Option Addr) (n1 c1 : Nat) (p : Pt) (hx : a.eval x = .pointer (some ⟨b, 0, none⟩)) (hy : a.eval y = ptv (.slice A1 n1 c1) p) (h : PtAt w b lv0 p0) (hk : K (a.put o.dst undef) (Go.Proofs.YtjeefgamkoeiaaaGreatDoor.set9 w b (.slice A1 n1 c1) p)) :
    if Region.wanted o (yielded ops a.tmps) = true then Oper.wp Tryz.prog o a w K Q else E := by
  have hw : Region.wanted o (yielded ops a.tmps) = true := by simp [Region.wanted, hgd]
  rw [if_pos hw]
  have hr := run_store_pt h A1 n1 c1 p
  unfold Oper.wp execOp
  simp only [ho, hx, hy, Instr.storeAt, Instr.sureAddr, Sem.run_bind, Sem.run_pure, Result.andThen_ok, hr]
  exact hk
/-- where it alone comes up -/
theorem ready_store_pt {ops : Array Oper} {i : Nat} {o : Oper} {md : Region.Mode} {Q : Exit → Act → World → Prop} {S : World → Prop} {fuel : Nat} {listed : Array Bool} {a : Act} {w : World} (ho : ops[i]? = some o) (hgd : o.guard = none) (x y : Operand)
    (hop : o.op = .store 53 x y) (b : Nat) (lv0 : Value) (p0 : Pt) (A1 : Option Addr) (n1 c1 : Nat) (p : Pt) (hx : a.eval x = .pointer (some ⟨b, 0, none⟩)) (hy : a.eval y = ptv (.slice A1 n1 c1) p) (h : PtAt w b lv0 p0) (hS : S (Go.Proofs.YtjeefgamkoeiaaaGreatDoor.set9 w b (.slice A1 n1 c1) p))
    (hk : S (Go.Proofs.YtjeefgamkoeiaaaGreatDoor.set9 w b (.slice A1 n1 c1) p) → wpAnyH Tryz.prog md ops Q S fuel (listed.setIfInBounds i true) (a.put o.dst undef) (Go.Proofs.YtjeefgamkoeiaaaGreatDoor.set9 w b (.slice A1 n1 c1) p)) : AllReadyH Tryz.prog md ops Q S fuel listed a w [i] :=
  AllReadyH.cons ho (fun _ hK => step_store_pt hgd x y hop b lv0 p0 A1 n1 c1 p hx hy h (hK.out _ _ hS hk)) AllReadyH.nil

end Go.Proofs.YtjeefgamkoeiaaaGreatDoor

/- Batches that came in. -/
set_option maxRecDepth 100000
set_option linter.unusedVariables false
set_option linter.unusedSimpArgs false
namespace Go.Proofs.YtjeefgamkoeiaaaGreatDoor
open Go.RowKit Go.ChangeShapes Go.WideShapes Go.Deep Dc

theorem btRow_nil (w : World) : BtRow w (.slice none 0 0) [] := ⟨KRow.nil _ _ _, fun x hx => by cases hx⟩
theorem bat_trod {H : Type} {enc : TypeId × Value → H} {W : World} {base : Nat} {sp : Nat → Bool} {held : Bool} {fuel : Nat} {cl : List Value} {x : DataW H × List MemPlace}
    (hf : DataW.trod enc Tryz.prog W base sp held fuel 28 cl = some x) : ∃ y : Bs, cl = encB y ∧ FmRow W y.v y.F ∧ y.t.length ≤ maxLen := by
  obtain ⟨xs, n, rfl, _, hlen, hxs, hff⟩ := DataW.trod_struct Tryz.underlying28 hf
  have hc : Tryz.prog.cellsOf 28 = 2 := by kernel_rfl
  rw [hc] at hlen
  match cl, hlen with
  | [u0, u1], _ =>
    have hs : xs.length = 2 := by rw [hxs]; rfl
    match xs, hs with
    | [x0, x1], _ =>
      have h0 := hff 0 _ rfl
      have h1 := hff 1 _ rfl
      have c0 : Tryz.prog.cellsOf 9 = 1 := by kernel_rfl
      have c1 : Tryz.prog.cellsOf 26 = 1 := by kernel_rfl
      simp only [List.getElem_toArray, List.getElem_cons_zero, List.getElem_cons_succ, c0, c1] at h0 h1
      simp only [List.drop_zero, List.drop_succ_cons, List.take_succ_cons, List.take_zero] at h0 h1
      obtain ⟨fv, F, e1, hrow⟩ := fmRow_of h1
      obtain ⟨s0, e0, _, w0⟩ := DataW.trod_string Tryz.underlying9 h0
      simp only [List.cons.injEq, and_true] at e0 e1
      refine ⟨⟨s0.data.toList, fv, F⟩, ?_, hrow, w0⟩
      rw [e0, e1]
      rfl
/-- a row of batches that came in -/
theorem btRow_of {H : Type} {enc : TypeId × Value → H} {W : World} {base : Nat} {sp : Nat → Bool} {held : Bool} {v : Value} {d : DataW H} {p : List MemPlace}
    (hv : Value.okWide Tryz.prog W .any 0 22 v) (h : DataW.Trod enc Tryz.prog W base sp held 22 v d p) : ∃ l, BtRow W v l := by
  obtain ⟨a, len, cap, rfl⟩ := okWide_slice Tryz.underlying22 hv
  obtain ⟨fuel, h⟩ := h
  rcases open_slice Tryz.underlying22 h with ⟨hcs, _⟩ | ⟨a', len', cap', m, k, D, Pl, hcs, hb, hl, hm, hmm, _, hi⟩
  · simp [Value.cells] at hcs
    obtain ⟨rfl, rfl, rfl⟩ := hcs
    exact ⟨[], btRow_nil _⟩
  · simp [Value.cells] at hcs
    obtain ⟨rfl, rfl, rfl⟩ := hcs
    have hlen : len ≤ m := by rw [hmm]; split <;> omega
    have hC : Tryz.prog.cellsOf 28 = 2 := by kernel_rfl
    have hall : ∀ i, ∃ q : Bs, i < len → (FmRow W q.v q.F ∧ q.t.length ≤ maxLen) ∧ ∀ j u, (encB q)[j]? = some u → W.cell? (a'.add (i * 2 + j)) = some u := fun i => by
      by_cases hil : i < len
      · obtain ⟨cs', hc, ht⟩ := hi i (by omega)
        obtain ⟨y, rfl, h1⟩ := bat_trod ht
        rw [hC] at hc
        obtain ⟨_, _, hat⟩ := World.cells?_some hc
        refine ⟨y, fun _ => ⟨h1, fun j u hu => ?_⟩⟩
        have hj : j < 2 := (List.getElem?_eq_some_iff.1 hu).1
        rw [← Go.Deep.add_add, hat j hj]
        exact hu
      · exact ⟨⟨[], .slice none 0 0, []⟩, fun h => absurd h hil⟩
    obtain ⟨qs, hqs⟩ := Classical.axiomOfChoice hall
    have hll : ((List.range len).map qs).length = len := by simp
    refine ⟨(List.range len).map qs, ⟨some a', cap, by rw [hll], by rw [hll]; exact hl, hm, (by rintro ⟨⟩), fun h0 => ?_⟩, fun p hp => ?_⟩
    · rw [hll] at h0
      have h00 := (hqs 0 h0).2 0 _ rfl
      obtain ⟨b, off, spot⟩ := a'
      have hspot : spot = none := by simpa [Addr.add] using World.cell?_spot h00
      subst hspot
      refine ⟨b, off, rfl, ?_, fun i q hq j u hu => ?_⟩
      · have := cell_lt h00
        simpa [Addr.add] using this
      · obtain ⟨hil, rfl⟩ : i < len ∧ qs i = q := by
          rw [List.getElem?_map] at hq
          by_cases hi2 : i < len
          · rw [List.getElem?_range hi2] at hq
            exact ⟨hi2, by simpa using hq⟩
          · rw [List.getElem?_eq_none (by simp; omega)] at hq
            cases hq
        have g := (hqs i hil).2 j u hu
        rw [← g, Go.WideShapes.add_plain, Nat.add_assoc]
    · obtain ⟨i, hi2, rfl⟩ := List.mem_map.1 hp
      exact (hqs i (List.mem_range.1 hi2)).1

end Go.Proofs.YtjeefgamkoeiaaaGreatDoor
