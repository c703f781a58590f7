/- The texts MrgPL, MrgHp, MrgSt, MrgArg, one behind the other. -/
import Derived.Test.YtjeefgamkoeiaaaGreatDoorMrgP
import Derived.Test.YtjeefgamkoeiaaaGreatDoorRefMrgA
import Derived.Test.YtjeefgamkoeiaaaGreatDoorMrgW
import Derived.Test.YtjeefgamkoeiaaaGreatDoorBatS
import Derived.Deep.RegionLaw
import Derived.Test.YtjeefgamkoeiaaaGreatDoorMrgK
import Derived.Deep.RegionHeld3
import Derived.Test.YtjeefgamkoeiaaaGreatDoorMrgY

/- Points that are looked up, in plain words. -/
set_option maxRecDepth 100000
set_option linter.unusedVariables false
set_option linter.unusedSimpArgs false
namespace Go.Proofs.YtjeefgamkoeiaaaGreatDoor
open Dc

/-- the first point like p in the families of that name -/
def ptLook (F : List Fp) (n : List UInt8) (p : Pt) : Option Pt := F.findSome? fun x => if x.1.n = n then look cmpP x.2 p else none
theorem ptLook_cons (x : Fp) (F : List Fp) (n : List UInt8) (p : Pt) : ptLook (x :: F) n p = (if x.1.n = n then look cmpP x.2 p else none).or (ptLook F n p) := by
  unfold ptLook
  rw [List.findSome?_cons]
  cases (if x.1.n = n then look cmpP x.2 p else none) <;> rfl
theorem ptLook_no {F : List Fp} {n : List UInt8} {p : Pt} (h : ∀ x ∈ F, x.1.n ≠ n) : ptLook F n p = none := by
  induction F with
  | nil => rfl
  | cons x F ih =>
    rw [ptLook_cons, if_neg (h x List.mem_cons_self), ih fun y hy => h y (List.mem_cons_of_mem _ hy)]; rfl
theorem ptLook_at {F : List Fp} (hs : StrictT cmpF F) {x : Fp} (hx : x ∈ F) (p : Pt) : ptLook F x.1.n p = look cmpP x.2 p := by
  induction F with
  | nil => cases hx
  | cons y F ih =>
    have h1 := (List.pairwise_cons.1 hs).1
    rw [ptLook_cons]
    rcases List.mem_cons.1 hx with rfl | hx
    · rw [if_pos rfl, ptLook_no (fun z hz e => by have := h1 z hz; have h2 : cmpF x z = 0 := cmpF_zero.2 e.symm; omega)]
      simp
    · rw [if_neg (fun e => by have := h1 x hx; have h2 : cmpF y x = 0 := cmpF_zero.2 e; omega), ih (List.pairwise_cons.1 hs).2 hx]
      simp
/-- in a rising row: by the family of that name -/
theorem ptLook_look {F : List Fp} (hs : StrictT cmpF F) (x : Fp) (p : Pt) : ptLook F x.1.n p = (look cmpF F x).bind fun y => look cmpP y.2 p := by
  cases h : look cmpF F x with
  | none => exact ptLook_no fun y hy e => look_none.1 h y hy (cmpF_zero.2 e)
  | some y =>
    have hy := look_some h
    have e := cmpF_zero.1 hy.2
    rw [← e]
    exact ptLook_at hs hy.1 p
/-- what is looked up in what both are together: in the later one, else in the other one -/
theorem ptLook_mrg {A B : List Fp} (hA : StrictT cmpF A) (hB : StrictT cmpF B) (pA : ∀ x ∈ A, StrictP x.2) (pB : ∀ x ∈ B, StrictP x.2) (n : List UInt8) (p : Pt) :
    ptLook (mrgF A B) n p = (ptLook B n p).or (ptLook A n p) := by
  have hx : n = (⟨⟨n, 0, [], []⟩, []⟩ : Fp).1.n := rfl
  rw [hx, ptLook_look (mrgF_strict hA B), ptLook_look hA, ptLook_look hB, mrgF, mrg_look tp_cmpF put_hg _ hA (strictT_nd hB)]
  cases hb : look cmpF B (⟨n, 0, [], []⟩, []) with
  | none => cases look cmpF A (⟨n, 0, [], []⟩, []) <;> simp [comb]
  | some y =>
    cases ha : look cmpF A (⟨n, 0, [], []⟩, []) with
    | none => simp [comb]
    | some x =>
      show look cmpP (putP x y).2 p = _
      have h1 := mrg_look tp_cmpP snd_hg p (pA x (look_some ha).1) (strictT_nd (pB y (look_some hb).1))
      show look cmpP (mrgP x.2 y.2) p = (look cmpP y.2 p).or (look cmpP x.2 p)
      rw [mrgP, h1]
      cases look cmpP x.2 p <;> cases look cmpP y.2 p <;> rfl
/-- batches that were put together -/
structure AllOk (L : List Bp) : Prop where
  c : ∀ b ∈ L, chk b.1 b.2 = 0
  ag : agreeF (flat L)
theorem AllOk.of {L : List Bp} (h : mRef L = 0) : AllOk L := ⟨(mRef_zero.1 h).1, (mRef_zero.1 h).2.2⟩
theorem AllOk.strict {L : List Bp} (h : AllOk L) (k : Nat) : ∀ x ∈ allF (flat (L.take k)), StrictP x.2 := fun x hx => fam_strict (mrg_famOk (fun y hy => by
  obtain ⟨b, hb, hyb⟩ := flat_mem.1 (by simpa using hy)
  exact (chk_parts (h.c b (List.mem_of_mem_take hb))).2.1 y hyb) (agree_sub (fun y hy => by
    obtain ⟨b, hb, hyb⟩ := flat_mem.1 (by simpa using hy)
    exact flat_mem.2 ⟨b, List.mem_of_mem_take hb, hyb⟩) h.ag) x hx)
theorem flat_take' {l : List Bp} {k : Nat} {x : Bp} (h : l[k]? = some x) : flat (l.take (k + 1)) = flat (l.take k) ++ x.2 := by
  obtain ⟨hk, rfl⟩ := List.getElem?_eq_some_iff.1 h
  rw [List.take_succ_eq_append_getElem hk, flat_append, flat_cons]; simp [flat]
theorem AllOk.step {L : List Bp} (h : AllOk L) {k : Nat} {b : Bp} (hb : L[k]? = some b) (n : List UInt8) (p : Pt) :
    ptLook (allF (flat (L.take (k + 1)))) n p = (ptLook b.2 n p).or (ptLook (allF (flat (L.take k))) n p) := by
  have hm := List.mem_of_getElem? hb
  have hc := h.c b hm
  rw [flat_take' hb, allF, mrgF, mrg_append]
  exact ptLook_mrg (allF_strict _) (chk_parts hc).1 (h.strict k) (chk_ps hc) n p
/-- each point of each batch is there -/
theorem AllOk.there {L : List Bp} (h : AllOk L) {n : List UInt8} {p : Pt} : ∀ (k j : Nat) {b : Bp}, k < j → j ≤ L.length → L[k]? = some b → (ptLook b.2 n p).isSome = true → (ptLook (allF (flat (L.take j))) n p).isSome = true
  | k, 0, b, hkj, _, _, _ => by omega
  | k, j + 1, b, hkj, hj, hb, hs => by
    rw [h.step (List.getElem?_eq_getElem (show j < L.length by omega))]
    by_cases e : k = j
    · subst e
      obtain ⟨hk, rfl⟩ := List.getElem?_eq_some_iff.1 hb
      cases hx : ptLook L[k].2 n p with
      | none => rw [hx] at hs; cases hs
      | some x => rfl
    · have h1 := AllOk.there h k j (by omega) (by omega) hb hs
      cases ptLook (L[j]'(by omega)).2 n p with
      | none => simpa using h1
      | some x => rfl
end Go.Proofs.YtjeefgamkoeiaaaGreatDoor

/- The walk of polyglothelp.Point. -/
set_option maxRecDepth 100000
set_option linter.unusedVariables false
set_option linter.unusedSimpArgs false
namespace Go.Proofs.YtjeefgamkoeiaaaGreatDoor
open Go.RowKit Go.Sort Dc
attribute [local go_sem ↓] Go.wp_at_zero Go.wp_at_succ

def pt0 : Pt := ⟨[], 0, false, 0, 0, 0, 0, false, 0⟩
/-- what is handed back: the point that was found, its labels readable; or none -/
def HpRes (o : Option Pt) (e : Ending) (w' : World) : Prop := ∃ A n cap q, e = .returned (.tuple #[ptv (.slice A n cap) q, .bool o.isSome]) ∧ LbRow w' (.slice A n cap) q.l ∧ PtIn q ∧ q = o.getD pt0
theorem pt0_in : PtIn pt0 := ⟨by show (-9223372036854775808 : Int) ≤ 0; decide, by show (0 : Int) ≤ 9223372036854775807; decide, by show (-9223372036854775808 : Int) ≤ 0; decide, by show (0 : Int) ≤ 9223372036854775807; decide, by show (-9223372036854775808 : Int) ≤ 0; decide, by show (0 : Int) ≤ 9223372036854775807; decide, fun x hx => by cases hx⟩
theorem lb_nil (w : World) : LbRow w (.slice none 0 0) [] := ⟨none, 0, rfl, Nat.le_refl _, by unfold maxLen; omega, fun _ => rfl, fun h => absurd h (by simp)⟩
theorem HpRes.no {o : Option Pt} {w' : World} (h : o = none) : HpRes o (.returned (.tuple #[ptv (.slice none 0 0) pt0, .bool false])) w' := ⟨none, 0, 0, pt0, by rw [h]; rfl, lb_nil _, pt0_in, by rw [h]; rfl⟩
theorem HpRes.yes {o : Option Pt} {w' : World} {A : Option Addr} {n cap : Nat} {q : Pt} (h : o = some q) (hl : LbRow w' (.slice A n cap) q.l) (hq : PtIn q) : HpRes o (.returned (.tuple #[ptv (.slice A n cap) q, .bool true])) w' := ⟨A, n, cap, q, by rw [h]; rfl, hl, hq, by rw [h]; rfl⟩
end Go.Proofs.YtjeefgamkoeiaaaGreatDoor

/- Nine stores into a block that holds a point. -/
set_option maxRecDepth 100000
set_option linter.unusedVariables false
set_option linter.unusedSimpArgs false
namespace Go.Proofs.YtjeefgamkoeiaaaGreatDoor
open Go.RowKit Go.Sort Dc

/-- what is put together is of few families -/
theorem mF_few2 (L : List Bp) : FpFew (mF L) := by
  have few_nil2 : FpFew ([] : List Fp) := ⟨by simp, fun x hx => (by cases hx), fun x hx => (by cases hx)⟩
  by_cases h : mErr L = 0
  · rw [mF_good h]
    by_cases h0 : L = []
    · rw [h0]; exact few_nil2
    · exact few_ok ((mErr_zero h0).1 h).2
  · rw [mF_bad h]; exact few_nil2
theorem PtAt.setOther {w : World} {b c i : Nat} {lv u : Value} {p : Pt} (k : PtAt w b lv p) (hne : b ≠ c) : PtAt (w.setCell ⟨c, i, none⟩ u) b lv p := by
  have e : (w.setCell ⟨c, i, none⟩ u).heap[b]? = w.heap[b]? := Below.heap_setCell _ _ _ _ hne
  exact ⟨(World.cell?_of_block (a := ⟨b, 0, none⟩) e).trans k.c0, (World.cell?_of_block (a := ⟨b, 1, none⟩) e).trans k.c1, (World.cell?_of_block (a := ⟨b, 2, none⟩) e).trans k.c2, (World.cell?_of_block (a := ⟨b, 3, none⟩) e).trans k.c3, (World.cell?_of_block (a := ⟨b, 4, none⟩) e).trans k.c4, (World.cell?_of_block (a := ⟨b, 5, none⟩) e).trans k.c5, (World.cell?_of_block (a := ⟨b, 6, none⟩) e).trans k.c6, (World.cell?_of_block (a := ⟨b, 7, none⟩) e).trans k.c7, (World.cell?_of_block (a := ⟨b, 8, none⟩) e).trans k.c8,
    fun o => (World.frozen?_of_block (a := ⟨b, o, none⟩) e).trans (k.fr o), by simpa [World.setCell] using k.lt⟩
/-- nine stores into a block -/
abbrev set9 (w : World) (b : Nat) (lv : Value) (p : Pt) : World := ((((((((w.setCell ⟨b, 0, none⟩ lv).setCell ⟨b, 1, none⟩ (.int .i64 p.ro)).setCell ⟨b, 2, none⟩ (.bool p.inf)).setCell ⟨b, 3, none⟩ (.int .i64 p.bm)).setCell ⟨b, 4, none⟩ (.int .i64 p.bs)).setCell ⟨b, 5, none⟩ (.int .i64 p.m)).setCell ⟨b, 6, none⟩ (.int .i64 p.s)).setCell ⟨b, 7, none⟩ (.bool p.td)).setCell ⟨b, 8, none⟩ (.int .i64 p.ti)
theorem PtAt.set9 {w : World} {b : Nat} {lv0 lv : Value} {p0 p : Pt} (k : PtAt w b lv0 p0) : PtAt (Go.Proofs.YtjeefgamkoeiaaaGreatDoor.set9 w b lv p) b lv p := by
  have h0 := k.c0
  have h1 := k.c1
  have h2 := k.c2
  have h3 := k.c3
  have h4 := k.c4
  have h5 := k.c5
  have h6 := k.c6
  have h7 := k.c7
  have h8 := k.c8
  exact ⟨by simp [go_sem, h0], by simp [go_sem, h1], by simp [go_sem, h2], by simp [go_sem, h3], by simp [go_sem, h4], by simp [go_sem, h5], by simp [go_sem, h6], by simp [go_sem, h7], by simp [go_sem, h8], fun o => by simpa using k.fr o, by simpa [World.setCell] using k.lt⟩
/-- a text's cell, where a point lies in the block that is stored into: not one of its nine -/
theorem PtAt.set9_text {w : World} {c : Nat} {lv u : Value} {p q : Pt} {A1 : Option Addr} {n1 c1 : Nat} (hlv : lv = .slice A1 n1 c1) (k : PtAt w c lv p) {b o : Nat} {s : _} (h : w.cell? ⟨b, o, none⟩ = some (.string s)) :
    (Go.Proofs.YtjeefgamkoeiaaaGreatDoor.set9 w c u q).cell? ⟨b, o, none⟩ = some (.string s) := by
  have h0 := k.c0
  have h1 := k.c1
  have h2 := k.c2
  have h3 := k.c3
  have h4 := k.c4
  have h5 := k.c5
  have h6 := k.c6
  have h7 := k.c7
  have h8 := k.c8
  rw [hlv] at h0
  have key : ∀ i, i ≤ 8 → (⟨c, i, none⟩ : Addr) ≠ ⟨b, o, none⟩ := fun i hi e => by
    obtain ⟨rfl, rfl⟩ : c = b ∧ i = o := by simpa using e
    obtain rfl | rfl | rfl | rfl | rfl | rfl | rfl | rfl | rfl : i = 0 ∨ i = 1 ∨ i = 2 ∨ i = 3 ∨ i = 4 ∨ i = 5 ∨ i = 6 ∨ i = 7 ∨ i = 8 := by omega
    all_goals simp_all
  rw [World.cell?_setCell_other _ _ _ _ (key 8 (by omega)), World.cell?_setCell_other _ _ _ _ (key 7 (by omega)), World.cell?_setCell_other _ _ _ _ (key 6 (by omega)), World.cell?_setCell_other _ _ _ _ (key 5 (by omega)), World.cell?_setCell_other _ _ _ _ (key 4 (by omega)), World.cell?_setCell_other _ _ _ _ (key 3 (by omega)), World.cell?_setCell_other _ _ _ _ (key 2 (by omega)), World.cell?_setCell_other _ _ _ _ (key 1 (by omega)), World.cell?_setCell_other _ _ _ _ (key 0 (by omega))]
  exact h
theorem LbRow.set9 {w : World} {c : Nat} {lv u v : Value} {p q : Pt} {l : List Lb} {A1 : Option Addr} {n1 c1 : Nat} (h : LbRow w v l) (hlv : lv = .slice A1 n1 c1) (k : PtAt w c lv p) : LbRow (Go.Proofs.YtjeefgamkoeiaaaGreatDoor.set9 w c u q) v l := by
  obtain ⟨A, cap, rfl, h1, h2, hn, h3⟩ := h
  refine ⟨A, cap, rfl, h1, h2, hn, fun h0 => ?_⟩
  obtain ⟨b, off, rfl, hlt, hc⟩ := h3 h0
  exact ⟨b, off, rfl, by simpa [World.setCell] using hlt, fun i p hp => ⟨k.set9_text hlv (hc i p hp).1, k.set9_text hlv (hc i p hp).2⟩⟩

/-- the store of a whole point -/
theorem run_store_pt {w : World} {b : Nat} {lv0 : Value} {p0 : Pt} (k : PtAt w b lv0 p0) (A1 : Option Addr) (n1 c1 : Nat) (p : Pt) :
    (storeVar 53 ⟨b, 0, none⟩ (ptv (.slice A1 n1 c1) p)).run Tryz.prog w = .ok () (Go.Proofs.YtjeefgamkoeiaaaGreatDoor.set9 w b (.slice A1 n1 c1) p) := by
  have h0 := k.c0
  have h1 := k.c1
  have h2 := k.c2
  have h3 := k.c3
  have h4 := k.c4
  have h5 := k.c5
  have h6 := k.c6
  have h7 := k.c7
  have h8 := k.c8
  have hf := k.fr
  clear k
  go_simp
end Go.Proofs.YtjeefgamkoeiaaaGreatDoor

/- Batches that came in. -/
set_option maxRecDepth 100000
set_option linter.unusedVariables false
set_option linter.unusedSimpArgs false
namespace Go.Proofs.YtjeefgamkoeiaaaGreatDoor
open Go.RowKit Go.ChangeShapes Go.WideShapes Go.Deep Dc

theorem btRow_nil (w : World) : BtRow w (.slice none 0 0) [] := ⟨KRow.nil _ _ _, fun x hx => by cases hx⟩
theorem bat_trod {H : Type} {enc : TypeId × Value → H} {W : World} {base : Nat} {sp : Nat → Bool} {held : Bool} {fuel : Nat} {cl : List Value} {x : DataW H × List MemPlace}
    (hf : DataW.trod enc Tryz.prog W base sp held fuel 28 cl = some x) : ∃ y : Bs, cl = encB y ∧ FmRow W y.v y.F ∧ y.t.length ≤ maxLen := by
  obtain ⟨xs, n, rfl, _, hlen, hxs, hff⟩ := DataW.trod_struct Tryz.underlying28 hf
  have hc : Tryz.prog.cellsOf 28 = 2 := by kernel_rfl
  rw [hc] at hlen
  match cl, hlen with
  | [u0, u1], _ =>
    have hs : xs.length = 2 := by rw [hxs]; rfl
    match xs, hs with
    | [x0, x1], _ =>
      have h0 := hff 0 _ rfl
      have h1 := hff 1 _ rfl
      have c0 : Tryz.prog.cellsOf 9 = 1 := by kernel_rfl
      have c1 : Tryz.prog.cellsOf 26 = 1 := by kernel_rfl
      simp only [List.getElem_toArray, List.getElem_cons_zero, List.getElem_cons_succ, c0, c1] at h0 h1
      simp only [List.drop_zero, List.drop_succ_cons, List.take_succ_cons, List.take_zero] at h0 h1
      obtain ⟨fv, F, e1, hrow⟩ := fmRow_of h1
      obtain ⟨s0, e0, _, w0⟩ := DataW.trod_string Tryz.underlying9 h0
      simp only [List.cons.injEq, and_true] at e0 e1
      refine ⟨⟨s0.data.toList, fv, F⟩, ?_, hrow, w0⟩
      rw [e0, e1]
      rfl
/-- a row of batches that came in -/
theorem btRow_of {H : Type} {enc : TypeId × Value → H} {W : World} {base : Nat} {sp : Nat → Bool} {held : Bool} {v : Value} {d : DataW H} {p : List MemPlace}
    (hv : Value.okWide Tryz.prog W .any 0 22 v) (h : DataW.Trod enc Tryz.prog W base sp held 22 v d p) : ∃ l, BtRow W v l := by
  obtain ⟨a, len, cap, rfl⟩ := okWide_slice Tryz.underlying22 hv
  obtain ⟨fuel, h⟩ := h
  rcases open_slice Tryz.underlying22 h with ⟨hcs, _⟩ | ⟨a', len', cap', m, k, D, Pl, hcs, hb, hl, hm, hmm, _, hi⟩
  · simp [Value.cells] at hcs
    obtain ⟨rfl, rfl, rfl⟩ := hcs
    exact ⟨[], btRow_nil _⟩
  · simp [Value.cells] at hcs
    obtain ⟨rfl, rfl, rfl⟩ := hcs
    have hlen : len ≤ m := by rw [hmm]; split <;> omega
    have hC : Tryz.prog.cellsOf 28 = 2 := by kernel_rfl
    have hall : ∀ i, ∃ q : Bs, i < len → (FmRow W q.v q.F ∧ q.t.length ≤ maxLen) ∧ ∀ j u, (encB q)[j]? = some u → W.cell? (a'.add (i * 2 + j)) = some u := fun i => by
      by_cases hil : i < len
      · obtain ⟨cs', hc, ht⟩ := hi i (by omega)
        obtain ⟨y, rfl, h1⟩ := bat_trod ht
        rw [hC] at hc
        obtain ⟨_, _, hat⟩ := World.cells?_some hc
        refine ⟨y, fun _ => ⟨h1, fun j u hu => ?_⟩⟩
        have hj : j < 2 := (List.getElem?_eq_some_iff.1 hu).1
        rw [← Go.Deep.add_add, hat j hj]
        exact hu
      · exact ⟨⟨[], .slice none 0 0, []⟩, fun h => absurd h hil⟩
    obtain ⟨qs, hqs⟩ := Classical.axiomOfChoice hall
    have hll : ((List.range len).map qs).length = len := by simp
    refine ⟨(List.range len).map qs, ⟨some a', cap, by rw [hll], by rw [hll]; exact hl, hm, (by rintro ⟨⟩), fun h0 => ?_⟩, fun p hp => ?_⟩
    · rw [hll] at h0
      have h00 := (hqs 0 h0).2 0 _ rfl
      obtain ⟨b, off, spot⟩ := a'
      have hspot : spot = none := by simpa [Addr.add] using World.cell?_spot h00
      subst hspot
      refine ⟨b, off, rfl, ?_, fun i q hq j u hu => ?_⟩
      · have := cell_lt h00
        simpa [Addr.add] using this
      · obtain ⟨hil, rfl⟩ : i < len ∧ qs i = q := by
          rw [List.getElem?_map] at hq
          by_cases hi2 : i < len
          · rw [List.getElem?_range hi2] at hq
            exact ⟨hi2, by simpa using hq⟩
          · rw [List.getElem?_eq_none (by simp; omega)] at hq
            cases hq
        have g := (hqs i hil).2 j u hu
        rw [← g, Go.WideShapes.add_plain, Nat.add_assoc]
    · obtain ⟨i, hi2, rfl⟩ := List.mem_map.1 hp
      exact (hqs i (List.mem_range.1 hi2)).1

end Go.Proofs.YtjeefgamkoeiaaaGreatDoor
