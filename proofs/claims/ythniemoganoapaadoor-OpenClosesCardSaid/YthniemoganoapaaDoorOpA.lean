/- The walks of package openword's in, and of its cursor's sees, take, many, one, name; its tables (layer 17). -/
import Derived.Test.YthniemoganoapaaDoorOpPlain
import Derived.Test.YthniemoganoapaaDoorRefOwC
import Derived.Test.YthniemoganoapaaDoorUtfD
set_option maxRecDepth 100000
set_option linter.unusedVariables false
set_option linter.unusedSimpArgs false
namespace Go.Proofs.YthniemoganoapaaDoor
open Go.RowKit
attribute [local go_sem ↓] Go.wp_at_zero Go.wp_at_succ

def owCls : Array Value := #[.int .u8 0, .int .u8 0, .int .u8 0, .int .u8 0, .int .u8 0, .int .u8 0, .int .u8 0, .int .u8 0, .int .u8 0, .int .u8 0, .int .u8 128, .int .u8 0, .int .u8 0, .int .u8 0, .int .u8 0, .int .u8 0, .int .u8 0, .int .u8 0, .int .u8 0, .int .u8 0, .int .u8 0, .int .u8 0, .int .u8 0, .int .u8 0, .int .u8 0, .int .u8 0, .int .u8 0, .int .u8 0, .int .u8 0, .int .u8 0, .int .u8 0, .int .u8 0, .int .u8 0, .int .u8 0, .int .u8 32, .int .u8 0, .int .u8 0, .int .u8 0, .int .u8 0, .int .u8 0, .int .u8 0, .int .u8 0, .int .u8 0, .int .u8 0, .int .u8 0, .int .u8 0, .int .u8 0, .int .u8 0, .int .u8 4, .int .u8 4, .int .u8 4, .int .u8 4, .int .u8 4, .int .u8 4, .int .u8 4, .int .u8 4, .int .u8 4, .int .u8 4, .int .u8 16, .int .u8 0, .int .u8 0, .int .u8 0, .int .u8 0, .int .u8 0, .int .u8 0, .int .u8 2, .int .u8 2, .int .u8 2, .int .u8 2, .int .u8 2, .int .u8 2, .int .u8 2, .int .u8 2, .int .u8 2, .int .u8 2, .int .u8 2, .int .u8 2, .int .u8 2, .int .u8 2, .int .u8 2, .int .u8 2, .int .u8 2, .int .u8 2, .int .u8 2, .int .u8 2, .int .u8 2, .int .u8 2, .int .u8 2, .int .u8 2, .int .u8 2, .int .u8 2, .int .u8 0, .int .u8 64, .int .u8 0, .int .u8 0, .int .u8 8, .int .u8 0, .int .u8 1, .int .u8 1, .int .u8 1, .int .u8 1, .int .u8 1, .int .u8 1, .int .u8 1, .int .u8 1, .int .u8 1, .int .u8 1, .int .u8 1, .int .u8 1, .int .u8 1, .int .u8 1, .int .u8 1, .int .u8 1, .int .u8 1, .int .u8 1, .int .u8 1, .int .u8 1, .int .u8 1, .int .u8 1, .int .u8 1, .int .u8 1, .int .u8 1, .int .u8 1]
/-- the package's tables, and those of utf, lie in the world, ahead of B -/
structure OwT (w : World) (B : Nat) : Prop where
  cls : ∃ t fr, w.heap[0]? = some (.cells owCls t fr)
  sts : ∃ t fr, w.heap[1]? = some (.cells #[.string ⟨#[]⟩, .string (str [35, 32, 84, 89, 80, 69, 32]), .string (str [35, 32, 85, 78, 73, 84, 32]), .string (str [35, 32, 72, 69, 76, 80, 32]), .string (str [35, 32, 69, 79, 70])] t fr)
  shp : ShapesIn w
  mks : MarksIn w
  l0 : 0 < B
  l1 : 1 < B
  l2 : 2 < B
  l3 : 3 < B
theorem OwT.kept {w w' : World} {B : Nat} (h : OwT w B) (hk : ∀ j < B, w'.heap[j]? = w.heap[j]?) : OwT w' B := by
  obtain ⟨⟨t1, f1, h1⟩, ⟨t2, f2, h2⟩, ⟨t3, f3, h3⟩, ⟨t4, f4, h4⟩, l0, l1, l2, l3⟩ := h
  exact ⟨⟨t1, f1, (hk _ l0).trans h1⟩, ⟨t2, f2, (hk _ l1).trans h2⟩, ⟨t3, f3, (hk _ l2).trans h3⟩, ⟨t4, f4, (hk _ l3).trans h4⟩, l0, l1, l2, l3⟩
theorem OwT.grown {w w' : World} {B b : Nat} (h : OwT w B) (hB : B ≤ w.heap.size) (hb : B ≤ b) (hg : w.grownBy w' (some b)) : OwT w' B :=
  h.kept (fun j hj => hg.block j (by omega) (by intro e; injection e; omega))
theorem OwT.below {w w' : World} {B : Nat} (h : OwT w B) (hB : B ≤ w.heap.size) (hb : Below w.heap.size w w') : OwT w' B := h.kept (fun j hj => hb.block j (by omega))
/-- a cursor lies in block b, at k; the tables lie ahead of it -/
structure Cur (w : World) (b : Nat) (s : List UInt8) (k : Nat) : Prop where
  c0 : w.cell? ⟨b, 0, none⟩ = some (.string (str s))
  c1 : w.cell? ⟨b, 1, none⟩ = some (.int .i64 (k : Nat))
  fr : ∀ o, w.frozen? ⟨b, o, none⟩ = false
  lt : b < w.heap.size
  le : k ≤ s.length
  tab : OwT w b
theorem Cur.below {w w' : World} {b : Nat} {s : List UInt8} {k : Nat} (h : Cur w b s k) (hb : Below w.heap.size w w') : Cur w' b s k :=
  ⟨(hb.cell (p := ⟨b, 0, none⟩) h.lt).trans h.c0, (hb.cell (p := ⟨b, 1, none⟩) h.lt).trans h.c1, fun o => (hb.frozen (p := ⟨b, o, none⟩) h.lt).trans (h.fr o), Nat.lt_of_lt_of_le h.lt hb.size, h.le, h.tab.below (Nat.le_of_lt h.lt) hb⟩
theorem Cur.drewN {w : World} {b : Nat} {s : List UInt8} {k : Nat} (h : Cur w b s k) (n : Nat) : Cur (w.drewN n) b s k := h.below (below_drewN (Below.refl _ _) n)
theorem Cur.move {w : World} {b : Nat} {s : List UInt8} {k : Nat} (h : Cur w b s k) (j : Nat) (hj : j ≤ s.length) : Cur (w.setCell ⟨b, 1, none⟩ (.int .i64 (j : Nat))) b s j := by
  have hg : w.grownBy (w.setCell ⟨b, 1, none⟩ (.int .i64 (j : Nat))) (some b) := sc_set (sc_below (Below.refl _ _) _)
  have ht := h.tab.grown (Nat.le_of_lt h.lt) (Nat.le_refl b) hg
  obtain ⟨h0, h1, h5, h4, h6, _⟩ := h
  exact ⟨by go_simp, by go_simp, fun o => by go_simp, by simpa [World.setCell] using h4, hj, ht⟩
/-- a cursor behind a piece that began at k -/
def Took {α : Type} (w : World) (b : Nat) (s : List UInt8) (k : Nat) (o : Ow.Out α) : Prop := ∃ j, k ≤ j ∧ o.rest = s.drop j ∧ Cur w b s j
theorem Took.below {α : Type} {w w' : World} {b : Nat} {s : List UInt8} {k : Nat} {o : Ow.Out α} (h : Took w b s k o) (hb : Below w.heap.size w w') : Took w' b s k o := by
  obtain ⟨j, h1, h2, h3⟩ := h
  exact ⟨j, h1, h2, h3.below hb⟩
theorem Took.to {α β : Type} {w : World} {b : Nat} {s : List UInt8} {k j : Nat} {o : Ow.Out α} {o' : Ow.Out β} (h : Took w b s j o) (hk : k ≤ j) (e : o'.rest = o.rest) : Took w b s k o' := by
  obtain ⟨i, h1, h2, h3⟩ := h
  exact ⟨i, by omega, e.trans h2, h3⟩
theorem and_u8 (a b : Nat) (ha : a < 256) (hb : b < 256) : bits .and .u8 (a : Int) (b : Int) = ((a &&& b : Nat) : Int) := by
  have ha' : a % 2 ^ IntKind.u8.bits = a := Nat.mod_eq_of_lt ha
  have hb' : b % 2 ^ IntKind.u8.bits = b := Nat.mod_eq_of_lt hb
  simp only [bits, BitVec.ofInt_natCast, BitVec.toNat_and, BitVec.toNat_ofNat, ha', hb']
  have := Nat.and_lt_two_pow (n := 8) a hb
  unfold IntKind.wrap
  simp [IntKind.signed, IntKind.bits]
  omega
theorem ow_cls (n : Nat) (h : n < 123) : Ow.clsL.getD n 0 < 256 ∧ owCls[n]? = some (.int .u8 (Ow.clsL.getD n 0 : Nat)) := by
  have e1 : (List.range 123).all (fun n => decide (Ow.clsL.getD n 0 < 256)) = true := by decide +kernel
  have e2 : owCls = (Ow.clsL.map fun n => Value.int .u8 (n : Nat)).toArray := by rfl
  refine ⟨of_decide_eq_true (List.all_eq_true.1 e1 n (List.mem_range.2 h)), ?_⟩
  have e3 : n < Ow.clsL.length := h
  rw [e2, List.getElem?_toArray, List.getElem?_map, List.getElem?_eq_getElem e3, List.getD_eq_getElem?_getD, List.getElem?_eq_getElem e3]; rfl

set_option maxHeartbeats 4000000 in
theorem oin_calls (set : Nat) (c : UInt8) (w : World) (B : Nat) (hset : set < 256) (hT : OwT w B) :
    Calls Tryd.prog 34 #[.int .u8 (set : Nat), .int .u8 (c.toNat : Int)] w fun e w' => e = .returned (.bool (Ow.inS set c)) ∧ w = w' := by
  have hc : c.toNat < 256 := c.toNat_lt
  have hI : Ow.inS set c = (decide (c.toNat < 123) && decide (Ow.clsL.getD c.toNat 0 &&& set ≠ 0)) := rfl
  obtain ⟨⟨t, fr, hb⟩, -⟩ := hT
  generalize Ow.inS set c = I at *
  generalize c.toNat = n at *
  by_cases h : n < 123
  · obtain ⟨h1, h2⟩ := ow_cls n h
    have d1 : decide ((n : Int) < 123) = true := decide_eq_true (by omega)
    have hcell : w.cell? ⟨0, n, none⟩ = some (.int .u8 (Ow.clsL.getD n 0 : Nat)) := by rw [cell_of_row w _ n owCls t fr hb]; exact h2
    have ha := and_u8 (Ow.clsL.getD n 0) set h1 hset
    have hr : I = decide (Ow.clsL.getD n 0 &&& set ≠ 0) := by rw [hI, decide_eq_true h, Bool.true_and]
    generalize Ow.clsL.getD n 0 = q at *
    have hb3 : (((q &&& set : Nat) : Int) != 0) = I := by
      rw [hr]
      by_cases hz : q &&& set = 0
      · rw [hz]; rfl
      · have : ¬ ((q &&& set : Nat) : Int) = 0 := by omega
        rw [decide_eq_true hz]; simpa using this
    have H1 := Lib.hid h1
    clear hI hr h1 h2 hb
    go_enter Tryd.func34, Tryd.ntmps34
    go_wp2
    go_ret
    exact ⟨rfl, rfl⟩
  · have d1 : decide ((n : Int) < 123) = false := decide_eq_false (by omega)
    have hr := Lib.hid (show I = false by rw [hI, decide_eq_false h, Bool.false_and])
    clear hI
    go_enter Tryd.func34, Tryd.ntmps34
    go_wp2
    go_ret
    exact ⟨by rw [hr.out]; rfl, rfl⟩

set_option maxHeartbeats 4000000 in
theorem sees_quiet (set b k : Nat) (s : List UInt8) (w : World) (hset : set < 256) (h : Cur w b s k) (hs : s.length ≤ maxLen) :
    Calls Tryd.prog 59 #[.pointer (some ⟨b, 0, none⟩), .int .u8 (set : Nat)] w fun e w' => e = .returned (.bool (Ow.sees set (s.drop k))) ∧ ∃ m, w' = w.drewN m := by
  have hsz := str_size s
  obtain ⟨c0, c1, fr, lt, le, tab⟩ := h
  unfold maxLen at hs
  by_cases hk : k < s.length
  · have hin : k < (str s).size := by rw [hsz]; exact hk
    have d1 : decide ((k : Int) < (s.length : Int)) = true := decide_eq_true (by omega)
    have hr := Lib.hid (show Ow.sees set (s.drop k) = Ow.inS set ((str s)[k]'hin) by rw [List.drop_eq_getElem_cons hk]; rfl)
    have hI := Lib.hid (fun W (hW : OwT W b) => oin_calls set ((str s)[k]'hin) W b hset hW)
    have HT := Lib.hid tab
    have hI := Lib.hid (fun n => hI.out (w.drewN n) (HT.out.below (Nat.le_of_lt lt) (below_drewN (Below.refl _ _) n)))
    clear tab
    go_enter Tryd.func59, Tryd.ntmps59
    go_upto_region 1 with fail
    go_quiet ((go_at_call 34; exact Calls.quiet_of_same ((hI.out _).mono fun _ _ h => ⟨h.1, h.2.symm⟩)))
    go_wp2
    go_ret
    exact ⟨by rw [hr.out]; rfl, _, rfl⟩
  · have d1 : decide ((k : Int) < (s.length : Int)) = false := decide_eq_false (by omega)
    have hr := Lib.hid (show Ow.sees set (s.drop k) = false by rw [List.drop_eq_nil_iff.2 (by omega)]; rfl)
    have HT := Lib.hid tab
    clear tab
    go_enter Tryd.func59, Tryd.ntmps59
    go_upto_region 1 with fail
    go_quiet (fail)
    go_wp2
    go_ret
    exact ⟨by rw [hr.out]; rfl, _, rfl⟩

theorem sees_calls (set b k : Nat) (s : List UInt8) (w : World) (hset : set < 256) (h : Cur w b s k) (hs : s.length ≤ maxLen) :
    Calls Tryd.prog 59 #[.pointer (some ⟨b, 0, none⟩), .int .u8 (set : Nat)] w fun e w' => e = .returned (.bool (Ow.sees set (s.drop k))) ∧ Below w.heap.size w w' :=
  (sees_quiet set b k s w hset h hs).mono fun e w' ⟨h1, m, h2⟩ => ⟨h1, h2 ▸ below_drewN (Below.refl _ _) m⟩

set_option maxHeartbeats 4000000 in
theorem take_calls (t : UInt8) (b k : Nat) (s : List UInt8) (w : World) (h : Cur w b s k) (hs : s.length ≤ maxLen) :
    Calls Tryd.prog 44 #[.pointer (some ⟨b, 0, none⟩), .int .u8 (t.toNat : Int)] w fun e w' =>
      e = .returned (.bool (Ow.okB (Ow.lit [t] (s.drop k)))) ∧ w.grownBy w' (some b) ∧ Took w' b s k (Ow.lit [t] (s.drop k)) := by
  have hsz := str_size s
  have H := Lib.hid h
  have HG := Lib.hid (sc_below (Below.refl w.heap.size w) (some b))
  obtain ⟨c0, c1, fr, lt, le, -⟩ := h
  unfold maxLen at hs
  obtain ⟨o, ho⟩ : ∃ o, o = Ow.lit [t] (s.drop k) := ⟨_, rfl⟩
  rw [← ho]
  by_cases hk : k < s.length
  · have hin : k < (str s).size := by rw [hsz]; exact hk
    have e1 : ((k : Int) == (s.length : Int)) = false := beq_eq_false_iff_ne.2 (by omega)
    have hdr : s.drop k = (str s)[k]'hin :: s.drop (k + 1) := List.drop_eq_getElem_cons hk
    by_cases e : (str s)[k]'hin = t
    · have b1 : (((str s)[k].toNat : Int) != (t.toNat : Int)) = false := by simp [e]
      have hr := Lib.hid (show o = .ok () (s.drop (k + 1)) by rw [ho, hdr, e]; exact Ow.take_yes rfl)
      have hw : IntKind.i64.wrap ((k : Int) + 1) = ((k + 1 : Nat) : Int) := by rw [show (k : Int) + 1 = ((k + 1 : Nat) : Int) by omega]; exact IntWalk.i64_in _ (by omega)
      clear hdr e ho
      go_enter Tryd.func44, Tryd.ntmps44
      go_upto_region 1 with fail
      go_quiet (fail)
      go_wp2
      go_ret
      exact ⟨by rw [hr.out]; rfl, sc_set (sc_drewN HG.out _), k + 1, by omega, by rw [hr.out]; rfl, (H.out.drewN _).move _ hk⟩
    · have b1 : (((str s)[k].toNat : Int) != (t.toNat : Int)) = true := by simpa using byte_ne e
      have hr := Lib.hid (show o = .fell (s.drop k) by rw [ho, hdr]; exact Ow.take_no (by simpa using e))
      clear hdr e ho
      go_enter Tryd.func44, Tryd.ntmps44
      go_upto_region 1 with fail
      go_quiet (fail)
      go_wp2
      go_ret
      exact ⟨by rw [hr.out]; rfl, sc_drewN HG.out _, k, by omega, by rw [hr.out]; rfl, H.out.drewN _⟩
  · have e1 : ((k : Int) == (s.length : Int)) = true := beq_iff_eq.2 (by omega)
    have hr := Lib.hid (show o = .fell (s.drop k) by rw [ho, List.drop_eq_nil_iff.2 (by omega)]; rfl)
    clear ho
    go_enter Tryd.func44, Tryd.ntmps44
    go_upto_region 1 with fail
    go_quiet (fail)
    go_wp2
    go_ret
    exact ⟨by rw [hr.out]; rfl, sc_drewN HG.out _, k, by omega, by rw [hr.out]; rfl, H.out.drewN _⟩

set_option maxHeartbeats 4000000 in
theorem one_calls (set b k : Nat) (s : List UInt8) (w : World) (hset : set < 256) (h : Cur w b s k) (hs : s.length ≤ maxLen) :
    Calls Tryd.prog 68 #[.pointer (some ⟨b, 0, none⟩), .int .u8 (set : Nat)] w fun e w' =>
      (∃ x, e = .returned (.tuple #[.string x, .bool (Ow.okB (Ow.one set (s.drop k)))]) ∧ ∀ v r, Ow.one set (s.drop k) = .ok v r → x = str v) ∧ w.grownBy w' (some b) ∧ Took w' b s k (Ow.one set (s.drop k)) := by
  have hS := sees_calls set b k s w hset h hs
  have H := Lib.hid h
  have HG := Lib.hid (sc_below (Below.refl w.heap.size w) (some b))
  clear h
  unfold maxLen at hs
  obtain ⟨o, ho⟩ : ∃ o, o = Ow.one set (s.drop k) := ⟨_, rfl⟩
  rw [← ho]
  by_cases q : Ow.sees set (s.drop k) = true
  · rw [q] at hS
    have hk : k < s.length := by
      apply Nat.lt_of_not_le; intro hle
      rw [List.drop_eq_nil_iff.2 hle] at q; cases q
    have hr := Lib.hid (show o = .ok [s[k]] (s.drop (k + 1)) by
      rw [ho]; rw [List.drop_eq_getElem_cons hk] at q ⊢
      show (if Ow.inS set s[k] = true then _ else _) = _
      rw [if_pos (show Ow.inS set s[k] = true from q)])
    have hw : IntKind.i64.wrap ((k : Int) + 1) = ((k + 1 : Nat) : Int) := by rw [show (k : Int) + 1 = ((k + 1 : Nat) : Int) by omega]; exact IntWalk.i64_in _ (by omega)
    have hw2 : IntKind.i64.wrap (((k + 1 : Nat) : Int) - 1) = (k : Int) := by rw [show ((k + 1 : Nat) : Int) - 1 = (k : Int) by omega]; exact IntWalk.i64_in _ (by omega)
    have hx := Lib.hid (show (str s).extract k (k + 1) = str [s[k]] from str_ext (by
      rw [ext_list]
      show ((s.take (k + 1)).drop k) = _
      rw [List.drop_take, show k + 1 - k = 1 by omega, List.drop_eq_getElem_cons hk]; rfl))
    clear q ho
    go_enter Tryd.func68, Tryd.ntmps68
    go_wp2_with fail
    refine hS.mono ?_; rintro e w1 ⟨rfl, b1⟩
    have H1 := Lib.hid (H.out.below b1)
    have HG1 := Lib.hid (sc_trans HG.out (sc_below b1 _))
    obtain ⟨c0, c1, fr, lt, le, -⟩ := H1.out
    clear b1 HG H hS
    go_upto_region 4 with fail
    go_quiet (fail)
    go_wp2
    go_ret2
    exact ⟨⟨_, by rw [hr.out]; rfl, fun v r e => by rw [hr.out] at e; injection e with e1 e2; rw [← e1]; exact hx.out⟩, sc_drewN (sc_set HG1.out) _, k + 1, by omega, by rw [hr.out]; rfl, (H1.out.move _ hk).drewN _⟩
  · have q : Ow.sees set (s.drop k) = false := by simpa using q
    rw [q] at hS
    have hr := Lib.hid (show o = .fell (s.drop k) by
      rw [ho]
      cases hd : s.drop k with
      | nil => rfl
      | cons c r =>
        rw [hd] at q
        show (if Ow.inS set c = true then _ else _) = _
        rw [if_neg (by rw [show Ow.inS set c = false from q]; decide)])
    clear q ho
    go_enter Tryd.func68, Tryd.ntmps68
    go_wp2_with fail
    refine hS.mono ?_; rintro e w1 ⟨rfl, b1⟩
    go_wp2
    go_ret2
    exact ⟨⟨_, by rw [hr.out]; rfl, fun v r e => by rw [hr.out] at e; cases e⟩, sc_trans HG.out (sc_below b1 _), k, by omega, by rw [hr.out]; rfl, H.out.below b1⟩

set_option maxHeartbeats 8000000 in
theorem many_calls (set b j : Nat) (s : List UInt8) (w : World) (hset : set < 256) (h : Cur w b s j) (hs : s.length ≤ maxLen) :
    Calls Tryd.prog 60 #[.pointer (some ⟨b, 0, none⟩), .int .u8 (set : Nat)] w fun e w' =>
      (∃ x, e = .returned (.tuple #[.string x, .bool (Ow.okB (Ow.many set (s.drop j)))]) ∧ ∀ v r, Ow.many set (s.drop j) = .ok v r → x = str v) ∧ w.grownBy w' (some b) ∧ Took w' b s j (Ow.many set (s.drop j)) := by
  have H := Lib.hid h
  have HS := Lib.hid (fun k W (hW : Cur W b s k) => sees_calls set b k s W hset hW hs)
  have HG := Lib.hid (sc_below (Below.refl w.heap.size w) (some b))
  obtain ⟨c0, c1, fr, lt, le, -⟩ := h
  unfold maxLen at hs
  obtain ⟨o, ho⟩ : ∃ o, o = Ow.many set (s.drop j) := ⟨_, rfl⟩
  rw [← ho]
  have HO := Lib.hid ho
  clear ho
  go_enter Tryd.func60, Tryd.ntmps60
  go_wp2_with fail
  clear c0 c1 fr lt
  go_loopg [13] (s.length - j) (fun g _ wr => ∃ k : Nat, g = s.length - k ∧ j ≤ k ∧ Hid (Cur wr b s k) ∧ Hid (w.grownBy wr (some b)) ∧ Hid (∀ y ∈ (s.drop j).take (k - j), Ow.inS set y = true))
  case atStart => exact ⟨j, rfl, Nat.le_refl _, H, HG, Lib.hid (by rw [Nat.sub_self]; intro y hy; simp at hy)⟩
  case round =>
    clear H HG le
    obtain ⟨k, hg, hjk, H, HG, HA⟩ := hrel
    have HGg := Lib.hid hg
    have le := H.out.le
    clear hg
    have hS := HS.out k _ H.out
    obtain ⟨q, hq⟩ : ∃ q, q = Ow.sees set (s.drop k) := ⟨_, rfl⟩
    rw [← hq] at hS
    have HQ := Lib.hid hq
    clear hq
    go_wp2_with fail
    refine hS.mono ?_; rintro e w1 ⟨rfl, b1⟩
    have H1 := Lib.hid (H.out.below b1)
    have HG1 := Lib.hid (sc_trans HG.out (sc_below b1 _))
    obtain ⟨c0, c1, fr, lt, -, -⟩ := H1.out
    clear b1 H hS HG
    cases q with
    | true =>
      have hk : k < s.length := by
        apply Nat.lt_of_not_le; intro hle
        have := HQ.out
        rw [List.drop_eq_nil_iff.2 hle] at this; cases this
      have HA2 : Hid (∀ y ∈ (s.drop j).take (k + 1 - j), Ow.inS set y = true) := Lib.hid (by
        have hin : k - j < (s.drop j).length := by rw [List.length_drop]; omega
        rw [show k + 1 - j = (k - j) + 1 by omega, List.take_succ_eq_append_getElem hin]
        intro y hy
        rw [List.mem_append, List.mem_singleton] at hy
        rcases hy with hy | rfl
        · exact HA.out y hy
        · have := HQ.out
          rw [List.drop_eq_getElem_cons hk] at this
          rw [List.getElem_drop]
          simp only [show j + (k - j) = k by omega]
          exact this.symm)
      have hw : IntKind.i64.wrap ((k : Int) + 1) = ((k + 1 : Nat) : Int) := by rw [show (k : Int) + 1 = ((k + 1 : Nat) : Int) by omega]; exact IntWalk.i64_in _ (by omega)
      clear HA HQ
      go_wp2
      go_roundg (s.length - (k + 1))
      case measure => have := HGg.out; omega
      case rel => exact ⟨k + 1, rfl, by omega, Lib.hid (H1.out.move _ hk), Lib.hid (sc_set HG1.out), HA2⟩
    | false =>
      have hr : o = if k - j = 0 then .fell (s.drop j) else .ok ((s.drop j).take (k - j)) (s.drop k) := by
        have hlen : k - j ≤ (s.drop j).length := by rw [List.length_drop]; omega
        obtain ⟨t1, t2⟩ := Ow.take_while (p := Ow.inS set) (s.drop j) (k - j) hlen HA.out (fun c hc => by
          rw [List.getElem?_drop, show j + (k - j) = k by omega] at hc
          have := HQ.out
          obtain ⟨hk, rfl⟩ := List.getElem?_eq_some_iff.1 hc
          rw [List.drop_eq_getElem_cons hk] at this
          exact this.symm)
        rw [HO.out]
        unfold Ow.many
        rw [t1, t2, List.drop_drop, show j + (k - j) = k by omega]
        by_cases e : k - j = 0
        · rw [if_pos e, e]; rfl
        · rw [if_neg e, if_neg]
          rw [List.isEmpty_iff]
          intro h0
          have := congrArg List.length h0
          rw [List.length_take] at this
          simp at this; omega
      have hcut := cut_mid s j k hjk le
      clear HA HQ HO
      by_cases e : k = j
      · have hr2 := Lib.hid (show o = .fell (s.drop j) by rw [hr, if_pos (by omega)])
        have hd := Lib.hid (show s.drop j = s.drop k by rw [e])
        have d1 : decide ((j : Int) < (k : Int)) = false := decide_eq_false (by omega)
        have d1' : decide (j < k) = false := decide_eq_false (by omega)
        clear hr e
        go_upto_region 4 with fail
        go_quiet (fail)
        go_wp2
        go_ret2
        exact ⟨⟨_, by rw [hr2.out]; rfl, fun v r e => by rw [hr2.out] at e; cases e⟩, sc_drewN HG1.out _, k, by omega, by rw [hr2.out, hd.out]; rfl, H1.out.drewN _⟩
      · have hr2 := Lib.hid (show o = .ok ((s.drop j).take (k - j)) (s.drop k) by rw [hr, if_neg (by omega)])
        have d1 : decide ((j : Int) < (k : Int)) = true := decide_eq_true (by omega)
        have d1' : decide (j < k) = true := decide_eq_true (by omega)
        clear hr e
        go_upto_region 4 with fail
        go_quiet (fail)
        go_wp2
        go_ret2
        exact ⟨⟨_, by rw [hr2.out]; rfl, fun v r e => by rw [hr2.out] at e; injection e with e1 e2; rw [e1]⟩, sc_drewN HG1.out _, k, by omega, by rw [hr2.out]; rfl, H1.out.drewN _⟩

theorem not_four (set off : Nat) (h : (set, off) = (31, 27) ∨ (set, off) = (15, 11)) : bits .andNot .u8 (set : Int) 4 = (off : Int) := by
  rcases h with h | h <;> (injection h with h1 h2; subst h1; subst h2; decide +kernel)

set_option maxHeartbeats 4000000 in
theorem name_calls (set off b k : Nat) (s : List UInt8) (w : World) (hso : (set, off) = (31, 27) ∨ (set, off) = (15, 11)) (h : Cur w b s k) (hs : s.length ≤ maxLen) :
    Calls Tryd.prog 52 #[.pointer (some ⟨b, 0, none⟩), .int .u8 (set : Nat)] w fun e w' =>
      (∃ x, e = .returned (.tuple #[.string x, .bool (Ow.okB (Ow.name set off (s.drop k)))]) ∧ ∀ v r, Ow.name set off (s.drop k) = .ok v r → x = str v) ∧ w.grownBy w' (some b) ∧ Took w' b s k (Ow.name set off (s.drop k)) := by
  have hlt : set < 256 ∧ off < 256 := by rcases hso with h | h <;> (injection h with h1 h2; subst h1; subst h2; decide)
  have hS := sees_calls off b k s w hlt.2 h hs
  have HM := Lib.hid (fun W (hW : Cur W b s k) => many_calls set b k s W hlt.1 hW hs)
  have ha := not_four set off hso
  have H := Lib.hid h
  have HG := Lib.hid (sc_below (Below.refl w.heap.size w) (some b))
  clear h hlt hso
  unfold maxLen at hs
  obtain ⟨o, ho⟩ : ∃ o, o = Ow.name set off (s.drop k) := ⟨_, rfl⟩
  rw [← ho]
  have hn : o = if Ow.sees off (s.drop k) = true then Ow.many set (s.drop k) else .fell (s.drop k) := ho
  clear ho
  cases q : Ow.sees off (s.drop k) with
  | false =>
    rw [q] at hS
    have hr := Lib.hid (show o = .fell (s.drop k) by rw [hn, q]; rfl)
    clear hn q
    go_enter Tryd.func52, Tryd.ntmps52
    go_wp2_with fail
    refine hS.mono ?_; rintro e w1 ⟨rfl, b1⟩
    go_wp2
    go_ret2
    exact ⟨⟨_, by rw [hr.out]; rfl, fun v r e => by rw [hr.out] at e; cases e⟩, sc_trans HG.out (sc_below b1 _), k, by omega, by rw [hr.out]; rfl, H.out.below b1⟩
  | true =>
    rw [q] at hS
    have hr : o = Ow.many set (s.drop k) := by rw [hn, q]; rfl
    clear hn q
    go_enter Tryd.func52, Tryd.ntmps52
    go_wp2_with fail
    refine hS.mono ?_; rintro e w1 ⟨rfl, b1⟩
    have hM := HM.out w1 (H.out.below b1)
    rw [← hr] at hM
    clear hS hr
    go_wp2_with fail
    refine hM.mono ?_; rintro e w2 ⟨⟨x, rfl, hx⟩, g2, T2⟩
    have HX := Lib.hid hx
    clear hM hx
    go_wp2
    go_ret2
    exact ⟨⟨x, rfl, HX.out⟩, sc_trans (sc_trans HG.out (sc_below b1 _)) g2, T2⟩

end Go.Proofs.YthniemoganoapaaDoor
