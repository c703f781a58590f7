/- The walks of slices.Clone at points, of package family's copied. -/
import Derived.Test.YtjeefgamkoeiaaaGreatDoorFamRow
import Derived.Test.YtjeefgamkoeiaaaGreatDoorLabelD
set_option maxRecDepth 100000
set_option linter.unusedVariables false
set_option linter.unusedSimpArgs false
namespace Go.Proofs.YtjeefgamkoeiaaaGreatDoor
open Go.RowKit Go.Sort Dc
attribute [local go_sem ↓] Go.wp_at_zero Go.wp_at_succ

set_option maxHeartbeats 2000000 in
theorem pclone_calls (L : List Ps) (v : Value) (w : World) (hv : PtRow w v L) (hn : L.length ≤ 1000) :
    Calls Tryz.prog 54 #[v] w fun e w' => ∃ v', e = .returned v' ∧ Below w.heap.size w w' ∧ PtOwn w' w.heap.size v' L := by
  have q22 : ∀ (w : World) (a : Option Addr) (n c n' c' : Nat), (binOp .eql 39 (.slice a n c) (.slice none n' c')).run Tryz.prog w = .ok (.bool a.isNone) w := fun w a n c n' c' => Go.Lib.run_eql_slice_nil w _ _ a n c n' c' Tryz.underlying39
  obtain ⟨hrow, hin⟩ := hv
  have hrow2 := hrow
  obtain ⟨A, cap, rfl, hlc, hcm, hnil, hr⟩ := hrow2
  cases A with
  | none =>
    have h0 : L.length = 0 := by
      rcases Nat.eq_zero_or_pos L.length with h | h
      · exact h
      · obtain ⟨_, _, h, _⟩ := hr h; cases h
    obtain rfl : L = [] := List.eq_nil_of_length_eq_zero h0
    obtain rfl := hnil rfl
    clear hr hnil hrow hin
    go_enter Tryz.func54, Tryz.ntmps54
    go_wp2
    go_ret
    exact ⟨_, rfl, Below.refl _ _, KOwn.nil _ _ _ _ _⟩
  | some ad =>
    have hrow' := Lib.hid (hrow.below ((Below.refl w.heap.size w).alloc (Nat.le_refl _) (.cells #[] 53)))
    have hone := Lib.hid (fun x (hx : x ∈ L) => encP_one (hin x hx))
    clear hr hnil hrow hin
    go_enter Tryz.func54, Tryz.ntmps54
    go_wp2_with (at_builtin; refine wpList_append_krow ptTy encP_len rfl _ _ (by rfl) w.heap.size _ [] (by rfl) (KOwn.made encP 53 9 w) _ L (by rfl) hrow'.out hone.out (by simp; omega) (by simp) ?_; intro v2 w2 hown2 hgrow2)
    go_ret
    refine ⟨_, rfl, ?_, ?_⟩
    · exact Below.grown ((Below.refl w.heap.size w).alloc (Nat.le_refl _) _) hgrow2 (by simp) (fun k hk => by simp [Value.ownBlock] at hk; omega)
    · exact hown2

/-- the labels lie behind block g -/
def FarLb (w : World) (g : Nat) (x : Ps) : Prop := LbRow w x.1 x.2.l ∧ ∀ k, x.1.ownBlock = some k → g < k
theorem FarLb.below {w w' : World} {g : Nat} {x : Ps} (h : FarLb w g x) (hb : Below w.heap.size w w') : FarLb w' g x := ⟨h.1.below hb, h.2⟩
/-- where all blocks behind g are as they were, the labels are -/
theorem FarLb.other {w X : World} {g : Nat} {x : Ps} (h : FarLb w g x) (ho : ∀ b, b < w.heap.size → g < b → X.heap[b]? = w.heap[b]?) (hz : w.heap.size ≤ X.heap.size) : FarLb X g x := by
  obtain ⟨⟨A, cap, hv, h1, h2, hn, h3⟩, hf⟩ := h
  refine ⟨⟨A, cap, hv, h1, h2, hn, fun h0 => ?_⟩, hf⟩
  obtain ⟨b, off, rfl, hlt, hc⟩ := h3 h0
  have hg : g < b := hf b (by rw [hv]; rfl)
  have e := ho b hlt hg
  exact ⟨b, off, rfl, by omega, fun i p hp => ⟨(World.cell?_of_block (a := ⟨b, off + i * 2, none⟩) e).trans (hc i p hp).1, (World.cell?_of_block (a := ⟨b, off + i * 2 + 1, none⟩) e).trans (hc i p hp).2⟩⟩
/-- points of one's own: in a row of one's own, the labels behind it -/
structure PtMine (w : World) (base : Nat) (v : Value) (L : List Ps) : Prop where
  own : PtOwn w base v L
  far : ∀ g, v.ownBlock = some g → ∀ x ∈ L, FarLb w g x
  inn : ∀ x ∈ L, PtIn x.2
theorem PtMine.row {w : World} {base : Nat} {v : Value} {L : List Ps} (h : PtMine w base v L) : PtRow w v L := by
  refine ⟨KOwn.row encP_len h.own, fun x hx => ⟨?_, h.inn x hx⟩⟩
  rcases h.own.2 with ⟨rfl, h0⟩ | ⟨g, cap, cur, rfl, _⟩
  · obtain rfl := List.eq_nil_of_length_eq_zero h0
    cases hx
  · exact (h.far g rfl x hx).1
theorem PtMine.nil (w : World) (base : Nat) : PtMine w base (.slice none 0 0) [] := ⟨KOwn.nil _ _ _ _ _, fun g hg => (by cases hg), fun x hx => by cases hx⟩
theorem PtMine.below {w w' : World} {base : Nat} {v : Value} {L : List Ps} (h : PtMine w base v L) (hb : Below w.heap.size w w') : PtMine w' base v L :=
  ⟨h.own.below hb, fun g hg x hx => (h.far g hg x hx).below hb, h.inn⟩

/-- a store into an older block -/
theorem PtMine.setOld {w : World} {base b i : Nat} {u : Value} {v : Value} {L : List Ps} (h : PtMine w base v L) (hb : b < base) : PtMine (w.setCell ⟨b, i, none⟩ u) base v L := by
  refine ⟨⟨h.own.1, ?_⟩, fun g hg x hx => (h.far g hg x hx).other (fun c _ hc => Below.heap_setCell _ _ _ _ ?_) (by simp [World.setCell]), h.inn⟩
  · rcases h.own.2 with h | ⟨g, cap, cur, rfl, hg, hc, h2⟩
    · exact Or.inl h
    · exact Or.inr ⟨g, cap, cur, rfl, hg, by rw [Below.heap_setCell _ _ _ _ (by show g ≠ b; omega)]; exact hc, h2⟩
  · have := own_ge h.own g hg
    show c ≠ b
    omega
/-- points in block g, the labels behind it -/
structure PtFar (w : World) (g : Nat) (v : Value) (L : List Ps) : Prop where
  row : KRow encP 9 w v L
  blk : v.ownBlock = some g
  far : ∀ x ∈ L, FarLb w g x
  inn : ∀ x ∈ L, PtIn x.2
theorem PtFar.pts {w : World} {g : Nat} {v : Value} {L : List Ps} (h : PtFar w g v L) : PtRow w v L := ⟨h.row, fun x hx => ⟨(h.far x hx).1, h.inn x hx⟩⟩
theorem PtFar.above {w X : World} {g : Nat} {v : Value} {L : List Ps} (h : PtFar w g v L) (ho : ∀ b, b < w.heap.size → g ≤ b → X.heap[b]? = w.heap[b]?) (hz : w.heap.size ≤ X.heap.size) : PtFar X g v L := by
  refine ⟨?_, h.blk, fun x hx => (h.far x hx).other (fun b hb hg => ho b hb (by omega)) hz, h.inn⟩
  obtain ⟨A, cap, rfl, h1, h2, hn, h3⟩ := h.row
  refine ⟨A, cap, rfl, h1, h2, hn, fun h0 => ?_⟩
  obtain ⟨b, off, rfl, hlt, hc⟩ := h3 h0
  have hbg : b = g := by have := h.blk; simpa [Value.ownBlock] using this
  subst hbg
  have e := ho b hlt (Nat.le_refl _)
  exact ⟨b, off, rfl, by omega, fun i x hx j u hu => (World.cell?_of_block (a := ⟨b, off + i * 9 + j, none⟩) e).trans (hc i x hx j u hu)⟩
theorem PtFar.setOld {w : World} {g b i : Nat} {u v : Value} {L : List Ps} (h : PtFar w g v L) (hb : b < g) : PtFar (w.setCell ⟨b, i, none⟩ u) g v L :=
  h.above (fun c _ hc => Below.heap_setCell _ _ _ _ (by show c ≠ b; omega)) (by simp [World.setCell])
theorem PtFar.below {w w' : World} {g : Nat} {v : Value} {L : List Ps} (h : PtFar w g v L) (hb : Below w.heap.size w w') : PtFar w' g v L := h.above (fun b hlt _ => hb.block b hlt) hb.size

/-- the first k with labels of their own -/
structure Cop (w wr : World) (g cap k : Nat) (L M : List Ps) : Prop where
  len : M.length = L.length
  same : pts M = pts L
  own : PtOwn wr w.heap.size (.slice (some ⟨g, 0, none⟩) M.length cap) M
  far : ∀ i x, i < k → M[i]? = some x → FarLb wr g x
  old : ∀ i, k ≤ i → M[i]? = L[i]?
  bel : Below w.heap.size w wr
theorem Cop.cell {w wr : World} {g cap k : Nat} {L M : List Ps} (h : Cop w wr g cap k L M) {x : Ps} (hk : k < L.length) (hx : L[k]? = some x) : wr.cell? ⟨g, k * 9, none⟩ = some x.1 := by
  obtain ⟨A, cap', he, _, _, _, hr⟩ := KOwn.row encP_len h.own
  cases he
  obtain ⟨b, off, he2, _, hc⟩ := hr (by rw [h.len]; omega)
  cases he2
  have := (pr_cells hc (show M[k]? = some x by rw [h.old k (Nat.le_refl _)]; exact hx)).1
  simpa using this
theorem Cop.free {w wr : World} {g cap k : Nat} {L M : List Ps} (h : Cop w wr g cap k L M) : g < wr.heap.size ∧ w.heap.size ≤ g ∧ ∀ o, wr.frozen? ⟨g, o, none⟩ = false := by
  obtain ⟨_, h⟩ := h.own
  rcases h with ⟨h, _⟩ | ⟨g', cap', cur, he, hb, hg, hn, hm, hs, ht⟩
  · cases h
  · cases he
    exact ⟨(Array.getElem?_eq_some_iff.1 hg).1, hb, fun o => by unfold World.frozen?; simp only; rw [hg]; simp⟩
theorem Cop.step {w wr w2 : World} {g cap k : Nat} {L M : List Ps} {x : Ps} {lv : Value} (h : Cop w wr g cap k L M) (hk : k < L.length) (hx : L[k]? = some x) (hb : Below wr.heap.size wr w2) (hl : LbOwn w2 wr.heap.size lv x.2.l) :
    Cop w (w2.setCell ⟨g, k * 9, none⟩ lv) g cap (k + 1) L (M.set k (lv, x.2)) := by
  obtain ⟨hg, hwg, _⟩ := h.free
  have hM : M[k]? = some x := by rw [h.old k (Nat.le_refl _)]; exact hx
  have hsz : w2.heap.size ≤ (w2.setCell ⟨g, k * 9, none⟩ lv).heap.size := by simp [World.setCell]
  have hoth : ∀ b, b < w2.heap.size → g < b → (w2.setCell ⟨g, k * 9, none⟩ lv).heap[b]? = w2.heap[b]? := fun b _ hne => Below.heap_setCell _ _ _ _ (by show b ≠ g; omega)
  have hbel : Below w.heap.size w w2 := kb_call h.bel (Nat.le_refl _) hb
  refine ⟨by rw [List.length_set]; exact h.len, ?_, ?_, ?_, ?_, hbel.setCell hwg _⟩
  · rw [← h.same]
    unfold pts
    rw [List.map_set]
    obtain ⟨hi, he⟩ := List.getElem?_eq_some_iff.1 hM
    apply List.ext_getElem?
    intro i
    rw [List.getElem?_set]
    split
    · rename_i hik
      subst hik
      rw [if_pos (by simpa using hi), List.getElem?_map, hM]
      rfl
    · rfl
  · have := KOwn.set (j := 0) (y := (lv, x.2)) (u := lv) encP_len (h.own.below hb) hM (by omega) rfl
    simpa using this
  · intro i y hi hy
    rw [List.getElem?_set] at hy
    split at hy
    · rename_i hik
      split at hy
      · obtain rfl := Option.some.inj hy
        refine FarLb.other (w := w2) ⟨LbOwn.row hl, fun j hj => ?_⟩ hoth hsz
        have := own_ge hl j hj
        omega
      · cases hy
    · exact ((h.far i y (by omega) hy).below hb).other hoth hsz
  · intro i hi
    rw [List.getElem?_set, if_neg (by omega)]
    exact h.old i (by omega)

set_option maxHeartbeats 4000000 in
theorem copied_calls (L : List Ps) (v : Value) (w : World) (hv : PtRow w v L) (hn : L.length ≤ 1000) (hl : ∀ x ∈ L, x.2.l.length ≤ 1000) :
    Calls Tryz.prog 57 #[v] w fun e w' => ∃ v' M, e = .returned v' ∧ Below w.heap.size w w' ∧ PtMine w' w.heap.size v' M ∧ pts M = pts L := by
  have hcl := Lib.hid (pclone_calls L v w hv hn)
  have hin := hv.2
  clear hv
  go_enter Tryz.func57, Tryz.ntmps57
  go_wp2_with fail
  refine hcl.out.mono ?_
  rintro e w1 ⟨v1, rfl, b1, own⟩
  have own2 := own
  rcases own2.2 with ⟨rfl, h0⟩ | ⟨g, cap, cur, rfl, hg, _⟩
  · obtain rfl : L = [] := List.eq_nil_of_length_eq_zero h0
    have B1 := Lib.hid b1
    clear own own2 b1 hin hl
    go_wp2
    refine wp_loop_rounds 1 ?_
    rw [rounds_succ]
    go_wp2
    go_ret
    exact ⟨_, [], rfl, B1.out, PtMine.nil _ _, rfl⟩
  · have hcop : Cop w w1 g cap 0 L L := ⟨rfl, rfl, own, fun i x hi => absurd hi (by omega), fun i _ => rfl, b1⟩
    have HC := Lib.hid hcop
    have HI := Lib.hid hin
    have HL := Lib.hid hl
    clear own own2 b1 hin hl hg hcop
    go_wp2_with fail
    go_loopw [9] (fun v wr => ∃ k : Nat, k ≤ L.length ∧ v = .int .i64 (k : Nat) ∧ ∃ M, Cop w wr g cap k L M) (fun v _ => L.length - (intOf v).toNat)
    case atStart => exact ⟨0, Nat.zero_le _, rfl, L, HC.out⟩
    case round =>
      obtain ⟨k, hk, rfl, M, hc⟩ := hrel
      by_cases hkl : k < L.length
      · obtain ⟨x, hx, _⟩ := ps_get hkl
        have c0 := hc.cell hkl hx
        obtain ⟨hgl, hwg, hfr⟩ := hc.free
        have hm := List.mem_of_getElem? hx
        have hlb := Lib.hid (clone_calls x.2.l x.1 wr ((HI.out x hm).1.below hc.bel) (HL.out x hm))
        have hst := Lib.hid (fun w2 lv hb hl => hc.step (w2 := w2) (lv := lv) hkl hx hb hl)
        clear hc hm
        generalize x.1 = lv0 at *
        generalize x.2.l = ll at *
        clear hx
        go_wp2_with fail
        refine hlb.out.mono ?_
        rintro e w2 ⟨lv, rfl, b2, hown⟩
        have hgl2 : g < w2.heap.size := Nat.lt_of_lt_of_le hgl b2.size
        have c2 := (b2.cell (p := ⟨g, k * 9, none⟩) hgl).trans c0
        have f2 : w2.frozen? ⟨g, k * 9, none⟩ = false := (b2.frozen (p := ⟨g, k * 9, none⟩) hgl).trans (hfr _)
        have hfin := Lib.hid (hst.out w2 lv b2 hown)
        obtain ⟨A2, cap2, rfl, _⟩ := LbOwn.row hown
        clear b2 hown hst hlb c0 hfr
        go_wp2_with fail
        go_roundw
        case rel => exact ⟨k + 1, hkl, by go_num, _, hfin.out⟩
        case measure => simp [intOf]; omega
      · have hkn : k = L.length := by omega
        subst hkn
        go_wp2
        go_ret
        refine ⟨_, M, rfl, hc.bel, ⟨by have h := hc.own; rw [hc.len] at h; exact h, fun g' hg' x hx => ?_, fun x hx => ?_⟩, hc.same⟩
        · cases hg'
          obtain ⟨i, hi, rfl⟩ := List.getElem_of_mem hx
          exact hc.far i _ (by rw [← hc.len]; exact hi) (List.getElem?_eq_getElem hi)
        · have : x.2 ∈ pts L := by rw [← hc.same]; exact List.mem_map_of_mem hx
          obtain ⟨y, hy, he⟩ := List.mem_map.1 this
          rw [← he]
          exact (HI.out y hy).2

end Go.Proofs.YtjeefgamkoeiaaaGreatDoor
