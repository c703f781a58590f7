/- The memory of the law BatchLimits: families of one's own, the points of each in a row of its own. -/
import Derived.Test.YtkmcjmpdmgdcoaaGreatDoorBatLim
import Derived.Test.YtkmcjmpdmgdcoaaGreatDoorBatS
import Derived.Laws.BytesArg
set_option maxRecDepth 100000
set_option linter.unusedVariables false
set_option linter.unusedSimpArgs false
namespace Go.Proofs.YtkmcjmpdmgdcoaaGreatDoor
open Go.RowKit Go.WideShapes Go.Deep Dc
attribute [local go_sem ↓] Go.wp_at_zero Go.wp_at_succ

section
variable {α : Type} {enc : α → List Value} {k : Nat} {P : Program} {sl el bytes : Nat} {z : Value}
/-- append of what is new: where the row lies behind it -/
theorem run_append_knew (T : KTy P sl el k bytes z) (hk : ∀ x, (enc x).length = k) (w : World) (ty base : Nat) (v : Value) (R : List α) (hown : KOwn enc el k w base v R) (u : Value) (N : List α) (hu : KRow enc k w u N) (h0 : 0 < N.length)
    (h1 : ∀ x ∈ N, ∀ u ∈ enc x, u.oneCell' = true) (hn : R.length + N.length ≤ 2000) (hbase : base ≤ w.heap.size) :
    ∃ v' w', (Builtin.append_ #[sl, sl] ty #[v, u]).run P w = .ok v' w' ∧ KOwn enc el k w' base v' (R ++ N) ∧ w.grownBy w' v.ownBlock ∧ (v'.ownBlock = v.ownBlock ∨ v'.ownBlock = some w.heap.size) := by
  obtain ⟨i0, hi0, hz0, hz1, hz2⟩ := info_parts T.info
  obtain ⟨A, cap, rfl, hlc, hcm, hnil, hrow⟩ := hu
  obtain ⟨b, off, rfl, hbs, hc⟩ := hrow h0
  have hnews : ∀ j u, (N.flatMap enc)[j]? = some u → w.cell? ((⟨b, off, none⟩ : Addr).add j) = some u := KRow.news hk T.pos hc
  have hone : ∀ u ∈ N.flatMap enc, u.oneCell' = true := fun u hu => by
    obtain ⟨x, hx, hxu⟩ := List.mem_flatMap.1 hu
    exact h1 x hx u hxu
  obtain ⟨v', w', hr, h2, h3, _, h5⟩ := run_append_own_at (P := P) w base sl ty el i0 _ k bytes T.under hi0 hz0 hz1 hz2 T.cells T.pos v R.length (R.flatMap enc) hown ⟨b, off, none⟩ N.length cap (N.flatMap enc) (kc_len hk N) hnews hone (by unfold maxLen; omega)
    (Nat.le_trans (Nat.mul_le_mul hn T.few) (by omega)) hbase
  refine ⟨v', w', hr, ?_, h3, h5⟩
  unfold KOwn
  rw [List.length_append, List.flatMap_append]
  exact h2
theorem wpList_append_knew (T : KTy P sl el k bytes z) (hk : ∀ x, (enc x).length = k) {w : World} {ops : Array Oper} {rest : List Oper} {o : Oper} {a : Act} {Q : Exit → Act → World → Prop} (hgd : o.guard = none) (s x : Operand)
    (ho : o.op = .call { callee := .builtin .append, args := #[s, x], argTypes := #[sl, sl] }) (base : Nat) (v : Value) (R : List α) (hs : a.eval s = v) (hown : KOwn enc el k w base v R)
    (u : Value) (N : List α) (hx : a.eval x = u) (hu : KRow enc k w u N) (h0 : 0 < N.length) (h1 : ∀ x ∈ N, ∀ u ∈ enc x, u.oneCell' = true) (hn : R.length + N.length ≤ 2000) (hbase : base ≤ w.heap.size)
    (h : ∀ v' w', KOwn enc el k w' base v' (R ++ N) → w.grownBy w' v.ownBlock → (v'.ownBlock = v.ownBlock ∨ v'.ownBlock = some w.heap.size) → wpList P ops Q rest (a.put o.dst v') w') : wpList P ops Q (o :: rest) a w :=
  wpList_plain hgd fun K hK => by
    obtain ⟨v', w', hr, h2, h3, h5⟩ := run_append_knew T hk w o.type base v R hown u N hu h0 h1 hn hbase
    unfold Oper.wp execOp
    simp only [ho, resolve, invoke, builtin, Sem.run_bind, Sem.run_pure, Result.andThen_ok, List.map_toArray, List.map_cons, List.map_nil, hs, hx, hr]
    exact hK _ _ (h v' w' h2 h3 h5)
/-- a row of one's own, where its block is as it was -/
theorem KOwn.ofBlock {w X : World} {base : Nat} {v : Value} {L : List α} (h : KOwn enc el k w base v L) (e : ∀ b, v.ownBlock = some b → X.heap[b]? = w.heap[b]?) : KOwn enc el k X base v L := by
  obtain ⟨hl, h⟩ := h
  refine ⟨hl, ?_⟩
  rcases h with h | ⟨g, cap, cur, rfl, hg, hc, h2⟩
  · exact Or.inl h
  · exact Or.inr ⟨g, cap, cur, rfl, hg, by rw [e g rfl]; exact hc, h2⟩
end
theorem BatAt.ofBlock {w X : World} {b : Nat} {t : List UInt8} {v : Value} (k : BatAt w b t v) (e : X.heap[b]? = w.heap[b]?) (hz : w.heap.size ≤ X.heap.size) : BatAt X b t v :=
  ⟨(World.cell?_of_block (a := ⟨b, 0, none⟩) e).trans k.c0, (World.cell?_of_block (a := ⟨b, 1, none⟩) e).trans k.c1, fun o => (World.frozen?_of_block (a := ⟨b, o, none⟩) e).trans (k.fr o), Nat.lt_of_lt_of_le k.lt hz⟩
theorem BatAt.set1 {w : World} {b : Nat} {t : List UInt8} {v u : Value} (k : BatAt w b t v) : BatAt (w.setCell ⟨b, 1, none⟩ u) b t u := by
  have h0 := k.c0
  have h1 := k.c1
  exact ⟨by simp [go_sem, h0], by simp [go_sem, h1], fun o => by simpa using k.fr o, by simpa [World.setCell] using k.lt⟩

/-- the families that the first loop lays -/
def fks (m : Nat) : List Fs := (List.range m).map fun j => ⟨fhd j, .slice none 0 0, []⟩
theorem fks_len (m : Nat) : (fks m).length = m := by simp [fks]
theorem fks_succ (m : Nat) : fks (m + 1) = fks m ++ [⟨fhd m, .slice none 0 0, []⟩] := by unfold fks; rw [List.range_succ, List.map_append]; rfl
structure Lm1 (w0 wr : World) (bB m : Nat) (p : Value) : Prop where
  bat : BatAt wr bB [116] p
  own : FmOwn wr (bB + 1) p (fks m)
  lo : w0.heap.size ≤ bB
  bel : Below w0.heap.size w0 wr
theorem Lm1.below {w0 wr X : World} {bB m : Nat} {p : Value} (h : Lm1 w0 wr bB m p) (hb : Below wr.heap.size wr X) : Lm1 w0 X bB m p := ⟨h.bat.below hb, h.own.below hb, h.lo, kb_call h.bel (Nat.le_refl _) hb⟩
theorem Lm1.step {w0 wr w5 : World} {bB m : Nat} {p v5 : Value} (h : Lm1 w0 wr bB m p) (ho : FmOwn w5 (bB + 1) v5 (fks m ++ [⟨fhd m, .slice none 0 0, []⟩])) (hg : wr.grownBy w5 p.ownBlock) : Lm1 w0 (w5.setCell ⟨bB, 1, none⟩ v5) bB (m + 1) v5 := by
  have hlt := h.bat.lt
  have hge := own_ge h.own
  have hb5 : BatAt w5 bB [116] p := h.bat.ofBlock (hg.block bB hlt (fun e => by have := hge bB e.symm; omega)) hg.size
  have hlo := h.lo
  refine ⟨hb5.set1, ?_, hlo, ?_⟩
  · rw [fks_succ]
    refine ho.ofBlock (fun b hb => Below.heap_setCell _ _ _ _ ?_)
    have := own_ge ho b hb
    show b ≠ bB
    omega
  · exact (Below.grown h.bel hg (by omega) (fun q hq => by have := hge q hq; omega)).setCell hlo _

/-- the points of one family -/
abbrev tps (n j i : Nat) : List Ps := (tms n j i).map fun p => (.slice none 0 0, p)
theorem tps_pts (n j i : Nat) : pts (tps n j i) = tms n j i := by
  unfold pts tps
  rw [List.map_map]
  exact List.map_id _
structure Lim (w0 wr : World) (bB g cap n i : Nat) (M : List Fs) : Prop where
  bat : BatAt wr bB [116] (.slice (some ⟨g, 0, none⟩) n cap)
  len : M.length = n
  own : FmOwn wr (bB + 1) (.slice (some ⟨g, 0, none⟩) M.length cap) M
  pt : ∀ (j : Nat) (x : Fs), M[j]? = some x → PtOwn wr (g + 1) x.v x.L ∧ x.hd = fhd j ∧ x.L = tps n j i
  apart : ∀ (j j' : Nat) (x x' : Fs) (b : Nat), M[j]? = some x → M[j']? = some x' → x.v.ownBlock = some b → x'.v.ownBlock = some b → j = j'
  lo : w0.heap.size ≤ bB
  bel : Below w0.heap.size w0 wr
theorem Lim.below {w0 wr X : World} {bB g cap n i : Nat} {M : List Fs} (h : Lim w0 wr bB g cap n i M) (hb : Below wr.heap.size wr X) : Lim w0 X bB g cap n i M :=
  ⟨h.bat.below hb, h.len, h.own.below hb, fun j x hx => ⟨(h.pt j x hx).1.below hb, (h.pt j x hx).2⟩, h.apart, h.lo, kb_call h.bel (Nat.le_refl _) hb⟩
theorem Lim.start {w0 wr : World} {bB g cap n : Nat} (h : Lm1 w0 wr bB n (.slice (some ⟨g, 0, none⟩) n cap)) : Lim w0 wr bB g cap n 0 (fks n) := by
  refine ⟨h.bat, fks_len n, by rw [fks_len]; exact h.own, fun j x hx => ?_, fun j j' x x' b hx _ hb => ?_, h.lo, h.bel⟩
  · unfold fks at hx
    rw [List.getElem?_map] at hx
    by_cases hj : j < n
    · rw [List.getElem?_range hj] at hx
      obtain rfl := Option.some.inj hx
      exact ⟨KOwn.nil _ _ _ _ _, rfl, rfl⟩
    · rw [List.getElem?_eq_none (by simp; omega)] at hx; cases hx
  · unfold fks at hx
    rw [List.getElem?_map] at hx
    by_cases hj : j < n
    · rw [List.getElem?_range hj] at hx
      obtain rfl := Option.some.inj hx
      cases hb
    · rw [List.getElem?_eq_none (by simp; omega)] at hx; cases hx
theorem Lim.bg {w0 wr : World} {bB g cap n i : Nat} {M : List Fs} (h : Lim w0 wr bB g cap n i M) : bB < g ∧ g < wr.heap.size := ⟨own_ge h.own g rfl, own_lt h.own g rfl⟩
theorem Lim.free {w0 wr : World} {bB g cap n i : Nat} {M : List Fs} (h : Lim w0 wr bB g cap n i M) : ∀ o, wr.frozen? ⟨g, o, none⟩ = false := by
  obtain ⟨_, h⟩ := h.own
  rcases h with ⟨h, _⟩ | ⟨g', cap', cur, he, hb, hg, hn, hm, hs, ht⟩
  · cases h
  · cases he
    exact fun o => by unfold World.frozen?; simp only; rw [hg]; simp
theorem Lim.cell {w0 wr : World} {bB g cap n i k : Nat} {M : List Fs} {x : Fs} (h : Lim w0 wr bB g cap n i M) (hx : M[k]? = some x) :
    wr.cell? ⟨g, k * 5, none⟩ = some (.string (str x.hd.n)) ∧ wr.cell? ⟨g, k * 5 + 1, none⟩ = some (.int .i64 x.hd.k) ∧ wr.cell? ⟨g, k * 5 + 2, none⟩ = some (.string (str x.hd.u)) ∧
    wr.cell? ⟨g, k * 5 + 3, none⟩ = some (.string (str x.hd.h)) ∧ wr.cell? ⟨g, k * 5 + 4, none⟩ = some x.v := by
  obtain ⟨A, cap', he, _, _, _, hr⟩ := KOwn.row encF_len h.own
  cases he
  obtain ⟨b, off, he2, _, hc⟩ := hr (Nat.lt_of_le_of_lt (Nat.zero_le _) (List.getElem?_eq_some_iff.1 hx).1)
  cases he2
  have := fr_cells hc hx
  simpa using this
theorem Lim.step {w0 wr w5 : World} {bB g cap n i : Nat} {M : List Fs} {x : Fs} {v5 : Value} (h : Lim w0 wr bB g cap n i M) (hx : M[i % n]? = some x) (hg : wr.grownBy w5 x.v.ownBlock)
    (ho : PtOwn w5 (g + 1) v5 (x.L ++ [(.slice none 0 0, tpt i)])) (h5 : v5.ownBlock = x.v.ownBlock ∨ v5.ownBlock = some wr.heap.size) :
    Lim w0 (w5.setCell ⟨g, i % n * 5 + 4, none⟩ v5) bB g cap n (i + 1) (M.set (i % n) ⟨x.hd, v5, x.L ++ [(.slice none 0 0, tpt i)]⟩) := by
  obtain ⟨hbg, hgl⟩ := h.bg
  have hlo := h.lo
  have hpx := h.pt _ x hx
  have hxb := own_ge hpx.1
  have hk : i % n < M.length := (List.getElem?_eq_some_iff.1 hx).1
  have hsz := hg.size
  have hset : ∀ b, b ≠ g → (w5.setCell ⟨g, i % n * 5 + 4, none⟩ v5).heap[b]? = w5.heap[b]? := fun b hb => Below.heap_setCell _ _ _ _ hb
  have hgr : ∀ b, b < wr.heap.size → x.v.ownBlock ≠ some b → w5.heap[b]? = wr.heap[b]? := fun b hb hne => hg.block b hb (fun e => hne e.symm)
  have hgx : x.v.ownBlock ≠ some g := fun e => by have := hxb g e; omega
  have hBx : x.v.ownBlock ≠ some bB := fun e => by have := hxb bB e; omega
  have hown5 : FmOwn w5 (bB + 1) (.slice (some ⟨g, 0, none⟩) M.length cap) M := h.own.ofBlock (fun b hb => by
    obtain rfl : g = b := by simpa [Value.ownBlock] using hb
    exact hgr g hgl hgx)
  refine ⟨?_, by rw [List.length_set]; exact h.len, ?_, ?_, ?_, hlo, ?_⟩
  · refine h.bat.ofBlock ((hset bB (by omega)).trans (hgr bB h.bat.lt hBx)) ?_
    simpa [World.setCell] using hsz
  · have := KOwn.set (j := 4) (y := ⟨x.hd, v5, x.L ++ [(.slice none 0 0, tpt i)]⟩) (u := v5) encF_len hown5 hx (by omega) rfl
    exact this
  · intro j y hy
    rw [List.getElem?_set] at hy
    split at hy
    · rename_i e
      subst e
      try rw [if_pos hk] at hy
      obtain rfl := Option.some.inj hy
      refine ⟨ho.ofBlock (fun b hb => hset b (by have := own_ge ho b hb; omega)), hpx.2.1, ?_⟩
      show x.L ++ _ = _
      rw [hpx.2.2]
      unfold tps
      rw [tms_same rfl, List.map_append]; rfl
    · rename_i e
      have hq := h.pt j y hy
      refine ⟨hq.1.ofBlock (fun b hb => ?_), hq.2.1, by rw [hq.2.2]; unfold tps; rw [tms_other e]⟩
      have h1 := own_ge hq.1 b hb
      have h2 := own_lt hq.1 b hb
      exact (hset b (by omega)).trans (hgr b h2 (fun e2 => e (h.apart _ _ _ _ b hx hy e2 hb)))
  · intro j j' y y' b hy hy' hb hb'
    rw [List.getElem?_set] at hy hy'
    have hold : ∀ j y, M[j]? = some y → y.v.ownBlock = some b → v5.ownBlock = some b → j = i % n := fun j y hy hb h5b => by
      rcases h5 with h5 | h5
      · rw [h5] at h5b
        exact h.apart _ _ _ _ b hy hx hb h5b
      · rw [h5] at h5b
        have := own_lt (h.pt j y hy).1 b hb
        obtain rfl : wr.heap.size = b := by simpa using h5b
        omega
    split at hy
    · rename_i e
      try rw [if_pos hk] at hy
      obtain rfl := Option.some.inj hy
      split at hy'
      · rename_i e'
        omega
      · exact e.symm.trans (by rw [hold j' y' hy' hb' hb])
    · split at hy'
      · rename_i e'
        try rw [if_pos hk] at hy'
        obtain rfl := Option.some.inj hy'
        rw [← e']
        exact hold j y hy hb hb'
      · exact h.apart _ _ _ _ b hy hy' hb hb'
  · refine (Below.grown h.bel hg (by omega) (fun q hq => by have := hxb q hq; omega)).setCell (by show w0.heap.size ≤ g; omega) _
theorem Lim.fmsEq {w0 wr : World} {bB g cap n i : Nat} {M : List Fs} (h : Lim w0 wr bB g cap n i M) : fms M = fls n i := by
  apply List.ext_getElem?
  intro j
  unfold fms
  rw [List.getElem?_map]
  by_cases hj : j < n
  · rw [fls_get hj]
    have hx := List.getElem?_eq_getElem (show j < M.length by rw [h.len]; exact hj)
    obtain ⟨_, h1, h2⟩ := h.pt j _ hx
    rw [hx]
    simp only [Option.map_some, fm]
    rw [h1, h2, tps_pts]
  · rw [List.getElem?_eq_none (by rw [h.len]; omega), List.getElem?_eq_none (by rw [fls_len]; omega)]
    rfl
theorem tpt_in {t : Nat} (h : t < 124) : PtIn (tpt t) := ⟨by show (-9223372036854775808 : Int) ≤ 0; decide, by show (0 : Int) ≤ 9223372036854775807; decide, by show (-9223372036854775808 : Int) ≤ 0; decide, by show (0 : Int) ≤ 9223372036854775807; decide, by show (-9223372036854775808 : Int) ≤ (t : Int); omega, by show (t : Int) ≤ 9223372036854775807; omega, fun x hx => by cases hx⟩
theorem fhd_in (j : Nat) : HdIn (fhd j) := ⟨by show 2 ≤ maxLen; unfold maxLen; omega, by show 0 ≤ maxLen; omega, by show 0 ≤ maxLen; omega, by show (-9223372036854775808 : Int) ≤ 0; decide, by show (0 : Int) ≤ 9223372036854775807; decide⟩
theorem tps_row {w : World} {base n j i : Nat} {v : Value} (h : PtOwn w base v (tps n j i)) (hi : i ≤ 124) : PtRow w v (tps n j i) := ⟨KOwn.row encP_len h, fun x hx => by
  obtain ⟨p, hp, rfl⟩ := List.mem_map.1 hx
  obtain ⟨t, ht, rfl⟩ := tms_mem hp
  exact ⟨LbRow.nil _, tpt_in (by omega)⟩⟩
theorem Lim.row {w0 wr : World} {bB g cap n i : Nat} {M : List Fs} (h : Lim w0 wr bB g cap n i M) (hi : i ≤ 124) : FmRow wr (.slice (some ⟨g, 0, none⟩) n cap) M := by
  have hr := KOwn.row encF_len h.own
  rw [h.len] at hr
  refine ⟨hr, fun x hx => ?_⟩
  obtain ⟨j, hj, rfl⟩ := List.getElem_of_mem hx
  obtain ⟨h1, h2, h3⟩ := h.pt j _ (List.getElem?_eq_getElem hj)
  refine ⟨?_, by rw [h2]; exact fhd_in j⟩
  rw [h3] at h1 ⊢
  exact tps_row h1 hi
theorem Lim.few {w0 wr : World} {bB g cap n i : Nat} {M : List Fs} (h : Lim w0 wr bB g cap n i M) (hn : n ≤ 34) (hi : i ≤ 124) : FmFew M := by
  refine ⟨by rw [h.len]; omega, fun x hx => ?_, fun x hx y hy => ?_⟩
  · obtain ⟨j, hj, rfl⟩ := List.getElem_of_mem hx
    rw [(h.pt j _ (List.getElem?_eq_getElem hj)).2.2, List.length_map]
    have := tms_len n j i
    omega
  · obtain ⟨j, hj, rfl⟩ := List.getElem_of_mem hx
    rw [(h.pt j _ (List.getElem?_eq_getElem hj)).2.2] at hy
    obtain ⟨p, hp, rfl⟩ := List.mem_map.1 hy
    obtain ⟨t, _, rfl⟩ := tms_mem hp
    simp [tpt]
/-- the last family named as the first one is -/
theorem Lim.spoil {w0 wr : World} {bB g cap n i : Nat} {M : List Fs} (h : Lim w0 wr bB g cap n i M) (h1 : 1 < n) (hn : n ≤ 34) (hi : i ≤ 124) : ∃ M',
    FmRow (wr.setCell ⟨g, (n - 1) * 5, none⟩ (.string (str [102, 48]))) (.slice (some ⟨g, 0, none⟩) n cap) M' ∧ FmFew M' ∧ chk [116] (fms M') = 19 ∧ nPts (fms M') = i := by
  have hlen := h.len
  have hx := List.getElem?_eq_getElem (show n - 1 < M.length by omega)
  obtain ⟨x, hxe⟩ : ∃ x, x = M[n - 1]'(by omega) := ⟨_, rfl⟩
  rw [← hxe] at hx
  obtain ⟨p1, p2, p3⟩ := h.pt _ x hx
  have hrow := h.row hi
  have hfew := h.few hn hi
  have hfm := h.fmsEq
  have hge := own_ge p1
  have o := KOwn.set (j := 0) (y := ⟨⟨[102, 48], x.hd.k, x.hd.u, x.hd.h⟩, x.v, x.L⟩) (u := .string (str [102, 48])) encF_len h.own hx (by omega) rfl
  have hoth : ∀ b, b ≠ g → (wr.setCell ⟨g, (n - 1) * 5, none⟩ (.string (str [102, 48]))).heap[b]? = wr.heap[b]? := fun b hb => Below.heap_setCell _ _ _ _ hb
  have hpt : ∀ y ∈ M, FsIn (wr.setCell ⟨g, (n - 1) * 5, none⟩ (.string (str [102, 48]))) y := fun y hy => by
    obtain ⟨j, hj, rfl⟩ := List.getElem_of_mem hy
    obtain ⟨q1, q2, q3⟩ := h.pt j _ (List.getElem?_eq_getElem hj)
    refine ⟨?_, by rw [q2]; exact fhd_in j⟩
    have q4 := q1.ofBlock (fun b hb => hoth b (by have := own_ge q1 b hb; omega))
    rw [q3] at q4 ⊢
    exact tps_row q4 hi
  have hxm : x ∈ M := List.mem_of_getElem? hx
  have hfms : fms (M.set (n - 1) ⟨⟨[102, 48], x.hd.k, x.hd.u, x.hd.h⟩, x.v, x.L⟩) = (fls n i).set (n - 1) (⟨[102, 48], x.hd.k, x.hd.u, x.hd.h⟩, pts x.L) := by
    rw [← hfm]
    unfold fms
    rw [List.map_set]
  refine ⟨M.set (n - 1) ⟨⟨[102, 48], x.hd.k, x.hd.u, x.hd.h⟩, x.v, x.L⟩, ⟨?_, fun y hy => ?_⟩, ?_, ?_, ?_⟩
  · have := KOwn.row encF_len o
    rw [List.length_set, hlen] at this
    simpa using this
  · rcases List.mem_or_eq_of_mem_set hy with hm | rfl
    · exact hpt y hm
    · have hi := hpt x hxm
      exact ⟨hi.1, ⟨by show 2 ≤ maxLen; unfold maxLen; omega, hi.2.lu, hi.2.lh, hi.2.k1, hi.2.k2⟩⟩
  · refine ⟨by rw [List.length_set]; exact hfew.n, fun y hy => ?_, fun y hy => ?_⟩
    · rcases List.mem_or_eq_of_mem_set hy with hm | rfl
      · exact hfew.p y hm
      · exact hfew.p x hxm
    · rcases List.mem_or_eq_of_mem_set hy with hm | rfl
      · exact hfew.l y hm
      · exact hfew.l x hxm
  · rw [hfms]
    exact fls_spoil h1 _ _ rfl
  · rw [hfms]
    have hg : (fls n i)[n - 1]? = some (x.hd, pts x.L) := by
      rw [← hfm]
      unfold fms
      rw [List.getElem?_map, hx]; rfl
    rw [show (⟨[102, 48], x.hd.k, x.hd.u, x.hd.h⟩, pts x.L) = ((⟨[102, 48], x.hd.k, x.hd.u, x.hd.h⟩ : Hd), ((x.hd, pts x.L) : Fp).2) from rfl, nPts_head hg, fls_pts (by omega)]

end Go.Proofs.YtkmcjmpdmgdcoaaGreatDoor
