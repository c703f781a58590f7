/- The texts BatG, BatH, one behind the other. -/
import Derived.Test.YtjeefgamkoeiaaaGreatDoorBatS

/- The walks of package batch's Sort, Of. -/
set_option maxRecDepth 100000
set_option linter.unusedVariables false
set_option linter.unusedSimpArgs false
namespace Go.Proofs.YtjeefgamkoeiaaaGreatDoor
open Go.RowKit Go.Sort Go.Shelf Dc
attribute [local go_sem ↓] Go.wp_at_zero Go.wp_at_succ

theorem BatAt.setOther {w : World} {b c i : Nat} {t : List UInt8} {v u : Value} (k : BatAt w b t v) (hne : b ≠ c) : BatAt (w.setCell ⟨c, i, none⟩ u) b t v := by
  have e : (w.setCell ⟨c, i, none⟩ u).heap[b]? = w.heap[b]? := Below.heap_setCell _ _ _ _ hne
  exact ⟨(World.cell?_of_block (a := ⟨b, 0, none⟩) e).trans k.c0, (World.cell?_of_block (a := ⟨b, 1, none⟩) e).trans k.c1, fun o => (World.frozen?_of_block (a := ⟨b, o, none⟩) e).trans (k.fr o), by simpa [World.setCell] using k.lt⟩
/-- whose name -/
def tO (o : Option (List Fp)) (t : List UInt8) : List UInt8 := match o with | some _ => t | none => []
/-- what Sort, Of hand back: z blocks were there ahead of it -/
def BSortP (z : Nat) (t : List UInt8) (o : Option (List Fp)) (e : Ending) (w' : World) : Prop :=
  ∃ A n cap M, e = .returned (.tuple #[batv (tO o t) (.slice A n cap), .bool o.isSome]) ∧ FmKeep w' z (.slice A n cap) M ∧ fms M = o.getD []
theorem BSortP.yes {z : Nat} {t : List UInt8} {o : Option (List Fp)} {e : Ending} {w' : World} {M : List Fs} {v : Value} (h1 : o = some (fms M)) (h2 : e = .returned (.tuple #[batv t v, .bool true])) (h3 : FmKeep w' z v M) : BSortP z t o e w' := by
  obtain ⟨A, cap, rfl, _⟩ := h3.row.1
  subst h1
  exact ⟨A, _, cap, M, h2, h3, rfl⟩
theorem BSortP.no {z : Nat} {t : List UInt8} {o : Option (List Fp)} {e : Ending} {w' : World} (h1 : o = none) (h2 : e = .returned (.tuple #[batv [] (.slice none 0 0), .bool false])) : BSortP z t o e w' := by
  subst h1
  exact ⟨none, 0, 0, [], h2, FmKeep.nil _ _, rfl⟩

end Go.Proofs.YtjeefgamkoeiaaaGreatDoor

/- The walks of package batch's copied, Stamp. -/
set_option maxRecDepth 100000
set_option linter.unusedVariables false
set_option linter.unusedSimpArgs false
namespace Go.Proofs.YtjeefgamkoeiaaaGreatDoor
open Go.RowKit Go.Sort Dc
attribute [local go_sem ↓] Go.wp_at_zero Go.wp_at_succ

theorem PtMine.keep {w : World} {base : Nat} {v : Value} {L : List Ps} (h : PtMine w base v L) : PtKeep w base v L := fun X h1 h2 => by
  have hm : PtMine X base v L := by
    refine ⟨⟨h.own.1, ?_⟩, fun g hg x hx => (h.far g hg x hx).other (fun b hb hgb => h1 b hb (by have := own_ge h.own g hg; omega)) h2, h.inn⟩
    rcases h.own.2 with k | ⟨g, cap, cur, rfl, hg, hc, k⟩
    · exact Or.inl k
    · exact Or.inr ⟨g, cap, cur, rfl, hg, by rw [h1 g (Array.getElem?_eq_some_iff.1 hc).1 hg]; exact hc, k⟩
  exact hm.row
theorem FmMine.keep {w : World} {base : Nat} {v : Value} {F : List Fs} (h : FmMine w base v F) : FmKeep w base v F := fun X h1 h2 => by
  have hm : FmMine X base v F := by
    refine ⟨⟨h.own.1, ?_⟩, fun g hg x hx => ⟨fun Y k1 k2 => (h.far g hg x hx).1 Y (fun b hb hgb => (k1 b (Nat.lt_of_lt_of_le hb h2) hgb).trans (h1 b hb (by have := own_ge h.own g hg; omega))) (Nat.le_trans h2 k2), (h.far g hg x hx).2⟩⟩
    rcases h.own.2 with k | ⟨g, cap, cur, rfl, hg, hc, k⟩
    · exact Or.inl k
    · exact Or.inr ⟨g, cap, cur, rfl, hg, by rw [h1 g (Array.getElem?_eq_some_iff.1 hc).1 hg]; exact hc, k⟩
  exact hm.row
/-- the end of the inner loop: points of one's own -/
theorem Cop.done {w wr : World} {g cap : Nat} {L M : List Ps} (h : Cop w wr g cap L.length L M) (hin : ∀ x ∈ L, PtIn x.2) : PtMine wr w.heap.size (.slice (some ⟨g, 0, none⟩) L.length cap) M := by
  refine ⟨by have k := h.own; rw [h.len] at k; exact k, fun g' hg' x hx => ?_, fun x hx => ?_⟩
  · cases hg'
    obtain ⟨i, hi, rfl⟩ := List.getElem_of_mem hx
    exact h.far i _ (by rw [← h.len]; exact hi) (List.getElem?_eq_getElem hi)
  · have : x.2 ∈ pts L := by rw [← h.same]; exact List.mem_map_of_mem hx
    obtain ⟨y, hy, he⟩ := List.mem_map.1 this
    rw [← he]
    exact hin y hy
theorem Sor.step1 {w wr w2 : World} {g cap k : Nat} {F M : List Fs} {x : Fs} {lv : Value} {L' : List Ps} (h : Sor w wr g cap k F M) (hk : k < F.length) (hx : F[k]? = some x) (hin : HdIn x.hd) (hb : Below wr.heap.size wr w2) (hl : PtKeep w2 wr.heap.size lv L') (hp : pts L' = pts x.L) :
    Sor w (w2.setCell ⟨g, k * 5 + 4, none⟩ lv) g cap (k + 1) F (M.set k ⟨x.hd, lv, L'⟩) := by
  obtain ⟨hg, hwg, _⟩ := h.free
  have hM : M[k]? = some x := by rw [h.old k (Nat.le_refl _)]; exact hx
  have hbel : Below w.heap.size w w2 := kb_call h.bel (Nat.le_refl _) hb
  have o4 := KOwn.set (j := 4) (y := ⟨x.hd, lv, L'⟩) (u := lv) encF_len (h.own.below hb) hM (by omega) rfl
  refine ⟨by rw [List.length_set]; exact h.len, ?_, by simpa using o4, ?_, ?_, hbel.setCell hwg _⟩
  · rw [← h.same]
    apply List.ext_getElem?
    intro i
    unfold fms
    rw [List.getElem?_map, List.getElem?_map, List.getElem?_set]
    split
    · rename_i hik
      subst hik
      rw [if_pos (List.getElem?_eq_some_iff.1 hM).1, hM]
      simp only [Option.map_some, fm, hp]
    · rfl
  · intro i y hi hy
    rw [List.getElem?_set] at hy
    split at hy
    · rename_i hik
      split at hy
      · obtain rfl := Option.some.inj hy
        exact ⟨(hl.mono (base' := g + 1) (by omega)).setOld (by omega), hin⟩
      · cases hy
    · have := h.far i y (by omega) hy
      exact ⟨(this.1.below hb).setOld (by omega), this.2⟩
  · intro i hi
    rw [List.getElem?_set, if_neg (by omega)]
    exact h.old i (by omega)

set_option maxHeartbeats 8000000 in
theorem bcopied_calls (F : List Fs) (v : Value) (w : World) (hv : FmRow w v F) (hf : FmFew F) :
    Calls Tryz.prog 47 #[v] w fun e w' => ∃ v' M, e = .returned v' ∧ Below w.heap.size w w' ∧ FmMine w' w.heap.size v' M ∧ fms M = fms F := by
  have hcl := Lib.hid (fclone_calls F v w hv hf.n)
  have hin := hv.2
  have hn := hf.n
  clear hv
  go_enter Tryz.func47, Tryz.ntmps47
  go_wp2_with fail
  refine hcl.out.mono ?_
  rintro e w1 ⟨v1, rfl, b1, own⟩
  have own2 := own
  rcases own2.2 with ⟨rfl, h0⟩ | ⟨g, cap, cur, rfl, hg, _⟩
  · obtain rfl : F = [] := List.eq_nil_of_length_eq_zero h0
    have B1 := Lib.hid b1
    clear own own2 b1 hin hf hn
    go_wp2
    refine wp_loop_rounds 1 ?_
    rw [rounds_succ]
    go_wp2
    go_ret
    exact ⟨_, [], rfl, B1.out, FmMine.nil _ _, rfl⟩
  · have hcop : Sor w w1 g cap 0 F F := ⟨rfl, rfl, own, fun i x hi => absurd hi (by omega), fun i _ => rfl, b1⟩
    have HC := Lib.hid hcop
    have HI := Lib.hid hin
    have HF := Lib.hid hf
    clear own own2 b1 hin hf hg hcop
    go_wp2_with fail
    go_loopw [11] (fun v wr => ∃ k : Nat, k ≤ F.length ∧ v = .int .i64 (k : Nat) ∧ ∃ M, Sor w wr g cap k F M) (fun v _ => F.length - (intOf v).toNat)
    case atStart => exact ⟨0, Nat.zero_le _, rfl, F, HC.out⟩
    case round =>
      obtain ⟨k, hk, rfl, M, hc⟩ := hrel
      by_cases hkl : k < F.length
      · obtain ⟨x, hx, _⟩ := fs_get hkl
        obtain ⟨_, _, _, _, c4⟩ := hc.cell hkl hx
        obtain ⟨hgl, hwg, hfr⟩ := hc.free
        have hm := List.mem_of_getElem? hx
        have hix := HI.out x hm
        have hpin := Lib.hid (fun y hy => (hix.1.2 y hy).2)
        have hrow := Lib.hid (hix.1.2)
        have hcp := Lib.hid (pclone_calls x.L x.v wr (hix.1.below hc.bel) (HF.out.p x hm))
        have hpl := HF.out.p x hm
        have hll := Lib.hid (HF.out.l x hm)
        have hst := Lib.hid (fun w2 lv L' hb hl hp => hc.step1 (w2 := w2) (lv := lv) (L' := L') hkl hx hix.2 hb hl hp)
        have HCB := Lib.hid hc.bel
        obtain ⟨A1, n1, cap1, hx1⟩ : ∃ A1 n1 cap1, x.v = .slice A1 n1 cap1 := by obtain ⟨A, cap, he, _⟩ := hix.1.1; exact ⟨A, _, cap, he⟩
        obtain ⟨⟨n, kk, u, h⟩, xv, L⟩ := x
        simp only at hx1
        subst hx1
        simp only at c4 hpl
        have F4 := hfr (k * 5 + 4)
        clear hc hm hx hix hfr
        go_wp2_with fail
        refine hcp.out.mono ?_
        rintro e w2 ⟨v2, rfl, b2, own⟩
        have hgl2 : g < w2.heap.size := Nat.lt_of_lt_of_le hgl b2.size
        have own2 := own
        rcases own2.2 with ⟨rfl, h0⟩ | ⟨g2, cap2, cur2, rfl, hg2, _⟩
        · obtain rfl : L = [] := List.eq_nil_of_length_eq_zero h0
          have d4 := (b2.cell (p := ⟨g, k * 5 + 4, none⟩) hgl).trans c4
          have e4 : w2.frozen? ⟨g, k * 5 + 4, none⟩ = false := (b2.frozen (p := ⟨g, k * 5 + 4, none⟩) hgl).trans F4
          have hfin := Lib.hid (hst.out w2 (.slice none 0 0) [] b2 (PtMine.nil _ _).keep rfl)
          clear b2 own own2 hst hcp c4 F4 hpin hrow hll
          go_wp2
          refine wp_loop_rounds 1 ?_
          rw [rounds_succ]
          go_wp2_with fail
          go_roundw
          case rel => exact ⟨k + 1, hkl, by go_num, _, hfin.out⟩
          case measure => simp [intOf]; omega
        · have hc2 : Cop wr w2 g2 cap2 0 L L := ⟨rfl, rfl, own, fun i x hi => absurd hi (by omega), fun i _ => rfl, b2⟩
          have HC2 := Lib.hid hc2
          clear own own2 b2 hc2 hcp
          go_wp2_with fail
          go_loopw [22] (fun v wz => ∃ k : Nat, k ≤ L.length ∧ v = .int .i64 (k : Nat) ∧ ∃ M, Cop wr wz g2 cap2 k L M) (fun v _ => L.length - (intOf v).toNat)
          case atStart => exact ⟨0, Nat.zero_le _, rfl, L, HC2.out⟩
          case round =>
            obtain ⟨j, hj, rfl, M2, hc⟩ := hrel
            by_cases hjl : j < L.length
            · obtain ⟨y, hy, _⟩ := ps_get hjl
              have c0 := hc.cell hjl hy
              obtain ⟨hgl3, hwg3, hfr⟩ := hc.free
              have hm := List.mem_of_getElem? hy
              have hlb := Lib.hid (clone_calls y.2.l y.1 _ (((hrow.out y hm).1.below HCB.out).below hc.bel) (hll.out y hm))
              have hst2 := Lib.hid (fun w2 lv hb hl => hc.step (w2 := w2) (lv := lv) hjl hy hb hl)
              clear hc hm
              generalize y.1 = lv0 at *
              generalize y.2.l = ll at *
              clear hy
              go_wp2_with fail
              refine hlb.out.mono ?_
              rintro e w3 ⟨lv, rfl, b3, hown⟩
              have hgl4 : g2 < w3.heap.size := Nat.lt_of_lt_of_le hgl3 b3.size
              have c2 := (b3.cell (p := ⟨g2, j * 9, none⟩) hgl3).trans c0
              have f2 : w3.frozen? ⟨g2, j * 9, none⟩ = false := (b3.frozen (p := ⟨g2, j * 9, none⟩) hgl3).trans (hfr _)
              have hfin := Lib.hid (hst2.out w3 lv b3 hown)
              obtain ⟨A2, cap3, rfl, _⟩ := LbOwn.row hown
              clear b3 hown hst2 hlb c0 hfr
              go_wp2_with fail
              go_roundw
              case rel => exact ⟨j + 1, hjl, by go_num, _, hfin.out⟩
              case measure => simp [intOf]; omega
            · obtain rfl : j = L.length := by omega
              have hdn := hc.done hpin.out
              have b3 := hc.bel
              have d4 := (b3.cell (p := ⟨g, k * 5 + 4, none⟩) hgl).trans c4
              have e4 := (b3.frozen (p := ⟨g, k * 5 + 4, none⟩) hgl).trans F4
              have hgl4 := Nat.lt_of_lt_of_le hgl b3.size
              have hfin := Lib.hid (hst.out _ (.slice (some ⟨g2, 0, none⟩) L.length cap2) M2 b3 hdn.keep hc.same)
              clear hc hdn b3 hst c4 F4
              go_wp2
              go_roundw
              case rel => exact ⟨k + 1, hkl, by go_num, _, hfin.out⟩
              case measure => simp [intOf]; omega
      · have hkn : k = F.length := by omega
        subst hkn
        have hd := Lib.hid hc.done
        go_wp2
        go_ret
        exact ⟨_, M, rfl, hc.bel, hd.out, hc.same⟩

set_option maxHeartbeats 4000000 in
theorem stamp_calls (t s : List UInt8) (F : List Fs) (v : Value) (w : World) (hv : FmRow w v F) (hf : FmFew F) :
    Calls Tryz.prog 26 #[batv t v, .string (str s)] w fun e w' => (∃ A n cap M, e = .returned (batv s (.slice A n cap)) ∧ FmKeep w' w.heap.size (.slice A n cap) M ∧ fms M = fms F) ∧ Below w.heap.size w w' := by
  have k0 := kp_alloc (kp_alloc (Below.refl w.heap.size w) (.cells #[.string (str t), v] 28)) (.cells #[.string ⟨#[]⟩, .slice none 0 0] 28)
  have G0 := BatAt.new (w.alloc (.cells #[.string (str t), v] 28)) [] (.slice none 0 0) 28
  rw [show (w.alloc (.cells #[.string (str t), v] 28)).heap.size = w.heap.size + 1 by simp] at G0
  have hcp := Lib.hid (bcopied_calls F v _ (hv.below k0) hf)
  have hz0 : ((w.alloc (.cells #[.string (str t), v] 28)).alloc (.cells #[.string ⟨#[]⟩, .slice none 0 0] 28)).heap.size = w.heap.size + 2 := by simp
  have HZ0 := Lib.hid hz0
  obtain ⟨A, n, cap, hv1⟩ : ∃ A n cap, v = .slice A n cap := by obtain ⟨A, cap, he, _⟩ := hv.1; exact ⟨A, _, cap, he⟩
  subst hv1
  have K0 := Lib.hid k0
  have HG := Lib.hid G0
  clear G0 k0 hv hf hz0
  go_enter Tryz.func26, Tryz.ntmps26
  go_wp2_with fail
  refine hcp.out.mono ?_
  rintro e w1 ⟨v1, M, rfl, b1, mine, hsame⟩
  have keep : FmKeep w1 (w.heap.size + 2) v1 M := by have h := mine.keep; rw [HZ0.out] at h; exact h
  obtain ⟨y0, y1, yf, yl⟩ := HG.out.below b1
  have B1 := Lib.hid (trans9 K0.out b1)
  have HK := Lib.hid keep
  have HS := Lib.hid hsame
  obtain ⟨A1, n1, cap1, hv1⟩ : ∃ A1 n1 cap1, v1 = .slice A1 n1 cap1 := by obtain ⟨A1, cap1, he, _⟩ := keep.row.1; exact ⟨A1, _, cap1, he⟩
  subst hv1
  clear b1 mine hsame keep hcp HZ0
  go_wp2
  refine bodyPost_ret (v := .agg #[.string (str s), .slice A1 n1 cap1]) (by simp [results, Tryz.results26, go_sem, y0, y1]) rfl ⟨⟨A1, n1, cap1, M, rfl, ?_, HS.out⟩, ?_⟩
  · exact ((HK.out.setOld (by omega)).setOld (by omega)).mono (by omega)
  · exact (B1.out.setCell (by show w.heap.size ≤ w.heap.size + 1; omega) _).setCell (by show w.heap.size ≤ w.heap.size + 1; omega) _

end Go.Proofs.YtjeefgamkoeiaaaGreatDoor
