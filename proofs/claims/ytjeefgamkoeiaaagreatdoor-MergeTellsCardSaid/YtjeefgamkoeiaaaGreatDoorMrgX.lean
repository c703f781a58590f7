/- The texts MrgI, MrgE, MrgF, one behind the other. -/
import Derived.Test.YtjeefgamkoeiaaaGreatDoorMrgW
import Derived.Shelf.Spec.SlicesInsert
import Derived.Lib.AppendZerosOnto
import Derived.Laws.CopyRow
import Derived.Deep.RegionLaw
import Derived.Test.YtjeefgamkoeiaaaGreatDoorMrgP

/- The walk of slices.Insert of one family. -/
set_option maxRecDepth 100000
set_option linter.unusedVariables false
set_option linter.unusedSimpArgs false
namespace Go.Proofs.YtjeefgamkoeiaaaGreatDoor
open Go.RowKit Go.Sort Dc
attribute [local go_sem ↓] Go.wp_at_zero Go.wp_at_succ

section
variable {α : Type} {enc : α → List Value} {k : Nat} {P : Program} {sl el bytes : Nat} {z : Value}
/-- append of what is new: where the row lies behind it -/
theorem run_append_knw (T : KTy P sl el k bytes z) (hk : ∀ x, (enc x).length = k) (w : World) (ty base : Nat) (v : Value) (R : List α) (hown : KOwn enc el k w base v R) (u : Value) (N : List α) (hu : KRow enc k w u N) (h0 : 0 < N.length)
    (h1 : ∀ x ∈ N, ∀ u ∈ enc x, u.oneCell' = true) (hn : R.length + N.length ≤ 2000) (hbase : base ≤ w.heap.size) :
    ∃ v' w', (Builtin.append_ #[sl, sl] ty #[v, u]).run P w = .ok v' w' ∧ KOwn enc el k w' base v' (R ++ N) ∧ w.grownBy w' v.ownBlock ∧ (v'.ownBlock = v.ownBlock ∨ v'.ownBlock = some w.heap.size) := by
  obtain ⟨i0, hi0, hz0, hz1, hz2⟩ := info_parts T.info
  obtain ⟨A, cap, rfl, hlc, hcm, hnil, hrow⟩ := hu
  obtain ⟨b, off, rfl, hbs, hc⟩ := hrow h0
  have hnews : ∀ j u, (N.flatMap enc)[j]? = some u → w.cell? ((⟨b, off, none⟩ : Addr).add j) = some u := KRow.news hk T.pos hc
  have hone : ∀ u ∈ N.flatMap enc, u.oneCell' = true := fun u hu => by
    obtain ⟨x, hx, hxu⟩ := List.mem_flatMap.1 hu
    exact h1 x hx u hxu
  obtain ⟨v', w', hr, h2, h3, _, h5⟩ := run_append_own_at (P := P) w base sl ty el i0 _ k bytes T.under hi0 hz0 hz1 hz2 T.cells T.pos v R.length (R.flatMap enc) hown ⟨b, off, none⟩ N.length cap (N.flatMap enc) (kc_len hk N) hnews hone (by unfold maxLen; omega)
    (Nat.le_trans (Nat.mul_le_mul hn T.few) (by omega)) hbase
  refine ⟨v', w', hr, ?_, h3, h5⟩
  unfold KOwn
  rw [List.length_append, List.flatMap_append]
  exact h2
theorem wpList_append_knw (T : KTy P sl el k bytes z) (hk : ∀ x, (enc x).length = k) {w : World} {ops : Array Oper} {rest : List Oper} {o : Oper} {a : Act} {Q : Exit → Act → World → Prop} (hgd : o.guard = none) (s x : Operand)
    (ho : o.op = .call { callee := .builtin .append, args := #[s, x], argTypes := #[sl, sl] }) (base : Nat) (v : Value) (R : List α) (hs : a.eval s = v) (hown : KOwn enc el k w base v R)
    (u : Value) (N : List α) (hx : a.eval x = u) (hu : KRow enc k w u N) (h0 : 0 < N.length) (h1 : ∀ x ∈ N, ∀ u ∈ enc x, u.oneCell' = true) (hn : R.length + N.length ≤ 2000) (hbase : base ≤ w.heap.size)
    (h : ∀ v' w', KOwn enc el k w' base v' (R ++ N) → w.grownBy w' v.ownBlock → (v'.ownBlock = v.ownBlock ∨ v'.ownBlock = some w.heap.size) → wpList P ops Q rest (a.put o.dst v') w') : wpList P ops Q (o :: rest) a w :=
  wpList_plain hgd fun K hK => by
    obtain ⟨v', w', hr, h2, h3, h5⟩ := run_append_knw T hk w o.type base v R hown u N hu h0 h1 hn hbase
    unfold Oper.wp execOp
    simp only [ho, resolve, invoke, builtin, Sem.run_bind, Sem.run_pure, Result.andThen_ok, List.map_toArray, List.map_cons, List.map_nil, hs, hx, hr]
    exact hK _ _ (h v' w' h2 h3 h5)
end
/-- copy between two slices of structs of k cells -/
theorem run_copy_wide (P : Program) (w : World) (dT sT ty elem : TypeId) (k g o dLen dCap : Nat) (a : Addr) (sLen sCap : Nat) (cur : Array Value) (t : TypeId) (cs : List Value) (m : Nat)
    (hu : P.underlying dT = some (.slice elem)) (hs : (P.info? elem).map (·.size) = some k) (hg : w.heap[g]? = some (.cells cur t (0, 0))) (hm : Nat.min sLen dLen = m) (hn : cs.length = m * k)
    (hsrc : ∀ j v, cs[j]? = some v → w.cell? (a.add j) = some v) (hfit : o + cs.length ≤ cur.size) (h1 : ∀ v ∈ cs, v.oneCell' = true) :
    (Builtin.copy_ #[dT, sT] ty #[.slice (some ⟨g, o, none⟩) dLen dCap, .slice (some a) sLen sCap]).run P w =
      .ok (goInt m) (w.setRow g (cur.toList.take o ++ cs ++ cur.toList.drop (o + cs.length)).toArray) := by
  have hl := run_loadCells_list (P := P) w a cs hsrc
  have hst := run_storeCells_at P g o t cs 0 cur w hg (by simpa using hfit) h1
  rw [hn] at hl
  cases hq : P.info? elem with
  | none => simp [hq] at hs
  | some i =>
    have hi : i.size = k := by simpa [hq] using hs
    simp [Builtin.copy_, run_underlying hu, Builtin.lenOf, Builtin.firstCells, sizeOf, typeInfo, hq, hi, hm, hl, hst]
theorem shift_list (A T D X : List Value) (p q : Nat) (hT : T.length = p) (hA : A.take p = T) (hp : p + q ≤ A.length) :
    (A.take (p + q) ++ D ++ A.drop (p + q + D.length)).take p ++ X ++ (A.take (p + q) ++ D ++ A.drop (p + q + D.length)).drop (p + q) = T ++ X ++ (D ++ A.drop (p + q + D.length)) := by
  have hl : (A.take (p + q)).length = p + q := by rw [List.length_take]; omega
  have h1 : (A.take (p + q) ++ D ++ A.drop (p + q + D.length)).take p = T := by
    rw [List.append_assoc, List.take_append_of_le_length (by omega), List.take_take, Nat.min_eq_left (by omega), hA]
  have h2 : (A.take (p + q) ++ D ++ A.drop (p + q + D.length)).drop (p + q) = D ++ A.drop (p + q + D.length) := by
    rw [List.append_assoc, List.drop_left' hl]
  rw [h1, h2]
theorem grow_list (A T D X : List Value) (p : Nat) (hT : T.length = p) (hA : A.take p = T) (hp : p ≤ A.length) :
    (A.take p ++ X ++ A.drop (p + X.length)).take (p + X.length) ++ D ++ (A.take p ++ X ++ A.drop (p + X.length)).drop (p + X.length + D.length) = T ++ X ++ (D ++ A.drop (p + X.length + D.length)) := by
  have hl : (A.take p ++ X).length = p + X.length := by rw [List.length_append, List.length_take]; omega
  have h1 : (A.take p ++ X ++ A.drop (p + X.length)).take (p + X.length) = T ++ X := by
    rw [List.take_left' hl, hA]
  have h2 : (A.take p ++ X ++ A.drop (p + X.length)).drop (p + X.length + D.length) = A.drop (p + X.length + D.length) := by
    rw [← List.drop_drop, List.drop_left' hl, List.drop_drop]
  rw [h1, h2, List.append_assoc]
theorem heap_setRow_ne (w : World) (g k : Nat) (c : Array Value) (h : k ≠ g) : (w.setRow g c).heap[k]? = w.heap[k]? := by
  simp only [World.setRow, Array.getElem?_modify]
  rw [if_neg (fun e => h e.symm)]
theorem insF_flat (F : List Fs) (x : Fs) (i : Nat) : (F.take i ++ x :: F.drop i).flatMap encF = (F.take i).flatMap encF ++ encF x ++ (F.drop i).flatMap encF := by simp
theorem insF_len (F : List Fs) (x : Fs) (i : Nat) : (F.take i ++ x :: F.drop i).length = F.length + 1 := by simp; omega
theorem flat_len (F : List Fs) : (F.flatMap encF).length = F.length * 5 := kc_len encF_len F
theorem flat_one {F : List Fs} (h : ∀ x ∈ F, ∀ u ∈ encF x, u.oneCell' = true) : ∀ u ∈ F.flatMap encF, u.oneCell' = true := fun u hu => by
  obtain ⟨x, hx, hxu⟩ := List.mem_flatMap.1 hu
  exact h x hx u hxu
theorem flat_split (F : List Fs) (i : Nat) : F.flatMap encF = (F.take i).flatMap encF ++ (F.drop i).flatMap encF := by
  rw [← List.flatMap_append, List.take_append_drop]
/-- a family's cells in a block of their own -/
def FsCell (w : World) (b : Nat) (x : Fs) : Prop := w.heap[b]? = some (.cells (encF x).toArray 41 (0, 0))
theorem FsCell.cell {w : World} {b : Nat} {x : Fs} (h : FsCell w b x) : ∀ j u, (encF x)[j]? = some u → w.cell? ⟨b, j, none⟩ = some u := fun j u hu => by
  rw [cell_of_row w b j (encF x).toArray _ (0, 0) h, ← hu]; simp
theorem FsCell.row {w : World} {b : Nat} {x : Fs} (h : FsCell w b x) : KRow encF 5 w (.slice (some ⟨b, 0, none⟩) 1 1) [x] :=
  ⟨_, 1, rfl, Nat.le_refl _, by unfold maxLen; omega, (by rintro ⟨⟩), fun _ => ⟨b, 0, rfl, (Array.getElem?_eq_some_iff.1 h).1, fun i y hy j u hu => by
    match i, hy with
    | 0, hy =>
      obtain rfl : x = y := by simpa using hy
      have := h.cell j u hu
      simpa using this
    | i + 1, hy => simp at hy⟩⟩

set_option maxHeartbeats 4000000 in
/-- at the end -/
theorem fins_end (F : List Fs) (x : Fs) (v : Value) (vb base : Nat) (w : World) (hn : F.length ≤ 1000) (own : FmOwn w base v F) (hx : FsCell w vb x) (h1 : ∀ u ∈ encF x, u.oneCell' = true) (hbase : base ≤ w.heap.size) :
    Calls Tryz.prog 42 #[v, .int .i64 (F.length : Nat), .slice (some ⟨vb, 0, none⟩) 1 1] w fun e w' =>
      ∃ v', e = .returned v' ∧ FmOwn w' base v' (F ++ [x]) ∧ w.grownBy w' v.ownBlock ∧ (v'.ownBlock = v.ownBlock ∨ v'.ownBlock = some w.heap.size) := by
  obtain ⟨hl, ho⟩ := own
  rcases ho with ⟨rfl, h0⟩ | ⟨g, cap, cur, rfl, hg, hc, hle, hm, hs, ht⟩
  · obtain rfl : F = [] := List.eq_nil_of_length_eq_zero h0
    have HO : FmOwn w base (.slice none 0 0) [] := KOwn.nil _ _ _ _ _
    go_enter Tryz.func42, Tryz.ntmps42
    go_wp2_with (at_builtin; refine wpList_append_knw fmTy encF_len (by rfl) _ _ (by rfl) base _ [] (by rfl) HO _ [x] (by rfl) hx.row (by simp) (fun y hy => by rw [List.mem_singleton.1 hy]; exact h1) (by simp) hbase ?_; intro v2 w2 hown2 hgrow2 hb2)
    go_ret
    exact ⟨_, rfl, hown2, hgrow2, hb2⟩
  · have HO : Hid (FmOwn w base (.slice (some ⟨g, 0, none⟩) F.length cap) F) := Lib.hid ⟨hl, Or.inr ⟨g, cap, cur, rfl, hg, hc, hle, hm, hs, ht⟩⟩
    have HC := Lib.hid (show cap ≤ 9223372036854775807 from hm)
    have HX := Lib.hid hx
    have H1 := Lib.hid h1
    have hcap : (cap : Int) ≤ 9223372036854775807 := by have := HC.out; omega
    clear hl hc hs ht hm hx h1 hg
    go_enter Tryz.func42, Tryz.ntmps42
    go_wp2_with (at_builtin; refine wpList_append_knw fmTy encF_len (by rfl) _ _ (by rfl) base _ F (by rfl) HO.out _ [x] (by rfl) HX.out.row (by simp) (fun y hy => by rw [List.mem_singleton.1 hy]; exact H1.out) (by simp; omega) hbase ?_; intro v2 w2 hown2 hgrow2 hb2)
    all_goals
      go_ret
      exact ⟨_, rfl, hown2, hgrow2, hb2⟩

set_option maxHeartbeats 8000000 in
/-- in the midst, there is room -/
theorem fins_shift (F : List Fs) (x : Fs) (i g cap vb base : Nat) (w : World) (hi : i < F.length) (hn : F.length ≤ 1000) (hroom : F.length + 1 ≤ cap) (own : FmOwn w base (.slice (some ⟨g, 0, none⟩) F.length cap) F)
    (hx : FsCell w vb x) (hvb : vb ≠ g) (hF : ∀ x ∈ F, ∀ u ∈ encF x, u.oneCell' = true) (h1 : ∀ u ∈ encF x, u.oneCell' = true) :
    Calls Tryz.prog 42 #[.slice (some ⟨g, 0, none⟩) F.length cap, .int .i64 (i : Nat), .slice (some ⟨vb, 0, none⟩) 1 1] w fun e w' =>
      ∃ v', e = .returned v' ∧ FmOwn w' base v' (F.take i ++ x :: F.drop i) ∧ w.grownBy w' (some g) ∧ (v'.ownBlock = some g ∨ v'.ownBlock = some w.heap.size) := by
  obtain ⟨hl, ho⟩ := own
  rcases ho with ⟨he, _⟩ | ⟨g', cap', cur, he, hg, hc, hle, hm, hs, ht⟩
  · cases he
  cases he
  have hsz : (Tryz.prog.info? 41).map (·.size) = some 5 := by
    obtain ⟨i0, hi0, _, hz1, _⟩ := info_parts fmTy.info
    rw [hi0]; simp [hz1]
  have hfr : ∀ j, w.frozen? ⟨vb, j, none⟩ = false := fun j => frozen_of_row w vb j _ _ hx
  have hov : ∀ lb cb, (callFunc 68 #[.slice (some ⟨vb, 0, none⟩) 1 1, .slice (some ⟨g, (i + 1) * 5, none⟩) lb cb]).run Tryz.prog w = .ok (.value (.bool false)) w := fun lb cb => by
    rw [run_callFunc_extern Tryz.func68 (by kernel_rfl) (by kernel_rfl) (by kernel_rfl) (e := Extern.SlicesOverlaps.overlaps #[26, 26] #[4]) (by kernel_rfl),
      Lib.run_overlaps_apart w 26 4 41 fmTy.under 5 Tryz.sizeOf41 ⟨vb, 0, none⟩ ⟨g, (i + 1) * 5, none⟩ 1 1 lb cb hvb 41 41 5 cur.size (by simp [World.shape?, show w.heap[vb]? = _ from hx, encF]) (by simp [World.shape?, hc]) (by omega) (hfr 0) (hfr 5)]
    rfl
  have hTl : ((F.take i).flatMap encF).length = i * 5 := by rw [flat_len, List.length_take]; congr 1; omega
  have hDl : ((F.drop i).flatMap encF).length = (F.length - i) * 5 := by rw [flat_len, List.length_drop]
  have hcsz : (F.length + 1) * 5 ≤ cur.size := by rw [hs]; exact Nat.mul_le_mul_right 5 hroom
  have hAT : cur.toList.take (i * 5) = (F.take i).flatMap encF := by
    have h := congrArg (List.take (i * 5)) ht
    rw [List.take_take, Nat.min_eq_left (by omega), flat_split F i, List.take_left' hTl] at h
    exact h
  have hcell : ∀ j u, ((F.drop i).flatMap encF)[j]? = some u → w.cell? ⟨g, i * 5 + j, none⟩ = some u := fun j u hu => by
    have hj : j < (F.length - i) * 5 := by rw [← hDl]; exact (List.getElem?_eq_some_iff.1 hu).1
    have h2 : (F.flatMap encF)[i * 5 + j]? = some u := by
      rw [flat_split F i, List.getElem?_append_right (by omega), hTl, ← hu]; congr 1; omega
    rw [cell_of_row w g _ cur _ (0, 0) hc, ← h2, ← ht, List.getElem?_take_of_lt (by omega)]; simp
  have hcp1 : ∀ ty dc sc, (Builtin.copy_ #[26, 26] ty #[.slice (some ⟨g, (i + 1) * 5, none⟩) (F.length - i) dc, .slice (some ⟨g, i * 5, none⟩) (F.length + 1 - i) sc]).run Tryz.prog w.drew = .ok (goInt ((F.length - i : Nat) : Int)) (w.drew.setRow g (cur.toList.take ((i + 1) * 5) ++ (F.drop i).flatMap encF ++ cur.toList.drop ((i + 1) * 5 + ((F.drop i).flatMap encF).length)).toArray) := fun ty dc sc =>
    run_copy_wide Tryz.prog w.drew 26 26 ty 41 5 g ((i + 1) * 5) (F.length - i) dc ⟨g, i * 5, none⟩ (F.length + 1 - i) sc cur 41 _ (F.length - i) fmTy.under hsz hc (by simp only [Nat.min_def]; split <;> omega) hDl
      (fun j v hj => by rw [Addr.add_lit]; exact hcell j v hj) (by rw [hDl]; omega) (flat_one fun y hy => hF y (List.mem_of_mem_drop hy))
  obtain ⟨A1, hA1⟩ : ∃ A1, A1 = cur.toList.take ((i + 1) * 5) ++ (F.drop i).flatMap encF ++ cur.toList.drop ((i + 1) * 5 + ((F.drop i).flatMap encF).length) := ⟨_, rfl⟩
  rw [← hA1] at hcp1
  have hA1l : A1.length = cur.size := by rw [hA1]; simp only [List.length_append, List.length_take, List.length_drop, hDl, Array.length_toList]; omega
  obtain ⟨W1, hW1⟩ : ∃ W1, W1 = w.drew.setRow g A1.toArray := ⟨_, rfl⟩
  rw [← hW1] at hcp1
  have hg1 : W1.heap[g]? = some (.cells A1.toArray 41 (0, 0)) := by rw [hW1]; exact setRow_heap _ g cur A1.toArray _ _ hc
  have hx1 : FsCell W1 vb x := by unfold FsCell; rw [hW1, heap_setRow_ne _ _ _ _ hvb]; exact hx
  have hcp2 : ∀ (W : World), W.heap = W1.heap → ∀ ty dc, (Builtin.copy_ #[26, 26] ty #[.slice (some ⟨g, i * 5, none⟩) (F.length + 1 - i) dc, .slice (some ⟨vb, 0, none⟩) 1 1]).run Tryz.prog W = .ok (goInt 1) (W.setRow g (A1.take (i * 5) ++ encF x ++ A1.drop (i * 5 + 5)).toArray) := fun W hW ty dc => by
    have h := run_copy_wide Tryz.prog W 26 26 ty 41 5 g (i * 5) (F.length + 1 - i) dc ⟨vb, 0, none⟩ 1 1 A1.toArray 41 (encF x) 1 fmTy.under hsz (by rw [hW]; exact hg1) (by simp only [Nat.min_def]; split <;> omega) rfl
      (fun j v hj => by rw [Addr.add_lit, Nat.zero_add]; exact FsCell.cell (w := W) (by unfold FsCell; rw [hW]; exact hx1) j v hj) (by rw [encF_len, List.size_toArray, hA1l]; omega) h1
    simpa [encF_len] using h
  have hA2 : A1.take (i * 5) ++ encF x ++ A1.drop (i * 5 + 5) = (F.take i).flatMap encF ++ encF x ++ ((F.drop i).flatMap encF ++ cur.toList.drop (i * 5 + 5 + ((F.drop i).flatMap encF).length)) := by
    have h := shift_list cur.toList ((F.take i).flatMap encF) ((F.drop i).flatMap encF) (encF x) (i * 5) 5 hTl hAT (by simp; omega)
    rw [hA1, show (i + 1) * 5 = i * 5 + 5 by omega]
    exact h
  have hA2l : (A1.take (i * 5) ++ encF x ++ A1.drop (i * 5 + 5)).length = cap * 5 := by simp only [List.length_append, List.length_take, List.length_drop, encF_len, hA1l, ← hs]; omega
  have hlenI := insF_len F x i
  have hfin : ∀ W : World, W.heap = W1.heap → FmOwn (W.setRow g (A1.take (i * 5) ++ encF x ++ A1.drop (i * 5 + 5)).toArray) base (.slice (some ⟨g, 0, none⟩) (F.length + 1) cap) (F.take i ++ x :: F.drop i) := fun W hW => by
    refine ⟨kc_len encF_len _, Or.inr ⟨g, cap, _, by rw [hlenI], hg, setRow_heap _ g A1.toArray _ _ _ (by rw [hW]; exact hg1), by rw [hlenI]; exact hroom, hm, by rw [List.size_toArray]; exact hA2l, ?_⟩⟩
    rw [hlenI, insF_flat, hA2, ← List.append_assoc]
    have e : ((F.take i).flatMap encF ++ encF x ++ (F.drop i).flatMap encF).length = (F.length + 1) * 5 := by rw [← insF_flat, flat_len, hlenI]
    rw [List.take_left' e]
  have hgr : ∀ W : World, W.heap = W1.heap → W.os = w.os → W.tape = w.tape → W.output = w.output → w.grownBy (W.setRow g (A1.take (i * 5) ++ encF x ++ A1.drop (i * 5 + 5)).toArray) (some g) := fun W hW h1 h2 h3 =>
    ⟨h1, h2, h3, by rw [size_setRow, hW, hW1, size_setRow]; exact Nat.le_refl _, fun k hk hne => by
      have hkg : k ≠ g := fun e => hne (by rw [e])
      rw [heap_setRow_ne _ _ _ _ hkg, hW, hW1, heap_setRow_ne _ _ _ _ hkg]; rfl⟩
  have HM : cap ≤ 9223372036854775807 := hm
  have hz2 : ¬ ((i : Int) = (F.length : Int)) := by omega
  have hw1 : IntKind.i64.wrap ((i : Int) + 1) = (i : Int) + 1 := by rw [IntKind.wrap_i64]; omega
  have hb1 : (0 : Int) ≤ (i : Int) + 1 := by omega
  have hin : i ≤ F.length := by omega
  have htn : ((i : Int) + 1).toNat = i + 1 := by omega
  have hb2 : ¬ (cap = i + 1) := by omega
  have hb3 : (i : Int) ≤ (F.length : Int) + 1 := by omega
  have hb4 : ¬ (cap = i) := by omega
  have HFIN := Lib.hid hfin
  have HGR := Lib.hid hgr
  have HH := Lib.hid hW1
  have HO1 := Lib.hid hov
  have HC1 := Lib.hid hcp1
  have HC2 := Lib.hid hcp2
  generalize F.length = n at *
  generalize A1.take (i * 5) ++ encF x ++ A1.drop (i * 5 + 5) = A2 at *
  clear hfin hgr hA2 hA2l hcell hAT hcsz hTl hDl ht hs hc hg1 hx1 hA1 hA1l hlenI hW1 hcp2 hcp1 hl hle hfr
  go_enter Tryz.func42, Tryz.ntmps42
  go_wp2_with (simp only [HO1.out])
  go_region_law (refine step_copy_runI rfl (.tmp 73) (.tmp 76) 26 26 rfl (.slice (some ⟨g, (i + 1) * 5, none⟩) (n - i) (cap - (i + 1))) (.slice (some ⟨g, i * 5, none⟩) (n + 1 - i) (cap - i)) (by simp [Act.eval, Act.put]) (by simp [Act.eval, Act.put]) (HC1.out 3 (cap - (i + 1)) (cap - i)) ?_)
  go_wp2_with (refine wpList_copy_runI _ rfl _ _ 26 26 rfl _ _ rfl rfl (HC2.out W1 rfl _ _) ?_)
  go_ret
  refine ⟨_, rfl, HFIN.out W1 rfl, HGR.out W1 rfl ?_ ?_ ?_, Or.inl rfl⟩ <;> (rw [HH.out]; rfl)

set_option maxHeartbeats 8000000 in
/-- in the midst, there is no room -/
theorem fins_grow (F : List Fs) (x : Fs) (i g cap vb base : Nat) (w : World) (hi : i < F.length) (hn : F.length ≤ 1000) (hroom : cap < F.length + 1) (own : FmOwn w base (.slice (some ⟨g, 0, none⟩) F.length cap) F)
    (hx : FsCell w vb x) (hF : ∀ x ∈ F, ∀ u ∈ encF x, u.oneCell' = true) (h1 : ∀ u ∈ encF x, u.oneCell' = true) (hbase : base ≤ w.heap.size) :
    Calls Tryz.prog 42 #[.slice (some ⟨g, 0, none⟩) F.length cap, .int .i64 (i : Nat), .slice (some ⟨vb, 0, none⟩) 1 1] w fun e w' =>
      ∃ v', e = .returned v' ∧ FmOwn w' base v' (F.take i ++ x :: F.drop i) ∧ w.grownBy w' (some g) ∧ (v'.ownBlock = some g ∨ v'.ownBlock = some w.heap.size) := by
  obtain ⟨hl, ho⟩ := own
  rcases ho with ⟨he, _⟩ | ⟨g', cap', cur, he, hg, hc, hle, hm, hs, ht⟩
  · cases he
  cases he
  obtain ⟨i0, hi0, hz0, hz1, hzb⟩ := info_parts fmTy.info
  have hsz : (Tryz.prog.info? 41).map (·.size) = some 5 := by rw [hi0]; simp [hz1]
  have hTl : ((F.take i).flatMap encF).length = i * 5 := by rw [flat_len, List.length_take]; congr 1; omega
  have hDl : ((F.drop i).flatMap encF).length = (F.length - i) * 5 := by rw [flat_len, List.length_drop]
  have hcsz : F.length * 5 ≤ cur.size := by rw [hs]; exact Nat.mul_le_mul_right 5 hle
  have hgw : g < w.heap.size := (Array.getElem?_eq_some_iff.1 hc).1
  have hvw : vb < w.heap.size := (Array.getElem?_eq_some_iff.1 hx).1
  have hcellT : ∀ j u, ((F.take i).flatMap encF)[j]? = some u → w.cell? ⟨g, 0 + j, none⟩ = some u := fun j u hu => by
    have hj : j < i * 5 := by rw [← hTl]; exact (List.getElem?_eq_some_iff.1 hu).1
    have h2 : (F.flatMap encF)[j]? = some u := by rw [flat_split F i, List.getElem?_append_left (by omega), ← hu]
    rw [Nat.zero_add, cell_of_row w g _ cur _ (0, 0) hc, ← h2, ← ht, List.getElem?_take_of_lt (by omega)]; simp
  have hcellD : ∀ j u, ((F.drop i).flatMap encF)[j]? = some u → w.cell? ⟨g, i * 5 + j, none⟩ = some u := fun j u hu => by
    have hj : j < (F.length - i) * 5 := by rw [← hDl]; exact (List.getElem?_eq_some_iff.1 hu).1
    have h2 : (F.flatMap encF)[i * 5 + j]? = some u := by
      rw [flat_split F i, List.getElem?_append_right (by omega), hTl, ← hu]; congr 1; omega
    rw [cell_of_row w g _ cur _ (0, 0) hc, ← h2, ← ht, List.getElem?_take_of_lt (by omega)]; simp
  have hold : (Builtin.firstCells i0.size i (.slice (some ⟨g, 0, none⟩) i cap)).run Tryz.prog w.drew = .ok ((F.take i).flatMap encF).toArray w.drew := by
    rw [hz1]
    exact run_firstCells_some w.drew 5 i ⟨g, 0, none⟩ i cap ((F.take i).flatMap encF) hTl (fun j v hj => by rw [Addr.add_lit]; exact hcellT j v hj)
  have hkk : (F.length : Int) + 1 - (i : Int) = ((F.length + 1 - i : Nat) : Int) := by omega
  have hik : i + (F.length + 1 - i) = F.length + 1 := by omega
  obtain ⟨Z1, hZ1⟩ : ∃ Z1 : Array Value, Z1 = Builtin.zeroCells (famv hd0 (.slice none 0 0)).cells (F.length + 1 - i) := ⟨_, rfl⟩
  obtain ⟨G, hG⟩ : ∃ G, G = grownCap w (F.length + 1) cap 41 := ⟨_, rfl⟩
  obtain ⟨Z2, hZ2⟩ : ∃ Z2 : Array Value, Z2 = Builtin.zeroCells (famv hd0 (.slice none 0 0)).cells (G - (F.length + 1)) := ⟨_, rfl⟩
  have hGn : F.length + 1 ≤ G := by rw [hG]; exact grownCap_ge w _ _ _
  have hGm : G ≤ maxLen := by rw [hG]; exact grownCap_le_maxLen w _ _ _ (by unfold maxLen; omega)
  have hrz : ∀ ty, (Builtin.append_ #[26, 3] ty #[.slice (some ⟨g, 0, none⟩) i cap, .int .i64 ((F.length : Int) + 1 - (i : Int))]).run Tryz.prog w = .ok (.slice (some ⟨w.heap.size, 0, none⟩) (F.length + 1) G) (w.drew.alloc (.cells (((F.take i).flatMap encF).toArray ++ Z1 ++ Z2) 41)) := fun ty => by
    have h := Lib.run_append_grow_zeros (P := Tryz.prog) w 26 3 ty 41 i0 _ .i64 .i64 fmTy.under Tryz.underlying3 hi0 hz0 (some ⟨g, 0, none⟩) i cap ((F.take i).flatMap encF) hold (F.length + 1 - i) (by omega) (by omega) (by omega) (by omega) (by rw [hzb]; omega) (by rw [hzb, hik]; exact growslice_fits hroom (by omega))
    rw [hik] at h
    rw [hkk, hZ1, hZ2, hG]
    exact h
  obtain ⟨A0, hA0⟩ : ∃ A0 : Array Value, A0 = ((F.take i).flatMap encF).toArray ++ Z1 ++ Z2 := ⟨_, rfl⟩
  rw [← hA0] at hrz
  have hA0s : A0.size = G * 5 := by
    rw [hA0, hZ1, hZ2]
    simp only [Array.size_append, List.size_toArray, size_zeroCells, hTl, Value.cells]
    show i * 5 + (F.length + 1 - i) * 5 + (G - (F.length + 1)) * 5 = G * 5
    omega
  have hA0T : A0.toList.take (i * 5) = (F.take i).flatMap encF := by
    rw [hA0, Array.toList_append, Array.toList_append, List.append_assoc, List.take_left' hTl]
  obtain ⟨W1, hW1⟩ : ∃ W1, W1 = w.drew.alloc (.cells A0 41) := ⟨_, rfl⟩
  have hg1 : W1.heap[w.heap.size]? = some (.cells A0 41 (0, 0)) := by rw [hW1]; exact heap_alloc_new w.drew _
  have hold1 : ∀ k, k < w.heap.size → W1.heap[k]? = w.heap[k]? := fun k hk => by rw [hW1]; exact heap_alloc_old w.drew _ hk
  have hx1 : FsCell W1 vb x := by unfold FsCell; rw [hold1 vb hvw]; exact hx
  obtain ⟨A1, hA1⟩ : ∃ A1, A1 = A0.toList.take (i * 5) ++ encF x ++ A0.toList.drop (i * 5 + 5) := ⟨_, rfl⟩
  have hA1l : A1.length = A0.size := by rw [hA1]; simp only [List.length_append, List.length_take, List.length_drop, encF_len, Array.length_toList]; omega
  have hcpA : ∀ (W : World), W.heap = W1.heap → ∀ ty dc, (Builtin.copy_ #[26, 26] ty #[.slice (some ⟨w.heap.size, i * 5, none⟩) (F.length + 1 - i) dc, .slice (some ⟨vb, 0, none⟩) 1 1]).run Tryz.prog W = .ok (goInt 1) (W.setRow w.heap.size A1.toArray) := fun W hW ty dc => by
    have h := run_copy_wide Tryz.prog W 26 26 ty 41 5 w.heap.size (i * 5) (F.length + 1 - i) dc ⟨vb, 0, none⟩ 1 1 A0 41 (encF x) 1 fmTy.under hsz (by rw [hW]; exact hg1) (by simp only [Nat.min_def]; split <;> omega) rfl
      (fun j v hj => by rw [Addr.add_lit, Nat.zero_add]; exact FsCell.cell (w := W) (by unfold FsCell; rw [hW]; exact hx1) j v hj) (by rw [encF_len, hA0s]; omega) h1
    rw [encF_len] at h
    rw [hA1]
    exact h
  obtain ⟨A2, hA2⟩ : ∃ A2, A2 = A1.take ((i + 1) * 5) ++ (F.drop i).flatMap encF ++ A1.drop ((i + 1) * 5 + ((F.drop i).flatMap encF).length) := ⟨_, rfl⟩
  have hA2l : A2.length = G * 5 := by rw [hA2]; simp only [List.length_append, List.length_take, List.length_drop, hA1l, hDl, ← hA0s]; omega
  have hgne : g ≠ w.heap.size := by omega
  have hcpB : ∀ (W : World), (∀ k, W.heap[k]? = (W1.setRow w.heap.size A1.toArray).heap[k]?) → ∀ ty dc sc, (Builtin.copy_ #[26, 26] ty #[.slice (some ⟨w.heap.size, (i + 1) * 5, none⟩) (F.length - i) dc, .slice (some ⟨g, i * 5, none⟩) (F.length - i) sc]).run Tryz.prog W = .ok (goInt ((F.length - i : Nat) : Int)) (W.setRow w.heap.size A2.toArray) := fun W hW ty dc sc => by
    have h := run_copy_wide Tryz.prog W 26 26 ty 41 5 w.heap.size ((i + 1) * 5) (F.length - i) dc ⟨g, i * 5, none⟩ (F.length - i) sc A1.toArray 41 ((F.drop i).flatMap encF) (F.length - i) fmTy.under hsz
      (by rw [hW]; exact setRow_heap _ _ A0 A1.toArray _ _ hg1) (by simp only [Nat.min_def]; split <;> omega) hDl
      (fun j v hj => by
        rw [Addr.add_lit]
        have e : W.heap[g]? = w.heap[g]? := by rw [hW, heap_setRow_ne _ _ _ _ hgne, hold1 g hgw]
        rw [World.cell?_of_block (a := ⟨g, i * 5 + j, none⟩) e]
        exact hcellD j v hj) (by rw [hDl, List.size_toArray, hA1l, hA0s]; omega) (flat_one fun y hy => hF y (List.mem_of_mem_drop hy))
    rw [hA2]
    exact h
  have hlenI := insF_len F x i
  have hA2f : A2 = (F.take i).flatMap encF ++ encF x ++ ((F.drop i).flatMap encF ++ A0.toList.drop (i * 5 + 5 + ((F.drop i).flatMap encF).length)) := by
    have h := grow_list A0.toList ((F.take i).flatMap encF) ((F.drop i).flatMap encF) (encF x) (i * 5) hTl hA0T (by rw [Array.length_toList, hA0s]; omega)
    rw [encF_len] at h
    rw [hA2, hA1, show (i + 1) * 5 = i * 5 + 5 by omega]
    exact h
  have hfin : ∀ W : World, (∀ k, W.heap[k]? = (W1.setRow w.heap.size A1.toArray).heap[k]?) → FmOwn (W.setRow w.heap.size A2.toArray) base (.slice (some ⟨w.heap.size, 0, none⟩) (F.length + 1) G) (F.take i ++ x :: F.drop i) := fun W hW => by
    refine ⟨kc_len encF_len _, Or.inr ⟨w.heap.size, G, _, by rw [hlenI], hbase, setRow_heap _ w.heap.size A1.toArray _ _ _ (by rw [hW]; exact setRow_heap _ _ A0 A1.toArray _ _ hg1), by rw [hlenI]; exact hGn, hGm, by rw [List.size_toArray]; exact hA2l, ?_⟩⟩
    rw [hlenI, insF_flat, hA2f, ← List.append_assoc]
    have e : ((F.take i).flatMap encF ++ encF x ++ (F.drop i).flatMap encF).length = (F.length + 1) * 5 := by rw [← insF_flat, flat_len, hlenI]
    rw [List.take_left' e]
  have hgr : ∀ W : World, (∀ k, W.heap[k]? = (W1.setRow w.heap.size A1.toArray).heap[k]?) → W.heap.size = W1.heap.size → W.os = w.os → W.tape = w.tape → W.output = w.output → w.grownBy (W.setRow w.heap.size A2.toArray) (some g) := fun W hW hz h1 h2 h3 =>
    ⟨h1, h2, h3, by rw [size_setRow, hz, hW1]; simp, fun k hk hne => by
      rw [heap_setRow_ne _ _ _ _ (by omega), hW, heap_setRow_ne _ _ _ _ (by omega), hold1 k hk]⟩
  have HGM : G ≤ 9223372036854775807 := hGm
  have hz2 : ¬ ((i : Int) = (F.length : Int)) := by omega
  have hz3 : (cap : Int) < (F.length : Int) + 1 := by omega
  have hw1 : IntKind.i64.wrap ((i : Int) + 1) = (i : Int) + 1 := by rw [IntKind.wrap_i64]; omega
  have hb1 : (0 : Int) ≤ (i : Int) + 1 := by omega
  have hin : i ≤ F.length := by omega
  have htn : ((i : Int) + 1).toNat = i + 1 := by omega
  have hGi : ¬ (G = i) := by omega
  have hGim : ¬ (G = i + 1) := by omega
  have hci : ¬ (cap = i) := by omega
  have hb3 : (i : Int) ≤ (F.length : Int) := by omega
  have hic : (i : Int) ≤ (cap : Int) := by omega
  have hic2 : i ≤ cap := by omega
  have HFIN := Lib.hid hfin
  have HGR := Lib.hid hgr
  have HRZ := Lib.hid hrz
  have HC1 := Lib.hid hcpA
  have HC2 := Lib.hid hcpB
  have HW := Lib.hid hW1
  generalize F.length = n at *
  clear hfin hgr hA2 hA2l hA2f hcellT hcellD hTl hDl ht hs hc hg1 hx1 hA1 hA1l hlenI hcpA hcpB hl hle hrz hold hA0 hA0s hA0T hZ1 hZ2 hkk hik hcsz hold1 hG
  subst hW1
  go_enter Tryz.func42, Tryz.ntmps42
  go_wp2_with (first
    | (at_builtin; refine Lib.wpList_append_run _ rfl _ _ _ _ rfl _ _ rfl rfl _ _ (HRZ.out _) ?_)
    | (refine wpList_copy_runI _ rfl _ _ 26 26 rfl _ _ rfl rfl (HC1.out (w.alloc (.cells A0 41)).drew rfl _ _) ?_))
  go_region_law (refine step_copy_runI rfl (.tmp 50) (.tmp 53) 26 26 rfl (.slice (some ⟨w.heap.size, (i + 1) * 5, none⟩) (n - i) (G - (i + 1))) (.slice (some ⟨g, i * 5, none⟩) (n - i) (cap - i)) (by simp [Act.eval, Act.put]) (by simp [Act.eval, Act.put]) (HC2.out ((w.alloc (.cells A0 41)).drew.setRow w.heap.size A1.toArray).drew (fun _ => rfl) 3 (G - (i + 1)) (cap - i)) ?_)
  go_wp2
  go_ret
  exact ⟨_, rfl, HFIN.out _ (fun _ => rfl), HGR.out _ (fun _ => rfl) (by simp) rfl rfl rfl, Or.inr rfl⟩

/-- one family put in at i -/
theorem fins_calls (F : List Fs) (x : Fs) (v : Value) (i vb base : Nat) (w : World) (hi : i ≤ F.length) (hn : F.length ≤ 1000) (own : FmOwn w base v F) (hx : FsCell w vb x) (hvb : v.ownBlock ≠ some vb) (hF : ∀ x ∈ F, ∀ u ∈ encF x, u.oneCell' = true) (h1 : ∀ u ∈ encF x, u.oneCell' = true) (hbase : base ≤ w.heap.size) :
    Calls Tryz.prog 42 #[v, .int .i64 (i : Nat), .slice (some ⟨vb, 0, none⟩) 1 1] w fun e w' =>
      ∃ v', e = .returned v' ∧ FmOwn w' base v' (F.take i ++ x :: F.drop i) ∧ w.grownBy w' v.ownBlock ∧ (v'.ownBlock = v.ownBlock ∨ v'.ownBlock = some w.heap.size) := by
  by_cases he : i = F.length
  · subst he
    rw [List.take_length, List.drop_length]
    exact fins_end F x v vb base w hn own hx h1 hbase
  · have own2 := own
    rcases own2.2 with ⟨rfl, h0⟩ | ⟨g, cap, cur, rfl, _⟩
    · omega
    · by_cases hr : F.length + 1 ≤ cap
      · exact fins_shift F x i g cap vb base w (by omega) hn hr own hx (fun e => hvb (by rw [e]; rfl)) hF h1
      · exact fins_grow F x i g cap vb base w (by omega) hn (by omega) own hx hF h1 hbase

end Go.Proofs.YtjeefgamkoeiaaaGreatDoor

/- The walk of package merge's together; rows of points that hang on no block of a kind. -/
set_option maxRecDepth 100000
set_option linter.unusedVariables false
set_option linter.unusedSimpArgs false
namespace Go.Proofs.YtjeefgamkoeiaaaGreatDoor
open Go.RowKit Go.Sort Dc
attribute [local go_sem ↓] Go.wp_at_zero Go.wp_at_succ

/-- points that can be read whatever comes into the blocks E -/
def POff (w : World) (E : Nat → Prop) (v : Value) (L : List Ps) : Prop := ∀ X : World, (∀ b, b < w.heap.size → ¬ E b → X.heap[b]? = w.heap[b]?) → w.heap.size ≤ X.heap.size → PtRow X v L
theorem POff.row {w : World} {E : Nat → Prop} {v : Value} {L : List Ps} (h : POff w E v L) : PtRow w v L := h w (fun _ _ _ => rfl) (Nat.le_refl _)
theorem POff.move {w w' : World} {E E' : Nat → Prop} {v : Value} {L : List Ps} (h : POff w E v L) (h1 : ∀ b, b < w.heap.size → ¬ E b → w'.heap[b]? = w.heap[b]?) (h2 : w.heap.size ≤ w'.heap.size) (hE : ∀ b, b < w.heap.size → E' b → E b) : POff w' E' v L :=
  fun X k1 k2 => h X (fun b hb he => (k1 b (Nat.lt_of_lt_of_le hb h2) (fun e => he (hE b hb e))).trans (h1 b hb he)) (Nat.le_trans h2 k2)
theorem POff.below {w w' : World} {E : Nat → Prop} {v : Value} {L : List Ps} (h : POff w E v L) (hb : Below w.heap.size w w') : POff w' E v L := h.move (fun b hlt _ => hb.block b hlt) hb.size (fun _ _ e => e)
theorem PtKeep.off {w : World} {base : Nat} {E : Nat → Prop} {v : Value} {L : List Ps} (h : PtKeep w base v L) (hE : ∀ b, E b → b < base) : POff w E v L :=
  fun X h1 h2 => h X (fun b hb hg => h1 b hb (fun e => by have := hE b e; omega)) h2
/-- families that can be read whatever comes into block b -/
def FmOff (w : World) (b0 : Nat) (v : Value) (F : List Fs) : Prop := ∀ X : World, (∀ b, b < w.heap.size → b ≠ b0 → X.heap[b]? = w.heap[b]?) → w.heap.size ≤ X.heap.size → FmRow X v F
theorem FmOff.row {w : World} {b0 : Nat} {v : Value} {F : List Fs} (h : FmOff w b0 v F) : FmRow w v F := h w (fun _ _ _ => rfl) (Nat.le_refl _)
theorem FmOff.pts {w : World} {b0 : Nat} {v : Value} {F : List Fs} (h : FmOff w b0 v F) {x : Fs} (hx : x ∈ F) : POff w (fun b => b = b0) x.v x.L := fun X h1 h2 => ((h X h1 h2).2 x hx).1
theorem FmOff.below {w w' : World} {b0 : Nat} {v : Value} {F : List Fs} (h : FmOff w b0 v F) (hb : Below w.heap.size w w') : FmOff w' b0 v F :=
  fun X k1 k2 => h X (fun b hlt hne => (k1 b (Nat.lt_of_lt_of_le hlt hb.size) hne).trans (hb.block b hlt)) (Nat.le_trans hb.size k2)
theorem FmOff.set {w : World} {b0 i : Nat} {u v : Value} {F : List Fs} (h : FmOff w b0 v F) : FmOff (w.setCell ⟨b0, i, none⟩ u) b0 v F :=
  fun X k1 k2 => h X (fun b hlt hne => (k1 b (by simpa [World.setCell] using hlt) hne).trans (Below.heap_setCell _ _ _ _ hne)) (by simpa [World.setCell] using k2)
/-- a row that was there ahead of block b0 -/
theorem FmRow.off {w w' : World} {b0 : Nat} {v : Value} {F : List Fs} (h : FmRow w v F) (hb : Below w.heap.size w w') (h0 : w.heap.size ≤ b0) : FmOff w' b0 v F :=
  fun X k1 k2 => ⟨by
    obtain ⟨A, cap, rfl, h1, h2, hn, h3⟩ := h.1
    refine ⟨A, cap, rfl, h1, h2, hn, fun hl => ?_⟩
    obtain ⟨b, off, rfl, hlt, hc⟩ := h3 hl
    have e : X.heap[b]? = w.heap[b]? := (k1 b (Nat.lt_of_lt_of_le hlt hb.size) (by omega)).trans (hb.block b hlt)
    exact ⟨b, off, rfl, Nat.lt_of_lt_of_le hlt (Nat.le_trans hb.size k2), fun i x hx j u hu => (World.cell?_of_block (a := ⟨b, off + i * 5 + j, none⟩) e).trans (hc i x hx j u hu)⟩, fun x hx => by
    have hk : Below w.heap.size w ⟨X.heap, w.tape, w.drawn, w.os, w.output⟩ := ⟨rfl, rfl, rfl, Nat.le_trans hb.size k2, fun b hlt => (k1 b (Nat.lt_of_lt_of_le hlt hb.size) (by omega)).trans (hb.block b hlt)⟩
    have := (h.2 x hx).below hk
    exact this⟩

/-- the row that together builds -/
structure TogAt (w wr : World) (b0 : Nat) (v : Value) (M : List Fs) : Prop where
  own : FmOwn wr w.heap.size v M
  pts : ∀ x ∈ M, HdIn x.hd ∧ POff wr (fun b => b = b0 ∨ v.ownBlock = some b) x.v x.L
  bel : Below w.heap.size w wr
theorem TogAt.fsin {w wr : World} {b0 : Nat} {v : Value} {M : List Fs} (h : TogAt w wr b0 v M) {x : Fs} (hx : x ∈ M) : FsIn wr x := ⟨(h.pts x hx).2.row, (h.pts x hx).1⟩
theorem TogAt.row {w wr : World} {b0 : Nat} {v : Value} {M : List Fs} (h : TogAt w wr b0 v M) : FmRow wr v M := ⟨KOwn.row encF_len h.own, fun x hx => h.fsin hx⟩
theorem TogAt.one {w wr : World} {b0 : Nat} {v : Value} {M : List Fs} (h : TogAt w wr b0 v M) : ∀ x ∈ M, ∀ u ∈ encF x, u.oneCell' = true := fun x hx => encF_one (h.fsin hx)
theorem TogAt.off {w wr : World} {b0 : Nat} {v : Value} {M : List Fs} (h : TogAt w wr b0 v M) (h0 : b0 < w.heap.size) : FmOff wr b0 v M := fun X k1 k2 => by
  have ho : FmOwn X w.heap.size v M := h.own.ofBlock fun b hb => by
    have hge := own_ge h.own b hb
    rcases h.own.2 with ⟨rfl, _⟩ | ⟨g, cap, cur, rfl, hg, hc, _⟩
    · cases hb
    · cases hb
      exact k1 g (Array.getElem?_eq_some_iff.1 hc).1 (by omega)
  exact ⟨KOwn.row encF_len ho, fun x hx => ⟨(h.pts x hx).2 X (fun b hb he => k1 b hb (fun e => he (Or.inl e))) k2, (h.pts x hx).1⟩⟩
theorem TogAt.below {w wr w2 : World} {b0 : Nat} {v : Value} {M : List Fs} (h : TogAt w wr b0 v M) (hb : Below wr.heap.size wr w2) : TogAt w w2 b0 v M :=
  ⟨h.own.below hb, fun x hx => ⟨(h.pts x hx).1, (h.pts x hx).2.below hb⟩, kb_call h.bel (Nat.le_refl _) hb⟩
/-- behind the clone -/
theorem TogAt.start {w w1 : World} {b0 : Nat} {va v : Value} {A : List Fs} (hA : FmOff w b0 va A) (hb : Below w.heap.size w w1) (own : FmOwn w1 w.heap.size v A) : TogAt w w1 b0 v A :=
  ⟨own, fun x hx => ⟨(hA.row.2 x hx).2, (hA.pts hx).move (fun b hlt _ => hb.block b hlt) hb.size (fun b hlt e => by
    rcases e with e | e
    · exact e
    · have := own_ge own b e; omega)⟩, hb⟩
/-- behind Insert -/
theorem TogAt.ins {w wr w' : World} {b0 : Nat} {v v' : Value} {M : List Fs} {y : Fs} {i : Nat} (h : TogAt w wr b0 v M) (own : FmOwn w' w.heap.size v' (M.take i ++ y :: M.drop i)) (hg : wr.grownBy w' v.ownBlock)
    (hv : v'.ownBlock = v.ownBlock ∨ v'.ownBlock = some wr.heap.size) (hy : HdIn y.hd) (hyp : POff w (fun b => b = b0) y.v y.L) : TogAt w w' b0 v' (M.take i ++ y :: M.drop i) := by
  have hbel : Below w.heap.size w w' := ⟨hg.os.trans h.bel.os, hg.tape.trans h.bel.tape, hg.output.trans h.bel.output, Nat.le_trans h.bel.size hg.size, fun b hb => (hg.block b (Nat.lt_of_lt_of_le hb h.bel.size) (fun e => by have := own_ge h.own b e.symm; omega)).trans (h.bel.block b hb)⟩
  refine ⟨own, fun x hx => ?_, hbel⟩
  have hMy : x ∈ M ∨ x = y := by
    rcases List.mem_append.1 hx with k | k
    · exact Or.inl (List.mem_of_mem_take k)
    · rcases List.mem_cons.1 k with k | k
      · exact Or.inr k
      · exact Or.inl (List.mem_of_mem_drop k)
  rcases hMy with k | rfl
  · refine ⟨(h.pts x k).1, (h.pts x k).2.move (fun b hb he => hg.block b hb (fun e => he (Or.inr e.symm))) hg.size (fun b hb e => ?_)⟩
    rcases e with e | e
    · exact Or.inl e
    · rcases hv with hv | hv
      · exact Or.inr (by rw [← hv]; exact e)
      · rw [hv] at e; cases e; omega
  · refine ⟨hy, hyp.move (fun b hb _ => hbel.block b hb) hbel.size (fun b hb e => ?_)⟩
    rcases e with e | e
    · exact e
    · have := own_ge own b e; omega
theorem set_at {M : List Fs} {i : Nat} (x : Fs) (h : i < M.length) : (M.set i x)[i]? = some x := by rw [List.getElem?_set]; simp [h]
/-- behind the store of what Put made -/
theorem TogAt.put {w wr w3 : World} {b0 g cap i base : Nat} {M : List Fs} {x : Fs} {hd : Hd} {lv : Value} {L' : List Ps} (h : TogAt w wr b0 (.slice (some ⟨g, 0, none⟩) M.length cap) M) (h0 : b0 < w.heap.size) (hx : M[i]? = some x) (hb : Below wr.heap.size wr w3) (hin : HdIn hd)
    (hk : PtKeep w3 base lv L') (hbase : wr.heap.size ≤ base) :
    TogAt w (((((w3.setCell ⟨g, i * 5, none⟩ (.string (str hd.n))).setCell ⟨g, i * 5 + 1, none⟩ (.int .i64 hd.k)).setCell ⟨g, i * 5 + 2, none⟩ (.string (str hd.u))).setCell ⟨g, i * 5 + 3, none⟩ (.string (str hd.h))).setCell ⟨g, i * 5 + 4, none⟩ lv) b0 (.slice (some ⟨g, 0, none⟩) (M.set i ⟨hd, lv, L'⟩).length cap) (M.set i ⟨hd, lv, L'⟩) := by
  have hge : w.heap.size ≤ g := own_ge h.own g rfl
  have hi : i < M.length := (List.getElem?_eq_some_iff.1 hx).1
  have hgl : g < wr.heap.size := by
    rcases h.own.2 with ⟨he, _⟩ | ⟨g', cap', cur, he, _, hc, _⟩
    · cases he
    · cases he; exact (Array.getElem?_eq_some_iff.1 hc).1
  have o0 := KOwn.set (j := 0) (y := ⟨⟨hd.n, x.hd.k, x.hd.u, x.hd.h⟩, x.v, x.L⟩) (u := .string (str hd.n)) encF_len (h.own.below hb) hx (by omega) rfl
  have o1 := KOwn.set (j := 1) (y := ⟨⟨hd.n, hd.k, x.hd.u, x.hd.h⟩, x.v, x.L⟩) (u := .int .i64 hd.k) encF_len o0 (set_at _ hi) (by omega) rfl
  have o2 := KOwn.set (j := 2) (y := ⟨⟨hd.n, hd.k, hd.u, x.hd.h⟩, x.v, x.L⟩) (u := .string (str hd.u)) encF_len o1 (set_at _ (by rw [List.length_set]; exact hi)) (by omega) rfl
  have o3 := KOwn.set (j := 3) (y := ⟨⟨hd.n, hd.k, hd.u, hd.h⟩, x.v, x.L⟩) (u := .string (str hd.h)) encF_len o2 (set_at _ (by rw [List.length_set, List.length_set]; exact hi)) (by omega) rfl
  have o4 := KOwn.set (j := 4) (y := ⟨hd, lv, L'⟩) (u := lv) encF_len o3 (set_at _ (by rw [List.length_set, List.length_set, List.length_set]; exact hi)) (by omega) rfl
  simp only [List.set_set, Nat.add_zero] at o4
  have hB : Below w.heap.size w w3 := kb_call h.bel (Nat.le_refl _) hb
  refine ⟨o4, fun z hz => ?_, ((((hB.setCell hge _).setCell hge _).setCell hge _).setCell hge _).setCell hge _⟩
  have hmv : ∀ (E : Nat → Prop) (v : Value) (L : List Ps), E g → POff w3 E v L → POff (((((w3.setCell ⟨g, i * 5, none⟩ (.string (str hd.n))).setCell ⟨g, i * 5 + 1, none⟩ (.int .i64 hd.k)).setCell ⟨g, i * 5 + 2, none⟩ (.string (str hd.u))).setCell ⟨g, i * 5 + 3, none⟩ (.string (str hd.h))).setCell ⟨g, i * 5 + 4, none⟩ lv) E v L := fun E v L hE k =>
    k.move (fun b hb he => by
      have hbg : b ≠ g := fun e => he (by rw [e]; exact hE)
      rw [Below.heap_setCell _ _ _ _ hbg, Below.heap_setCell _ _ _ _ hbg, Below.heap_setCell _ _ _ _ hbg, Below.heap_setCell _ _ _ _ hbg, Below.heap_setCell _ _ _ _ hbg]) (by simp [World.setCell]) (fun _ _ e => e)
  rcases List.mem_or_eq_of_mem_set hz with k | rfl
  · exact ⟨(h.pts z k).1, hmv _ _ _ (Or.inr rfl) ((h.pts z k).2.below hb)⟩
  · refine ⟨hin, hmv _ _ _ (Or.inr rfl) (hk.off fun b e => ?_)⟩
    rcases e with e | e
    · have e' : b = b0 := e
      have := h.bel.size; omega
    · have e' : some g = some b := e
      cases e'; omega
theorem own_list {w wr : World} {b0 : Nat} {v : Value} {M : List Fs} (h : TogAt w wr b0 v M) (hM : 0 < M.length) : ∃ g cap, v = .slice (some ⟨g, 0, none⟩) M.length cap ∧ w.heap.size ≤ g ∧ g < wr.heap.size := by
  rcases h.own.2 with ⟨_, h0⟩ | ⟨g, cap, cur, rfl, hg, hc, _⟩
  · omega
  · exact ⟨g, cap, rfl, hg, (Array.getElem?_eq_some_iff.1 hc).1⟩
theorem own_row {w wr : World} {b0 g cap : Nat} {M : List Fs} (h : TogAt w wr b0 (.slice (some ⟨g, 0, none⟩) M.length cap) M) {i : Nat} {x : Fs} (hx : M[i]? = some x) :
    wr.cell? ⟨g, i * 5, none⟩ = some (.string (str x.hd.n)) ∧ wr.cell? ⟨g, i * 5 + 1, none⟩ = some (.int .i64 x.hd.k) ∧ wr.cell? ⟨g, i * 5 + 2, none⟩ = some (.string (str x.hd.u)) ∧ wr.cell? ⟨g, i * 5 + 3, none⟩ = some (.string (str x.hd.h)) ∧ wr.cell? ⟨g, i * 5 + 4, none⟩ = some x.v ∧ ∀ o, wr.frozen? ⟨g, o, none⟩ = false := by
  obtain ⟨A, cap', he, _, _, _, h3⟩ := h.row.1
  cases he
  obtain ⟨b, off, he, hlt, hc⟩ := h3 (Nat.lt_of_le_of_lt (Nat.zero_le _) (List.getElem?_eq_some_iff.1 hx).1)
  cases he
  obtain ⟨c0, c1, c2, c3, c4⟩ := fr_cells hc hx
  simp only [Nat.zero_add] at c0 c1 c2 c3 c4
  refine ⟨c0, c1, c2, c3, c4, fun o => ?_⟩
  rcases h.own.2 with ⟨he, _⟩ | ⟨g', cap', cur, he, _, hc, _⟩
  · cases he
  · cases he; exact frozen_of_row wr g o cur _ hc
theorem fms_ins (M : List Fs) (y : Fs) (i : Nat) : fms (M.take i ++ y :: M.drop i) = (fms M).take i ++ fm y :: (fms M).drop i := by simp [fms, List.map_take, List.map_drop]
theorem fms_set (M : List Fs) (y : Fs) (i : Nat) : fms (M.set i y) = (fms M).set i (fm y) := by simp [fms, List.map_set]
theorem orS_len {x y : List UInt8} (hx : x.length ≤ maxLen) (hy : y.length ≤ maxLen) : (orS x y).length ≤ maxLen := by unfold orS; split <;> assumption
theorem new_fs (w : World) (x : Fs) : FsCell (w.alloc (.cells (famc x.hd x.v) 41)) w.heap.size x := heap_new w _

end Go.Proofs.YtjeefgamkoeiaaaGreatDoor

/- The walk of package merge's together. -/
set_option maxRecDepth 100000
set_option linter.unusedVariables false
set_option linter.unusedSimpArgs false
namespace Go.Proofs.YtjeefgamkoeiaaaGreatDoor
open Go.RowKit Go.Sort Dc
attribute [local go_sem ↓] Go.wp_at_zero Go.wp_at_succ

/-- Put of two families that are of one name and kind -/
theorem put_yes (x y : Fs) (w : World) (hx : FsIn w x) (hy : FsIn w y) (hn : x.L.length ≤ 500) (hm : y.L.length ≤ 500) (ho : (fm x).1.n = (fm y).1.n ∧ (fm x).1.k = (fm y).1.k ∧ famOk (fm x).1 (fm x).2 = true ∧ famOk (fm y).1 (fm y).2 = true) (hT : ShPl w) :
    Calls Tryz.prog 15 #[famv x.hd x.v, famv y.hd y.v] w fun e w' => (∃ n k u h A m cap L', e = .returned (.tuple #[famv ⟨n, k, u, h⟩ (.slice A m cap), .bool true]) ∧ PtKeep w' w.heap.size (.slice A m cap) L' ∧ ((⟨n, k, u, h⟩ : Hd), pts L') = putP (fm x) (fm y)) ∧ Below w.heap.size w w' := by
  refine (put_calls x y w hx hy hn hm (fun p hp => famOk_lab ho.2.2.1 p.2 (List.mem_map_of_mem hp)) (fun p hp => famOk_lab ho.2.2.2 p.2 (List.mem_map_of_mem hp)) hT).mono ?_
  rintro e w' ⟨⟨A, m, cap, L', ⟨n, k, u, h⟩, rfl, hk, hp⟩, hb⟩
  rw [putO_yes ho.1 ho.2.1 ho.2.2.1 ho.2.2.2] at hp ⊢
  exact ⟨⟨n, k, u, h, A, m, cap, L', rfl, hk, hp⟩, hb⟩
theorem putP_in {x y : Fs} {h : Hd} {L' : List Ps} (hx : HdIn x.hd) (hy : HdIn y.hd) (hp : (h, pts L') = putP (fm x) (fm y)) : HdIn h := by
  have e : h = (putP (fm x) (fm y)).1 := by rw [← hp]
  rw [e]
  exact ⟨hx.ln, orS_len hy.lu hx.lu, orS_len hy.lh hx.lh, hx.k1, hx.k2⟩

set_option maxHeartbeats 16000000 in
theorem together_calls (A B : List Fs) (va vb : Value) (b0 : Nat) (w : World) (hA : FmOff w b0 va A) (hB : FmOff w b0 vb B) (h0 : b0 < w.heap.size) (hok : TogOk (fms A) (fms B)) (hT : ShPl w) :
    Calls Tryz.prog 24 #[va, vb] w fun e w' => ∃ A' n cap M, e = .returned (.slice A' n cap) ∧ FmOff w' b0 (.slice A' n cap) M ∧ fms M = mrgF (fms A) (fms B) ∧ Below w.heap.size w w' := by
  have hcl := Lib.hid (fclone_calls A va w hA.row (by have := hok.nA; rw [List.length_map] at this; omega))
  have HA := Lib.hid hA
  have HB := Lib.hid hB
  have HK := Lib.hid hok
  have HT := Lib.hid hT
  have HBL : Hid (B.length ≤ 400) := Lib.hid (by have := hok.nB; rwa [List.length_map] at this)
  have hbl := HBL.out
  obtain ⟨A2, cap2, hvb, hlc, hcm, hnil, hrow⟩ := hB.row.1
  unfold maxLen at hcm
  have HR := Lib.hid hrow
  clear hA hB hok hT hrow hnil HBL
  subst hvb
  go_enter Tryz.func24, Tryz.ntmps24
  go_wp2_with fail
  refine hcl.out.mono ?_
  rintro e w1 ⟨v1, rfl, b1, own⟩
  have S1 := Lib.hid (TogAt.start HA.out b1 own)
  clear b1 own hcl
  go_wp2_with fail
  go_loopw [14, 5] (fun s t wr => ∃ (k : Nat) (tv : Value) (M : List Fs), k ≤ B.length ∧ s = .int .i64 (k : Nat) ∧ tv = t ∧ Hid (TogAt w wr b0 tv M) ∧ Hid (fms M = mrgF (fms A) ((fms B).take k))) (fun s _ _ => B.length - (intOf s).toNat)
  case atStart => exact ⟨0, _, A, Nat.zero_le _, rfl, rfl, S1, Lib.hid rfl⟩
  case round =>
    clear S1
    obtain ⟨k, tv, M, hk, rfl, rfl, S, HM⟩ := hrel
    by_cases hkl : k < B.length
    · obtain ⟨b, off, rfl, hbs, hc⟩ := HR.out (by omega)
      obtain ⟨y, hy, hyp⟩ := fs_get hkl
      have hiy := HB.out.row.2 y (List.mem_of_getElem? hy)
      obtain ⟨c0, c1, c2, c3, c4⟩ := fr_cells hc hy
      have hb := S.out.bel
      have HY := Lib.hid hiy
      have HOY := Lib.hid (HB.out.pts (List.mem_of_getElem? hy))
      have HYM : Hid (fm y ∈ fms B) := Lib.hid (List.mem_of_getElem? hyp)
      have HST := Lib.hid (mrg_step (A := fms A) hyp)
      have hyl : Hid (y.L.length ≤ 500) := Lib.hid (by
        have h1 := nPts_mem HYM.out
        have h2 := HK.out.pB
        have h3 : (fm y).2.length = y.L.length := by simp [pts]
        omega)
      have hML : Hid (M.length ≤ 800) := Lib.hid (by
        have h1 := HK.out.len k
        rw [← HM.out, List.length_map] at h1
        exact h1)
      have hMS : Hid (StrictT cmpF (fms M)) := Lib.hid (by rw [HM.out]; exact HK.out.strict k)
      obtain ⟨A1, n1, cap1, hy1⟩ : ∃ A1 n1 cap1, y.v = .slice A1 n1 cap1 := by obtain ⟨A, cap, he, _⟩ := hiy.1.1; exact ⟨A, _, cap, he⟩
      have HNF := Lib.hid (fun W => new_fs W y)
      have hR : ∀ o u, w.cell? ⟨b, o, none⟩ = some u → wr.cell? ⟨b, o, none⟩ = some u := fun o u hu => (hb.cell (p := ⟨b, o, none⟩) hbs).trans hu
      have r0 := hR _ _ c0
      have r1 := hR _ _ c1
      have r2 := hR _ _ c2
      have r3 := hR _ _ c3
      have r4 := hR _ _ c4
      rw [hy1] at r4
      clear hc c0 c1 c2 c3 c4 hR hy hyp hiy hbs hb
      obtain ⟨W1, hW1⟩ : ∃ W, W = wr.alloc (.cells #[.string (str y.hd.n), .int .i64 y.hd.k, .string (str y.hd.u), .string (str y.hd.h), .slice A1 n1 cap1] 41) := ⟨_, rfl⟩
      have hW1' : W1 = wr.alloc (.cells (famc y.hd y.v) 41) := by rw [hW1, hy1]
      have SW1 : Hid (TogAt w W1 b0 tv M) := Lib.hid (by rw [hW1]; exact S.out.below ((Below.refl _ _).alloc (Nat.le_refl _) _))
      have BX1 : Hid (FamAt W1 wr.heap.size y.hd y.v) := Lib.hid (by rw [hW1']; exact FamAt.new wr y.hd y.v _)
      have hbsr := Lib.hid (fbs_calls M tv y W1 SW1.out.row (HY.out.below SW1.out.bel) (by have := hML.out; omega) hMS.out)
      rw [hy1] at hbsr
      go_upto_region 5 with fail
      rw [← hW1]
      clear hW1 hW1' r0 r1 r2 r3 r4 S
      obtain ⟨x0, x1, x2, x3, x4, xf, xl⟩ := BX1.out
      rw [hy1] at x4
      go_wp2_with fail
      refine hbsr.out.mono ?_
      rintro e w2 ⟨⟨i, bb, rfl, hi, h1, h2, h3⟩, b2⟩
      have hbb := bs_look tp_cmpF hMS.out h1 h2 h3
      have S2 := Lib.hid (SW1.out.below b2)
      have BX2 := Lib.hid (BX1.out.below b2)
      have hiM : i ≤ M.length := by rw [List.length_map] at hi; exact hi
      have hxlt : wr.heap.size < w2.heap.size := BX2.out.lt
      have H1 := Lib.hid h1
      have H2 := Lib.hid h2
      have H3 := Lib.hid h3
      clear h1 h2 h3 hi b2 x0 x1 x2 x3 x4 xf xl SW1 BX1 hbsr
      obtain ⟨x0, x1, x2, x3, x4, xf, xl⟩ := BX2.out
      rw [hy1] at x4
      clear xf
      cases bb with
      | false =>
        have hlk : look cmpF (fms M) (fm y) = none := by
          cases e : look cmpF (fms M) (fm y) with
          | none => rfl
          | some z => rw [e] at hbb; exact absurd hbb (by simp)
        have hins : Hid (ins cmpF putP (fm y) (fms M) = (fms M).take i ++ fm y :: (fms M).drop i) := Lib.hid (ins_no tp_cmpF hMS.out (by rw [List.length_map]; exact hiM) H1.out (bs_none tp_cmpF H2.out hlk))
        obtain ⟨W3, hW3⟩ : ∃ W, W = w2.alloc (.cells #[.string (str y.hd.n), .int .i64 y.hd.k, .string (str y.hd.u), .string (str y.hd.h), .slice A1 n1 cap1] 41) := ⟨_, rfl⟩
        have hW3' : W3 = w2.alloc (.cells (famc y.hd y.v) 41) := by rw [hW3, hy1]
        have S3 : Hid (TogAt w W3 b0 tv M) := Lib.hid (by rw [hW3]; exact S2.out.below ((Below.refl _ _).alloc (Nat.le_refl _) _))
        have F3 : FsCell W3 w2.heap.size y := by rw [hW3']; exact HNF.out w2
        have hic := Lib.hid (fins_calls M y tv i w2.heap.size w.heap.size W3 hiM (by have := hML.out; omega) S3.out.own F3 (fun e => by
          rcases S2.out.own.2 with ⟨rfl, _⟩ | ⟨g, cap, cur, rfl, _, hc, _⟩
          · cases e
          · have hlt : g < w2.heap.size := (Array.getElem?_eq_some_iff.1 hc).1
            have e' := Option.some.inj (show some g = some w2.heap.size from e)
            omega) S3.out.one (encF_one (HY.out)) S3.out.bel.size)
        clear hbb hlk F3 hW3' H1 H2 H3
        go_wp2_with fail
        rw [← hW3]
        refine hic.out.mono ?_
        rintro e w4 ⟨v4, rfl, own4, g4, hv4⟩
        have S4 := Lib.hid (S3.out.ins own4 g4 hv4 HY.out.2 HOY.out)
        have hM4 : Hid (fms (M.take i ++ y :: M.drop i) = mrgF (fms A) ((fms B).take (k + 1))) := Lib.hid (by rw [HST.out, ← HM.out, hins.out, fms_ins])
        clear own4 g4 hv4 hic hW3 x0 x1 x2 x3 x4 xl
        go_wp2_with fail
        go_roundw
        case rel => exact ⟨k + 1, _, _, hkl, by go_num, rfl, S4, hM4⟩
        case measure => simp [intOf]; omega
      | true =>
        obtain ⟨z, hz, hze⟩ := H3.out.1 rfl
        obtain ⟨x, hx, hxz⟩ : ∃ x, M[i]? = some x ∧ fm x = z := by
          rw [List.getElem?_map] at hz
          cases e : M[i]? with
          | none => rw [e] at hz; cases hz
          | some x => rw [e] at hz; exact ⟨x, rfl, by simpa using hz⟩
        subst hxz
        have him : i < M.length := (List.getElem?_eq_some_iff.1 hx).1
        have hxM := List.mem_of_getElem? hx
        have hins : Hid (ins cmpF putP (fm y) (fms M) = (fms M).set i (putP (fm x) (fm y))) := Lib.hid (ins_yes tp_cmpF hMS.out hz hze)
        have hmem : fm x ∈ mrgF (fms A) ((fms B).take k) := by rw [← HM.out]; exact List.mem_of_getElem? hz
        have hsame := HK.out.same hmem HYM.out hze
        have hxl : x.L.length ≤ 500 := by
          have h1 := HK.out.pts k _ hmem
          have h3 : (fm x).2.length = x.L.length := by simp [pts]
          omega
        have hpc := Lib.hid (put_yes x y w2.drew (S2.out.fsin hxM) (HY.out.below S2.out.bel.drew) hxl hyl.out hsame (shpl_below HT.out S2.out.bel.drew))
        have HXI := Lib.hid (S2.out.fsin hxM).2
        obtain ⟨g, cap, hg, hgw, hg2⟩ := own_list S2.out (by omega)
        subst hg
        obtain ⟨q0, q1, q2, q3, q4, qf⟩ := own_row S2.out hx
        obtain ⟨A3, n3, cap3, hx1⟩ : ∃ A1 n1 cap1, x.v = .slice A1 n1 cap1 := by obtain ⟨A, cap, he, _⟩ := (S2.out.fsin hxM).1.1; exact ⟨A, _, cap, he⟩
        have HX := Lib.hid hx
        rw [hx1] at q4
        rw [hx1, hy1] at hpc
        have f0 := qf (i * 5)
        have f1 := qf (i * 5 + 1)
        have f2 := qf (i * 5 + 2)
        have f3 := qf (i * 5 + 3)
        have f4 := qf (i * 5 + 4)
        have hi1 : (i : Int) < (M.length : Int) := by omega
        have hi2 : (0 : Int) ≤ (i : Int) := by omega
        clear qf hz hze hmem hsame hxl hxM hbb H1 H2 H3 hx
        go_wp2_with fail
        go_region_law (go_simp; go_at_call 15; refine hpc.out.mono ?_; rintro e w3 ⟨⟨n5, k5, u5, h5, A5, m5, cap5, L5, rfl, hk5, hp5⟩, b3⟩; obtain ⟨hcell, hfr⟩ := bcell b3; have z0 := (hcell g (i * 5) hg2).trans q0; have z1 := (hcell g (i * 5 + 1) hg2).trans q1; have z2 := (hcell g (i * 5 + 2) hg2).trans q2; have z3 := (hcell g (i * 5 + 3) hg2).trans q3; have z4 := (hcell g (i * 5 + 4) hg2).trans q4; have fz0 := (hfr g (i * 5) hg2).trans f0; have fz1 := (hfr g (i * 5 + 1) hg2).trans f1; have fz2 := (hfr g (i * 5 + 2) hg2).trans f2; have fz3 := (hfr g (i * 5 + 3) hg2).trans f3; have fz4 := (hfr g (i * 5 + 4) hg2).trans f4)
        all_goals
          have b3' : Below w2.heap.size w2 w3 := ⟨b3.os, b3.tape, b3.output, b3.size, b3.block⟩
          have S5 := Lib.hid (TogAt.put (hd := ⟨n5, k5, u5, h5⟩) (lv := .slice A5 m5 cap5) (L' := L5) S2.out h0 HX.out b3' (putP_in HXI.out HY.out.2 hp5) hk5 (Nat.le_refl _))
          have hM5 : Hid (fms (M.set i ⟨⟨n5, k5, u5, h5⟩, .slice A5 m5 cap5, L5⟩) = mrgF (fms A) ((fms B).take (k + 1))) := Lib.hid (by rw [HST.out, ← HM.out, hins.out, fms_set]; exact congrArg _ hp5)
          simp only [List.length_set] at S5
          clear b3 b3' hk5 hp5 z0 z1 z2 z3 z4 fz0 fz1 fz2 fz3 fz4 hcell hfr
          go_wp2_with fail
          go_roundw
          case rel => exact ⟨k + 1, _, _, hkl, by go_num, rfl, S5, hM5⟩
          case measure => simp [intOf]; omega
    · have hr : (fms B).take k = fms B := List.take_of_length_le (by rw [List.length_map]; omega)
      rw [hr] at HM
      obtain ⟨A3, n3, cap3, ht⟩ : ∃ A1 n1 cap1, tv = .slice A1 n1 cap1 := by obtain ⟨A, cap, he, _⟩ := S.out.row.1; exact ⟨A, _, cap, he⟩
      subst ht
      go_wp2
      go_ret
      exact ⟨_, _, _, M, rfl, S.out.off h0, HM.out, S.out.bel⟩

end Go.Proofs.YtjeefgamkoeiaaaGreatDoor
