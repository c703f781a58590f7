/- The library's Clone, Sort, Compact at rows of texts, as rows of a call's own. -/
import Derived.Test.YtgdhfmcipaoapaaDoorLaySort
import Derived.Test.YtgdhfmcipaoapaaDoorLayClone
import Derived.Test.YtgdhfmcipaoapaaDoorLayCompact
import Derived.Test.YtgdhfmcipaoapaaDoorCollPlain
import Derived.Test.YtgdhfmcipaoapaaDoorGrd
import Derived.Sort.OwnSorted
import Derived.Sort.EveryDepth
import Derived.Shelf.SortM.AssemblysIn
set_option maxRecDepth 100000
set_option linter.unusedVariables false
set_option linter.unusedSimpArgs false
namespace Go.Proofs.YtgdhfmcipaoapaaDoor
open Go.RowKit Go.Sort

theorem same_grown (w : World) (row : Option Nat) : w.grownBy w row := ⟨rfl, rfl, rfl, Nat.le_refl _, fun _ _ _ => rfl⟩
theorem grow_none (w : World) : grow w #[] = w := by unfold grow; simp
/-- the texts of a row, as lists of bytes -/
def txs (n : Nat) (es : Nat → ByteArray) : List Co.Bs := (List.range n).map (fun i => (es i).data.toList)
theorem txs_len (n : Nat) (es : Nat → ByteArray) : (txs n es).length = n := by simp [txs]
theorem txs_at (n : Nat) (es : Nat → ByteArray) (i : Nat) (h : i < (txs n es).length) : (txs n es)[i] = (es i).data.toList := by simp [txs]
abbrev TRow (w : World) (base : Nat) (v : Value) (L : List Co.Bs) : Prop := w.ownsRow base 9 1 v L.length (L.map encStr)

theorem sclone_calls (nv : Value) (n : Nat) (es : Nat → ByteArray) (w : World) (hn : n ≤ 20000) (hr : StrRow w nv n es) :
    Calls Tryd.prog 14 #[nv] w fun e w' => ∃ v, e = .returned v ∧ TRow w' w.heap.size v (txs n es) ∧ Below w.heap.size w w' := by
  obtain ⟨a, cap, rfl, h1, h2, h3⟩ := hr
  unfold TRow
  rw [txs_len]
  by_cases h0 : 0 < n
  · obtain ⟨b, off, rfl, hb, hc⟩ := h3 h0
    have h := AnyG.slices_Clone_string cloneSt b off n cap ((List.range n).map es) w (by simp) (by omega) (fun j hj => by
      have hj' : j < n := by simpa using hj
      rw [(hc j hj').1]
      simp [List.getD_eq_getElem?_getD, hj'])
    refine Calls.mono h ?_
    rintro e w' ⟨v, rfl, h5, _, h6⟩
    refine ⟨v, rfl, ?_, h6⟩
    have e1 : ((List.range n).map es).take n = (List.range n).map es := List.take_of_length_le (by simp)
    rw [e1, List.map_map] at h5
    have e2 : (txs n es).map encStr = (List.range n).map (Value.string ∘ es) := by
      unfold txs
      rw [List.map_map]
      apply List.map_congr_left
      intro i _
      show Value.string ⟨(es i).data.toList.toArray⟩ = Value.string (es i)
      rw [Array.toArray_toList]
    rw [e2]; exact h5
  · obtain rfl : n = 0 := by omega
    cases a with
    | none =>
      refine Calls.mono (AnyG.slices_Clone_string_nil cloneSt 0 cap w) ?_
      rintro e w' ⟨rfl, rfl⟩
      exact ⟨_, rfl, World.ownsRow_nil _ _ _ _, Below.refl _ _⟩
    | some a =>
      refine Calls.mono (AnyG.slices_Clone_string_zero cloneSt a cap w) ?_
      rintro e w' ⟨v, rfl, h5, _, h6⟩
      exact ⟨v, rfl, h5, h6⟩

abbrev sorted (L : List Co.Bs) : List Co.Bs := L.mergeSort fun x y => decide (x ≤ y)
theorem ssort_plain (g cap : Nat) (L : List Co.Bs) (w : World) (hH : Holds encStr w g 0 L.toArray) (hblk : g < w.heap.size) (hsz : L.length < 4611686018427387904) :
    Calls Tryd.prog 15 #[.slice (some ⟨g, 0, none⟩) L.length cap] w fun e w' => e = .returned (.tuple #[]) ∧ ∃ n os, w' = grow (putRow encStr (Sort.ahead w n) g 0 (sorted L).toArray) os :=
  calls_of_every_depth fun D => AnySM.slices_Sort_string_in sortSt D g 0 cap L w hH hblk hsz
theorem ssort_calls (v : Value) (L : List Co.Bs) (base : Nat) (w : World) (hn : L.length ≤ 20000) (hr : TRow w base v L) :
    Calls Tryd.prog 15 #[v] w fun e w' => e = .returned (.tuple #[]) ∧ TRow w' base v (sorted L) ∧ w.grownBy w' v.ownBlock := by
  have hl : (sorted L).length = L.length := List.length_mergeSort L
  unfold TRow
  rw [hl]
  rcases hr.2 with ⟨rfl, h0⟩ | ⟨g, cap, cur, rfl, hg, hc, h1, h2, h3, h4⟩
  · have hL : L = [] := List.eq_nil_of_length_eq_zero h0
    subst hL
    refine Calls.mono (AnyM.slices_Sort_string_none sortSt none 0 w) ?_
    rintro e w' ⟨rfl, rfl⟩
    have e0 : sorted [] = [] := List.eq_nil_of_length_eq_zero hl
    rw [e0]
    exact ⟨rfl, World.ownsRow_nil _ _ _ _, same_grown _ _⟩
  · refine Calls.mono (ssort_plain g cap L w (holds_of_block hc (by simpa using h4)) (Array.getElem?_eq_some_iff.1 hc).1 (by omega)) ?_
    rintro e w' ⟨rfl, n, os, rfl⟩
    exact ⟨rfl, ownsRow_sorted hl hg hc h1 h2 h3, grownBy_sorted _⟩

theorem compact_len (d : Array Co.Bs) (m : Nat) : (Lib.compactUpTo d m).length ≤ m := by
  unfold Lib.compactUpTo
  rw [List.length_map]
  exact Nat.le_trans (List.length_filter_le _ _) (by simp)
set_option maxHeartbeats 1000000 in
theorem scompact_calls (v : Value) (L : List Co.Bs) (base : Nat) (w : World) (hn : L.length ≤ 20000) (hr : TRow w base v L) :
    Calls Tryd.prog 16 #[v] w fun e w' => ∃ v', e = .returned v' ∧ TRow w' base v' (Lib.compactUpTo L.toArray L.length) ∧ w.grownBy w' v.ownBlock ∧ v'.ownBlock = v.ownBlock := by
  rcases hr.2 with ⟨rfl, h0⟩ | ⟨g, cap, cur, rfl, hg, hc, h1, h2, h3, h4⟩
  · have hL : L = [] := List.eq_nil_of_length_eq_zero h0
    subst hL
    go_enter Tryd.func16, Tryd.ntmps16
    go_wp2
    go_ret
    exact ⟨_, rfl, World.ownsRow_nil _ _ _ _, same_grown _ _, rfl⟩
  · have hH := holds_of_block hc (ss := L) (by simpa using h4)
    have h := AnyG.slices_Compact_string_arr compactSt g 0 cap L.toArray w hH (by simp; omega) (by simpa using h1)
    have hm := compact_len L.toArray L.length
    simp only [List.size_toArray] at h
    refine Calls.mono h ?_
    rintro e w' ⟨rfl, q, rfl⟩
    refine ⟨_, rfl, ⟨by simp, Or.inr ⟨g, cap, putCells encStr 0 (Lib.compactUpTo L.toArray L.length ++ List.replicate (L.length - (Lib.compactUpTo L.toArray L.length).length) []).toArray cur, rfl, hg, ?_, by omega, h2, by simp [putCells, h3], ?_⟩⟩, ?_, rfl⟩
    · have := heap_sorted (n := q) (os := #[]) (Lib.compactUpTo L.toArray L.length ++ List.replicate (L.length - (Lib.compactUpTo L.toArray L.length).length) []).toArray hc
      rw [grow_none] at this; exact this
    · have := take_putCells cur (Lib.compactUpTo L.toArray L.length ++ List.replicate (L.length - (Lib.compactUpTo L.toArray L.length).length) []) (by simp; omega)
      rw [Nat.mul_one]
      have e2 := congrArg (List.take (Lib.compactUpTo L.toArray L.length).length) this
      rw [List.take_take, Nat.min_eq_left (by simp), ← List.map_take, List.take_left'] at e2
      · exact e2
      · rfl
    · have := grownBy_sorted (w := w) (g := g) (n := q) (os := #[]) (Lib.compactUpTo L.toArray L.length ++ List.replicate (L.length - (Lib.compactUpTo L.toArray L.length).length) []).toArray
      rw [grow_none] at this; exact this

end Go.Proofs.YtgdhfmcipaoapaaDoor
