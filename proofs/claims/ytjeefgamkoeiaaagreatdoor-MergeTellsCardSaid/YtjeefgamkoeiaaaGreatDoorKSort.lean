/- The library's sort at structs whose comparison makes memory alone: a permutation of what was there, in order; all other blocks stay. -/
import Derived.Test.YtjeefgamkoeiaaaGreatDoorKRow
import Derived.Test.YtjeefgamkoeiaaaGreatDoorUp
import Derived.Shelf.SlSortCmp.WholeK
import Derived.Shelf.SlSortCmp.NoneTotal
set_option maxRecDepth 100000
set_option linter.unusedVariables false
set_option linter.unusedSimpArgs false
namespace Go.Proofs.YtjeefgamkoeiaaaGreatDoor
open Go.RowKit Go.Sort Go.Shelf Go.Lib

theorem ks_below_map {B : Nat} {a w : World} (h : Below B a w) (blk : Nat) (f : Array Value → Array Value) (hb : B ≤ blk) : Below B a (mapBlock w blk f) := by
  refine ⟨h.os, h.tape, h.output, ?_, fun b hbB => ?_⟩
  · have := h.size; unfold mapBlock; simpa using this
  · rw [← h.block b hbB]; unfold mapBlock; simp only
    rw [Array.getElem?_modify, if_neg (by omega)]
theorem ks_below_grow {B : Nat} {a w : World} (h : Below B a w) (hB : B ≤ a.heap.size) (os : Array Obj) : Below B a (grow w os) := by
  refine ⟨h.os, h.tape, h.output, ?_, fun b hb => ?_⟩
  · have := h.size; unfold grow; simp; omega
  · have := h.size
    rw [← h.block b hb]; unfold grow; simp only; rw [Array.getElem?_append_left (by omega)]
section
variable {α : Type} [Inhabited α] {enc : α → List Value} {k : Nat}
theorem ks_below {B : Nat} {w : World} (g n : Nat) (D : Array α) (os : Array Obj) (hg : B ≤ g) (hB : B ≤ w.heap.size) : Below B w (sortWorldK enc k w g 0 n D os) := by
  unfold sortWorldK
  refine ks_below_grow ?_ hB os
  unfold putRowK putRow
  refine ks_below_map ?_ g _ hg
  exact ⟨rfl, rfl, rfl, Nat.le_refl _, fun _ _ => rfl⟩
theorem ks_other {w : World} (g n : Nat) (D : Array α) (os : Array Obj) : ∀ b, b < w.heap.size → b ≠ g → (sortWorldK enc k w g 0 n D os).heap[b]? = w.heap[b]? := fun b hb hne => by
  unfold sortWorldK grow putRowK putRow mapBlock
  simp only
  rw [Array.getElem?_append_left (by simpa using hb), Array.getElem?_modify, if_neg (fun e => hne e.symm)]
  rfl
theorem ks_holds (hk : ∀ x, (enc x).length = k) (hp : 0 < k) {el : Nat} {w : World} {base g cap : Nat} {l : List α} (h : KOwn enc el k w base (.slice (some ⟨g, 0, none⟩) l.length cap) l) : HoldsK enc k w g 0 l.toArray := by
  obtain ⟨hl, h⟩ := h
  rcases h with ⟨h, _⟩ | ⟨g', cap', cur, he, hb, hg, hn, hm, hs, ht⟩
  · cases h
  · cases he
    intro j hj
    rw [size_flatK] at hj
    have hj' : j < l.length * k := by simpa using hj
    rw [get_flatK _ _ _ _ hj]
    have hi : j / k < l.length := (Nat.div_lt_iff_lt_mul hp).2 hj'
    have hm2 := Nat.mod_lt j hp
    have hx : l[j / k]? = some (l.toArray[j / k]!) := by rw [getElem!_pos _ _ (by simpa using hi)]; simp
    have hlj : (l.flatMap enc)[j]? = some (enc l.toArray[j / k]!)[j % k]! := by
      have := kc_get hk l (j / k) (j % k) _ hx hm2
      rw [Nat.div_add_mod'] at this
      rw [this]
      generalize l.toArray[j / k]! = x
      rw [getElem!_pos (enc x) (j % k) (by rw [hk]; exact hm2), List.getElem?_eq_getElem]
    refine ⟨?_, ?_⟩
    · rw [Nat.zero_add, cell_of_row w g j cur _ (0, 0) hg, id, ← hlj, ← ht, List.getElem?_take_of_lt hj']; simp
    · unfold World.frozen?; simp only; rw [hg]; simp
theorem ks_row (hk : ∀ x, (enc x).length = k) {w : World} {g cap : Nat} {D : Array α} (hH : HoldsK enc k w g 0 D) (hlt : g < w.heap.size) (h1 : D.size ≤ cap) (h2 : cap ≤ maxLen) : KRow enc k w (.slice (some ⟨g, 0, none⟩) D.toList.length cap) D.toList := by
  refine ⟨_, cap, rfl, by simpa using h1, h2, (by rintro ⟨⟩), fun _ => ⟨g, 0, rfl, hlt, fun i x hx j u hu => ?_⟩⟩
  have hi : i < D.size := by
    rcases Nat.lt_or_ge i D.size with h | h
    · exact h
    · rw [List.getElem?_eq_none (by simpa using h)] at hx; cases hx
  have hxi : D[i]! = x := by
    rw [getElem!_pos D i hi]
    rw [List.getElem?_eq_getElem (by simpa using hi)] at hx
    simpa using hx
  have hj : j < k := by rw [← hk x]; exact (List.getElem?_eq_some_iff.1 hu).1
  have := (hH.cell (i := i) (c := j) hi hj).1
  rw [hxi, getElem!_pos (enc x) j (by rw [hk]; exact hj)] at this
  rw [List.getElem?_eq_getElem (by rw [hk]; exact hj)] at hu
  rw [this]
  exact hu
variable {P : Program} {ρ : Ren}
set_option maxHeartbeats 2000000 in
theorem ksort (L : SlLaysF0.n6 P ρ) (aE : ∀ w, (isAgg (ρ.t 24)).run P w = .ok true w) (zE : ∀ w, (Go.sizeOf (ρ.t 24)).run P w = .ok k w) (hk : ∀ x, (enc x).length = k) (hp : 0 < k) (h1 : ∀ x, ∀ v ∈ enc x, v.oneCell' = true)
    (cf : α → α → Int) (hO : SWO (ltOf cf)) (f : Nat) (eg : ∀ args w, (callFunc f args).run P w = .ok (.enter f args) w) (el g cap base : Nat) (l : List α) (w : World)
    (hown : KOwn enc el k w base (.slice (some ⟨g, 0, none⟩) l.length cap) l) (hn : l.length ≤ 1000)
    (hcmp : ∀ X : World, (∀ b, b < w.heap.size → b ≠ g → X.heap[b]? = w.heap[b]?) → w.heap.size ≤ X.heap.size → ∀ x y, Calls P f #[.agg (enc x).toArray, .agg (enc y).toArray] X fun e w' => e = .returned (.int .i64 (cf x y)) ∧ Below X.heap.size X w') :
    Calls P (ρ.f 6) #[.slice (some ⟨g, 0, none⟩) l.length cap, .func (.func f) #[] #[]] w fun e w' =>
      e = .returned (.tuple #[]) ∧ ∃ D : List α, D.Perm l ∧ (D.Pairwise fun x y => ¬ cf y x < 0) ∧ (∀ B, B ≤ g → B ≤ w.heap.size → Below B w w') ∧ (∀ b, b < w.heap.size → b ≠ g → w'.heap[b]? = w.heap[b]?) ∧ KRow enc k w' (.slice (some ⟨g, 0, none⟩) l.length cap) D := by
  have hH := ks_holds hk hp hown
  have hlt := own_lt hown g rfl
  have hlc : l.length ≤ cap ∧ cap ≤ maxLen := by
    obtain ⟨A, cap', he, h2, h3, _⟩ := KOwn.row hk hown
    cases he
    exact ⟨h2, h3⟩
  have hc : CmpLays P f #[] enc k cf g 0 l.toArray.size w := fun m os dk hs x y => by
    have := hcmp (sortWorldK enc k w g 0 m dk os) (ks_other g m dk os) (size_sortWorldK_c enc k w g 0 m dk os) x y
    refine (Up.calls_up this).mono ?_
    rintro e w' ⟨⟨rfl, hb⟩, hd⟩
    exact ⟨rfl, Up.grow_of hb (hd ⟨_, rfl⟩)⟩
  have hcon := AnyQ.slices_SortFunc L k aE zE enc hk h1 cf hO f #[] g 0 cap l.toArray w eg hc hH hlt (by simp; omega)
  have hs : l.toArray.size = l.length := by simp
  rw [hs] at hcon
  refine hcon.mono ?_
  rintro e w' ⟨rfl, D, n, os, hpm, hsd, rfl⟩
  have hsz : D.size = l.length := by rw [← hs]; exact hpm.1
  obtain ⟨p1, _, p3⟩ := hpm
  have e1 : D.extract 0 l.length = D := by rw [← hsz]; simp
  have e2 : l.toArray.extract 0 l.length = l.toArray := by rw [← hs]; simp
  rw [e1, e2] at p3
  have hK := holdsK_sortWorldK_c enc k w g 0 l.toArray D n os hH hlt (by rw [hs, hsz])
  refine ⟨rfl, D.toList, by simpa using p3, ?_, fun B hB1 hB2 => ks_below g n D os hB1 hB2, ks_other g n D os, ?_⟩
  · rw [List.pairwise_iff_getElem]
    intro i j hi hj hij
    have := hsd i j (Nat.zero_le _) hij (by rw [← hsz]; simpa using hj)
    unfold ltOf at this
    have h := of_decide_eq_false this
    rw [getElem!_pos D i (by simpa using hi), getElem!_pos D j (by simpa using hj)] at h
    simpa using h
  · have := ks_row (cap := cap) hk hK (Nat.lt_of_lt_of_le hlt (size_sortWorldK_c enc k w g 0 n D os)) (by rw [hsz]; exact hlc.1) hlc.2
    rwa [show D.toList.length = l.length by simpa using hsz] at this
end

end Go.Proofs.YtjeefgamkoeiaaaGreatDoor
