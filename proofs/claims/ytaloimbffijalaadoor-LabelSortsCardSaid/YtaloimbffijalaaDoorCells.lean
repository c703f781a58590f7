/- A package-level table of plain data: what it reads as tells what its cells hold. -/
import GoSem.ClaimJoined
import Derived.LaidLaws
import Derived.ChangeArms
import Derived.Lib.LaidTab
set_option linter.unusedVariables false
set_option linter.unusedSimpArgs false
namespace Go.Proofs.YtaloimbffijalaaDoor.Plain
open Go

/-- the cell of a plain datum -/
def litVal : Lit → Value
  | .bool b => .bool b
  | .int k n => .int k n
  | .float k b => .float k b
  | .string s => .string ⟨s.toArray⟩
  | _ => .bool false

mutual
def flat {H : Type} : DataW H → List Value
  | .lit l => [litVal l]
  | .agg ds => flatAll ds
  | _ => []
def flatAll {H : Type} : List (DataW H) → List Value
  | [] => []
  | d :: r => flat d ++ flatAll r
end

/-- fields that lie one behind the other, from 'off' on to 'n' -/
def tiles (P : Program) : List Field → Nat → Nat → Bool
  | [], off, n => off == n
  | f :: r, off, n => f.offset == off && tiles P r (off + P.cellsOf f.type) n

/-- a type of plain data alone, laid without gaps -/
def plainB (P : Program) : Nat → TypeId → Bool
  | 0, _ => false
  | k + 1, t =>
    match P.underlying t with
    | some .bool => true
    | some (.int _) => true
    | some .string => true
    | some (.struct fs) => tiles P fs.toList 0 (P.cellsOf t) && fs.toList.all fun f => plainB P k f.type
    | some (.array n e) => P.cellsOf t == n * P.cellsOf e && plainB P k e
    | _ => false

theorem mapM_cons_some {α β : Type} {f : α → Option β} {a : α} {l : List α} {r : List β} (h : (a :: l).mapM f = some r) : ∃ b s, f a = some b ∧ l.mapM f = some s ∧ r = b :: s := by
  simp only [List.mapM_cons, Option.bind_eq_bind, Option.bind_eq_some_iff, Option.pure_def, Option.some.injEq] at h
  obtain ⟨b, hb, s, hs, rfl⟩ := h
  exact ⟨b, s, hb, hs, rfl⟩

theorem flatAll_map {H : Type} (x : DataW H × List MemPlace) (xs : List (DataW H × List MemPlace)) : flatAll ((x :: xs).map (·.1)) = flat x.1 ++ flatAll (xs.map (·.1)) := by
  simp [flatAll]

theorem take_drop_app {α : Type} (cs : List α) (off m : Nat) : (cs.drop off).take m ++ cs.drop (off + m) = cs.drop off := by
  rw [← List.drop_drop]; exact List.take_append_drop m (cs.drop off)

theorem flat_fields {H : Type} {enc : TypeId × Value → H} {P : Program} {w : World} {base : Nat} {sp : Nat → Bool} {held : Bool} {fuel k : Nat} {cs : List Value}
    (ih : ∀ t cs d p, plainB P k t = true → DataW.trod enc P w base sp held fuel t cs = some (d, p) → cs = flat d) :
    ∀ (fs : List Field) (off n : Nat) (xs : List (DataW H × List MemPlace)), tiles P fs off n = true → (fs.all fun f => plainB P k f.type) = true → cs.length = n → off ≤ n →
      (fs.mapM fun f => DataW.trod enc P w base sp held fuel f.type ((cs.drop f.offset).take (P.cellsOf f.type))) = some xs → cs.drop off = flatAll (xs.map (·.1))
  | [], off, n, xs, ht, _, hl, _, hm => by
    simp only [List.mapM_nil, Option.pure_def, Option.some.injEq] at hm
    subst hm
    simp only [tiles, beq_iff_eq] at ht
    simp [flatAll, List.drop_of_length_le (show cs.length ≤ off by omega)]
  | f :: fs, off, n, xs, ht, ha, hl, hle, hm => by
    obtain ⟨b, s, hb, hs, rfl⟩ := mapM_cons_some hm
    simp only [tiles, Bool.and_eq_true, beq_iff_eq] at ht
    simp only [List.all_cons, Bool.and_eq_true] at ha
    have e := ih f.type _ b.1 b.2 ha.1 hb
    have hle' : off + P.cellsOf f.type ≤ n := by
      have : ∀ (gs : List Field) (o : Nat), tiles P gs o n = true → o ≤ n := by
        intro gs
        induction gs with
        | nil => intro o h; simp only [tiles, beq_iff_eq] at h; omega
        | cons g gs ihg => intro o h; simp only [tiles, Bool.and_eq_true, beq_iff_eq] at h; have := ihg _ h.2; omega
      exact this fs _ ht.2
    have r := flat_fields ih fs (off + P.cellsOf f.type) n s ht.2 ha.2 hl hle' hs
    rw [flatAll_map, ← r, ← e, ht.1]
    exact (take_drop_app cs off _).symm

theorem flat_row {H : Type} {enc : TypeId × Value → H} {P : Program} {w : World} {base : Nat} {sp : Nat → Bool} {held : Bool} {fuel k : Nat} {cs : List Value} {e : TypeId}
    (ih : ∀ t cs d p, plainB P k t = true → DataW.trod enc P w base sp held fuel t cs = some (d, p) → cs = flat d) (he : plainB P k e = true) :
    ∀ (m a : Nat) (xs : List (DataW H × List MemPlace)), cs.length = (a + m) * P.cellsOf e →
      ((List.range' a m).mapM fun i => DataW.trod enc P w base sp held fuel e ((cs.drop (i * P.cellsOf e)).take (P.cellsOf e))) = some xs → cs.drop (a * P.cellsOf e) = flatAll (xs.map (·.1))
  | 0, a, xs, hl, hm => by
    simp only [List.range'_zero, List.mapM_nil, Option.pure_def, Option.some.injEq] at hm
    subst hm
    simp [flatAll, List.drop_of_length_le (show cs.length ≤ a * P.cellsOf e by rw [hl]; simp)]
  | m + 1, a, xs, hl, hm => by
    rw [List.range'_succ] at hm
    obtain ⟨b, s, hb, hs, rfl⟩ := mapM_cons_some hm
    have e1 := ih e _ b.1 b.2 he hb
    have r := flat_row ih he m (a + 1) s (by rw [hl]; congr 1; omega) hs
    rw [flatAll_map, ← r, ← e1, Nat.add_mul, Nat.one_mul]
    exact (take_drop_app cs _ _).symm

/-- ████ the cells of plain data are told by what they read as -/
theorem cells_flat {H : Type} {enc : TypeId × Value → H} {P : Program} {w : World} {base : Nat} {sp : Nat → Bool} {held : Bool} : ∀ (k fuel : Nat) (t : TypeId) (cs : List Value) (d : DataW H) (p : List MemPlace),
    plainB P k t = true → DataW.trod enc P w base sp held fuel t cs = some (d, p) → cs = flat d
  | 0, _, _, _, _, _, h, _ => by simp [plainB] at h
  | k + 1, 0, _, _, _, _, _, h => by simp [DataW.trod] at h
  | k + 1, fuel + 1, t, cs, d, p, hp, h => by
    have ih := fun t cs d p => cells_flat (H := H) (enc := enc) (P := P) (w := w) (base := base) (sp := sp) (held := held) k fuel t cs d p
    simp only [plainB] at hp
    cases hu : P.underlying t with
    | none => rw [hu] at hp; simp at hp
    | some u =>
      rw [hu] at hp
      cases u with
      | bool =>
        simp only [DataW.trod, hu] at h
        split at h <;> simp_all
        obtain ⟨rfl, rfl⟩ := h
        simp [flat, litVal]
      | int kk =>
        simp only [DataW.trod, hu] at h
        split at h <;> simp_all
        obtain ⟨_, rfl, rfl⟩ := h
        simp [flat, litVal]
      | string =>
        simp only [DataW.trod, hu] at h
        split at h <;> simp_all
        obtain ⟨_, rfl, rfl⟩ := h
        simp [flat, litVal]
      | struct fs =>
        simp only [Bool.and_eq_true] at hp
        simp only [DataW.trod, hu] at h
        split at h
        · rename_i hl
          obtain ⟨xs, hm, hx⟩ := Option.map_eq_some_iff.1 h
          have := flat_fields ih fs.toList 0 _ xs hp.1 hp.2 hl (by omega) hm
          simp only [List.drop_zero] at this
          rw [this]
          simp only [Prod.mk.injEq] at hx
          rw [← hx.1]
          simp [flat]
        · simp at h
      | array n e =>
        simp only [Bool.and_eq_true, beq_iff_eq] at hp
        simp only [DataW.trod, hu] at h
        split at h
        · rename_i hl
          obtain ⟨xs, hm, hx⟩ := Option.map_eq_some_iff.1 h
          rw [List.range_eq_range'] at hm
          have := flat_row ih hp.2 n 0 xs (by rw [hl, hp.1]; simp) hm
          simp only [Nat.zero_mul, List.drop_zero] at this
          rw [this]
          simp only [Prod.mk.injEq] at hx
          rw [← hx.1]
          simp [flat]
        · simp at h
      | _ => simp at hp

/-- a listed variable of plain data holds just these cells -/
theorem var_cells {P : Program} {W : World} {name : String} {d : DataW Unit} : ∀ {l : List (String × DataW Unit)} {ps : List MemPlace}, DataW.LaidVars P W l ps → (name, d) ∈ l →
    ∃ g t cs fuel p, P.globalNamed name = some g ∧ (P.globals[g]?).map (·.type) = some t ∧ W.var? P name = some cs ∧ DataW.trod (fun _ => ()) P W 0 (fun _ => true) false fuel t cs.toList = some (d, p)
  | [], _, _, h => by cases h
  | x :: l, ps, hL, h => by
    obtain ⟨n, d'⟩ := x
    obtain ⟨g, t, cs, fuel, p, q, hg, ht, hv, hd, hr, _⟩ := hL
    rcases List.mem_cons.1 h with e | e
    · cases e; exact ⟨g, t, cs, fuel, p, hg, ht, hv, hd⟩
    · exact var_cells hr e

theorem heap_of_var {P : Program} {W : World} {name : String} {g : Nat} {cs : Array Value} (hg : P.globalNamed name = some g) (h : W.var? P name = some cs) : ∃ t fr, W.heap[g]? = some (.cells cs t fr) := by
  unfold World.var? at h
  rw [hg] at h
  simp only [Option.bind_some] at h
  split at h
  · rename_i c t fr hc
    cases h
    exact ⟨t, fr, hc⟩
  · cases h

/-- ████ what a row's list gives: the variable's block -/
theorem laid_block {P : Program} {W : World} {l : List (String × DataW Unit)} {name : String} {d : DataW Unit} {g k : Nat} {t : TypeId} (hL : laidMet P l W) (hm : (name, d) ∈ l) (hg : P.globalNamed name = some g)
    (ht : (P.globals[g]?).map (·.type) = some t) (hp : plainB P k t = true) : ∃ u fr, W.heap[g]? = some (.cells (flat d).toArray u fr) := by
  obtain ⟨ps, hv, _⟩ := hL
  obtain ⟨g', t', cs, fuel, p, hg', ht', hvar, hd⟩ := var_cells hv hm
  obtain rfl := Option.some.inj (hg.symm.trans hg')
  obtain rfl := Option.some.inj (ht.symm.trans ht')
  obtain ⟨u, fr, h⟩ := heap_of_var hg hvar
  have e := cells_flat k fuel t cs.toList d p hp hd
  exact ⟨u, fr, by rw [h, ← e, Array.toArray_toList]⟩

end Go.Proofs.YtaloimbffijalaaDoor.Plain
