/- The texts Base, Frame, Str, Build, Cells, one behind the other. -/
import Derived.Test.YtgoibhbmndpgpaaGreatDoorChecked
import Derived.WalkKit
import Derived.Below
import Derived.Lib.Hide
import Derived.IntWalk
import Derived.Deep.Draws
import Derived.Deep.AppendLies
import Derived.Deep.RegionHeld
import Derived.OrdersHeld
import Derived.Test.YtgoibhbmndpgpaaGreatDoorRows
import Derived.ProofKit
import Derived.OpenShut
import Derived.Lib.Strings
import Derived.Laws.Strings3
import Derived.Lib.Builder
import Derived.Lib.AppendStr
import Derived.Lib.UnsafeStr
import Derived.Lib.OthersKept
import Derived.RegionTactic
import Derived.Laws.Externs
import GoSem.ClaimJoined
import Derived.LaidLaws
import Derived.ChangeArms
import Derived.Lib.LaidTab

/- Small lemmas on worlds, used by every walk. -/
set_option linter.unusedVariables false
set_option linter.unusedSimpArgs false
namespace Go.Proofs.YtgoibhbmndpgpaaGreatDoor
open Go.RowKit

/-- One step of a drawn region that only reads, with its side conditions by themselves: what it yields is found by the walk's simp; the goal behind it has the temporaries written out. -/
theorem tk9 {P : Program} {ops : Array Oper} {Q : Exit → Act → World → Prop} {md : Region.Mode} {S : World → Prop} {oi : Oper} {v : Value} {fuel : Nat} {li lj : Array Bool} {a b : Act} {w : World} (i : Nat) (hS : S w) (h : wpAnyH P md ops Q S fuel lj b w)
    (hi : ops[i]? = some oi := by simp only [List.getElem?_toArray, List.getElem?_cons_succ, List.getElem?_cons_zero]; rfl)
    (hs : Region.noSelect ops = true := by kernel_rfl) (hf : Region.free md ops li i = true := by kernel_rfl) (hr : (Region.ready md ops li).contains i = true := by kernel_rfl)
    (hQ : ∀ c a w, Q (.panic c) (a.put oi.dst v) w → Q (.panic c) a w := by exact fun _ _ _ h => h)
    (hy : YieldsIf P ops S oi v a := by refine Or.inl ⟨by rfl, ?_⟩; intro x hSw; (try dsimp only at hSw); first | (go_simp; done) | (go_simp; with_reducible rfl))
    (hl : li.setIfInBounds i true = lj := by (try simp only [List.setIfInBounds_toArray, List.set_cons_zero, List.set_cons_succ]); rfl)
    (hp : a.put oi.dst v = b := by simp only [Act.put, List.setIfInBounds_toArray, List.set_cons_zero, List.set_cons_succ]; rfl) : wpAnyH P md ops Q S (fuel + 1) li a w :=
  wpAnyH_take hi hs hf hr hQ hy hS (by rw [hl, hp]; exact h)
theorem trans9 {w a b : World} (h : Below w.heap.size w a) (k : Below a.heap.size a b) : Below w.heap.size w b := h.trans (k.mono h.size)
theorem below_drewN {B : Nat} {a w : World} (h : Below B a w) (n : Nat) : Below B a (w.drewN n) := ⟨h.os, h.tape, h.output, h.size, h.block⟩
theorem kp_alloc {a w : World} (h : Below a.heap.size a w) (o : Obj) : Below a.heap.size a (w.alloc o) := h.alloc h.size o
theorem kp_set {a w : World} {b i : Nat} {v : Value} (h : Below a.heap.size a w) (hp : a.heap.size ≤ b) : Below a.heap.size a (w.setCell ⟨b, i, none⟩ v) := h.setCell hp v
theorem bcell {W w1 : World} (hb : Below W.heap.size W w1) : (∀ b o, b < W.heap.size → w1.cell? ⟨b, o, none⟩ = W.cell? ⟨b, o, none⟩) ∧ (∀ b o, b < W.heap.size → w1.frozen? ⟨b, o, none⟩ = W.frozen? ⟨b, o, none⟩) :=
  ⟨fun b o h => hb.cell (p := ⟨b, o, none⟩) h, fun b o h => hb.frozen (p := ⟨b, o, none⟩) h⟩
theorem own_below {w w' : World} {base e size n : Nat} {v : Value} {xs : List Value} (h : w.ownsRow base e size v n xs) (hb : Below w.heap.size w w') : w'.ownsRow base e size v n xs := by
  obtain ⟨hl, h⟩ := h
  refine ⟨hl, ?_⟩
  rcases h with h | ⟨g, cap, cur, rfl, hg, hc, h2⟩
  · exact Or.inl h
  · exact Or.inr ⟨g, cap, cur, rfl, hg, by rw [hb.block g (Array.getElem?_eq_some_iff.1 hc).1]; exact hc, h2⟩
theorem own_alloc {w : World} {base e size n : Nat} {v : Value} {xs : List Value} (h : w.ownsRow base e size v n xs) (o : Obj) : (w.alloc o).ownsRow base e size v n xs := own_below h ((Below.refl _ _).alloc (Nat.le_refl _) o)
theorem own_ge {w : World} {base e size n : Nat} {v : Value} {xs : List Value} (h : w.ownsRow base e size v n xs) : ∀ k, v.ownBlock = some k → base ≤ k := by
  rcases h.2 with ⟨rfl, _⟩ | ⟨g, cap, cur, rfl, hg, _⟩
  · intro k hk; cases hk
  · intro k hk; cases hk; exact hg
theorem kb_alloc {a w : World} {B : Nat} (h : Below B a w) (hB : B ≤ a.heap.size) (o : Obj) : Below B a (w.alloc o) := h.alloc (Nat.le_trans hB h.size) o
theorem kb_call {a w b : World} {B : Nat} (h : Below B a w) (hB : B ≤ a.heap.size) (k : Below w.heap.size w b) : Below B a b := h.trans (k.mono (Nat.le_trans hB h.size))
theorem heap_new (w : World) (o : Obj) : (w.alloc o).heap[w.heap.size]? = some o := heap_alloc_new w o
theorem info_parts {P : Program} {t : TypeId} {z : Value} {n m : Nat} (h : (P.info? t).map (fun i => (i.zero, i.size, i.bytes)) = some (some z, n, m)) : ∃ i, P.info? t = some i ∧ i.zero = some z ∧ i.size = n ∧ i.bytes = m := by
  cases hi : P.info? t with
  | none => rw [hi] at h; cases h
  | some i => rw [hi] at h; simp at h; exact ⟨i, rfl, h.1, h.2.1, h.2.2⟩
end Go.Proofs.YtgoibhbmndpgpaaGreatDoor

/- What the arguments of a law hold; the end of a law's proof: a call that makes memory and turns nothing that was there. -/
set_option linter.unusedVariables false
set_option linter.unusedSimpArgs false
namespace Go.Proofs.YtgoibhbmndpgpaaGreatDoor
open Go.ChangeShapes Go.WideShapes Go.ChangeAt Go.RowKit

/-- every argument reads as it did -/
theorem trodAll_below {H : Type} {enc : TypeId × Value → H} {P : Program} {W W' : World} (hl : laidOutB P = true) (hb : Below W.heap.size W W') :
    ∀ {ts : List TypeId} {vs : List Value} {ds : List (DataW H)} {p : List MemPlace}, (ts.all fun t => P.readableRec t && decide (t < P.types.size)) = true →
      DataW.TrodAll enc P W 0 (fun _ => true) true ts vs ds p → (∀ x ∈ p, x.block < W.heap.size) → DataW.TrodAll enc P W' 0 (fun b => decide (b < W.heap.size)) true ts vs ds p
  | [], _, _, _, _, h, _ => by
    obtain ⟨rfl, rfl, rfl⟩ := trodAll_nil h
    exact trodAll_mk0
  | t :: ts, _, _, _, hr, h, hlt => by
    obtain ⟨v, vs1, d, ds1, a, b, rfl, rfl, rfl, h1, h2⟩ := trodAll_cons h
    simp only [List.all_cons, Bool.and_eq_true, decide_eq_true_eq] at hr
    exact ⟨a, b, Below.trod hl hr.1.1 hr.1.2 h1 hb (fun x hx => hlt x (by simp [hx])), trodAll_below hl hb hr.2 h2 (fun x hx => hlt x (by simp [hx])), rfl⟩

theorem post_below {H : Type} {enc : TypeId × Value → H} {P : Program} {f : Func} {s : ChangeSpec} {apart fresh handsOn : Bool} {W W' : World} {args : Array Value} {v : Value} {ds gs : List (DataW H)} {before pa pv : List MemPlace}
    (hb : Below W.heap.size W W')
    (hW : DataW.Whole enc P f.params.toList s.vars apart W args.toList ds gs before)
    (hres : ∀ (b : Nat) (sp : Nat → Bool) (hd : Bool), DataW.TrodAll enc P W' b sp hd f.resultTypes.toList (v.resultList f.resultTypes.size) (s.fn H (ds ++ gs)).results [])
    (hargs : DataW.TrodAll enc P W' 0 (fun b => decide (b < W.heap.size)) true f.params.toList args.toList (s.fn H (ds ++ gs)).args pa)
    (hvars : DataW.TrodVars enc P W' (fun b => decide (b < W.heap.size)) s.vars (s.fn H (ds ++ gs)).vars pv)
    (hps : before = pa ++ pv) : s.post enc P f apart fresh handsOn false W args v W' := by
  refine ⟨ds, gs, before, [], pa, pv, hW, hres _ _ _, hargs, hvars, World.keptBut_mono (fun p hp => ⟨hp, ?_⟩) (hb.frame (· ∈ before)), fun h => by cases h⟩
  rw [hps, List.mem_append] at hp
  exact Or.inr hp

/-- a slice of strings that came in: how many, and which -/
def StrRow (w : World) (v : Value) (n : Nat) (es : Nat → ByteArray) : Prop :=
  ∃ a cap, v = .slice a n cap ∧ n ≤ cap ∧ cap ≤ maxLen ∧ (0 < n → ∃ b off, a = some ⟨b, off, none⟩ ∧ b < w.heap.size ∧ ∀ i, i < n → w.cell? ⟨b, off + i, none⟩ = some (.string (es i)) ∧ (es i).size ≤ maxLen)
theorem cell_lt {w : World} {a : Addr} {v : Value} (h : w.cell? a = some v) : a.block < w.heap.size := by
  unfold World.cell? at h
  split at h
  · rename_i hh; exact (Array.getElem?_eq_some_iff.1 hh).1
  · cases h
theorem i64_bounds {x : Int} (h : (Lit.int .i64 x).wf = true) : -9223372036854775808 ≤ x ∧ x ≤ 9223372036854775807 := by simpa [Lit.wf, IntKind.min, IntKind.max, IntKind.signed, IntKind.bits] using h
theorem u8_bounds {x : Int} (h : (Lit.int .u8 x).wf = true) : 0 ≤ x ∧ x ≤ 255 := by simpa [Lit.wf, IntKind.min, IntKind.max, IntKind.signed, IntKind.bits] using h
end Go.Proofs.YtgoibhbmndpgpaaGreatDoor

/- Texts as lists of their bytes: how long, which byte, what is cut out, what is put together. -/
set_option maxRecDepth 100000
set_option linter.unusedVariables false
set_option linter.unusedSimpArgs false
namespace Go.Proofs.YtgoibhbmndpgpaaGreatDoor
open Go.RowKit

/-- a text of these bytes -/
abbrev str (l : List UInt8) : ByteArray := ⟨l.toArray⟩
theorem str_size (l : List UInt8) : (str l).size = l.length := by rw [Lib.size_eq]
theorem ext_list (s : ByteArray) (a b : Nat) : (s.extract a b).data.toList = (s.data.toList.take b).drop a := by
  rw [ByteArray.data_extract, Array.toList_extract, List.extract_eq_take_drop, List.drop_take]
theorem str_ext {a : ByteArray} {l : List UInt8} (h : a.data.toList = l) : a = str l := ByteArray.ext (by rw [← h])
theorem str_self (s : ByteArray) : s = str s.data.toList := str_ext rfl
theorem str_at (l : List UInt8) (i : Nat) (h : i < (str l).size) : (str l)[i] = l[i]'(by rw [str_size] at h; exact h) := rfl
theorem cut_from (l : List UInt8) (k : Int) (j : Nat) (hk : k = j) (h : j ≤ l.length) (W : World) : (Instr.slice 9 (.string (str l)) (some (.int .i64 k)) none none).run Tryz.prog W = .ok (.string (str (l.drop j))) W := by
  subst hk
  rw [run_slice_string_from_if W _ _ _ _ Tryz.underlying9, if_pos ⟨by omega, by rw [str_size]; omega⟩]
  congr 2
  exact str_ext (by rw [ext_list, str_size]; simp)

end Go.Proofs.YtgoibhbmndpgpaaGreatDoor

/- The walks of (*strings.Builder).copyCheck, WriteString and String, of a builder that the call has made itself. -/
set_option maxRecDepth 100000
set_option linter.unusedVariables false
set_option linter.unusedSimpArgs false
namespace Go.Proofs.YtgoibhbmndpgpaaGreatDoor
open Go.RowKit

theorem own_kind {w : World} {base e n : Nat} {v : Value} {xs : List Value} (h : w.ownsRow base e 1 v n xs) : ∀ g, v.ownBlock = some g → ∃ c fz, w.heap[g]? = some (.cells c e fz) := by
  intro g hg
  rcases h.2 with ⟨rfl, _⟩ | ⟨g', cap, cur, rfl, _, h2, _⟩
  · cases hg
  · cases hg; exact ⟨_, _, h2⟩



end Go.Proofs.YtgoibhbmndpgpaaGreatDoor

/- A package-level table of plain data: what it reads as tells what its cells hold. -/
set_option linter.unusedVariables false
set_option linter.unusedSimpArgs false
namespace Go.Proofs.YtgoibhbmndpgpaaGreatDoor.Plain
open Go

/-- the cell of a plain datum -/
def litVal : Lit → Value
  | .bool b => .bool b
  | .int k n => .int k n
  | .float k b => .float k b
  | .string s => .string ⟨s.toArray⟩
  | _ => .bool false

mutual
def flat {H : Type} : DataW H → List Value
  | .lit l => [litVal l]
  | .agg ds => flatAll ds
  | _ => []
def flatAll {H : Type} : List (DataW H) → List Value
  | [] => []
  | d :: r => flat d ++ flatAll r
end

/-- fields that lie one behind the other, from 'off' on to 'n' -/
def tiles (P : Program) : List Field → Nat → Nat → Bool
  | [], off, n => off == n
  | f :: r, off, n => f.offset == off && tiles P r (off + P.cellsOf f.type) n

/-- a type of plain data alone, laid without gaps -/
def plainB (P : Program) : Nat → TypeId → Bool
  | 0, _ => false
  | k + 1, t =>
    match P.underlying t with
    | some .bool => true
    | some (.int _) => true
    | some .string => true
    | some (.struct fs) => tiles P fs.toList 0 (P.cellsOf t) && fs.toList.all fun f => plainB P k f.type
    | some (.array n e) => P.cellsOf t == n * P.cellsOf e && plainB P k e
    | _ => false

theorem mapM_cons_some {α β : Type} {f : α → Option β} {a : α} {l : List α} {r : List β} (h : (a :: l).mapM f = some r) : ∃ b s, f a = some b ∧ l.mapM f = some s ∧ r = b :: s := by
  simp only [List.mapM_cons, Option.bind_eq_bind, Option.bind_eq_some_iff, Option.pure_def, Option.some.injEq] at h
  obtain ⟨b, hb, s, hs, rfl⟩ := h
  exact ⟨b, s, hb, hs, rfl⟩

theorem flatAll_map {H : Type} (x : DataW H × List MemPlace) (xs : List (DataW H × List MemPlace)) : flatAll ((x :: xs).map (·.1)) = flat x.1 ++ flatAll (xs.map (·.1)) := by
  simp [flatAll]

theorem take_drop_app {α : Type} (cs : List α) (off m : Nat) : (cs.drop off).take m ++ cs.drop (off + m) = cs.drop off := by
  rw [← List.drop_drop]; exact List.take_append_drop m (cs.drop off)

theorem flat_fields {H : Type} {enc : TypeId × Value → H} {P : Program} {w : World} {base : Nat} {sp : Nat → Bool} {held : Bool} {fuel k : Nat} {cs : List Value}
    (ih : ∀ t cs d p, plainB P k t = true → DataW.trod enc P w base sp held fuel t cs = some (d, p) → cs = flat d) :
    ∀ (fs : List Field) (off n : Nat) (xs : List (DataW H × List MemPlace)), tiles P fs off n = true → (fs.all fun f => plainB P k f.type) = true → cs.length = n → off ≤ n →
      (fs.mapM fun f => DataW.trod enc P w base sp held fuel f.type ((cs.drop f.offset).take (P.cellsOf f.type))) = some xs → cs.drop off = flatAll (xs.map (·.1))
  | [], off, n, xs, ht, _, hl, _, hm => by
    simp only [List.mapM_nil, Option.pure_def, Option.some.injEq] at hm
    subst hm
    simp only [tiles, beq_iff_eq] at ht
    simp [flatAll, List.drop_of_length_le (show cs.length ≤ off by omega)]
  | f :: fs, off, n, xs, ht, ha, hl, hle, hm => by
    obtain ⟨b, s, hb, hs, rfl⟩ := mapM_cons_some hm
    simp only [tiles, Bool.and_eq_true, beq_iff_eq] at ht
    simp only [List.all_cons, Bool.and_eq_true] at ha
    have e := ih f.type _ b.1 b.2 ha.1 hb
    have hle' : off + P.cellsOf f.type ≤ n := by
      have : ∀ (gs : List Field) (o : Nat), tiles P gs o n = true → o ≤ n := by
        intro gs
        induction gs with
        | nil => intro o h; simp only [tiles, beq_iff_eq] at h; omega
        | cons g gs ihg => intro o h; simp only [tiles, Bool.and_eq_true, beq_iff_eq] at h; have := ihg _ h.2; omega
      exact this fs _ ht.2
    have r := flat_fields ih fs (off + P.cellsOf f.type) n s ht.2 ha.2 hl hle' hs
    rw [flatAll_map, ← r, ← e, ht.1]
    exact (take_drop_app cs off _).symm

theorem flat_row {H : Type} {enc : TypeId × Value → H} {P : Program} {w : World} {base : Nat} {sp : Nat → Bool} {held : Bool} {fuel k : Nat} {cs : List Value} {e : TypeId}
    (ih : ∀ t cs d p, plainB P k t = true → DataW.trod enc P w base sp held fuel t cs = some (d, p) → cs = flat d) (he : plainB P k e = true) :
    ∀ (m a : Nat) (xs : List (DataW H × List MemPlace)), cs.length = (a + m) * P.cellsOf e →
      ((List.range' a m).mapM fun i => DataW.trod enc P w base sp held fuel e ((cs.drop (i * P.cellsOf e)).take (P.cellsOf e))) = some xs → cs.drop (a * P.cellsOf e) = flatAll (xs.map (·.1))
  | 0, a, xs, hl, hm => by
    simp only [List.range'_zero, List.mapM_nil, Option.pure_def, Option.some.injEq] at hm
    subst hm
    simp [flatAll, List.drop_of_length_le (show cs.length ≤ a * P.cellsOf e by rw [hl]; simp)]
  | m + 1, a, xs, hl, hm => by
    rw [List.range'_succ] at hm
    obtain ⟨b, s, hb, hs, rfl⟩ := mapM_cons_some hm
    have e1 := ih e _ b.1 b.2 he hb
    have r := flat_row ih he m (a + 1) s (by rw [hl]; congr 1; omega) hs
    rw [flatAll_map, ← r, ← e1, Nat.add_mul, Nat.one_mul]
    exact (take_drop_app cs _ _).symm

/-- ████ the cells of plain data are told by what they read as -/
theorem cells_flat {H : Type} {enc : TypeId × Value → H} {P : Program} {w : World} {base : Nat} {sp : Nat → Bool} {held : Bool} : ∀ (k fuel : Nat) (t : TypeId) (cs : List Value) (d : DataW H) (p : List MemPlace),
    plainB P k t = true → DataW.trod enc P w base sp held fuel t cs = some (d, p) → cs = flat d
  | 0, _, _, _, _, _, h, _ => by simp [plainB] at h
  | k + 1, 0, _, _, _, _, _, h => by simp [DataW.trod] at h
  | k + 1, fuel + 1, t, cs, d, p, hp, h => by
    have ih := fun t cs d p => cells_flat (H := H) (enc := enc) (P := P) (w := w) (base := base) (sp := sp) (held := held) k fuel t cs d p
    simp only [plainB] at hp
    cases hu : P.underlying t with
    | none => rw [hu] at hp; simp at hp
    | some u =>
      rw [hu] at hp
      cases u with
      | bool =>
        simp only [DataW.trod, hu] at h
        split at h <;> simp_all
        obtain ⟨rfl, rfl⟩ := h
        simp [flat, litVal]
      | int kk =>
        simp only [DataW.trod, hu] at h
        split at h <;> simp_all
        obtain ⟨_, rfl, rfl⟩ := h
        simp [flat, litVal]
      | string =>
        simp only [DataW.trod, hu] at h
        split at h <;> simp_all
        obtain ⟨_, rfl, rfl⟩ := h
        simp [flat, litVal]
      | struct fs =>
        simp only [Bool.and_eq_true] at hp
        simp only [DataW.trod, hu] at h
        split at h
        · rename_i hl
          obtain ⟨xs, hm, hx⟩ := Option.map_eq_some_iff.1 h
          have := flat_fields ih fs.toList 0 _ xs hp.1 hp.2 hl (by omega) hm
          simp only [List.drop_zero] at this
          rw [this]
          simp only [Prod.mk.injEq] at hx
          rw [← hx.1]
          simp [flat]
        · simp at h
      | array n e =>
        simp only [Bool.and_eq_true, beq_iff_eq] at hp
        simp only [DataW.trod, hu] at h
        split at h
        · rename_i hl
          obtain ⟨xs, hm, hx⟩ := Option.map_eq_some_iff.1 h
          rw [List.range_eq_range'] at hm
          have := flat_row ih hp.2 n 0 xs (by rw [hl, hp.1]; simp) hm
          simp only [Nat.zero_mul, List.drop_zero] at this
          rw [this]
          simp only [Prod.mk.injEq] at hx
          rw [← hx.1]
          simp [flat]
        · simp at h
      | _ => simp at hp

/-- a listed variable of plain data holds just these cells -/
theorem var_cells {P : Program} {W : World} {name : String} {d : DataW Unit} : ∀ {l : List (String × DataW Unit)} {ps : List MemPlace}, DataW.LaidVars P W l ps → (name, d) ∈ l →
    ∃ g t cs fuel p, P.globalNamed name = some g ∧ (P.globals[g]?).map (·.type) = some t ∧ W.var? P name = some cs ∧ DataW.trod (fun _ => ()) P W 0 (fun _ => true) false fuel t cs.toList = some (d, p)
  | [], _, _, h => by cases h
  | x :: l, ps, hL, h => by
    obtain ⟨n, d'⟩ := x
    obtain ⟨g, t, cs, fuel, p, q, hg, ht, hv, hd, hr, _⟩ := hL
    rcases List.mem_cons.1 h with e | e
    · cases e; exact ⟨g, t, cs, fuel, p, hg, ht, hv, hd⟩
    · exact var_cells hr e

theorem heap_of_var {P : Program} {W : World} {name : String} {g : Nat} {cs : Array Value} (hg : P.globalNamed name = some g) (h : W.var? P name = some cs) : ∃ t fr, W.heap[g]? = some (.cells cs t fr) := by
  unfold World.var? at h
  rw [hg] at h
  simp only [Option.bind_some] at h
  split at h
  · rename_i c t fr hc
    cases h
    exact ⟨t, fr, hc⟩
  · cases h

/-- ████ what a row's list gives: the variable's block -/
theorem laid_block {P : Program} {W : World} {l : List (String × DataW Unit)} {name : String} {d : DataW Unit} {g k : Nat} {t : TypeId} (hL : laidMet P l W) (hm : (name, d) ∈ l) (hg : P.globalNamed name = some g)
    (ht : (P.globals[g]?).map (·.type) = some t) (hp : plainB P k t = true) : ∃ u fr, W.heap[g]? = some (.cells (flat d).toArray u fr) := by
  obtain ⟨ps, hv, _⟩ := hL
  obtain ⟨g', t', cs, fuel, p, hg', ht', hvar, hd⟩ := var_cells hv hm
  obtain rfl := Option.some.inj (hg.symm.trans hg')
  obtain rfl := Option.some.inj (ht.symm.trans ht')
  obtain ⟨u, fr, h⟩ := heap_of_var hg hvar
  have e := cells_flat k fuel t cs.toList d p hp hd
  exact ⟨u, fr, by rw [h, ← e, Array.toArray_toList]⟩

end Go.Proofs.YtgoibhbmndpgpaaGreatDoor.Plain
