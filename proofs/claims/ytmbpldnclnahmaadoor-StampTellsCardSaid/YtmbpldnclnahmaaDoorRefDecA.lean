/- The walks of the reference's rows of digits: trim, digits, compare. -/
import Derived.Test.YtmbpldnclnahmaaDoorDecPlainC
import Derived.Test.YtmbpldnclnahmaaDoorBase
import Derived.Lib.Hide
import Derived.IntWalk
import Derived.Below
import Derived.Deep.QuietTactic
import Derived.BigQuiet
import Derived.Laws.AppendOwn
import Derived.Laws.OwnMore
import Derived.Laws.AppendOwnNone
import Derived.OwnWalk
set_option linter.unusedVariables false
set_option linter.unusedSimpArgs false
namespace Go.Proofs.YtmbpldnclnahmaaDoor
open Go.RowKit Dc

/-- a slice of bytes that holds these numbers -/
def DR (w : World) (v : Value) (l : List Nat) : Prop :=
  ∃ A cap, v = .slice A l.length cap ∧ l.length ≤ cap ∧ cap ≤ maxLen ∧ (0 < l.length → ∃ b off, A = some ⟨b, off, none⟩ ∧ b < w.heap.size ∧ ∀ j d, l[j]? = some d → w.cell? ⟨b, off + j, none⟩ = some (.int .u8 (d : Nat)))
theorem DR.below {w w' : World} {v : Value} {l : List Nat} (h : DR w v l) (hb : Below w.heap.size w w') : DR w' v l := by
  obtain ⟨A, cap, rfl, h1, h2, h3⟩ := h
  refine ⟨A, cap, rfl, h1, h2, fun h0 => ?_⟩
  obtain ⟨b, off, rfl, hlt, hc⟩ := h3 h0
  exact ⟨b, off, rfl, Nat.lt_of_lt_of_le hlt hb.size, fun j d hj => (hb.cell (p := ⟨b, off + j, none⟩) hlt).trans (hc j d hj)⟩
theorem DR.nil (w : World) : DR w (.slice none 0 0) [] := ⟨none, 0, rfl, Nat.le_refl _, by unfold maxLen; omega, fun h => absurd h (by simp)⟩
def ints (l : List Nat) : List Value := l.map fun d => .int .u8 (d : Nat)
theorem ints_at {l : List Nat} {j : Nat} {d : Nat} (h : l[j]? = some d) : (ints l)[j]? = some (.int .u8 (d : Nat)) := by unfold ints; rw [List.getElem?_map, h]; rfl
theorem ints_len (l : List Nat) : (ints l).length = l.length := List.length_map _
theorem ints_app (a b : List Nat) : ints (a ++ b) = ints a ++ ints b := List.map_append
theorem DR.own {w : World} {base n : Nat} {v : Value} {l : List Nat} (h : w.ownsRow base 5 1 v n (ints l)) : DR w v l := by
  have hn : n = l.length := by have := h.1; rw [ints_len] at this; omega
  subst hn
  rcases h.2 with ⟨rfl, h0⟩ | ⟨g, cap, cur, rfl, hg, hc, h1, h2, h3, h4⟩
  · obtain rfl := List.eq_nil_of_length_eq_zero h0
    exact DR.nil w
  · refine ⟨_, cap, rfl, h1, h2, fun _ => ⟨g, 0, rfl, (Array.getElem?_eq_some_iff.1 hc).1, fun j d hj => ?_⟩⟩
    have hcell := h.cells (g := g) rfl j _ (ints_at hj)
    rw [show ((⟨g, 0, none⟩ : Addr).add j) = ⟨g, j, none⟩ by unfold Addr.add; split <;> simp_all] at hcell
    rw [Nat.zero_add]
    exact hcell
/-- its cells, as what is appended -/
theorem DR.news {w : World} {b off : Nat} {l : List Nat} (hc : ∀ j d, l[j]? = some d → w.cell? ⟨b, off + j, none⟩ = some (.int .u8 (d : Nat))) : ∀ j u, (ints l)[j]? = some u → w.cell? ((⟨b, off, none⟩ : Addr).add j) = some u := by
  intro j u hu
  unfold ints at hu
  rw [List.getElem?_map] at hu
  cases hj : l[j]? with
  | none => rw [hj] at hu; cases hu
  | some d =>
    rw [hj] at hu
    cases hu
    rw [show ((⟨b, off, none⟩ : Addr).add j) = ⟨b, off + j, none⟩ by unfold Addr.add; split <;> simp_all]
    exact hc j d hj
theorem ints_one (l : List Nat) : ∀ u ∈ ints l, u.oneCell' = true := by
  intro u hu
  obtain ⟨d, _, rfl⟩ := List.mem_map.1 hu
  rfl
/-- a row of one number, made anew -/
theorem own_one (w : World) (d : Nat) : (w.alloc (.cells #[.int .u8 (d : Nat)] 5)).ownsRow w.heap.size 5 1 (.slice (some ⟨w.heap.size, 0, none⟩) 1 1) 1 (ints [d]) :=
  ⟨rfl, .inr ⟨w.heap.size, 1, #[.int .u8 (d : Nat)], rfl, Nat.le_refl _, heap_alloc_new w _, Nat.le_refl _, by unfold maxLen; omega, rfl, rfl⟩⟩

set_option maxHeartbeats 1000000 in
theorem rtrim_calls (l : List Nat) (v : Value) (w : World) (hv : DR w v l) (h255 : ∀ d ∈ l, d ≤ 255) :
    Calls Tryd.prog 26 #[v] w fun e w' => ∃ v', e = .returned v' ∧ DR w v' (trimN l) ∧ w = w' := by
  have H255 := Lib.hid h255
  clear h255
  go_enter Tryd.func26, Tryd.ntmps26
  go_wp2
  go_loop [0] (fun s0 => ∃ r : List Nat, DR w s0 r ∧ Hid (trimN r = trimN l)) (fun s0 => match s0 with | .slice _ n _ => n | _ => 0)
  case atStart => exact ⟨l, hv, rfl⟩
  case round =>
    obtain ⟨r, hr, H⟩ := hrel
    clear hv
    obtain ⟨A, cap, rfl, h1, h2, h3⟩ := hr
    have Hc := Lib.hid h3
    have Hm := Lib.hid h2
    unfold maxLen at h2
    clear h3
    cases r with
    | nil =>
      go_wp2
      go_ret
      refine ⟨_, rfl, ?_, rfl⟩
      rw [show trimN l = [] from H.out.symm]
      exact ⟨A, cap, rfl, Nat.zero_le _, Hm.out, fun h => absurd h (by simp)⟩
    | cons d t =>
      obtain ⟨b, off, rfl, hlt, hcs⟩ := Hc.out (by simp)
      have c0 := hcs 0 d rfl
      rw [Nat.add_zero] at c0
      have Hcs := Lib.hid hcs
      rw [List.length_cons] at h1
      rw [show (d :: t).length = t.length + 1 from rfl]
      clear hcs
      by_cases hd : d = 0
      · subst hd
        have hcz : ((0 : Nat) : Int) = 0 := rfl
        by_cases hcap : cap = 1
        · subst hcap
          have ht : t = [] := List.eq_nil_of_length_eq_zero (by omega)
          subst ht
          go_wp2
          go_round
          case rel => exact ⟨[], ⟨_, 0, rfl, Nat.le_refl _, by unfold maxLen; omega, fun h => absurd h (by simp)⟩, H.out⟩
          case measure => simp
        · go_wp2
          go_round
          case rel =>
            refine ⟨t, ⟨_, cap - 1, rfl, by omega, by have := Hm.out; omega, fun _ => ⟨b, off + 1, rfl, hlt, fun j d hj => ?_⟩⟩, H.out⟩
            have h := Hcs.out (j + 1) d (by simpa using hj)
            rwa [show off + 1 + j = off + (j + 1) by omega]
          case measure => simp
      · have hdb : ((d : Int) == 0) = false := by simpa using (by omega : ¬ (d : Int) = 0)
        go_wp2
        go_ret
        refine ⟨_, rfl, ?_, rfl⟩
        have h := H.out
        rw [trimN_pos d t hd] at h
        rw [← h]
        exact ⟨_, cap, rfl, h1, Hm.out, fun _ => ⟨b, off, rfl, hlt, Hcs.out⟩⟩

end Go.Proofs.YtmbpldnclnahmaaDoor
