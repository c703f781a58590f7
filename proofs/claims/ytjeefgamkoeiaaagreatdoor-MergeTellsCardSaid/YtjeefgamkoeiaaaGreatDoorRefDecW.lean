/- The texts RefDecA, RefDecB, RefDecC, RefDecE2, one behind the other. -/
import Derived.Test.YtjeefgamkoeiaaaGreatDoorDecP
import Derived.Test.YtjeefgamkoeiaaaGreatDoorGrd
import Derived.Lib.Hide
import Derived.IntWalk
import Derived.Below
import Derived.Deep.QuietTactic
import Derived.BigQuiet
import Derived.Laws.AppendOwn
import Derived.Laws.OwnMore
import Derived.Laws.AppendOwnNone
import Derived.OwnWalk
import Derived.Deep.AppendLies
import Derived.Test.YtjeefgamkoeiaaaGreatDoorDecW
import Derived.Lib.Strings

/- The walks of the reference's rows of digits: trim, digits, compare. -/
set_option linter.unusedVariables false
set_option linter.unusedSimpArgs false
namespace Go.Proofs.YtjeefgamkoeiaaaGreatDoor
open Go.RowKit Dc

/-- a slice of bytes that holds these numbers -/
def DR (w : World) (v : Value) (l : List Nat) : Prop :=
  ∃ A cap, v = .slice A l.length cap ∧ l.length ≤ cap ∧ cap ≤ maxLen ∧ (0 < l.length → ∃ b off, A = some ⟨b, off, none⟩ ∧ b < w.heap.size ∧ ∀ j d, l[j]? = some d → w.cell? ⟨b, off + j, none⟩ = some (.int .u8 (d : Nat)))
theorem DR.below {w w' : World} {v : Value} {l : List Nat} (h : DR w v l) (hb : Below w.heap.size w w') : DR w' v l := by
  obtain ⟨A, cap, rfl, h1, h2, h3⟩ := h
  refine ⟨A, cap, rfl, h1, h2, fun h0 => ?_⟩
  obtain ⟨b, off, rfl, hlt, hc⟩ := h3 h0
  exact ⟨b, off, rfl, Nat.lt_of_lt_of_le hlt hb.size, fun j d hj => (hb.cell (p := ⟨b, off + j, none⟩) hlt).trans (hc j d hj)⟩
theorem DR.nil (w : World) : DR w (.slice none 0 0) [] := ⟨none, 0, rfl, Nat.le_refl _, by unfold maxLen; omega, fun h => absurd h (by simp)⟩
def ints (l : List Nat) : List Value := l.map fun d => .int .u8 (d : Nat)
theorem ints_at {l : List Nat} {j : Nat} {d : Nat} (h : l[j]? = some d) : (ints l)[j]? = some (.int .u8 (d : Nat)) := by unfold ints; rw [List.getElem?_map, h]; rfl
theorem ints_len (l : List Nat) : (ints l).length = l.length := List.length_map _
theorem ints_app (a b : List Nat) : ints (a ++ b) = ints a ++ ints b := List.map_append
theorem DR.own {w : World} {base n : Nat} {v : Value} {l : List Nat} (h : w.ownsRow base 5 1 v n (ints l)) : DR w v l := by
  have hn : n = l.length := by have := h.1; rw [ints_len] at this; omega
  subst hn
  rcases h.2 with ⟨rfl, h0⟩ | ⟨g, cap, cur, rfl, hg, hc, h1, h2, h3, h4⟩
  · obtain rfl := List.eq_nil_of_length_eq_zero h0
    exact DR.nil w
  · refine ⟨_, cap, rfl, h1, h2, fun _ => ⟨g, 0, rfl, (Array.getElem?_eq_some_iff.1 hc).1, fun j d hj => ?_⟩⟩
    have hcell := h.cells (g := g) rfl j _ (ints_at hj)
    rw [show ((⟨g, 0, none⟩ : Addr).add j) = ⟨g, j, none⟩ by unfold Addr.add; split <;> simp_all] at hcell
    rw [Nat.zero_add]
    exact hcell
/-- its cells, as what is appended -/
theorem DR.news {w : World} {b off : Nat} {l : List Nat} (hc : ∀ j d, l[j]? = some d → w.cell? ⟨b, off + j, none⟩ = some (.int .u8 (d : Nat))) : ∀ j u, (ints l)[j]? = some u → w.cell? ((⟨b, off, none⟩ : Addr).add j) = some u := by
  intro j u hu
  unfold ints at hu
  rw [List.getElem?_map] at hu
  cases hj : l[j]? with
  | none => rw [hj] at hu; cases hu
  | some d =>
    rw [hj] at hu
    cases hu
    rw [show ((⟨b, off, none⟩ : Addr).add j) = ⟨b, off + j, none⟩ by unfold Addr.add; split <;> simp_all]
    exact hc j d hj
theorem ints_one (l : List Nat) : ∀ u ∈ ints l, u.oneCell' = true := by
  intro u hu
  obtain ⟨d, _, rfl⟩ := List.mem_map.1 hu
  rfl
end Go.Proofs.YtjeefgamkoeiaaaGreatDoor

/- The walks of the reference's digits of a number, and of what compares two rows of them. -/
set_option linter.unusedVariables false
set_option linter.unusedSimpArgs false
namespace Go.Proofs.YtjeefgamkoeiaaaGreatDoor
open Go.RowKit Dc

theorem own_one' (w : World) (B d : Nat) (z : Int) (hz : z = (d : Nat)) (hB : B ≤ w.heap.size) : (w.alloc (.cells #[.int .u8 z] 5)).ownsRow B 5 1 (.slice (some ⟨w.heap.size, 0, none⟩) 1 1) 1 (ints [d]) :=
  by subst hz; exact ⟨rfl, .inr ⟨w.heap.size, 1, #[.int .u8 (d : Nat)], rfl, hB, heap_alloc_new w _, Nat.le_refl _, by unfold maxLen; omega, rfl, rfl⟩⟩

set_option maxHeartbeats 2000000 in
theorem rdigits_calls (n : Nat) (w : World) (hn : n < 18446744073709551616) :
    Calls Tryz.prog 123 #[.int .u64 (n : Nat)] w fun e w' => ∃ v, e = .returned v ∧ DR w' v (digs n) ∧ Below w.heap.size w w' := by
  obtain ⟨i0, hi, hz0, hz1, hz2⟩ := info_parts (P := Tryz.prog) (t := 5) (z := .int .u8 0) (n := 1) (m := 1) (by kernel_rfl)
  have hlen : (digs n).length ≤ 20 := digs_len_le (by omega)
  have Hlen := Lib.hid hlen
  have Hi := Lib.hid hi
  have Hz0 := Lib.hid hz0
  have Hz1 := Lib.hid hz1
  have Hz2 := Lib.hid hz2
  clear hlen hi hz0 hz1 hz2
  go_enter Tryz.func123, Tryz.ntmps123
  go_wp2
  go_loopw [0, 3] (fun s0 s3 wr => ∃ (q : Nat) (l : List Nat), q ≤ n ∧ s0 = .int .u64 (q : Nat) ∧ Hid (digs q ++ l = digs n ∧ Below w.heap.size w wr) ∧ ((l = [] ∧ s3 = .slice none 0 0) ∨ ∃ g cap, 0 < l.length ∧ s3 = .slice (some ⟨g, 0, none⟩) l.length cap ∧ Hid (wr.ownsRow w.heap.size 5 1 (.slice (some ⟨g, 0, none⟩) l.length cap) l.length (ints l)))) (fun s0 _ _ => (intOf s0).toNat)
  case atStart => exact ⟨n, [], Nat.le_refl _, rfl, ⟨by simp, Below.refl _ _⟩, Or.inl ⟨rfl, rfl⟩⟩
  case round =>
    obtain ⟨q, l, hq, rfl, H, hl⟩ := hrel
    by_cases h0 : q = 0
    · subst h0
      rcases hl with ⟨rfl, rfl⟩ | ⟨g, cap, hl0, rfl, Ho⟩
      · go_wp2
        go_ret
        have h := H.out.1
        rw [digs_zero] at h
        exact ⟨_, rfl, by rw [← h]; exact DR.nil _, H.out.2⟩
      · go_wp2
        go_ret
        have h := H.out.1
        rw [digs_zero] at h
        exact ⟨_, rfl, by rw [← h]; exact DR.own Ho.out, H.out.2⟩
    · have hstep : Hid (digs (q / 10) ++ (q % 10 :: l) = digs n) := by
        have h := H.out.1
        rw [digs_pos h0, List.append_assoc] at h
        exact h
      have E1 := Lib.hid (show ((q : Int) % 10) = ((q % 10 : Nat) : Int) by omega)
      have E2 := Lib.hid (show ((q : Int) / 10) = ((q / 10 : Nat) : Int) by omega)
      have hB := Lib.hid H.out.2
      have hbs := H.out.2.size
      have hq0 : 0 < q := by omega
      have hll : l.length ≤ 20 := by
        have h := congrArg List.length H.out.1
        have := Hlen.out
        rw [List.length_append] at h; omega
      clear H
      rcases hl with ⟨rfl, rfl⟩ | ⟨g, cap, hl0, rfl, Ho⟩
      · go_wp2_with (at_builtin; refine wpList_append_own_none rfl _ _ _ (by rfl) w.heap.size 5 i0 1 Tryz.underlying115 Hi.out _ 1 (ints [q % 10]) (by rfl) (own_one' _ _ (q % 10) ((q : Int) % 10) E1.out hbs) (by rfl) ?_)
        go_roundw
        case rel =>
          rw [E2.out]
          exact ⟨q / 10, [q % 10], by omega, rfl, ⟨hstep.out, kb_alloc hB.out (Nat.le_refl _) _⟩, Or.inr ⟨_, 1, by simp, rfl, own_one' _ _ (q % 10) ((q : Int) % 10) E1.out hbs⟩⟩
        case measure => simp [intOf]; omega
      · have hown := own_alloc Ho.out (.cells #[.int .u8 ((q : Int) % 10)] 5)
        have hnews : ∀ j u, (ints l)[j]? = some u → (wr.alloc (.cells #[.int .u8 ((q : Int) % 10)] 5)).cell? ((⟨g, 0, none⟩ : Addr).add j) = some u := hown.cells (g := g) rfl
        have Hnews := Lib.hid hnews
        clear hown hnews
        go_wp2_with (at_builtin; refine wpList_append_lies _ rfl _ _ _ (by rfl) w.heap.size 5 i0 _ 1 1 Tryz.underlying115 Hi.out Hz0.out Hz1.out Hz2.out rfl (by omega) _ 1 (ints [q % 10]) (by rfl) (own_one' _ _ (q % 10) ((q : Int) % 10) E1.out hbs) ⟨g, 0, none⟩ l.length cap (ints l) (by rfl) (by rw [ints_len]; omega) Hnews.out (ints_one l) hl0 (by unfold maxLen; omega) (by omega) (by simp; omega) _ rfl ?_)
        intro g2 cap2 w3 hown3 hgrow hat hlt
        have Hown3 := Lib.hid hown3
        have hB3 := Lib.hid ((kb_alloc hB.out (Nat.le_refl _) (.cells #[.int .u8 ((q : Int) % 10)] 5)).grown hgrow (by simp; omega) (fun k hk => by cases hk; exact hbs))
        clear hown3 hgrow hat hlt
        go_wp2
        go_roundw
        case rel =>
          rw [E2.out]
          refine ⟨q / 10, q % 10 :: l, by omega, rfl, ⟨hstep.out, hB3.out⟩, Or.inr ⟨g2, cap2, by simp, by rw [List.length_cons, Nat.add_comm], ?_⟩⟩
          have h := Hown3.out
          rw [← ints_app, Nat.add_comm 1] at h
          exact h
        case measure => simp [intOf]; omega

set_option maxHeartbeats 2000000 in
theorem rcompare_calls (l r : List Nat) (v u : Value) (w : World) (hv : DR w v l) (hu : DR w u r) :
    Calls Tryz.prog 93 #[v, u] w fun e w' => e = .returned (.int .i64 (cmpN l r)) ∧ Below w.heap.size w w' := by
  obtain ⟨A, cap, rfl, h1, h2, h3⟩ := hv
  obtain ⟨A', cap', rfl, h1', h2', h3'⟩ := hu
  have Hl := Lib.hid h3
  have Hr := Lib.hid h3'
  unfold maxLen at h2 h2'
  clear h3 h3'
  by_cases hne : l.length = r.length
  · have Hne := Lib.hid hne
    have hcmp : Hid (cmpN l r = lexN l r) := by show _ = _; unfold cmpN; rw [if_neg (by simpa using hne)]
    have hneb : ((l.length : Int) != (r.length : Int)) = false := by rw [hne]; simp
    clear hne
    go_enter Tryz.func93, Tryz.ntmps93
    go_wp2
    go_loopw [5] (fun s5 wr => ∃ i : Nat, i ≤ l.length ∧ s5 = .int .i64 (i : Nat) ∧ Hid (lexN (l.drop i) (r.drop i) = lexN l r ∧ Below w.heap.size w wr)) (fun s5 _ => l.length - (intOf s5).toNat)
    case atStart => exact ⟨0, by omega, rfl, rfl, Below.refl _ _⟩
    case round =>
      obtain ⟨i, hi, rfl, H⟩ := hrel
      obtain ⟨hlex, hB⟩ := H.out
      by_cases hil : i < l.length
      · obtain ⟨b, off, rfl, hlt, hc⟩ := Hl.out (by omega)
        have hir : i < r.length := by have := Hne.out; omega
        obtain ⟨b', off', rfl, hlt', hc'⟩ := Hr.out (by omega)
        have c1 := (hB.cell (p := ⟨b, off + i, none⟩) hlt).trans (hc i l[i] (List.getElem?_eq_getElem hil))
        have c2 := (hB.cell (p := ⟨b', off' + i, none⟩) hlt').trans (hc' i r[i] (List.getElem?_eq_getElem hir))
        rw [List.drop_eq_getElem_cons hil, List.drop_eq_getElem_cons hir, lexN] at hlex
        have Hlex := Lib.hid hlex
        have HB := Lib.hid hB
        clear hc hc' hlex hB H
        generalize l[i] = x at *
        generalize r[i] = y at *
        have hxy : x < y ∨ y < x ∨ x = y := by omega
        rcases hxy with hx | hx | hx
        · have d1 : decide ((x : Int) < (y : Int)) = true := by simp; omega
          have d2 : decide (x < y) = true := by simp; omega
          have Hx := Lib.hid hx
          clear hx
          go_wp2
          go_quiet (fail)
          go_wp2
          go_ret
          have h := Hlex.out
          rw [if_pos Hx.out] at h
          exact ⟨by rw [hcmp.out, ← h]; rfl, below_drewN HB.out nq⟩
        · have d1 : decide ((x : Int) < (y : Int)) = false := by simp; omega
          have d2 : decide (x < y) = false := by simp; omega
          have d3 : decide ((y : Int) < (x : Int)) = true := by simp; omega
          have d4 : decide (y < x) = true := by simp; omega
          have Hx := Lib.hid hx
          clear hx
          go_wp2
          go_quiet (fail)
          go_wp2
          go_quiet (fail)
          go_wp2
          go_ret
          have h := Hlex.out
          rw [if_neg (by have := Hx.out; omega), if_pos Hx.out] at h
          exact ⟨by rw [hcmp.out, ← h]; rfl, (by repeat (first | exact HB.out | refine below_drewN ?_ _))⟩
        · subst hx
          have d1 : decide ((x : Int) < (x : Int)) = false := by simp
          have d2 : decide (x < x) = false := by simp
          go_wp2
          go_quiet (fail)
          go_wp2
          go_quiet (fail)
          go_wp2
          go_roundw
          case rel =>
            have h := Hlex.out
            rw [if_neg (by omega), if_neg (by omega)] at h
            exact ⟨i + 1, hil, by go_num, h, (by repeat (first | exact HB.out | refine below_drewN ?_ _))⟩
          case measure => simp [intOf]; omega
      · have hend : lexN l r = 0 := by
          rw [← hlex, List.drop_eq_nil_of_le (by omega)]; rfl
        have HB := Lib.hid hB
        have Hend := Lib.hid hend
        clear hend hlex hB H
        go_wp2
        go_ret
        exact ⟨by rw [hcmp.out, Hend.out]; rfl, HB.out⟩
  · have hneb : ((l.length : Int) != (r.length : Int)) = true := by simpa using (by omega : ¬ (l.length : Int) = (r.length : Int))
    have hcmp : cmpN l r = if l.length < r.length then -1 else 1 := by unfold cmpN; rw [if_pos hne]
    by_cases hlt : l.length < r.length
    · rw [if_pos hlt] at hcmp
      have Hc := Lib.hid hcmp
      clear hcmp hne
      go_enter Tryz.func93, Tryz.ntmps93
      go_wp2
      go_ret
      exact ⟨by rw [Hc.out]; rfl, Below.refl _ _⟩
    · rw [if_neg hlt] at hcmp
      have Hc := Lib.hid hcmp
      clear hcmp hne
      go_enter Tryz.func93, Tryz.ntmps93
      go_wp2
      go_ret
      exact ⟨by rw [Hc.out]; rfl, Below.refl _ _⟩

end Go.Proofs.YtjeefgamkoeiaaaGreatDoor

/- The walks of the reference's amount, within, decimal, Norm. -/
set_option linter.unusedVariables false
set_option linter.unusedSimpArgs false
namespace Go.Proofs.YtjeefgamkoeiaaaGreatDoor
open Go.RowKit Dc

set_option maxHeartbeats 1000000 in
theorem ramount_calls (m : Int) (w : World) (h1 : -9223372036854775808 ≤ m) (h2 : m ≤ 9223372036854775807) :
    Calls Tryz.prog 92 #[.int .i64 m] w fun e w' => ∃ v, e = .returned v ∧ DR w' v (digs m.natAbs) ∧ Below w.heap.size w w' := by
  have hc := rdigits_calls m.natAbs w (by omega)
  by_cases h0 : m < 0
  · have hc' : Calls Tryz.prog 123 #[.int .u64 (-(m + 1) + 1)] w fun e w' => ∃ v, e = .returned v ∧ DR w' v (digs m.natAbs) ∧ Below w.heap.size w w' := by
      rwa [show ((m.natAbs : Nat) : Int) = -(m + 1) + 1 by omega] at hc
    have Hc := Lib.hid hc'
    clear hc hc'
    go_enter Tryz.func92, Tryz.ntmps92
    go_wp2_with fail
    refine Hc.out.mono ?_; rintro e w1 ⟨v, rfl, d1, b1⟩
    go_wp2
    go_ret
    exact ⟨v, rfl, d1, b1⟩
  · have hc' : Calls Tryz.prog 123 #[.int .u64 m] w fun e w' => ∃ v, e = .returned v ∧ DR w' v (digs m.natAbs) ∧ Below w.heap.size w w' := by
      rwa [show ((m.natAbs : Nat) : Int) = m by omega] at hc
    have Hc := Lib.hid hc'
    clear hc hc'
    go_enter Tryz.func92, Tryz.ntmps92
    go_wp2_with fail
    refine Hc.out.mono ?_; rintro e w1 ⟨v, rfl, d1, b1⟩
    go_wp2
    go_ret
    exact ⟨v, rfl, d1, b1⟩

end Go.Proofs.YtjeefgamkoeiaaaGreatDoor

/- The walks of the reference's Norm, Good (RefDecE's first two, where the seat holds no isDigit). -/
set_option linter.unusedVariables false
set_option linter.unusedSimpArgs false
namespace Go.Proofs.YtjeefgamkoeiaaaGreatDoor
open Go.RowKit Dc

set_option maxHeartbeats 1000000 in
theorem rgood_calls (m s : Int) (w : World) :
    Calls Tryz.prog 87 #[.agg #[.int .i64 m, .int .i64 s]] w fun e w' => e = .returned (.bool (goodD m s)) ∧ Below w.heap.size w w' := by
  have b0 := (Below.refl w.heap.size w).alloc (Nat.le_refl _) (.cells #[.int .i64 m, .int .i64 s] 51)
  have B0 := Lib.hid b0
  clear b0
  by_cases h1 : s < 0
  · have e : goodD m s = false := by unfold goodD; simp; omega
    rw [e]; clear e
    go_enter Tryz.func87, Tryz.ntmps87
    go_wp2
    go_ret
    exact ⟨rfl, B0.out⟩
  by_cases h2 : s > 18
  · have e : goodD m s = false := by unfold goodD; simp; omega
    rw [e]; clear e
    go_enter Tryz.func87, Tryz.ntmps87
    go_wp2
    go_ret
    exact ⟨rfl, B0.out⟩
  by_cases h3 : m = -9223372036854775808
  · have e : goodD m s = false := by unfold goodD; simp; omega
    rw [e]; clear e
    subst h3
    go_enter Tryz.func87, Tryz.ntmps87
    go_wp2
    go_ret
    exact ⟨rfl, B0.out⟩
  have h3b : (m != -9223372036854775808) = true := by simpa using h3
  by_cases h4 : s = 0
  · have e : goodD m s = true := (goodD_iff m s).2 ⟨by omega, by omega, h3, Or.inl h4⟩
    rw [e]; clear e
    subst h4
    go_enter Tryz.func87, Tryz.ntmps87
    go_wp2
    go_ret
    exact ⟨rfl, B0.out⟩
  have h4b : (s == 0) = false := by simpa using h4
  by_cases h5 : m.tmod 10 = 0
  · have e : goodD m s = false := by unfold goodD; simp; omega
    rw [e]; clear e
    go_enter Tryz.func87, Tryz.ntmps87
    go_wp2
    go_ret
    exact ⟨rfl, B0.out⟩
  · have e : goodD m s = true := (goodD_iff m s).2 ⟨by omega, by omega, h3, Or.inr h5⟩
    rw [e]; clear e
    have h5b : (m.tmod 10 != 0) = true := by simpa using h5
    go_enter Tryz.func87, Tryz.ntmps87
    go_wp2
    go_ret
    exact ⟨rfl, B0.out⟩

theorem DR.drew {w : World} {v : Value} {l : List Nat} (h : DR w v l) : DR w.drew v l := h
end Go.Proofs.YtjeefgamkoeiaaaGreatDoor
