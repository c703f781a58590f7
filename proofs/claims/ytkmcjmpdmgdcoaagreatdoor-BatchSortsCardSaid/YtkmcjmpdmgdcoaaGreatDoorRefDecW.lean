/- The texts RefDecA, RefDecB, RefDecC, RefDecD, RefDecE2, RefDecE, RefDecF, RefDecG, one behind the other. -/
import Derived.Test.YtkmcjmpdmgdcoaaGreatDoorDecP
import Derived.Test.YtkmcjmpdmgdcoaaGreatDoorGrd
import Derived.Lib.Hide
import Derived.IntWalk
import Derived.Below
import Derived.Deep.QuietTactic
import Derived.BigQuiet
import Derived.Laws.AppendOwn
import Derived.Laws.OwnMore
import Derived.Laws.AppendOwnNone
import Derived.OwnWalk
import Derived.Deep.AppendLies
import Derived.Test.YtkmcjmpdmgdcoaaGreatDoorDecW
import Derived.Lib.Strings
import Derived.Deep.DeepCutAuto
import Derived.Laws.BytesArg
import Derived.Laws.Strings3

/- The walks of the reference's rows of digits: trim, digits, compare. -/
set_option linter.unusedVariables false
set_option linter.unusedSimpArgs false
namespace Go.Proofs.YtkmcjmpdmgdcoaaGreatDoor
open Go.RowKit Dc

/-- a slice of bytes that holds these numbers -/
def DR (w : World) (v : Value) (l : List Nat) : Prop :=
  ∃ A cap, v = .slice A l.length cap ∧ l.length ≤ cap ∧ cap ≤ maxLen ∧ (0 < l.length → ∃ b off, A = some ⟨b, off, none⟩ ∧ b < w.heap.size ∧ ∀ j d, l[j]? = some d → w.cell? ⟨b, off + j, none⟩ = some (.int .u8 (d : Nat)))
theorem DR.below {w w' : World} {v : Value} {l : List Nat} (h : DR w v l) (hb : Below w.heap.size w w') : DR w' v l := by
  obtain ⟨A, cap, rfl, h1, h2, h3⟩ := h
  refine ⟨A, cap, rfl, h1, h2, fun h0 => ?_⟩
  obtain ⟨b, off, rfl, hlt, hc⟩ := h3 h0
  exact ⟨b, off, rfl, Nat.lt_of_lt_of_le hlt hb.size, fun j d hj => (hb.cell (p := ⟨b, off + j, none⟩) hlt).trans (hc j d hj)⟩
theorem DR.nil (w : World) : DR w (.slice none 0 0) [] := ⟨none, 0, rfl, Nat.le_refl _, by unfold maxLen; omega, fun h => absurd h (by simp)⟩
def ints (l : List Nat) : List Value := l.map fun d => .int .u8 (d : Nat)
theorem ints_at {l : List Nat} {j : Nat} {d : Nat} (h : l[j]? = some d) : (ints l)[j]? = some (.int .u8 (d : Nat)) := by unfold ints; rw [List.getElem?_map, h]; rfl
theorem ints_len (l : List Nat) : (ints l).length = l.length := List.length_map _
theorem ints_app (a b : List Nat) : ints (a ++ b) = ints a ++ ints b := List.map_append
theorem DR.own {w : World} {base n : Nat} {v : Value} {l : List Nat} (h : w.ownsRow base 5 1 v n (ints l)) : DR w v l := by
  have hn : n = l.length := by have := h.1; rw [ints_len] at this; omega
  subst hn
  rcases h.2 with ⟨rfl, h0⟩ | ⟨g, cap, cur, rfl, hg, hc, h1, h2, h3, h4⟩
  · obtain rfl := List.eq_nil_of_length_eq_zero h0
    exact DR.nil w
  · refine ⟨_, cap, rfl, h1, h2, fun _ => ⟨g, 0, rfl, (Array.getElem?_eq_some_iff.1 hc).1, fun j d hj => ?_⟩⟩
    have hcell := h.cells (g := g) rfl j _ (ints_at hj)
    rw [show ((⟨g, 0, none⟩ : Addr).add j) = ⟨g, j, none⟩ by unfold Addr.add; split <;> simp_all] at hcell
    rw [Nat.zero_add]
    exact hcell
/-- its cells, as what is appended -/
theorem DR.news {w : World} {b off : Nat} {l : List Nat} (hc : ∀ j d, l[j]? = some d → w.cell? ⟨b, off + j, none⟩ = some (.int .u8 (d : Nat))) : ∀ j u, (ints l)[j]? = some u → w.cell? ((⟨b, off, none⟩ : Addr).add j) = some u := by
  intro j u hu
  unfold ints at hu
  rw [List.getElem?_map] at hu
  cases hj : l[j]? with
  | none => rw [hj] at hu; cases hu
  | some d =>
    rw [hj] at hu
    cases hu
    rw [show ((⟨b, off, none⟩ : Addr).add j) = ⟨b, off + j, none⟩ by unfold Addr.add; split <;> simp_all]
    exact hc j d hj
theorem ints_one (l : List Nat) : ∀ u ∈ ints l, u.oneCell' = true := by
  intro u hu
  obtain ⟨d, _, rfl⟩ := List.mem_map.1 hu
  rfl
/-- a row of one number, made anew -/
theorem own_one (w : World) (d : Nat) : (w.alloc (.cells #[.int .u8 (d : Nat)] 5)).ownsRow w.heap.size 5 1 (.slice (some ⟨w.heap.size, 0, none⟩) 1 1) 1 (ints [d]) :=
  ⟨rfl, .inr ⟨w.heap.size, 1, #[.int .u8 (d : Nat)], rfl, Nat.le_refl _, heap_alloc_new w _, Nat.le_refl _, by unfold maxLen; omega, rfl, rfl⟩⟩

end Go.Proofs.YtkmcjmpdmgdcoaaGreatDoor

/- The walks of the reference's digits of a number, and of what compares two rows of them. -/
set_option linter.unusedVariables false
set_option linter.unusedSimpArgs false
namespace Go.Proofs.YtkmcjmpdmgdcoaaGreatDoor
open Go.RowKit Dc

theorem own_one' (w : World) (B d : Nat) (z : Int) (hz : z = (d : Nat)) (hB : B ≤ w.heap.size) : (w.alloc (.cells #[.int .u8 z] 5)).ownsRow B 5 1 (.slice (some ⟨w.heap.size, 0, none⟩) 1 1) 1 (ints [d]) :=
  by subst hz; exact ⟨rfl, .inr ⟨w.heap.size, 1, #[.int .u8 (d : Nat)], rfl, hB, heap_alloc_new w _, Nat.le_refl _, by unfold maxLen; omega, rfl, rfl⟩⟩

set_option maxHeartbeats 2000000 in
theorem rdigits_calls (n : Nat) (w : World) (hn : n < 18446744073709551616) :
    Calls Tryz.prog 96 #[.int .u64 (n : Nat)] w fun e w' => ∃ v, e = .returned v ∧ DR w' v (digs n) ∧ Below w.heap.size w w' := by
  obtain ⟨i0, hi, hz0, hz1, hz2⟩ := info_parts (P := Tryz.prog) (t := 5) (z := .int .u8 0) (n := 1) (m := 1) (by kernel_rfl)
  have hlen : (digs n).length ≤ 20 := digs_len_le (by omega)
  have Hlen := Lib.hid hlen
  have Hi := Lib.hid hi
  have Hz0 := Lib.hid hz0
  have Hz1 := Lib.hid hz1
  have Hz2 := Lib.hid hz2
  clear hlen hi hz0 hz1 hz2
  go_enter Tryz.func96, Tryz.ntmps96
  go_wp2
  go_loopw [0, 3] (fun s0 s3 wr => ∃ (q : Nat) (l : List Nat), q ≤ n ∧ s0 = .int .u64 (q : Nat) ∧ Hid (digs q ++ l = digs n ∧ Below w.heap.size w wr) ∧ ((l = [] ∧ s3 = .slice none 0 0) ∨ ∃ g cap, 0 < l.length ∧ s3 = .slice (some ⟨g, 0, none⟩) l.length cap ∧ Hid (wr.ownsRow w.heap.size 5 1 (.slice (some ⟨g, 0, none⟩) l.length cap) l.length (ints l)))) (fun s0 _ _ => (intOf s0).toNat)
  case atStart => exact ⟨n, [], Nat.le_refl _, rfl, ⟨by simp, Below.refl _ _⟩, Or.inl ⟨rfl, rfl⟩⟩
  case round =>
    obtain ⟨q, l, hq, rfl, H, hl⟩ := hrel
    by_cases h0 : q = 0
    · subst h0
      rcases hl with ⟨rfl, rfl⟩ | ⟨g, cap, hl0, rfl, Ho⟩
      · go_wp2
        go_ret
        have h := H.out.1
        rw [digs_zero] at h
        exact ⟨_, rfl, by rw [← h]; exact DR.nil _, H.out.2⟩
      · go_wp2
        go_ret
        have h := H.out.1
        rw [digs_zero] at h
        exact ⟨_, rfl, by rw [← h]; exact DR.own Ho.out, H.out.2⟩
    · have hstep : Hid (digs (q / 10) ++ (q % 10 :: l) = digs n) := by
        have h := H.out.1
        rw [digs_pos h0, List.append_assoc] at h
        exact h
      have E1 := Lib.hid (show ((q : Int) % 10) = ((q % 10 : Nat) : Int) by omega)
      have E2 := Lib.hid (show ((q : Int) / 10) = ((q / 10 : Nat) : Int) by omega)
      have hB := Lib.hid H.out.2
      have hbs := H.out.2.size
      have hq0 : 0 < q := by omega
      have hll : l.length ≤ 20 := by
        have h := congrArg List.length H.out.1
        have := Hlen.out
        rw [List.length_append] at h; omega
      clear H
      rcases hl with ⟨rfl, rfl⟩ | ⟨g, cap, hl0, rfl, Ho⟩
      · go_wp2_with (at_builtin; refine wpList_append_own_none rfl _ _ _ (by rfl) w.heap.size 5 i0 1 Tryz.underlying40 Hi.out _ 1 (ints [q % 10]) (by rfl) (own_one' _ _ (q % 10) ((q : Int) % 10) E1.out hbs) (by rfl) ?_)
        go_roundw
        case rel =>
          rw [E2.out]
          exact ⟨q / 10, [q % 10], by omega, rfl, ⟨hstep.out, kb_alloc hB.out (Nat.le_refl _) _⟩, Or.inr ⟨_, 1, by simp, rfl, own_one' _ _ (q % 10) ((q : Int) % 10) E1.out hbs⟩⟩
        case measure => simp [intOf]; omega
      · have hown := own_alloc Ho.out (.cells #[.int .u8 ((q : Int) % 10)] 5)
        have hnews : ∀ j u, (ints l)[j]? = some u → (wr.alloc (.cells #[.int .u8 ((q : Int) % 10)] 5)).cell? ((⟨g, 0, none⟩ : Addr).add j) = some u := hown.cells (g := g) rfl
        have Hnews := Lib.hid hnews
        clear hown hnews
        go_wp2_with (at_builtin; refine wpList_append_lies _ rfl _ _ _ (by rfl) w.heap.size 5 i0 _ 1 1 Tryz.underlying40 Hi.out Hz0.out Hz1.out Hz2.out rfl (by omega) _ 1 (ints [q % 10]) (by rfl) (own_one' _ _ (q % 10) ((q : Int) % 10) E1.out hbs) ⟨g, 0, none⟩ l.length cap (ints l) (by rfl) (by rw [ints_len]; omega) Hnews.out (ints_one l) hl0 (by unfold maxLen; omega) (by omega) (by simp; omega) _ rfl ?_)
        intro g2 cap2 w3 hown3 hgrow hat hlt
        have Hown3 := Lib.hid hown3
        have hB3 := Lib.hid ((kb_alloc hB.out (Nat.le_refl _) (.cells #[.int .u8 ((q : Int) % 10)] 5)).grown hgrow (by simp; omega) (fun k hk => by cases hk; exact hbs))
        clear hown3 hgrow hat hlt
        go_wp2
        go_roundw
        case rel =>
          rw [E2.out]
          refine ⟨q / 10, q % 10 :: l, by omega, rfl, ⟨hstep.out, hB3.out⟩, Or.inr ⟨g2, cap2, by simp, by rw [List.length_cons, Nat.add_comm], ?_⟩⟩
          have h := Hown3.out
          rw [← ints_app, Nat.add_comm 1] at h
          exact h
        case measure => simp [intOf]; omega

set_option maxHeartbeats 2000000 in
theorem rcompare_calls (l r : List Nat) (v u : Value) (w : World) (hv : DR w v l) (hu : DR w u r) :
    Calls Tryz.prog 77 #[v, u] w fun e w' => e = .returned (.int .i64 (cmpN l r)) ∧ Below w.heap.size w w' := by
  obtain ⟨A, cap, rfl, h1, h2, h3⟩ := hv
  obtain ⟨A', cap', rfl, h1', h2', h3'⟩ := hu
  have Hl := Lib.hid h3
  have Hr := Lib.hid h3'
  unfold maxLen at h2 h2'
  clear h3 h3'
  by_cases hne : l.length = r.length
  · have Hne := Lib.hid hne
    have hcmp : Hid (cmpN l r = lexN l r) := by show _ = _; unfold cmpN; rw [if_neg (by simpa using hne)]
    have hneb : ((l.length : Int) != (r.length : Int)) = false := by rw [hne]; simp
    clear hne
    go_enter Tryz.func77, Tryz.ntmps77
    go_wp2
    go_loopw [5] (fun s5 wr => ∃ i : Nat, i ≤ l.length ∧ s5 = .int .i64 (i : Nat) ∧ Hid (lexN (l.drop i) (r.drop i) = lexN l r ∧ Below w.heap.size w wr)) (fun s5 _ => l.length - (intOf s5).toNat)
    case atStart => exact ⟨0, by omega, rfl, rfl, Below.refl _ _⟩
    case round =>
      obtain ⟨i, hi, rfl, H⟩ := hrel
      obtain ⟨hlex, hB⟩ := H.out
      by_cases hil : i < l.length
      · obtain ⟨b, off, rfl, hlt, hc⟩ := Hl.out (by omega)
        have hir : i < r.length := by have := Hne.out; omega
        obtain ⟨b', off', rfl, hlt', hc'⟩ := Hr.out (by omega)
        have c1 := (hB.cell (p := ⟨b, off + i, none⟩) hlt).trans (hc i l[i] (List.getElem?_eq_getElem hil))
        have c2 := (hB.cell (p := ⟨b', off' + i, none⟩) hlt').trans (hc' i r[i] (List.getElem?_eq_getElem hir))
        rw [List.drop_eq_getElem_cons hil, List.drop_eq_getElem_cons hir, lexN] at hlex
        have Hlex := Lib.hid hlex
        have HB := Lib.hid hB
        clear hc hc' hlex hB H
        generalize l[i] = x at *
        generalize r[i] = y at *
        have hxy : x < y ∨ y < x ∨ x = y := by omega
        rcases hxy with hx | hx | hx
        · have d1 : decide ((x : Int) < (y : Int)) = true := by simp; omega
          have d2 : decide (x < y) = true := by simp; omega
          have Hx := Lib.hid hx
          clear hx
          go_wp2
          go_quiet (fail)
          go_wp2
          go_ret
          have h := Hlex.out
          rw [if_pos Hx.out] at h
          exact ⟨by rw [hcmp.out, ← h]; rfl, below_drewN HB.out nq⟩
        · have d1 : decide ((x : Int) < (y : Int)) = false := by simp; omega
          have d2 : decide (x < y) = false := by simp; omega
          have d3 : decide ((y : Int) < (x : Int)) = true := by simp; omega
          have d4 : decide (y < x) = true := by simp; omega
          have Hx := Lib.hid hx
          clear hx
          go_wp2
          go_quiet (fail)
          go_wp2
          go_quiet (fail)
          go_wp2
          go_ret
          have h := Hlex.out
          rw [if_neg (by have := Hx.out; omega), if_pos Hx.out] at h
          exact ⟨by rw [hcmp.out, ← h]; rfl, (by repeat (first | exact HB.out | refine below_drewN ?_ _))⟩
        · subst hx
          have d1 : decide ((x : Int) < (x : Int)) = false := by simp
          have d2 : decide (x < x) = false := by simp
          go_wp2
          go_quiet (fail)
          go_wp2
          go_quiet (fail)
          go_wp2
          go_roundw
          case rel =>
            have h := Hlex.out
            rw [if_neg (by omega), if_neg (by omega)] at h
            exact ⟨i + 1, hil, by go_num, h, (by repeat (first | exact HB.out | refine below_drewN ?_ _))⟩
          case measure => simp [intOf]; omega
      · have hend : lexN l r = 0 := by
          rw [← hlex, List.drop_eq_nil_of_le (by omega)]; rfl
        have HB := Lib.hid hB
        have Hend := Lib.hid hend
        clear hend hlex hB H
        go_wp2
        go_ret
        exact ⟨by rw [hcmp.out, Hend.out]; rfl, HB.out⟩
  · have hneb : ((l.length : Int) != (r.length : Int)) = true := by simpa using (by omega : ¬ (l.length : Int) = (r.length : Int))
    have hcmp : cmpN l r = if l.length < r.length then -1 else 1 := by unfold cmpN; rw [if_pos hne]
    by_cases hlt : l.length < r.length
    · rw [if_pos hlt] at hcmp
      have Hc := Lib.hid hcmp
      clear hcmp hne
      go_enter Tryz.func77, Tryz.ntmps77
      go_wp2
      go_ret
      exact ⟨by rw [Hc.out]; rfl, Below.refl _ _⟩
    · rw [if_neg hlt] at hcmp
      have Hc := Lib.hid hcmp
      clear hcmp hne
      go_enter Tryz.func77, Tryz.ntmps77
      go_wp2
      go_ret
      exact ⟨by rw [Hc.out]; rfl, Below.refl _ _⟩

end Go.Proofs.YtkmcjmpdmgdcoaaGreatDoor

/- The walks of the reference's amount, within, decimal, Norm. -/
set_option linter.unusedVariables false
set_option linter.unusedSimpArgs false
namespace Go.Proofs.YtkmcjmpdmgdcoaaGreatDoor
open Go.RowKit Dc

set_option maxHeartbeats 1000000 in
theorem ramount_calls (m : Int) (w : World) (h1 : -9223372036854775808 ≤ m) (h2 : m ≤ 9223372036854775807) :
    Calls Tryz.prog 76 #[.int .i64 m] w fun e w' => ∃ v, e = .returned v ∧ DR w' v (digs m.natAbs) ∧ Below w.heap.size w w' := by
  have hc := rdigits_calls m.natAbs w (by omega)
  by_cases h0 : m < 0
  · have hc' : Calls Tryz.prog 96 #[.int .u64 (-(m + 1) + 1)] w fun e w' => ∃ v, e = .returned v ∧ DR w' v (digs m.natAbs) ∧ Below w.heap.size w w' := by
      rwa [show ((m.natAbs : Nat) : Int) = -(m + 1) + 1 by omega] at hc
    have Hc := Lib.hid hc'
    clear hc hc'
    go_enter Tryz.func76, Tryz.ntmps76
    go_wp2_with fail
    refine Hc.out.mono ?_; rintro e w1 ⟨v, rfl, d1, b1⟩
    go_wp2
    go_ret
    exact ⟨v, rfl, d1, b1⟩
  · have hc' : Calls Tryz.prog 96 #[.int .u64 m] w fun e w' => ∃ v, e = .returned v ∧ DR w' v (digs m.natAbs) ∧ Below w.heap.size w w' := by
      rwa [show ((m.natAbs : Nat) : Int) = m by omega] at hc
    have Hc := Lib.hid hc'
    clear hc hc'
    go_enter Tryz.func76, Tryz.ntmps76
    go_wp2_with fail
    refine Hc.out.mono ?_; rintro e w1 ⟨v, rfl, d1, b1⟩
    go_wp2
    go_ret
    exact ⟨v, rfl, d1, b1⟩

def withinV (t : Nat) : Value := if t ≤ big then .tuple #[.int .i64 (t : Nat), .bool true] else .tuple #[.int .i64 0, .bool false]

end Go.Proofs.YtkmcjmpdmgdcoaaGreatDoor

/- The walks of the reference's decimal and Norm. -/
set_option linter.unusedVariables false
set_option linter.unusedSimpArgs false
namespace Go.Proofs.YtkmcjmpdmgdcoaaGreatDoor
open Go.RowKit Dc

/-- a decimal, or that there is none, as the reference tells it -/
def rdecV : Option (Int × Nat) → Value
  | none => .tuple #[.agg #[.int .i64 0, .int .i64 0], .bool false]
  | some (a, k) => .tuple #[.agg #[.int .i64 a, .int .i64 (k : Nat)], .bool true]
theorem decOf_step (neg : Bool) (q : Nat) (z : Int) (hz : 0 < z) (hq : q % 10 = 0) : decOf neg q z = decOf neg (q / 10) (z - 1) := by
  have h := decOf_pad neg (q / 10) (z - 1).toNat 1
  rw [show q / 10 * 10 ^ 1 = q by omega, show (((z - 1).toNat + 1 : Nat) : Int) = z by omega, show (((z - 1).toNat : Nat) : Int) = z - 1 by omega] at h
  exact h
theorem decOf_stop (neg : Bool) (q : Nat) (z : Int) (hq : q ≠ 0) (h : ¬ (0 < z ∧ q % 10 = 0)) :
    decOf neg q z = if big < q ∨ z < 0 ∨ 18 < z then none else some (if neg then -(q : Int) else (q : Int), z.toNat) := by
  unfold decOf
  by_cases h0 : z < 0
  · rw [if_pos h0, if_pos (Or.inr (Or.inl h0))]
  · rw [if_neg h0, if_neg hq, strip_id _ _ (by
      by_cases hz : z = 0
      · left; omega
      · right; exact fun e => h ⟨by omega, e⟩)]
    by_cases h1 : big < q ∨ z < 0 ∨ 18 < z
    · rw [if_pos h1, if_neg]
      rintro ⟨h2, h3⟩
      have h2' : q ≤ big := h2
      have h3' : z.toNat ≤ 18 := h3
      omega
    · rw [if_neg h1, if_pos ⟨by show q ≤ big; omega, by show z.toNat ≤ 18; omega⟩]

end Go.Proofs.YtkmcjmpdmgdcoaaGreatDoor

/- The walks of the reference's Norm, Good (RefDecE's first two, where the seat holds no isDigit). -/
set_option linter.unusedVariables false
set_option linter.unusedSimpArgs false
namespace Go.Proofs.YtkmcjmpdmgdcoaaGreatDoor
open Go.RowKit Dc

set_option maxHeartbeats 1000000 in
theorem rgood_calls (m s : Int) (w : World) :
    Calls Tryz.prog 47 #[.agg #[.int .i64 m, .int .i64 s]] w fun e w' => e = .returned (.bool (goodD m s)) ∧ Below w.heap.size w w' := by
  have b0 := (Below.refl w.heap.size w).alloc (Nat.le_refl _) (.cells #[.int .i64 m, .int .i64 s] 44)
  have B0 := Lib.hid b0
  clear b0
  by_cases h1 : s < 0
  · have e : goodD m s = false := by unfold goodD; simp; omega
    rw [e]; clear e
    go_enter Tryz.func47, Tryz.ntmps47
    go_wp2
    go_ret
    exact ⟨rfl, B0.out⟩
  by_cases h2 : s > 18
  · have e : goodD m s = false := by unfold goodD; simp; omega
    rw [e]; clear e
    go_enter Tryz.func47, Tryz.ntmps47
    go_wp2
    go_ret
    exact ⟨rfl, B0.out⟩
  by_cases h3 : m = -9223372036854775808
  · have e : goodD m s = false := by unfold goodD; simp; omega
    rw [e]; clear e
    subst h3
    go_enter Tryz.func47, Tryz.ntmps47
    go_wp2
    go_ret
    exact ⟨rfl, B0.out⟩
  have h3b : (m != -9223372036854775808) = true := by simpa using h3
  by_cases h4 : s = 0
  · have e : goodD m s = true := (goodD_iff m s).2 ⟨by omega, by omega, h3, Or.inl h4⟩
    rw [e]; clear e
    subst h4
    go_enter Tryz.func47, Tryz.ntmps47
    go_wp2
    go_ret
    exact ⟨rfl, B0.out⟩
  have h4b : (s == 0) = false := by simpa using h4
  by_cases h5 : m.tmod 10 = 0
  · have e : goodD m s = false := by unfold goodD; simp; omega
    rw [e]; clear e
    go_enter Tryz.func47, Tryz.ntmps47
    go_wp2
    go_ret
    exact ⟨rfl, B0.out⟩
  · have e : goodD m s = true := (goodD_iff m s).2 ⟨by omega, by omega, h3, Or.inr h5⟩
    rw [e]; clear e
    have h5b : (m.tmod 10 != 0) = true := by simpa using h5
    go_enter Tryz.func47, Tryz.ntmps47
    go_wp2
    go_ret
    exact ⟨rfl, B0.out⟩

theorem DR.drew {w : World} {v : Value} {l : List Nat} (h : DR w v l) : DR w.drew v l := h
theorem rdec_norm (o : Option (Int × Nat)) : rdecV o = normV o := by cases o <;> rfl

end Go.Proofs.YtkmcjmpdmgdcoaaGreatDoor

/- The walks of the reference's isDigit, run. -/
set_option linter.unusedVariables false
set_option linter.unusedSimpArgs false
namespace Go.Proofs.YtkmcjmpdmgdcoaaGreatDoor
open Go.RowKit Dc

theorem rdrop_at (s : ByteArray) (k : Nat) (h : k < s.size) : s.data.toList.drop k = s[k] :: s.data.toList.drop (k + 1) := by
  have hl : k < s.data.toList.length := by rw [← Lib.size_eq]; exact h
  rw [List.drop_eq_getElem_cons hl]; rfl
end Go.Proofs.YtkmcjmpdmgdcoaaGreatDoor

/- The walk of the reference's Parse. -/
set_option linter.unusedVariables false
set_option linter.unusedSimpArgs false
namespace Go.Proofs.YtkmcjmpdmgdcoaaGreatDoor
open Go.RowKit Dc

def rparseV (r : (Int × Int) × Int × Int) : Value := .tuple #[.agg #[.int .i64 r.1.1, .int .i64 r.1.2], .int .i64 r.2.1, .int .i64 r.2.2]
abbrev rstr (l : List UInt8) : ByteArray := ⟨l.toArray⟩
theorem rstr_size (l : List UInt8) : (rstr l).size = l.length := by rw [Lib.size_eq]
theorem rstr_at (l : List UInt8) (i : Nat) (h : i < (rstr l).size) : (rstr l)[i] = l[i]'(by rw [rstr_size] at h; exact h) := rfl
theorem cut_bad_ways {l : List UInt8} {n : Nat} (h : cut l = .bad n) : (pt l = sg l ∧ n = sg l) ∨ (pt l ≠ sg l ∧ pt l < l.length ∧ l[pt l]? ≠ some 46 ∧ n = pt l) ∨
    (pt l ≠ sg l ∧ pt l < l.length ∧ l[pt l]? = some 46 ∧ n = en l ∧ (en l = pt l + 1 ∨ (en l ≠ pt l + 1 ∧ en l < l.length))) := by
  have hp := pt_le l
  unfold cut at h
  split at h
  · rename_i h0; cases h; exact Or.inl ⟨h0, h0⟩
  rename_i h0
  split at h
  · cases h
  rename_i h1
  split at h
  · rename_i h2; cases h; exact Or.inr (Or.inl ⟨h0, by omega, h2, rfl⟩)
  rename_i h2
  split at h
  · rename_i h3
    cases h
    refine Or.inr (Or.inr ⟨h0, by omega, by simpa using h2, rfl, ?_⟩)
    by_cases h4 : en l = pt l + 1
    · exact Or.inl h4
    · exact Or.inr ⟨h4, h3.resolve_left h4⟩
  · cases h
/-- the digits up to i -/
def acc (l : List UInt8) (i : Nat) : List Nat := vals (((l.take i).drop (sg l)).filter dg)
theorem acc_start (l : List UInt8) : acc l (sg l) = [] := by
  unfold acc
  rw [List.drop_eq_nil_of_le (by rw [List.length_take]; omega)]; rfl
theorem acc_step (l : List UInt8) (i : Nat) (hi : sg l ≤ i) (h : i < l.length) : acc l (i + 1) = acc l i ++ (if dg l[i] = true then [dv l[i]] else []) := by
  unfold acc
  rw [List.take_succ_eq_append_getElem h, List.drop_append_of_le_length (by rw [List.length_take]; omega), List.filter_append, vals_app]
  congr 1
  by_cases hg : dg l[i] = true
  · rw [if_pos hg, List.filter_cons, if_pos hg]; rfl
  · rw [if_neg hg, List.filter_cons, if_neg hg]; rfl
theorem acc_end (l : List UInt8) : acc l l.length = vals ((l.drop (sg l)).filter dg) := by
  unfold acc; rw [List.take_of_length_le (Nat.le_refl _)]
theorem acc_len (l : List UInt8) (i : Nat) : (acc l i).length ≤ l.length := by
  unfold acc
  rw [vals_len]
  have h1 := List.length_filter_le dg ((l.take i).drop (sg l))
  rw [List.length_drop, List.length_take] at h1
  omega

end Go.Proofs.YtkmcjmpdmgdcoaaGreatDoor

/- The walk of the reference's Print. -/
set_option linter.unusedVariables false
set_option linter.unusedSimpArgs false
namespace Go.Proofs.YtkmcjmpdmgdcoaaGreatDoor
open Go.RowKit Dc

theorem rstr_app (a b : List UInt8) : rstr a ++ rstr b = rstr (a ++ b) := ByteArray.ext (by apply Array.ext'; rw [ByteArray.data_append, Array.toList_append])
theorem radd_str (a b : List UInt8) (h : a.length + b.length ≤ 140737488351232) (W : World) : (Op.stringOp .add (rstr a) (rstr b)).run Tryz.prog W = .ok (.string (rstr (a ++ b))) W := by
  rw [run_string_add_sum W _ _ (by rw [rstr_size, rstr_size]; omega), rstr_app]
set_option maxHeartbeats 1000000 in
theorem rdigits0_calls (w : World) : Calls Tryz.prog 96 #[.int .u64 0] w fun e w' => e = .returned (.slice none 0 0) ∧ w = w' := by
  go_enter Tryz.func96, Tryz.ntmps96
  go_wp2
  go_loop [0, 3] (fun s0 s3 => s0 = .int .u64 0 ∧ s3 = .slice none 0 0) (fun s0 _ => (intOf s0).toNat)
  case atStart => exact ⟨rfl, rfl⟩
  case round =>
    obtain ⟨rfl, rfl⟩ := hrel
    go_wp2
    go_ret
    exact ⟨rfl, rfl⟩
theorem ramount0_calls (w : World) : Calls Tryz.prog 76 #[.int .i64 0] w fun e w' => e = .returned (.slice none 0 0) ∧ w = w' := by
  go_enter Tryz.func76, Tryz.ntmps76
  go_wp2_with fail
  refine (rdigits0_calls _).mono ?_; rintro e w1 ⟨rfl, rfl⟩
  go_wp2
  go_ret
  exact ⟨rfl, rfl⟩
/-- a slice of bytes, nil if it holds none -/
def DRx (w : World) (v : Value) (l : List Nat) : Prop := (l = [] ∧ v = .slice none 0 0) ∨ (0 < l.length ∧ DR w v l)
theorem ramountx_calls (m : Int) (w : World) (h1 : -9223372036854775808 ≤ m) (h2 : m ≤ 9223372036854775807) :
    Calls Tryz.prog 76 #[.int .i64 m] w fun e w' => ∃ v, e = .returned v ∧ DRx w' v (digs m.natAbs) ∧ Below w.heap.size w w' := by
  by_cases h0 : m = 0
  · subst h0
    refine (ramount0_calls w).mono ?_
    rintro e w' ⟨rfl, rfl⟩
    exact ⟨_, rfl, Or.inl ⟨by rw [show (0 : Int).natAbs = 0 from rfl, digs_zero], rfl⟩, Below.refl _ _⟩
  · refine (ramount_calls m w h1 h2).mono ?_
    rintro e w' ⟨v, rfl, hd, hb⟩
    refine ⟨v, rfl, Or.inr ⟨?_, hd⟩, hb⟩
    have := digs_ne (n := m.natAbs) (by omega)
    cases hdg : digs m.natAbs with
    | nil => exact absurd hdg this
    | cons a b => simp

theorem conv_one (W : World) (d : Nat) (c : UInt8) (hc : c = UInt8.ofNat (48 + d)) : (convert 40 9 (.slice (some ⟨W.heap.size, 0, none⟩) 1 1)).run Tryz.prog (W.alloc (.cells #[.int .u8 (48 + (d : Int))] 5)) = .ok (.string (rstr [c])) (W.alloc (.cells #[.int .u8 (48 + (d : Int))] 5)) := by
  have h : ∀ q, q < 1 → (W.alloc (.cells #[.int .u8 (48 + (d : Int))] 5)).cell? ⟨W.heap.size, 0 + q, none⟩ = some (.int .u8 ([48 + (d : Int)].getD q 0)) := fun q hq => by
    obtain rfl : q = 0 := by omega
    simp [go_sem]
  rw [run_convert_bytes_arg _ 40 5 Tryz.underlying40 Tryz.underlying5 W.heap.size 0 1 1 [48 + (d : Int)] rfl h 9 Tryz.underlying9, hc]
  unfold strOfNums
  rw [List.map_singleton, show (48 + (d : Int)).toNat = 48 + d by omega]

end Go.Proofs.YtkmcjmpdmgdcoaaGreatDoor
