/- The walks of the reference's digits of a number, and of what compares two rows of them. -/
import Derived.Test.YtmbpldnclnahmaaDoorRefDecA
import Derived.Test.YtmbpldnclnahmaaDoorRefDecPlain
import Derived.Deep.AppendLies
set_option linter.unusedVariables false
set_option linter.unusedSimpArgs false
namespace Go.Proofs.YtmbpldnclnahmaaDoor
open Go.RowKit Dc

theorem own_one' (w : World) (B d : Nat) (z : Int) (hz : z = (d : Nat)) (hB : B ≤ w.heap.size) : (w.alloc (.cells #[.int .u8 z] 5)).ownsRow B 5 1 (.slice (some ⟨w.heap.size, 0, none⟩) 1 1) 1 (ints [d]) :=
  by subst hz; exact ⟨rfl, .inr ⟨w.heap.size, 1, #[.int .u8 (d : Nat)], rfl, hB, heap_alloc_new w _, Nat.le_refl _, by unfold maxLen; omega, rfl, rfl⟩⟩

set_option maxHeartbeats 2000000 in
theorem rdigits_calls (n : Nat) (w : World) (hn : n < 18446744073709551616) :
    Calls Tryd.prog 41 #[.int .u64 (n : Nat)] w fun e w' => ∃ v, e = .returned v ∧ DR w' v (digs n) ∧ Below w.heap.size w w' := by
  obtain ⟨i0, hi, hz0, hz1, hz2⟩ := info_parts (P := Tryd.prog) (t := 5) (z := .int .u8 0) (n := 1) (m := 1) (by kernel_rfl)
  have hlen : (digs n).length ≤ 20 := digs_len_le (by omega)
  have Hlen := Lib.hid hlen
  have Hi := Lib.hid hi
  have Hz0 := Lib.hid hz0
  have Hz1 := Lib.hid hz1
  have Hz2 := Lib.hid hz2
  clear hlen hi hz0 hz1 hz2
  go_enter Tryd.func41, Tryd.ntmps41
  go_wp2
  go_loopw [0, 3] (fun s0 s3 wr => ∃ (q : Nat) (l : List Nat), q ≤ n ∧ s0 = .int .u64 (q : Nat) ∧ Hid (digs q ++ l = digs n ∧ Below w.heap.size w wr) ∧ ((l = [] ∧ s3 = .slice none 0 0) ∨ ∃ g cap, 0 < l.length ∧ s3 = .slice (some ⟨g, 0, none⟩) l.length cap ∧ Hid (wr.ownsRow w.heap.size 5 1 (.slice (some ⟨g, 0, none⟩) l.length cap) l.length (ints l)))) (fun s0 _ _ => (intOf s0).toNat)
  case atStart => exact ⟨n, [], Nat.le_refl _, rfl, ⟨by simp, Below.refl _ _⟩, Or.inl ⟨rfl, rfl⟩⟩
  case round =>
    obtain ⟨q, l, hq, rfl, H, hl⟩ := hrel
    by_cases h0 : q = 0
    · subst h0
      rcases hl with ⟨rfl, rfl⟩ | ⟨g, cap, hl0, rfl, Ho⟩
      · go_wp2
        go_ret
        have h := H.out.1
        rw [digs_zero] at h
        exact ⟨_, rfl, by rw [← h]; exact DR.nil _, H.out.2⟩
      · go_wp2
        go_ret
        have h := H.out.1
        rw [digs_zero] at h
        exact ⟨_, rfl, by rw [← h]; exact DR.own Ho.out, H.out.2⟩
    · have hstep : Hid (digs (q / 10) ++ (q % 10 :: l) = digs n) := by
        have h := H.out.1
        rw [digs_pos h0, List.append_assoc] at h
        exact h
      have E1 := Lib.hid (show ((q : Int) % 10) = ((q % 10 : Nat) : Int) by omega)
      have E2 := Lib.hid (show ((q : Int) / 10) = ((q / 10 : Nat) : Int) by omega)
      have hB := Lib.hid H.out.2
      have hbs := H.out.2.size
      have hq0 : 0 < q := by omega
      have hll : l.length ≤ 20 := by
        have h := congrArg List.length H.out.1
        have := Hlen.out
        rw [List.length_append] at h; omega
      clear H
      rcases hl with ⟨rfl, rfl⟩ | ⟨g, cap, hl0, rfl, Ho⟩
      · go_wp2_with (at_builtin; refine wpList_append_own_none rfl _ _ _ (by rfl) w.heap.size 5 i0 1 Tryd.underlying45 Hi.out _ 1 (ints [q % 10]) (by rfl) (own_one' _ _ (q % 10) ((q : Int) % 10) E1.out hbs) (by rfl) ?_)
        go_roundw
        case rel =>
          rw [E2.out]
          exact ⟨q / 10, [q % 10], by omega, rfl, ⟨hstep.out, kb_alloc hB.out (Nat.le_refl _) _⟩, Or.inr ⟨_, 1, by simp, rfl, own_one' _ _ (q % 10) ((q : Int) % 10) E1.out hbs⟩⟩
        case measure => simp [intOf]; omega
      · have hown := own_alloc Ho.out (.cells #[.int .u8 ((q : Int) % 10)] 5)
        have hnews : ∀ j u, (ints l)[j]? = some u → (wr.alloc (.cells #[.int .u8 ((q : Int) % 10)] 5)).cell? ((⟨g, 0, none⟩ : Addr).add j) = some u := hown.cells (g := g) rfl
        have Hnews := Lib.hid hnews
        clear hown hnews
        go_wp2_with (at_builtin; refine wpList_append_lies _ rfl _ _ _ (by rfl) w.heap.size 5 i0 _ 1 1 Tryd.underlying45 Hi.out Hz0.out Hz1.out Hz2.out rfl (by omega) _ 1 (ints [q % 10]) (by rfl) (own_one' _ _ (q % 10) ((q : Int) % 10) E1.out hbs) ⟨g, 0, none⟩ l.length cap (ints l) (by rfl) (by rw [ints_len]; omega) Hnews.out (ints_one l) hl0 (by unfold maxLen; omega) (by omega) (by simp; omega) _ rfl ?_)
        intro g2 cap2 w3 hown3 hgrow hat hlt
        have Hown3 := Lib.hid hown3
        have hB3 := Lib.hid ((kb_alloc hB.out (Nat.le_refl _) (.cells #[.int .u8 ((q : Int) % 10)] 5)).grown hgrow (by simp; omega) (fun k hk => by cases hk; exact hbs))
        clear hown3 hgrow hat hlt
        go_wp2
        go_roundw
        case rel =>
          rw [E2.out]
          refine ⟨q / 10, q % 10 :: l, by omega, rfl, ⟨hstep.out, hB3.out⟩, Or.inr ⟨g2, cap2, by simp, by rw [List.length_cons, Nat.add_comm], ?_⟩⟩
          have h := Hown3.out
          rw [← ints_app, Nat.add_comm 1] at h
          exact h
        case measure => simp [intOf]; omega

set_option maxHeartbeats 2000000 in
theorem rcompare_calls (l r : List Nat) (v u : Value) (w : World) (hv : DR w v l) (hu : DR w u r) :
    Calls Tryd.prog 40 #[v, u] w fun e w' => e = .returned (.int .i64 (cmpN l r)) ∧ Below w.heap.size w w' := by
  obtain ⟨A, cap, rfl, h1, h2, h3⟩ := hv
  obtain ⟨A', cap', rfl, h1', h2', h3'⟩ := hu
  have Hl := Lib.hid h3
  have Hr := Lib.hid h3'
  unfold maxLen at h2 h2'
  clear h3 h3'
  by_cases hne : l.length = r.length
  · have Hne := Lib.hid hne
    have hcmp : Hid (cmpN l r = lexN l r) := by show _ = _; unfold cmpN; rw [if_neg (by simpa using hne)]
    have hneb : ((l.length : Int) != (r.length : Int)) = false := by rw [hne]; simp
    clear hne
    go_enter Tryd.func40, Tryd.ntmps40
    go_wp2
    go_loopw [5] (fun s5 wr => ∃ i : Nat, i ≤ l.length ∧ s5 = .int .i64 (i : Nat) ∧ Hid (lexN (l.drop i) (r.drop i) = lexN l r ∧ Below w.heap.size w wr)) (fun s5 _ => l.length - (intOf s5).toNat)
    case atStart => exact ⟨0, by omega, rfl, rfl, Below.refl _ _⟩
    case round =>
      obtain ⟨i, hi, rfl, H⟩ := hrel
      obtain ⟨hlex, hB⟩ := H.out
      by_cases hil : i < l.length
      · obtain ⟨b, off, rfl, hlt, hc⟩ := Hl.out (by omega)
        have hir : i < r.length := by have := Hne.out; omega
        obtain ⟨b', off', rfl, hlt', hc'⟩ := Hr.out (by omega)
        have c1 := (hB.cell (p := ⟨b, off + i, none⟩) hlt).trans (hc i l[i] (List.getElem?_eq_getElem hil))
        have c2 := (hB.cell (p := ⟨b', off' + i, none⟩) hlt').trans (hc' i r[i] (List.getElem?_eq_getElem hir))
        rw [List.drop_eq_getElem_cons hil, List.drop_eq_getElem_cons hir, lexN] at hlex
        have Hlex := Lib.hid hlex
        have HB := Lib.hid hB
        clear hc hc' hlex hB H
        generalize l[i] = x at *
        generalize r[i] = y at *
        have hxy : x < y ∨ y < x ∨ x = y := by omega
        rcases hxy with hx | hx | hx
        · have d1 : decide ((x : Int) < (y : Int)) = true := by simp; omega
          have d2 : decide (x < y) = true := by simp; omega
          have Hx := Lib.hid hx
          clear hx
          go_wp2
          go_quiet (fail)
          go_wp2
          go_ret
          have h := Hlex.out
          rw [if_pos Hx.out] at h
          exact ⟨by rw [hcmp.out, ← h]; rfl, below_drewN HB.out nq⟩
        · have d1 : decide ((x : Int) < (y : Int)) = false := by simp; omega
          have d2 : decide (x < y) = false := by simp; omega
          have d3 : decide ((y : Int) < (x : Int)) = true := by simp; omega
          have d4 : decide (y < x) = true := by simp; omega
          have Hx := Lib.hid hx
          clear hx
          go_wp2
          go_quiet (fail)
          go_wp2
          go_quiet (fail)
          go_wp2
          go_ret
          have h := Hlex.out
          rw [if_neg (by have := Hx.out; omega), if_pos Hx.out] at h
          exact ⟨by rw [hcmp.out, ← h]; rfl, (by repeat (first | exact HB.out | refine below_drewN ?_ _))⟩
        · subst hx
          have d1 : decide ((x : Int) < (x : Int)) = false := by simp
          have d2 : decide (x < x) = false := by simp
          go_wp2
          go_quiet (fail)
          go_wp2
          go_quiet (fail)
          go_wp2
          go_roundw
          case rel =>
            have h := Hlex.out
            rw [if_neg (by omega), if_neg (by omega)] at h
            exact ⟨i + 1, hil, by go_num, h, (by repeat (first | exact HB.out | refine below_drewN ?_ _))⟩
          case measure => simp [intOf]; omega
      · have hend : lexN l r = 0 := by
          rw [← hlex, List.drop_eq_nil_of_le (by omega)]; rfl
        have HB := Lib.hid hB
        have Hend := Lib.hid hend
        clear hend hlex hB H
        go_wp2
        go_ret
        exact ⟨by rw [hcmp.out, Hend.out]; rfl, HB.out⟩
  · have hneb : ((l.length : Int) != (r.length : Int)) = true := by simpa using (by omega : ¬ (l.length : Int) = (r.length : Int))
    have hcmp : cmpN l r = if l.length < r.length then -1 else 1 := by unfold cmpN; rw [if_pos hne]
    by_cases hlt : l.length < r.length
    · rw [if_pos hlt] at hcmp
      have Hc := Lib.hid hcmp
      clear hcmp hne
      go_enter Tryd.func40, Tryd.ntmps40
      go_wp2
      go_ret
      exact ⟨by rw [Hc.out]; rfl, Below.refl _ _⟩
    · rw [if_neg hlt] at hcmp
      have Hc := Lib.hid hcmp
      clear hcmp hne
      go_enter Tryd.func40, Tryd.ntmps40
      go_wp2
      go_ret
      exact ⟨by rw [Hc.out]; rfl, Below.refl _ _⟩

end Go.Proofs.YtmbpldnclnahmaaDoor
