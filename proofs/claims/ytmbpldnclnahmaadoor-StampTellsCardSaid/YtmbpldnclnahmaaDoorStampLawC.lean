/- The walk of the law StampTells. -/
import Derived.Test.YtmbpldnclnahmaaDoorStampK
import Derived.Test.YtmbpldnclnahmaaDoorRefStampA
import Derived.Test.YtmbpldnclnahmaaDoorRefStampB
import Derived.Test.YtmbpldnclnahmaaDoorFrame
set_option maxRecDepth 100000
set_option linter.unusedVariables false
set_option linter.unusedSimpArgs false
namespace Go.Proofs.YtmbpldnclnahmaaDoor
open Go.RowKit Dc

theorem scaledV_form (o : Option Int) : ∃ z b, scaledV o = .tuple #[.int .i64 z, .bool b] := by
  cases o with
  | none => exact ⟨0, false, rfl⟩
  | some t => exact ⟨t, true, rfl⟩
/-- the three numbers that are tried -/
def xs3 (n q : Int) (i : Nat) : Int := if i = 0 then n else if i = 1 then q else q * 1000000

set_option maxHeartbeats 8000000 in
theorem tells_walk (s : ByteArray) (n v m k : Int) (w : World) (hp : Pl w) (hn1 : -9223372036854775808 ≤ n) (hn2 : n ≤ 9223372036854775807) (hv1 : -9223372036854775808 ≤ v) (hv2 : v ≤ 9223372036854775807) (hm1 : -9223372036854775808 ≤ m) (hm2 : m ≤ 9223372036854775807) :
    Calls Tryd.prog 3 #[.string s, .int .i64 n, .int .i64 v, dv2 m k] w fun e w' => e = .returned (.bool true) ∧ Below w.heap.size w w' := by
  have kB := kb_alloc (Below.refl w.heap.size w) (Nat.le_refl _) (.cells #[.int .i64 m, .int .i64 k] 23)
  have kd := DecAt.new w m k
  replace hp := hp.alloc (.cells #[.int .i64 m, .int .i64 k] 23)
  obtain ⟨l, rfl⟩ : ∃ l, s = str l := ⟨_, str_self s⟩
  have hsz := str_size l
  go_enter Tryd.func3, Tryd.ntmps3
  go_wp2_with fail
  refine (known_calls _ hp).mono ?_; rintro e w1 ⟨rfl, b⟩
  replace kB := kB.trans (b.mono kB.size); replace hp := hp.below b; replace kd := kd.below b; clear b
  by_cases h60 : 60 < l.length
  · go_wp2_with fail
    go_ret
    exact ⟨rfl, kB⟩
  have hl : l.length ≤ 60 := by omega
  go_wp2_with fail
  refine (int_calls l _ (by omega)).mono ?_; rintro e w2 ⟨rfl, b⟩
  replace kB := kB.trans (b.mono kB.size); replace hp := hp.below b; replace kd := kd.below b; clear b
  have hri := Lib.hid (fun W => rint_calls l W (by omega))
  generalize intO l = r1 at *
  obtain ⟨a1, c1, o1⟩ := r1
  unfold intV
  unfold intV at hri
  go_wp2_with fail
  refine (hri.out _).mono ?_; rintro e w3 ⟨rfl, b⟩
  replace kB := kB.trans (b.mono kB.size); replace hp := hp.below b; replace kd := kd.below b; clear b hri
  go_wp2_with fail
  refine (uint_calls l _ (by omega)).mono ?_; rintro e w4 ⟨rfl, b⟩
  replace kB := kB.trans (b.mono kB.size); replace hp := hp.below b; replace kd := kd.below b; clear b
  have hru := Lib.hid (fun W => ruint_calls l W (by omega))
  generalize uintO l = r2 at *
  obtain ⟨a2, c2, o2⟩ := r2
  unfold intV
  unfold intV at hru
  go_wp2_with fail
  refine (hru.out _).mono ?_; rintro e w5 ⟨rfl, b⟩
  replace kB := kB.trans (b.mono kB.size); replace hp := hp.below b; replace kd := kd.below b; clear b hru
  obtain ⟨z, bb, hz⟩ := scaledV_form (secO m k)
  have hs1 := Lib.hid (fun W hp => sec_calls m k W hp hm1 hm2)
  have hs2 := Lib.hid (fun W => rsec_calls m k W hm1 hm2)
  rw [hz] at hs1 hs2
  have q := kd
  obtain ⟨p0, p1, p2, p3, p4⟩ := q
  go_wp2_with fail
  refine (hs1.out _ hp).mono ?_; rintro e w6 ⟨rfl, b⟩
  replace kB := kB.trans (b.mono kB.size); replace hp := hp.below b; replace kd := kd.below b; clear b hs1 p0 p1 p2 p3 p4
  obtain ⟨p0, p1, p2, p3, p4⟩ := kd
  go_wp2_with fail
  refine (hs2.out _).mono ?_; rintro e w7 ⟨rfl, b⟩
  replace kB := kB.trans (b.mono kB.size); replace hp := hp.below b; clear b hs2 p0 p1 p2 p3 p4
  have ht1 := Lib.hid (fun W hp => text_calls n W hp hn1 hn2)
  have ht2 := Lib.hid (fun W => rtime_calls n W hn1 hn2)
  generalize textO n = tx at *
  clear hz
  go_wp2_with fail
  refine (ht1.out _ hp).mono ?_; rintro e w8 ⟨rfl, b⟩
  replace kB := kB.trans (b.mono kB.size); replace hp := hp.below b; clear b ht1
  go_wp2_with fail
  refine (ht2.out _).mono ?_; rintro e w9 ⟨rfl, b⟩
  replace kB := kB.trans (b.mono kB.size); replace hp := hp.below b; clear b ht2
  go_wp2_with fail
  have hq1 := Int.tmod_lt_of_pos n (show (0 : Int) < 100000 by decide)
  have hq2 := Int.lt_tmod_of_pos n (show (0 : Int) < 100000 by decide)
  have hwq : IntKind.i64.wrap (n.tmod 100000) = n.tmod 100000 := IntWalk.i64_in _ (by omega)
  have hwm : IntKind.i64.wrap (n.tmod 100000 * 1000000) = n.tmod 100000 * 1000000 := IntWalk.i64_in _ (by omega)
  go_loopw [25] (fun s25 wr => ∃ j : Nat, j ≤ 7 ∧ s25 = .int .i64 ((j : Int) - 1) ∧ Hid (Below w.heap.size w wr ∧ Pl wr)) (fun s25 _ => (6 - intOf s25).toNat)
  case atStart => exact ⟨0, by omega, rfl, kB, hp⟩
  case round =>
    obtain ⟨j, hj, rfl, H⟩ := hrel
    clear kB hp
    by_cases hj7 : j < 7
    · by_cases hj6 : j = 6
      · subst hj6
        rw [show (((6 : Nat) : Int) - 1) = 5 from rfl]
        go_wp2_with fail
        obtain ⟨hB, hP⟩ := H.out
        have kB := kb_alloc hB (Nat.le_refl _) (.cells #[.int .i64 n, .int .i64 (n.tmod 100000), .int .i64 (n.tmod 100000 * 1000000)] 2)
        have hp := hP.alloc (.cells #[.int .i64 n, .int .i64 (n.tmod 100000), .int .i64 (n.tmod 100000 * 1000000)] 2)
        have hc : ∀ i, i < 3 → (wr.alloc (.cells #[.int .i64 n, .int .i64 (n.tmod 100000), .int .i64 (n.tmod 100000 * 1000000)] 2)).cell? ⟨wr.heap.size, i, none⟩ = some (.int .i64 (xs3 n (n.tmod 100000) i)) := fun i hi => by
          match i, hi with
          | 0, _ => simp [go_sem, xs3]
          | 1, _ => simp [go_sem, xs3]
          | 2, _ => simp [go_sem, xs3]
        have hlt : wr.heap.size < (wr.alloc (.cells #[.int .i64 n, .int .i64 (n.tmod 100000), .int .i64 (n.tmod 100000 * 1000000)] 2)).heap.size := by simp
        have hxb : ∀ i, -9223372036854775808 ≤ xs3 n (n.tmod 100000) i ∧ xs3 n (n.tmod 100000) i ≤ 9223372036854775807 := fun i => by
          unfold xs3; split
          · omega
          · split <;> omega
        have Hxb := Lib.hid hxb
        have Hc := Lib.hid hc
        have Hlt := Lib.hid hlt
        clear hB hP H hxb hc hlt
        generalize wr.alloc (.cells #[.int .i64 n, .int .i64 (n.tmod 100000), .int .i64 (n.tmod 100000 * 1000000)] 2) = W1 at *
        generalize wr.heap.size = B0 at Hc Hlt ⊢
        go_loopw [137] (fun s137 wi => ∃ i : Nat, i ≤ 3 ∧ s137 = .int .i64 (i : Nat) ∧ Hid (Below W1.heap.size W1 wi ∧ Pl wi)) (fun s137 _ => 3 - (intOf s137).toNat)
        case atStart => exact ⟨0, by omega, rfl, Below.refl _ _, hp⟩
        case round =>
          obtain ⟨i, hi, rfl, HI⟩ := hrel
          by_cases hi3 : i < 3
          · obtain ⟨kI, hpI⟩ := HI.out
            have hci := (kI.cell (p := ⟨B0, i, none⟩) Hlt.out).trans (Hc.out i hi3)
            obtain ⟨x1, x2⟩ := Hxb.out i
            clear HI
            generalize xs3 n (n.tmod 100000) i = x at *
            obtain ⟨z1, f1, e1⟩ := scaledV_form (msO x v)
            obtain ⟨z2, f2, e2⟩ := scaledV_form (ofO x v)
            have c1 := Lib.hid (fun W hp => ms_calls x v W hp x1 x2)
            have c2 := Lib.hid (fun W => rms_calls x v W x1 x2)
            have c3 := Lib.hid (fun W hp => of_calls x v W hp x1 x2)
            have c4 := Lib.hid (fun W => rof_calls x v W x1 x2)
            rw [e1] at c1 c2
            rw [e2] at c3 c4
            clear e1 e2 x1 x2 hp kB
            go_wp2_with fail
            refine (c1.out _ hpI).mono ?_; rintro e y1 ⟨rfl, b⟩
            replace kI := kI.trans (b.mono kI.size); replace hpI := hpI.below b; clear b c1 hci
            go_wp2_with fail
            refine (c2.out _).mono ?_; rintro e y2 ⟨rfl, rfl⟩
            clear c2
            go_wp2_with fail
            refine (c3.out _ hpI).mono ?_; rintro e y3 ⟨rfl, b⟩
            replace kI := kI.trans (b.mono kI.size); replace hpI := hpI.below b; clear b c3
            go_wp2_with fail
            refine (c4.out _).mono ?_; rintro e y4 ⟨rfl, rfl⟩
            clear c4
            go_wp2_with fail
            go_roundw
            case rel => exact ⟨i + 1, by omega, by go_num, kI, hpI⟩
            case measure => simp [intOf]; omega
          · obtain rfl : i = 3 := by omega
            obtain ⟨kI, hpI⟩ := HI.out
            have kB2 := kB.trans (kI.mono kB.size)
            clear HI kB hp kI
            go_wp2_with fail
            go_roundw
            case rel => exact ⟨6 + 1, by omega, by go_num, kB2, hpI⟩
            case measure => simp [intOf]
      · have hb5 : (((j : Int) - 1) == 5) = false := by simpa using (by omega : ¬ (j : Int) - 1 = 5)
        have hb6 : ((j : Int) - 1) < 6 := by omega
        go_wp2_with fail
        obtain ⟨hB, hP⟩ := H.out
        have kB := kb_alloc hB (Nat.le_refl _) (.cells #[.int .i64 n, .int .i64 (n.tmod 100000), .int .i64 (n.tmod 100000 * 1000000)] 2)
        have hp := hP.alloc (.cells #[.int .i64 n, .int .i64 (n.tmod 100000), .int .i64 (n.tmod 100000 * 1000000)] 2)
        have hc : ∀ i, i < 3 → (wr.alloc (.cells #[.int .i64 n, .int .i64 (n.tmod 100000), .int .i64 (n.tmod 100000 * 1000000)] 2)).cell? ⟨wr.heap.size, i, none⟩ = some (.int .i64 (xs3 n (n.tmod 100000) i)) := fun i hi => by
          match i, hi with
          | 0, _ => simp [go_sem, xs3]
          | 1, _ => simp [go_sem, xs3]
          | 2, _ => simp [go_sem, xs3]
        have hlt : wr.heap.size < (wr.alloc (.cells #[.int .i64 n, .int .i64 (n.tmod 100000), .int .i64 (n.tmod 100000 * 1000000)] 2)).heap.size := by simp
        have hxb : ∀ i, -9223372036854775808 ≤ xs3 n (n.tmod 100000) i ∧ xs3 n (n.tmod 100000) i ≤ 9223372036854775807 := fun i => by
          unfold xs3; split
          · omega
          · split <;> omega
        have Hxb := Lib.hid hxb
        have Hc := Lib.hid hc
        have Hlt := Lib.hid hlt
        clear hB hP H hxb hc hlt
        generalize wr.alloc (.cells #[.int .i64 n, .int .i64 (n.tmod 100000), .int .i64 (n.tmod 100000 * 1000000)] 2) = W1 at *
        generalize wr.heap.size = B0 at Hc Hlt ⊢
        go_loopw [137] (fun s137 wi => ∃ i : Nat, i ≤ 3 ∧ s137 = .int .i64 (i : Nat) ∧ Hid (Below W1.heap.size W1 wi ∧ Pl wi)) (fun s137 _ => 3 - (intOf s137).toNat)
        case atStart => exact ⟨0, by omega, rfl, Below.refl _ _, hp⟩
        case round =>
          obtain ⟨i, hi, rfl, HI⟩ := hrel
          by_cases hi3 : i < 3
          · obtain ⟨kI, hpI⟩ := HI.out
            have hci := (kI.cell (p := ⟨B0, i, none⟩) Hlt.out).trans (Hc.out i hi3)
            obtain ⟨x1, x2⟩ := Hxb.out i
            clear HI
            generalize xs3 n (n.tmod 100000) i = x at *
            obtain ⟨z1, f1, e1⟩ := scaledV_form (msO x ((j : Int) - 1))
            obtain ⟨z2, f2, e2⟩ := scaledV_form (ofO x ((j : Int) - 1))
            have c1 := Lib.hid (fun W hp => ms_calls x ((j : Int) - 1) W hp x1 x2)
            have c2 := Lib.hid (fun W => rms_calls x ((j : Int) - 1) W x1 x2)
            have c3 := Lib.hid (fun W hp => of_calls x ((j : Int) - 1) W hp x1 x2)
            have c4 := Lib.hid (fun W => rof_calls x ((j : Int) - 1) W x1 x2)
            rw [e1] at c1 c2
            rw [e2] at c3 c4
            clear e1 e2 x1 x2 hp kB
            go_wp2_with fail
            refine (c1.out _ hpI).mono ?_; rintro e y1 ⟨rfl, b⟩
            replace kI := kI.trans (b.mono kI.size); replace hpI := hpI.below b; clear b c1 hci
            go_wp2_with fail
            refine (c2.out _).mono ?_; rintro e y2 ⟨rfl, rfl⟩
            clear c2
            go_wp2_with fail
            refine (c3.out _ hpI).mono ?_; rintro e y3 ⟨rfl, b⟩
            replace kI := kI.trans (b.mono kI.size); replace hpI := hpI.below b; clear b c3
            go_wp2_with fail
            refine (c4.out _).mono ?_; rintro e y4 ⟨rfl, rfl⟩
            clear c4
            go_wp2_with fail
            go_roundw
            case rel => exact ⟨i + 1, by omega, by go_num, kI, hpI⟩
            case measure => simp [intOf]; omega
          · obtain rfl : i = 3 := by omega
            obtain ⟨kI, hpI⟩ := HI.out
            have kB2 := kB.trans (kI.mono kB.size)
            clear HI kB hp kI
            go_wp2_with fail
            go_roundw
            case rel => exact ⟨j + 1, by omega, by go_num, kB2, hpI⟩
            case measure => simp [intOf]; omega
    · obtain rfl : j = 7 := by omega
      rw [show (((7 : Nat) : Int) - 1) = 6 from rfl]
      go_wp2_with fail
      go_ret
      exact ⟨rfl, H.out.1⟩

end Go.Proofs.YtmbpldnclnahmaaDoor
