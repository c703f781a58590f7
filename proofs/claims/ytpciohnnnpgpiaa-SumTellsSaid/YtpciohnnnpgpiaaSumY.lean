/- The walks of package sum's Add over a row of decimals; of the laws' dot. -/
import Derived.Test.YtpciohnnnpgpiaaSumX
import Derived.Test.YtpciohnnnpgpiaaRefDecE2
set_option linter.unusedVariables false
set_option linter.unusedSimpArgs false
namespace Go.Proofs.Ytpciohnnnpgpiaa
open Go.RowKit Dc

/-- a slice of decimals -/
def DcRow (w : World) (v : Value) (l : List (Int × Int)) : Prop :=
  ∃ A cap, v = .slice A l.length cap ∧ l.length ≤ cap ∧ cap ≤ maxLen ∧ (0 < l.length → ∃ b off, A = some ⟨b, off, none⟩ ∧ b < w.heap.size ∧ ∀ i p, l[i]? = some p → w.cell? ⟨b, off + i * 2, none⟩ = some (.int .i64 p.1) ∧ w.cell? ⟨b, off + i * 2 + 1, none⟩ = some (.int .i64 p.2))
theorem DcRow.below {w w' : World} {v : Value} {l : List (Int × Int)} (h : DcRow w v l) (hb : Below w.heap.size w w') : DcRow w' v l := by
  obtain ⟨A, cap, rfl, h1, h2, h3⟩ := h
  refine ⟨A, cap, rfl, h1, h2, fun h0 => ?_⟩
  obtain ⟨b, off, rfl, hlt, hc⟩ := h3 h0
  exact ⟨b, off, rfl, Nat.lt_of_lt_of_le hlt hb.size, fun i p hp => ⟨(hb.cell (p := ⟨b, off + i * 2, none⟩) hlt).trans (hc i p hp).1, (hb.cell (p := ⟨b, off + i * 2 + 1, none⟩) hlt).trans (hc i p hp).2⟩⟩
def inI (x : Int) : Prop := -9223372036854775808 ≤ x ∧ x ≤ 9223372036854775807
def addV : Option (Int × Int) → Value
  | none => .tuple #[dv2 0 0, .bool false]
  | some p => .tuple #[dv2 p.1 p.2, .bool true]
theorem addL_none {m s : Int} {p : Int × Int} {r : List (Int × Int)} (h : plusO m s p.1 p.2 = none) : addL m s (p :: r) = none := by rw [addL, h]
theorem addL_some {m s a : Int} {k : Nat} {p : Int × Int} {r : List (Int × Int)} (h : plusO m s p.1 p.2 = some (a, k)) : addL m s (p :: r) = addL a k r := by rw [addL, h]
theorem plusO_good {m s n t a : Int} {k : Nat} (h : plusO m s n t = some (a, k)) : goodD a k = true ∧ a.natAbs ≤ big := by
  unfold plusO at h
  split at h
  · obtain ⟨h1, h2, _⟩ := decI_some h
    exact ⟨h1, h2⟩
  · cases h

set_option maxRecDepth 100000 in
set_option maxHeartbeats 4000000 in
theorem add_walk (l : List (Int × Int)) (v : Value) (w : World) (hv : DcRow w v l) (hin : ∀ p ∈ l, inI p.1) :
    Calls Try.prog 9 #[v] w fun e w' => e = .returned (addV (addL 0 0 l)) ∧ Below w.heap.size w w' := by
  obtain ⟨A, cap, rfl, h1, h2, h3⟩ := hv
  have Hrow := Lib.hid h3
  unfold maxLen at h2
  have Hin := Lib.hid hin
  have kB := kb_alloc (kb_alloc (Below.refl w.heap.size w) (Nat.le_refl _) (.cells #[.int .i64 0, .int .i64 0] 25)) (Nat.le_refl _) (.cells #[.int .i64 0, .int .i64 0] 25)
  have kd2 := (DecAt.new w 0 0).alloc (.cells #[.int .i64 0, .int .i64 0] 25)
  have kd4 := DecAt.new (w.alloc (.cells #[.int .i64 0, .int .i64 0] 25)) 0 0
  rw [show (w.alloc (.cells #[.int .i64 0, .int .i64 0] 25)).heap.size = w.heap.size + 1 by simp] at kd4
  clear h3 hin
  go_enter Try.func9, Try.ntmps9
  go_wp2_with fail
  obtain ⟨W1, hW1⟩ : ∃ W1 : World, W1 = (w.alloc (.cells #[.int .i64 0, .int .i64 0] 25)).alloc (.cells #[.int .i64 0, .int .i64 0] 25) := ⟨_, rfl⟩
  rw [← hW1] at kB kd2 kd4 ⊢
  have H0 := Lib.hid (⟨kB, kd2, kd4⟩ : _ ∧ _ ∧ _)
  clear hW1 kB kd2 kd4
  go_loopw [11] (fun s11 wr => ∃ (i : Nat) (m s : Int), i ≤ l.length ∧ s11 = .int .i64 (i : Nat) ∧ Hid (Below w.heap.size w wr ∧ DecAt wr w.heap.size 0 0 ∧ DecAt wr (w.heap.size + 1) m s ∧ goodD m s = true ∧ m.natAbs ≤ big ∧ addL m s (l.drop i) = addL 0 0 l)) (fun s11 _ => l.length - (intOf s11).toNat)
  case atStart => exact ⟨0, 0, 0, Nat.zero_le _, rfl, H0.out.1, H0.out.2.1, H0.out.2.2, by decide, by decide, rfl⟩
  case round =>
    clear H0
    obtain ⟨i, m, s, hi, rfl, H⟩ := hrel
    obtain ⟨kB, kd2, kd4, hg, hm, hadd⟩ := H.out
    clear H
    by_cases hil : i < l.length
    · obtain ⟨b, off, rfl, hlt, hcs⟩ := Hrow.out (by omega)
      obtain ⟨e0, e1⟩ := hcs i l[i] (List.getElem?_eq_getElem hil)
      have c0 := (kB.cell (p := ⟨b, off + i * 2, none⟩) hlt).trans e0
      have c1 := (kB.cell (p := ⟨b, off + i * 2 + 1, none⟩) hlt).trans e1
      rw [List.drop_eq_getElem_cons hil] at hadd
      have hnb := Hin.out l[i] (List.getElem_mem hil)
      have hpl := Lib.hid (fun W => plus_walk m s l[i].1 l[i].2 W hm hg hnb.1 hnb.2)
      have hnone : Hid (plusO m s l[i].1 l[i].2 = none → none = addL 0 0 l) := fun h => (addL_none (r := l.drop (i + 1)) h).symm.trans hadd
      have hsome : Hid (∀ a k, plusO m s l[i].1 l[i].2 = some (a, k) → goodD a k = true ∧ a.natAbs ≤ big ∧ addL a k (l.drop (i + 1)) = addL 0 0 l) := fun a k h => by
        obtain ⟨q1, q2⟩ := plusO_good h
        exact ⟨q1, q2, (addL_some (r := l.drop (i + 1)) h).symm.trans hadd⟩
      generalize l[i] = p at *
      obtain ⟨n, t⟩ := p
      dsimp only at *
      have HH := Lib.hid (⟨kB, kd2, kd4⟩ : _ ∧ _ ∧ _)
      have hi2 : i + 1 ≤ l.length := hil
      have z0 := kd4.c0
      have z1 := kd4.c1
      have zlt := kd4.lt
      clear hcs e0 e1 hadd hnb hm hg kB kd2 kd4
      go_wp2_with fail
      have kB := kb_alloc HH.out.1 (Nat.le_refl _) (.cells #[.int .i64 n, .int .i64 t] 25)
      have kd2 := HH.out.2.1.alloc (.cells #[.int .i64 n, .int .i64 t] 25)
      have kd4 := HH.out.2.2.alloc (.cells #[.int .i64 n, .int .i64 t] 25)
      refine (hpl.out _).mono ?_; rintro e w2 ⟨rfl, b2⟩
      replace kB := kB.trans (b2.mono kB.size)
      replace kd2 := kd2.below b2
      replace kd4 := kd4.below b2
      clear b2 hpl HH c0 c1 z0 z1
      cases ho : plusO m s n t with
      | none =>
        have hres := Lib.hid (hnone.out ho)
        rw [show normV none = Value.tuple #[dv2 0 0, .bool false] from rfl]
        clear ho hnone hsome
        replace kB := kb_alloc kB (Nat.le_refl _) (.cells #[.int .i64 0, .int .i64 0] 25)
        replace kd2 := kd2.alloc (.cells #[.int .i64 0, .int .i64 0] 25)
        obtain ⟨q0, q1, q2, q3, q4⟩ := kd2
        go_wp2_with fail
        refine bodyPost_ret (v := addV none) (by simp [results, Try.results9, go_sem, addV, q0, q1, q2, q3]) rfl ⟨by rw [← hres.out], ?_⟩
        repeat (refine Below.setCell ?_ (by first | (simp; done) | (simp; omega)) _)
        exact kB
      | some r =>
        obtain ⟨a, k⟩ := r
        have hs := Lib.hid (hsome.out a k ho)
        rw [show normV (some (a, k)) = Value.tuple #[dv2 a k, .bool true] from rfl]
        clear ho hnone hsome
        replace kB := kb_alloc kB (Nat.le_refl _) (.cells #[.int .i64 a, .int .i64 (k : Nat)] 25)
        replace kd2 := kd2.alloc (.cells #[.int .i64 a, .int .i64 (k : Nat)] 25)
        replace kd4 := kd4.alloc (.cells #[.int .i64 a, .int .i64 (k : Nat)] 25)
        have HH := Lib.hid (⟨kB, kd2, kd4⟩ : _ ∧ _ ∧ _)
        obtain ⟨q0, q1, q2, q3, q4⟩ := kd4
        clear kB kd2
        go_wp2_with fail
        go_roundw
        case rel =>
          obtain ⟨kB, kd2, kd4⟩ := HH.out
          exact ⟨i + 1, a, k, hi2, by go_num, below_put kB (by omega) a k, kd2.putOther (by omega) a k, kd4.put a k, hs.out.1, hs.out.2.1, hs.out.2.2⟩
        case measure => simp [intOf]; omega
    · have hres : Hid (addL 0 0 l = some (m, s)) := by
        show _ = _
        rw [← hadd, List.drop_eq_nil_of_le (by omega)]; rfl
      have hB := kB
      obtain ⟨q0, q1, q2, q3, q4⟩ := kd4
      obtain ⟨p0, p1, p2, p3, p4⟩ := kd2
      clear hadd hg hm
      go_wp2_with fail
      refine bodyPost_ret (v := addV (some (m, s))) (by simp [results, Try.results9, go_sem, addV, p0, p1, p2, p3, q0, q1, q2, q3]) rfl ⟨by rw [hres.out], ?_⟩
      repeat (refine Below.setCell ?_ (by first | (simp; done) | (simp; omega)) _)
      exact hB

/-- the decimal of a number, its digits behind the point; 0 if there is none -/
def dotO (m s : Int) : Int × Int := match decOf (decide (m < 0)) m.natAbs s with | none => (0, 0) | some (a, k) => (a, k)
set_option maxHeartbeats 2000000 in
theorem dot_calls (m s : Int) (w : World) (hm1 : -9223372036854775808 ≤ m) (hm2 : m ≤ 9223372036854775807) (hs1 : -9223372036854775808 ≤ s) (hs2 : s ≤ 9223372036854775807) :
    Calls Try.prog 21 #[.int .i64 m, .int .i64 s] w fun e w' => e = .returned (dv2 (dotO m s).1 (dotO m s).2) ∧ Below w.heap.size w w' := by
  have kB := kb_alloc (Below.refl w.heap.size w) (Nat.le_refl _) (.cells #[.int .i64 0, .int .i64 0] 25)
  have kd4 := DecAt.new w 0 0
  have hn := Lib.hid (fun W => rnorm_calls m s W hm1 hm2 hs1 hs2)
  go_enter Try.func21, Try.ntmps21
  go_wp2_with fail
  refine (hn.out _).mono ?_; rintro e w1 ⟨rfl, b1⟩
  replace kB := kB.trans (b1.mono kB.size)
  replace kd4 := kd4.below b1
  clear b1 hn
  cases ho : decOf (decide (m < 0)) m.natAbs s with
  | none =>
    have hres : Hid (dotO m s = (0, 0)) := by show _ = _; unfold dotO; rw [ho]
    rw [show rdecV none = Value.tuple #[dv2 0 0, .bool false] from rfl]
    clear ho
    replace kB := kb_alloc kB (Nat.le_refl _) (.cells #[.int .i64 0, .int .i64 0] 25)
    replace kd4 := kd4.alloc (.cells #[.int .i64 0, .int .i64 0] 25)
    obtain ⟨q0, q1, q2, q3, q4⟩ := kd4
    go_wp2_with fail
    refine bodyPost_ret (v := dv2 0 0) (by simp [results, Try.results21, go_sem, q0, q1, q2, q3]) rfl ⟨by rw [hres.out], ?_⟩
    repeat (refine Below.setCell ?_ (by first | (simp; done) | (simp; omega)) _)
    exact kB
  | some r =>
    obtain ⟨a, k⟩ := r
    have hres : Hid (dotO m s = (a, (k : Int))) := by show _ = _; unfold dotO; rw [ho]
    rw [show rdecV (some (a, k)) = Value.tuple #[dv2 a k, .bool true] from rfl]
    clear ho
    replace kB := kb_alloc kB (Nat.le_refl _) (.cells #[.int .i64 a, .int .i64 (k : Nat)] 25)
    replace kd4 := kd4.alloc (.cells #[.int .i64 a, .int .i64 (k : Nat)] 25)
    obtain ⟨q0, q1, q2, q3, q4⟩ := kd4
    go_wp2_with fail
    refine bodyPost_ret (v := dv2 a k) (by simp [results, Try.results21, go_sem, q0, q1, q2, q3]) rfl ⟨by rw [hres.out], ?_⟩
    repeat (refine Below.setCell ?_ (by first | (simp; done) | (simp; omega)) _)
    exact kB

end Go.Proofs.Ytpciohnnnpgpiaa
