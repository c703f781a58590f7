/- The walks of the laws' own 'short' and 'known'. -/
import Derived.Test.YtaloimbffijalaaDoorLabelC
import Derived.Test.YtaloimbffijalaaDoorLabelF
import Derived.Test.YtaloimbffijalaaDoorLabelH
import Derived.Test.YtaloimbffijalaaDoorLabelI
set_option maxRecDepth 100000
set_option linter.unusedVariables false
set_option linter.unusedSimpArgs false
namespace Go.Proofs.YtaloimbffijalaaDoor
open Go.RowKit Go.Sort
attribute [local go_sem ↓] Go.wp_at_zero Go.wp_at_succ

/-- what 'short' tells: that there are few -/
def ShortP (l : List Lb) (e : Ending) : Prop := ∃ q : Bool, e = .returned (.bool q) ∧ (q = true → l.length ≤ 20)
theorem short_no {l : List Lb} {e : Ending} (h : e = .returned (.bool false)) : ShortP l e := ⟨false, h, by rintro ⟨⟩⟩
theorem short_yes {l : List Lb} {e : Ending} (h : e = .returned (.bool true)) (hl : l.length ≤ 20) : ShortP l e := ⟨true, h, fun _ => hl⟩
theorem ShortP.ways {l : List Lb} {e : Ending} (h : ShortP l e) : e = .returned (.bool false) ∨ (e = .returned (.bool true) ∧ l.length ≤ 20) := by
  obtain ⟨q, rfl, hq⟩ := h
  cases q
  · exact Or.inl rfl
  · exact Or.inr ⟨rfl, hq rfl⟩
set_option maxHeartbeats 4000000 in
theorem short_calls (l : List Lb) (v : Value) (w : World) (hv : LbRow w v l) :
    Calls Tryd.prog 8 #[v] w fun e w' => ShortP l e ∧ w = w' := by
  obtain ⟨A, cap, rfl, hlc, hcm, hnil, hrow⟩ := hv
  unfold maxLen at hcm
  have HR := Lib.hid hrow
  clear hrow hnil
  go_enter Tryd.func8, Tryd.ntmps8
  go_wp2_with fail
  go_loop [3] (fun v => ∃ k : Nat, k ≤ l.length ∧ v = .int .i64 (k : Nat)) (fun v => l.length - (intOf v).toNat)
  case atStart => exact ⟨0, Nat.zero_le _, rfl⟩
  case round =>
    obtain ⟨k, hk, rfl⟩ := hrel
    by_cases hkl : k < l.length
    · obtain ⟨b, off, rfl, hbs, hc⟩ := HR.out (by omega)
      obtain ⟨c0, c1⟩ := hc k (lbAt l k) (at_get hkl)
      generalize lbAt l k = X at *
      obtain ⟨X1, X2⟩ := X
      simp only at c0 c1
      clear hc
      have hz1 := str_size X1
      have hz2 := str_size X2
      by_cases h1 : (100 : Int) < (X1.length : Int)
      · have d1 : decide ((100 : Int) < (X1.length : Int)) = true := decide_eq_true h1
        have d1' : decide (100 < X1.length) = true := by simp; omega
        go_wp2
        go_ret
        exact ⟨short_no rfl, rfl⟩
      · have d1 : decide ((100 : Int) < (X1.length : Int)) = false := decide_eq_false h1
        have d1' : decide (100 < X1.length) = false := by simp; omega
        by_cases h2 : (100 : Int) < (X2.length : Int)
        · have d2 : decide ((100 : Int) < (X2.length : Int)) = true := decide_eq_true h2
          have d2' : decide (100 < X2.length) = true := by simp; omega
          go_wp2
          go_ret
          exact ⟨short_no rfl, rfl⟩
        · have d2 : decide ((100 : Int) < (X2.length : Int)) = false := decide_eq_false h2
          have d2' : decide (100 < X2.length) = false := by simp; omega
          go_wp2
          go_round
          case rel => exact ⟨k + 1, hkl, by go_num⟩
          case measure => simp [intOf]; omega
    · by_cases h1 : (l.length : Int) ≤ 20
      · have d1 : decide ((l.length : Int) ≤ 20) = true := decide_eq_true h1
        go_wp2
        go_ret
        exact ⟨short_yes rfl (by omega), rfl⟩
      · have d1 : decide ((l.length : Int) ≤ 20) = false := decide_eq_false h1
        go_wp2
        go_ret
        exact ⟨short_no rfl, rfl⟩

/-- a row that is a block of its own -/
theorem lb_block {w : World} {g : Nat} {l : List Lb} {cs : Array Value} {t : TypeId} {fr : Nat × Nat} (h : w.heap[g]? = some (.cells cs t fr)) (hc : cs.toList = lbCells l) (hl : l.length ≤ maxLen) : LbRow w (.slice (some ⟨g, 0, none⟩) l.length l.length) l :=
  ⟨_, _, rfl, Nat.le_refl _, hl, (by rintro ⟨⟩), fun _ => ⟨g, 0, rfl, (Array.getElem?_eq_some_iff.1 h).1, fun i p hp => by
    obtain ⟨h1, h2⟩ := lbCells_get l i p hp
    rw [← hc] at h1 h2
    exact ⟨by rw [cell_of_row w g _ cs t fr h, Nat.zero_add]; simpa using h1, by rw [cell_of_row w g _ cs t fr h, Nat.zero_add]; simpa using h2⟩⟩⟩
theorem srt_k1 : srt [([98], [49]), ([97], [50])] = some [([97], [50]), ([98], [49])] := srt_is (List.Perm.swap _ _ _) (by simp [StrictS, cb, Go.Lib.compareBytes])
theorem srt_k2 : srt [([97], []), ([97], [120])] = none := srt_no (by simp [Nd])
def ks : List Lb := [([97], [50]), ([98], [49])]
theorem k_sort1 (w : World) (v : Value) (hv : LbRow w v [([98], [49]), ([97], [50])]) :
    Calls Tryd.prog 9 #[v] w fun e w' => ∃ v', e = .returned (.tuple #[v', .bool true]) ∧ Below w.heap.size w w' ∧ LbRow w' v' ks :=
  (sort_calls _ v w hv (by simp)).mono fun _ _ ⟨v', h, hb, hr⟩ => ⟨v', by rw [h, srt_k1]; rfl, hb, by rw [srt_k1] at hr; exact hr⟩
theorem k_sort2 (w : World) (v : Value) (hv : LbRow w v [([97], []), ([97], [120])]) :
    Calls Tryd.prog 9 #[v] w fun e w' => ∃ v', e = .returned (.tuple #[v', .bool false]) ∧ Below w.heap.size w w' :=
  (sort_calls _ v w hv (by simp)).mono fun _ _ ⟨v', h, hb, hr⟩ => ⟨v', by rw [h, srt_k2]; rfl, hb⟩
theorem k_get (w : World) (v : Value) (hv : LbRow w v ks) :
    Calls Tryd.prog 11 #[v, .string ⟨#[98]⟩] w fun e w' => e = .returned (.tuple #[.string ⟨#[49]⟩, .bool true]) ∧ Below w.heap.size w w' :=
  (get_calls _ v [98] w hv).mono fun _ _ ⟨h, hb⟩ => ⟨by rw [h]; rfl, hb⟩
theorem k_without (w : World) (v u : Value) (es : Nat → ByteArray) (hv : LbRow w v ks) (hu : StrRow w u 2 es) (h0 : es 0 = ⟨#[97]⟩) (h1 : es 1 = ⟨#[99]⟩) :
    Calls Tryd.prog 14 #[v, u] w fun e w' => ∃ v', e = .returned v' ∧ Below w.heap.size w w' ∧ LbRow w' v' [([98], [49])] :=
  (without_calls _ 2 es v u w hv hu (by simp [ks])).mono fun _ _ ⟨v', h, hb, ho⟩ => ⟨v', h, hb, by
    have e : outL (inN es 2) ks = [([98], [49])] := by
      have e1 : ∀ x, inN es 2 x = (decide ([97] = x) || decide ([99] = x)) := fun x => by simp [inN, h0, h1]
      unfold outL ks
      simp [e1]
    rw [e] at ho
    exact LbOwn.row ho⟩
theorem k_cmp (w : World) (v u : Value) (hv : LbRow w v [([98], [49])]) (hu : LbRow w u ks) :
    Calls Tryd.prog 16 #[v, u] w fun e w' => e = .returned (.int .i64 1) ∧ Below w.heap.size w w' :=
  (compare_calls _ _ v u w hv hu).mono fun _ _ ⟨h, hb⟩ => ⟨by rw [h]; rfl, hb⟩
theorem k_good (w : World) (v : Value) (hv : LbRow w v ks) (hT : ShapesIn w) :
    Calls Tryd.prog 18 #[v] w fun e w' => e = .returned (.bool true) ∧ Below w.heap.size w w' :=
  (good_calls _ v w hv (by intro x hx; simp [ks] at hx; rcases hx with rfl | rfl <;> (constructor <;> (unfold maxLen; simp))) hT).mono fun _ _ ⟨h, hb⟩ => ⟨by rw [h]; rfl, hb⟩
theorem k_name1 (w : World) (hT : ShapesIn w) : Calls Tryd.prog 20 #[.string ⟨#[97, 32, 98]⟩] w fun e w' => e = .returned (.bool true) ∧ Below w.heap.size w w' :=
  (name_calls [97, 32, 98] w (by decide) hT).mono fun _ _ ⟨h, hb⟩ => ⟨by rw [h]; rfl, hb⟩
theorem k_name2 (w : World) (hT : ShapesIn w) : Calls Tryd.prog 20 #[.string ⟨#[]⟩] w fun e w' => e = .returned (.bool false) ∧ Below w.heap.size w w' :=
  (name_calls [] w (by decide) hT).mono fun _ _ ⟨h, hb⟩ => ⟨by rw [h]; rfl, hb⟩
theorem k_name3 (w : World) (hT : ShapesIn w) : Calls Tryd.prog 20 #[.string ⟨#[97, 10]⟩] w fun e w' => e = .returned (.bool false) ∧ Below w.heap.size w w' :=
  (name_calls [97, 10] w (by decide) hT).mono fun _ _ ⟨h, hb⟩ => ⟨by rw [h]; rfl, hb⟩
theorem k_value1 (w : World) (hT : ShapesIn w) : Calls Tryd.prog 22 #[.string ⟨#[]⟩] w fun e w' => e = .returned (.bool true) ∧ Below w.heap.size w w' :=
  (value_calls [] w (by decide) hT).mono fun _ _ ⟨h, hb⟩ => ⟨by rw [h]; rfl, hb⟩
theorem k_value2 (w : World) (hT : ShapesIn w) : Calls Tryd.prog 22 #[.string ⟨#[255]⟩] w fun e w' => e = .returned (.bool false) ∧ Below w.heap.size w w' :=
  (value_calls [255] w (by decide) hT).mono fun _ _ ⟨h, hb⟩ => ⟨by rw [h]; rfl, hb⟩

end Go.Proofs.YtaloimbffijalaaDoor
