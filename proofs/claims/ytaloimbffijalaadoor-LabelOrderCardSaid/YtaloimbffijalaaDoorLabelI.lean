/- The walk of package label's Without. -/
import Derived.Test.YtaloimbffijalaaDoorLabelG
import Derived.Test.YtaloimbffijalaaDoorLabelD
set_option maxRecDepth 100000
set_option linter.unusedVariables false
set_option linter.unusedSimpArgs false
namespace Go.Proofs.YtaloimbffijalaaDoor
open Go.RowKit Go.Sort
attribute [local go_sem ↓] Go.wp_at_zero Go.wp_at_succ

theorem outL_le (p : List UInt8 → Bool) (l : List Lb) (k : Nat) : (outL p (l.take k)).length ≤ l.length := by
  unfold outL
  have := List.length_filter_le (fun x : Lb => !p x.1) (l.take k)
  have := List.length_take_le k l
  have h2 : (l.take k).length ≤ l.length := by rw [List.length_take]; omega
  omega
/-- one label more behind a row that the call owns -/
theorem own_snoc {w : World} {base cap g : Nat} {R : List Lb} {X : Lb} (h : w.ownsRow base 38 2 (.slice (some ⟨g, 0, none⟩) (R.length + 1) cap) (R.length + 1) (lbCells R ++ encL X)) :
    LbOwn w base (.slice (some ⟨g, 0, none⟩) (R.length + 1) cap) (R ++ [X]) := by
  unfold LbOwn
  rw [List.length_append, List.length_singleton, lbCells_app]
  exact h
theorem enc_one (X : Lb) : ∀ u ∈ encL X, u.oneCell' = true := by
  intro u hu
  simp [encL] at hu
  rcases hu with rfl | rfl <;> rfl
set_option maxHeartbeats 4000000 in
theorem without_calls (l : List Lb) (n : Nat) (es : Nat → ByteArray) (v u : Value) (w : World) (hv : LbRow w v l) (hu : StrRow w u n es) (hn : l.length ≤ 1000) :
    Calls Tryd.prog 14 #[v, u] w fun e w' => ∃ v', e = .returned v' ∧ Below w.heap.size w w' ∧ LbOwn w' w.heap.size v' (outL (inN es n) l) := by
  obtain ⟨A, cap, rfl, hlc, hcm, hnil, hrow⟩ := hv
  unfold maxLen at hcm
  have HR := Lib.hid hrow
  clear hrow hnil
  have HC := Lib.hid (fun (x : List UInt8) (W : World) (hW : Below w.heap.size w W) => contains_calls n es u x W (by
    obtain ⟨a, c, e, h1, h2, h3⟩ := hu
    refine ⟨a, c, e, h1, h2, fun h => ?_⟩
    obtain ⟨b, off, e2, hb, hc⟩ := h3 h
    exact ⟨b, off, e2, Nat.lt_of_lt_of_le hb hW.size, fun i hi => ⟨(hW.cell (p := ⟨b, off + i, none⟩) hb).trans (hc i hi).1, (hc i hi).2⟩⟩))
  clear hu
  generalize inN es n = p at *
  obtain ⟨i0, hi0, hz0, hz1, hz2⟩ := info_parts label_info
  have Hi := Lib.hid hi0
  have Hz0 := Lib.hid hz0
  have Hz1 := Lib.hid hz1
  have Hz2 := Lib.hid hz2
  clear hi0 hz0 hz1 hz2
  go_enter Tryd.func14, Tryd.ntmps14
  go_wp2_with fail
  go_loopw [5, 10] (fun kv i wr => ∃ k : Nat, k ≤ l.length ∧ i = .int .i64 (k : Nat) ∧ Hid (LbOwn wr w.heap.size kv (outL p (l.take k))) ∧ Below w.heap.size w wr) (fun _ i _ => l.length - (intOf i).toNat)
  case atStart => exact ⟨0, Nat.zero_le _, rfl, LbOwn.nil _ _, Below.refl _ _⟩
  case round =>
    obtain ⟨k, hk, rfl, H, hb⟩ := hrel
    by_cases hkl : k < l.length
    · obtain ⟨b, off, rfl, hbs, hc⟩ := HR.out (by omega)
      obtain ⟨c0, c1⟩ := hc k (lbAt l k) (at_get hkl)
      have c0 := (hb.cell (p := ⟨b, off + k * 2, none⟩) hbs).trans c0
      have c1 := (hb.cell (p := ⟨b, off + k * 2 + 1, none⟩) hbs).trans c1
      have hst := Lib.hid (outL_step p l hkl)
      have hRl := outL_le p l k
      generalize lbAt l k = X at *
      obtain ⟨X1, X2⟩ := X
      simp only at c0 c1 hst
      generalize hR : outL p (l.take k) = R at *
      clear hR hc
      have HB1 := Lib.hid (kp_alloc hb (.cells #[.string (str X1), .string (str X2)] 38))
      have HB2 := Lib.hid (kp_alloc HB1.out (.cells #[.string (str X1), .string (str X2)] 38))
      have hnews : Hid (∀ j u, (encL (X1, X2))[j]? = some u → ((wr.alloc (.cells #[.string (str X1), .string (str X2)] 38)).alloc (.cells #[.string (str X1), .string (str X2)] 38)).cell? ((⟨wr.heap.size + 1, 0, none⟩ : Addr).add j) = some u) := by
        have h := World.news_of_block (heap_new (wr.alloc (.cells #[.string (str X1), .string (str X2)] 38)) (.cells #[.string (str X1), .string (str X2)] 38))
        rw [World.size_alloc] at h
        exact h
      have hbs2 : w.heap.size ≤ wr.heap.size + 1 + 1 := by have := hb.size; omega
      have hcn := Lib.hid (HC.out X1 _ HB1.out)
      cases hp : p X1
      · rw [hp] at hcn hst
        have hst2 := Lib.hid (show outL p (l.take (k + 1)) = R ++ [(X1, X2)] by rw [hst.out]; rfl)
        clear hst hp
        go_wp2_with fail
        refine hcn.out.mono ?_; rintro e w1 ⟨rfl, rfl⟩
        go_wp2_with (at_builtin; refine wpList_append_lies _ rfl _ _ _ (by rfl) w.heap.size 38 i0 _ 2 32 Tryd.underlying22 Hi.out Hz0.out Hz1.out Hz2.out rfl (by omega) _ R.length _ (by rfl) (own_alloc (own_alloc H.out _) _) ⟨wr.heap.size + 1, 0, none⟩ 1 1 (encL (X1, X2)) (by rfl) rfl hnews.out (enc_one _) (by omega) (by unfold maxLen; omega) (by omega) (by simp; omega) _ rfl ?_; intro g cap3 w3 hown3 hgrow hat hlt3)
        have hg := Lib.hid (HB2.out.grown hgrow (by simp; omega) (fun q hq => own_ge H.out q hq))
        have ho := Lib.hid (own_snoc hown3)
        clear hown3 hgrow hat hlt3
        go_wp2_with fail
        go_roundw
        case rel => exact ⟨k + 1, hkl, by go_num, by rw [hst2.out]; exact ho.out, hg.out⟩
        case measure => simp [intOf]; omega
      · rw [hp] at hcn hst
        have hst2 := Lib.hid (show outL p (l.take (k + 1)) = R by rw [hst.out]; simp)
        clear hst hp
        go_wp2_with fail
        refine hcn.out.mono ?_; rintro e w1 ⟨rfl, rfl⟩
        go_wp2_with fail
        go_roundw
        case rel => exact ⟨k + 1, hkl, by go_num, by rw [hst2.out]; exact own_alloc H.out _, HB1.out⟩
        case measure => simp [intOf]; omega
    · obtain rfl : k = l.length := by omega
      have ho := Lib.hid (show LbOwn wr w.heap.size _ (outL p l) by have := H.out; rw [List.take_length] at this; exact this)
      go_wp2
      go_ret
      exact ⟨_, rfl, hb, ho.out⟩

end Go.Proofs.YtaloimbffijalaaDoor
