/- The reference's Without. -/
import Derived.Test.YtaloimbffijalaaDoorRefLabelB
import Derived.Test.YtaloimbffijalaaDoorLabelI
set_option maxRecDepth 100000
set_option linter.unusedVariables false
set_option linter.unusedSimpArgs false
namespace Go.Proofs.YtaloimbffijalaaDoor
open Go.RowKit Go.Sort
attribute [local go_sem ↓] Go.wp_at_zero Go.wp_at_succ

theorem own_drewN {w : World} {base : Nat} {v : Value} {l : List Lb} (h : LbOwn w base v l) (n : Nat) : LbOwn (w.drewN n) base v l := h
set_option maxHeartbeats 8000000 in
theorem rwithout_calls (l : List Lb) (n : Nat) (es : Nat → ByteArray) (v u : Value) (w : World) (hv : LbRow w v l) (hu : StrRow w u n es) (hn : l.length ≤ 1000) :
    Calls Tryd.prog 15 #[v, u] w fun e w' => ∃ v', e = .returned v' ∧ Below w.heap.size w w' ∧ LbOwn w' w.heap.size v' (outL (inN es n) l) := by
  obtain ⟨A, cap, rfl, hlc, hcm, hnil, hrow⟩ := hv
  obtain ⟨A', cap', rfl, hlc', hcm', hrow'⟩ := hu
  unfold maxLen at hcm hcm'
  have HR := Lib.hid hrow
  have HR' := Lib.hid hrow'
  clear hrow hnil hrow'
  obtain ⟨i0, hi0, hz0, hz1, hz2⟩ := info_parts label_info
  have Hi := Lib.hid hi0
  have Hz0 := Lib.hid hz0
  have Hz1 := Lib.hid hz1
  have Hz2 := Lib.hid hz2
  clear hi0 hz0 hz1 hz2
  go_enter Tryd.func15, Tryd.ntmps15
  go_wp2_with fail
  go_loopw [5, 6] (fun kv i wr => ∃ (k : Nat) (q : Value), q = kv ∧ k ≤ l.length ∧ i = .int .i64 (k : Nat) ∧ Hid (LbOwn wr w.heap.size kv (outL (inN es n) (l.take k))) ∧ Below w.heap.size w wr) (fun _ i _ => l.length - (intOf i).toNat)
  case atStart => exact ⟨0, _, rfl, Nat.zero_le _, rfl, LbOwn.nil _ _, Below.refl _ _⟩
  case round =>
    obtain ⟨k, q, rfl, hk, rfl, H, hb⟩ := hrel
    by_cases hkl : k < l.length
    · obtain ⟨b, off, rfl, hbs, hc⟩ := HR.out (by omega)
      obtain ⟨c0, c1⟩ := hc k (lbAt l k) (at_get hkl)
      have hst := Lib.hid (outL_step (inN es n) l hkl)
      have hRl := outL_le (inN es n) l k
      generalize lbAt l k = X at *
      obtain ⟨X1, X2⟩ := X
      simp only at c0 c1 hst
      generalize hR : outL (inN es n) (l.take k) = R at *
      clear hR hc
      have hk0 : (0 : Int) ≤ (k : Int) := by omega
      have hkb : (k : Int) < (l.length : Int) := by omega
      have HC0 := Lib.hid c0
      have HC1 := Lib.hid c1
      have HB := Lib.hid hb
      clear c0 c1 hb
      go_wp2_with fail
      generalize wr.heap.size = zz at *
      go_loopw [7, 8] (fun bb i wi => ∃ m : Nat, m ≤ n ∧ i = .int .i64 (m : Nat) ∧ bb = .bool (inN es m X1) ∧ Hid (LbOwn wi w.heap.size q R) ∧ Below w.heap.size w wi) (fun _ i _ => n - (intOf i).toNat)
      case atStart => exact ⟨0, Nat.zero_le _, rfl, rfl, H, HB.out⟩
      case round =>
        obtain ⟨m, hm, rfl, rfl, H2, hb⟩ := hrel
        have d0 := (hb.cell (p := ⟨b, off + k * 2, none⟩) hbs).trans HC0.out
        have d1 := (hb.cell (p := ⟨b, off + k * 2 + 1, none⟩) hbs).trans HC1.out
        have hsz := hb.size
        by_cases hmn : m < n
        · obtain ⟨b2, off2, rfl, hbs2, hc2⟩ := HR'.out (by omega)
          have e0 := (hb.cell (p := ⟨b2, off2 + m, none⟩) hbs2).trans (hc2 m hmn).1
          have hstep := Lib.hid (show inN es (m + 1) X1 = (inN es m X1 || decide ((es m).data.toList = X1)) from rfl)
          rw [str_self (es m)] at e0
          generalize (es m).data.toList = y at *
          have hm0 : (0 : Int) ≤ (m : Int) := by omega
          have hmb : (m : Int) < (n : Int) := by omega
          have HB2 := Lib.hid hb
          clear hc2 hb
          cases hin : inN es m X1
          · by_cases hx : y = X1
            · have heq : (X1 == y) = true := beq_iff_eq.2 hx.symm
              have hs2 := Lib.hid (show inN es (m + 1) X1 = true by rw [hstep.out, hin, decide_eq_true hx]; rfl)
              clear hstep hx hin
              go_wp2_with fail
              go_quiet (fail)
              go_wp2_with fail
              go_roundw
              case rel => exact ⟨m + 1, hmn, by go_num, by rw [hs2.out], own_drewN H2.out _, below_drewN HB2.out _⟩
              case measure => simp [intOf]; omega
            · have heq : (X1 == y) = false := beq_eq_false_iff_ne.2 (fun h => hx h.symm)
              have hs2 := Lib.hid (show inN es (m + 1) X1 = false by rw [hstep.out, hin, decide_eq_false hx]; rfl)
              clear hstep hx hin
              go_wp2_with fail
              go_quiet (fail)
              go_wp2_with fail
              go_roundw
              case rel => exact ⟨m + 1, hmn, by go_num, by rw [hs2.out], own_drewN H2.out _, below_drewN HB2.out _⟩
              case measure => simp [intOf]; omega
          · have hs2 := Lib.hid (show inN es (m + 1) X1 = true by rw [hstep.out, hin]; rfl)
            clear hstep hin
            go_wp2_with fail
            go_quiet (fail)
            go_wp2_with fail
            go_roundw
            case rel => exact ⟨m + 1, hmn, by go_num, by rw [hs2.out], own_drewN H2.out _, below_drewN HB2.out _⟩
            case measure => simp [intOf]; omega
        · obtain rfl : m = n := by omega
          have HB1 := Lib.hid (kp_alloc hb (.cells #[.string (str X1), .string (str X2)] 38))
          have hnews : Hid (∀ j u, (encL (X1, X2))[j]? = some u → (wr.alloc (.cells #[.string (str X1), .string (str X2)] 38)).cell? ((⟨wr.heap.size, 0, none⟩ : Addr).add j) = some u) := World.news_of_block (heap_new _ _)
          have hbs2 : w.heap.size ≤ wr.heap.size + 1 := by omega
          cases hp : inN es m X1
          · have hst2 := Lib.hid (show outL (inN es m) (l.take (k + 1)) = R ++ [(X1, X2)] by rw [hst.out, hp]; rfl)
            clear hst hp
            go_wp2_with (at_builtin; refine wpList_append_lies _ rfl _ _ _ (by rfl) w.heap.size 38 i0 _ 2 32 Tryd.underlying22 Hi.out Hz0.out Hz1.out Hz2.out rfl (by omega) _ R.length _ (by rfl) (own_alloc H2.out _) ⟨wr.heap.size, 0, none⟩ 1 1 (encL (X1, X2)) (by rfl) rfl hnews.out (enc_one _) (by omega) (by unfold maxLen; omega) (by omega) (by simp; omega) _ rfl ?_; intro g cap3 w3 hown3 hgrow hat hlt3)
            have hg := Lib.hid (HB1.out.grown hgrow (by simp; omega) (fun q hq => own_ge H2.out q hq))
            have ho := Lib.hid (own_snoc hown3)
            clear hown3 hgrow hat hlt3
            go_wp2_with fail
            go_roundw
            case rel => exact ⟨k + 1, _, rfl, hkl, by go_num, by rw [hst2.out]; exact ho.out, hg.out⟩
            case measure => simp [intOf]; omega
          · have hst2 := Lib.hid (show outL (inN es m) (l.take (k + 1)) = R by rw [hst.out, hp]; simp)
            clear hst hp
            go_wp2_with fail
            go_roundw
            case rel => exact ⟨k + 1, _, rfl, hkl, by go_num, by rw [hst2.out]; exact H2.out, hb⟩
            case measure => simp [intOf]; omega
    · obtain rfl : k = l.length := by omega
      have ho := Lib.hid (show LbOwn wr w.heap.size _ (outL (inN es n) l) by have := H.out; rw [List.take_length] at this; exact this)
      go_wp2
      go_ret
      exact ⟨_, rfl, hb, ho.out⟩

end Go.Proofs.YtaloimbffijalaaDoor
