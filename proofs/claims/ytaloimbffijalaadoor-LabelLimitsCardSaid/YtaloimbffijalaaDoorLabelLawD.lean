/- The walk of the law LabelLimits. -/
import Derived.Test.YtaloimbffijalaaDoorLabelK2
import Derived.Test.YtaloimbffijalaaDoorLabelLawB
import Derived.Laws.BytesArg
set_option maxRecDepth 100000
set_option linter.unusedVariables false
set_option linter.unusedSimpArgs false
namespace Go.Proofs.YtaloimbffijalaaDoor
open Go.RowKit Go.Sort
attribute [local go_sem ↓] Go.wp_at_zero Go.wp_at_succ

/-- a text made of so many of a unit -/
def rep (u : List UInt8) : Nat → List UInt8
  | 0 => []
  | j + 1 => rep u j ++ u
theorem rep_len (u : List UInt8) : ∀ j, (rep u j).length = j * u.length
  | 0 => by simp [rep]
  | j + 1 => by rw [rep, List.length_append, rep_len u j, Nat.add_mul, Nat.one_mul]
theorem rep_ctl {u : List UInt8} (h : ctl u = false) : ∀ j, ctl (rep u j) = false
  | 0 => rfl
  | j + 1 => by
    have := rep_ctl h j
    unfold ctl at *
    rw [rep, List.any_append, this, h]; rfl
theorem rep_count {u : List UInt8} (h : 0 ≤ Utf.count u) : ∀ j, 0 ≤ Utf.count (rep u j)
  | 0 => show 0 ≤ Utf.count [] by decide
  | j + 1 => by
    rw [rep, (Utf.joins_good _ _ (rep_count h j) h).1]
    have := rep_count h j
    omega
theorem rep_bad {u : List UInt8} (h : 0 ≤ Utf.count u) (j : Nat) : Utf.bad (rep u j) = -1 := by
  rcases Utf.bad_count (rep u j) with ⟨k, _⟩ | ⟨_, k, _⟩
  · have := rep_count h j; omega
  · exact k
theorem rep_value {u : List UInt8} (h : 0 ≤ Utf.count u) (j : Nat) : valueOk (rep u j) = decide ((rep u j).length ≤ 60) := by
  unfold valueOk
  rw [rep_bad h j]; simp
theorem rep_name {u : List UInt8} (h : 0 ≤ Utf.count u) (hc : ctl u = false) (j : Nat) : nameOk (rep u j) = (decide (1 ≤ (rep u j).length) && decide ((rep u j).length ≤ 60)) := by
  unfold nameOk
  rw [rep_bad h j, rep_ctl hc j]; simp
/-- the byte of a name -/
def bt (m : Nat) : UInt8 := UInt8.ofNat (97 + m)
/-- the labels that the law makes -/
def lks (V : List UInt8) : Nat → List Lb
  | 0 => []
  | m + 1 => lks V m ++ [([bt m], V)]
theorem lks_len (V : List UInt8) : ∀ m, (lks V m).length = m
  | 0 => rfl
  | m + 1 => by rw [lks, List.length_append, lks_len V m]; rfl
theorem lks_at (V : List UInt8) : ∀ (m i : Nat), i < m → lbAt (lks V m) i = ([bt i], V)
  | 0, i, h => absurd h (Nat.not_lt_zero _)
  | m + 1, i, h => by
    by_cases e : i = m
    · subst e
      unfold lbAt
      rw [lks, List.getD_eq_getElem?_getD, List.getElem?_append_right (by rw [lks_len]; exact Nat.le_refl _), lks_len]; simp
    · have := lks_at V m i (by omega)
      rw [← this, lbAt_of (by rw [lks_len]; omega), lbAt_of (by rw [lks_len]; omega)]
      simp only [lks]
      rw [List.getElem_append_left (by rw [lks_len]; omega)]
theorem one_name : ∀ i, i < 10 → nameOk [bt i] = true := by decide
theorem one_less : ∀ i, i < 10 → cb [bt i] [bt (i + 1)] < 0 := by decide
theorem lks_fit {V : List UInt8} (h : V.length ≤ 63) (m : Nat) : Fit (lks V m) := by
  intro x hx
  obtain ⟨i, hi, e⟩ := List.mem_iff_getElem.1 hx
  rw [← lbAt_of hi, lks_at V m i (by rw [lks_len] at hi; exact hi)] at e
  subst e
  exact ⟨by unfold maxLen; simp, by unfold maxLen; simp only; omega⟩
theorem lks_good {V : List UInt8} {m : Nat} (hm : m ≤ 10) (hv : valueOk V = decide (V.length ≤ 60)) : goodL (lks V m) = (decide (m ≤ 8) && (decide (m = 0) || decide (V.length ≤ 60))) := by
  unfold goodL
  rw [lks_len]
  by_cases h8 : m ≤ 8
  · rw [decide_eq_true h8, Bool.true_and, Bool.true_and]
    by_cases h0 : m = 0
    · subst h0; rw [goodTo_zero, decide_eq_true rfl]; rfl
    · rw [decide_eq_false h0, Bool.false_or, ← hv]
      unfold goodTo
      have hg : ∀ i, i < m → goodAt (lks V m) i = valueOk V := fun i hi => by
        unfold goodAt
        rw [lks_at V m i hi, one_name i (by omega)]
        by_cases e : i = 0
        · rw [decide_eq_true e]; simp
        · obtain ⟨j, rfl⟩ : ∃ j, i = j + 1 := ⟨i - 1, by omega⟩
          rw [show j + 1 - 1 = j by omega, lks_at V m j (by omega), decide_eq_true (one_less j (by omega))]; simp
      cases hvv : valueOk V
      · rw [List.all_eq_false]
        exact ⟨0, List.mem_range.2 (by omega), by rw [hg 0 (by omega), hvv]; decide⟩
      · rw [List.all_eq_true]
        intro i hi
        rw [hg i (List.mem_range.1 hi), hvv]
  · rw [decide_eq_false h8]; rfl
theorem str_of9 {xs : List Int} {l : List UInt8} (h : xs.map (fun n => UInt8.ofNat n.toNat) = l) : strOfNums xs = ⟨l.toArray⟩ := by
  rw [← h]; rfl
theorem conv_one (w : World) (m : Nat) :
    (convert 41 9 (.slice (some ⟨w.heap.size, 0, none⟩) 1 1)).run Tryd.prog (w.alloc (.cells #[.int .u8 (97 + (m : Int))] 5)) =
      .ok (.string (str [bt m])) (w.alloc (.cells #[.int .u8 (97 + (m : Int))] 5)) := by
  have e : strOfNums [97 + (m : Int)] = str [bt m] := str_of9 (by rw [List.map_cons, List.map_nil, show (97 + (m : Int)).toNat = 97 + m by omega]; rfl)
  rw [← e]
  refine run_convert_bytes_arg _ 41 5 Tryd.underlying41 Tryd.underlying5 _ 0 1 1 _ (by simp) (fun i hi => ?_) 9 Tryd.underlying9
  obtain rfl : i = 0 := by omega
  simp
theorem tmod_c (c : Int) (n : Nat) (h : 0 ≤ c) (hn : 0 < n) : ∃ k : Nat, k < n ∧ c.tmod (n : Int) = (k : Int) ∧ c % (n : Int) = (k : Int) := by
  have h1 : c.tmod (n : Int) = c % (n : Int) := Int.tmod_eq_emod_of_nonneg h
  have h2 := Int.emod_nonneg c (show (n : Int) ≠ 0 by omega)
  have h3 := Int.emod_lt_of_pos c (show 0 < (n : Int) by omega)
  exact ⟨(c % (n : Int)).toNat, by omega, by omega, by omega⟩
theorem k_ba (w : World) (v : Value) (hv : LbRow w v [([98], []), ([97], [])]) (hT : ShapesIn w) :
    Calls Tryd.prog 18 #[v] w fun e w' => e = .returned (.bool false) ∧ Below w.heap.size w w' :=
  (good_calls _ v w hv (by intro x hx; simp at hx; rcases hx with rfl | rfl <;> (constructor <;> (unfold maxLen; simp))) hT).mono fun _ _ ⟨h, hb⟩ => ⟨by rw [h]; rfl, hb⟩
theorem k_aa (w : World) (v : Value) (hv : LbRow w v [([97], []), ([97], [])]) (hT : ShapesIn w) :
    Calls Tryd.prog 18 #[v] w fun e w' => e = .returned (.bool false) ∧ Below w.heap.size w w' :=
  (good_calls _ v w hv (by intro x hx; simp at hx; rcases hx with rfl | rfl <;> (constructor <;> (unfold maxLen; simp))) hT).mono fun _ _ ⟨h, hb⟩ => ⟨by rw [h]; rfl, hb⟩
theorem k_rowba (w : World) : LbRow (w.alloc (.cells #[.string ⟨#[98]⟩, .string ⟨#[]⟩, .string ⟨#[97]⟩, .string ⟨#[]⟩] 38)) (.slice (some ⟨w.heap.size, 0, none⟩) 2 2) [([98], []), ([97], [])] :=
  lb_block (l := [([98], []), ([97], [])]) (heap_new _ _) rfl (by unfold maxLen; simp)
theorem k_rowaa (w : World) : LbRow (w.alloc (.cells #[.string ⟨#[97]⟩, .string ⟨#[]⟩, .string ⟨#[97]⟩, .string ⟨#[]⟩] 38)) (.slice (some ⟨w.heap.size, 0, none⟩) 2 2) [([97], []), ([97], [])] :=
  lb_block (l := [([97], []), ([97], [])]) (heap_new _ _) rfl (by unfold maxLen; simp)

set_option maxHeartbeats 16000000 in
theorem limits_a (n name value : Int) (w : World) (n0 : 0 ≤ n) (n1 : n ≤ 255) (a0 : 0 ≤ name) (a1 : name ≤ 255) (v0 : 0 ≤ value) (v1 : value ≤ 255) (hT : ShapesIn w) :
    Calls Tryd.prog 6 #[.int .u8 n, .int .u8 name, .int .u8 value, .bool false] w fun e w' => e = .returned (.bool true) ∧ Below w.heap.size w w' := by
  have HT := Lib.hid (fun W (hW : Below w.heap.size w W) => hT.below hW hT.room)
  have hk := Lib.hid (known_calls w hT)
  obtain ⟨k, hk10, tn1, tn2⟩ := tmod_c n 11 n0 (by omega)
  obtain ⟨a, ha63, ta1, ta2⟩ := tmod_c name 64 a0 (by omega)
  obtain ⟨b, hb63, tb1, tb2⟩ := tmod_c value 64 v0 (by omega)
  simp only [show ((11 : Nat) : Int) = 11 from rfl, show ((64 : Nat) : Int) = 64 from rfl] at tn1 tn2 ta1 ta2 tb1 tb2
  have hcu : Hid (0 ≤ Utf.count [97]) := by show _ ≤ _; decide
  have hct : Hid (ctl [97] = false) := by show _ = _; decide
  have wk1 : IntKind.u8.wrap (k : Int) = (k : Int) := by simp [IntKind.wrap, IntKind.bits, IntKind.signed]; omega
  have wk2 : IntKind.i64.wrap (k : Int) = (k : Int) := IntWalk.i64_in _ (by omega)
  have wa1 : IntKind.u8.wrap (a : Int) = (a : Int) := by simp [IntKind.wrap, IntKind.bits, IntKind.signed]; omega
  have wa2 : IntKind.i64.wrap (a : Int) = (a : Int) := IntWalk.i64_in _ (by omega)
  have wb1 : IntKind.u8.wrap (b : Int) = (b : Int) := by simp [IntKind.wrap, IntKind.bits, IntKind.signed]; omega
  have wb2 : IntKind.i64.wrap (b : Int) = (b : Int) := IntWalk.i64_in _ (by omega)
  clear hT
  go_enter Tryd.func6, Tryd.ntmps6
  go_wp2_with fail
  refine hk.out.mono ?_; rintro e w1 ⟨rfl, b1⟩
  have B1 := Lib.hid b1
  clear b1 hk
  go_wp2_with fail
  clear tn1 tn2 ta1 ta2 tb1 tb2 wk1 wa1 wb1
  go_loop [13] (fun v => ∃ j : Nat, v = .string (str (rep [97] j)) ∧ (rep [97] j).length ≤ 63) (fun v => match v with | .string t => 63 - t.size | _ => 0)
  case atStart => exact ⟨0, rfl, by simp [rep]⟩
  case round =>
    obtain ⟨j, rfl, hj⟩ := hrel
    have hsz := str_size (rep [97] j)
    have hsu : (⟨#[97]⟩ : ByteArray).size = 1 := rfl
    have hw : IntKind.i64.wrap (((rep [97] j).length : Int) + 1) = ((rep [97] j).length : Int) + 1 := IntWalk.i64_in _ (by omega)
    by_cases h : ((rep [97] j).length : Int) + 1 ≤ (a : Int)
    · have d : decide (((rep [97] j).length : Int) + 1 ≤ (a : Int)) = true := decide_eq_true h
      have hadd : ∀ W, (Op.stringOp .add (str (rep [97] j)) (⟨#[97]⟩ : ByteArray)).run Tryd.prog W = .ok (.string (str (rep [97] (j + 1)))) W := fun W => add_str (rep [97] j) [97] (by simp; omega) W
      have hj2 := Lib.hid (show (rep [97] (j + 1)).length = (rep [97] j).length + 1 by rw [rep, List.length_append]; rfl)
      have hs2 := Lib.hid (str_size (rep [97] (j + 1)))
      go_wp2_with fail
      go_round
      case rel => exact ⟨j + 1, rfl, by have := hj2.out; omega⟩
      case measure =>
        show 63 - (str (rep [97] (j + 1))).size < 63 - (str (rep [97] j)).size
        have := hj2.out
        have := hs2.out
        omega
    · have d : decide (((rep [97] j).length : Int) + 1 ≤ (a : Int)) = false := decide_eq_false h
      have hN := Lib.hid (rep_name hcu.out hct.out j)
      generalize hS : rep [97] j = S at *
      clear h hS
      go_wp2_with fail
      clear d hw
      go_loop [14] (fun v => ∃ j : Nat, v = .string (str (rep [97] j)) ∧ (rep [97] j).length ≤ 63) (fun v => match v with | .string t => 63 - t.size | _ => 0)
      case atStart => exact ⟨0, rfl, by simp [rep]⟩
      case round =>
        obtain ⟨i, rfl, hi⟩ := hrel
        have hsz2 := str_size (rep [97] i)
        have hw : IntKind.i64.wrap (((rep [97] i).length : Int) + 1) = ((rep [97] i).length : Int) + 1 := IntWalk.i64_in _ (by omega)
        by_cases h : ((rep [97] i).length : Int) + 1 ≤ (b : Int)
        · have d : decide (((rep [97] i).length : Int) + 1 ≤ (b : Int)) = true := decide_eq_true h
          have hadd : ∀ W, (Op.stringOp .add (str (rep [97] i)) (⟨#[97]⟩ : ByteArray)).run Tryd.prog W = .ok (.string (str (rep [97] (i + 1)))) W := fun W => add_str (rep [97] i) [97] (by simp; omega) W
          have hj2 := Lib.hid (show (rep [97] (i + 1)).length = (rep [97] i).length + 1 by rw [rep, List.length_append]; rfl)
          have hs2 := Lib.hid (str_size (rep [97] (i + 1)))
          go_wp2_with fail
          go_round
          case rel => exact ⟨i + 1, rfl, by have := hj2.out; omega⟩
          case measure =>
            show 63 - (str (rep [97] (i + 1))).size < 63 - (str (rep [97] i)).size
            have := hj2.out
            have := hs2.out
            omega
        · have d : decide (((rep [97] i).length : Int) + 1 ≤ (b : Int)) = false := decide_eq_false h
          have hV := Lib.hid (rep_value hcu.out i)
          generalize hVV : rep [97] i = V at *
          clear h hVV
          have HSl := Lib.hid hj
          have HVl := Lib.hid hi
          go_wp2_with fail
          clear d hw hsu
          go_loopw [15, 16] (fun q ii wr => ∃ (m : Nat) (p : Value), p = q ∧ m ≤ k ∧ ii = .int .i64 (m : Nat) ∧ Hid (LbOwn wr w.heap.size p (lks V m)) ∧ Below w.heap.size w wr) (fun _ ii _ => k - (intOf ii).toNat)
          case atStart => exact ⟨0, _, rfl, Nat.zero_le _, rfl, LbOwn.nil _ _, B1.out⟩
          case round =>
            obtain ⟨m, p, rfl, hm, rfl, HO, hb⟩ := hrel
            by_cases hmk : m < k
            · have wm1 : IntKind.u8.wrap (m : Int) = (m : Int) := by simp [IntKind.wrap, IntKind.bits, IntKind.signed]; omega
              have wm2 : IntKind.u8.wrap (97 + (m : Int)) = 97 + (m : Int) := by simp [IntKind.wrap, IntKind.bits, IntKind.signed]; omega
              have hconv := fun W => conv_one W m
              go_wp2_with (at_builtin; refine wpList_append_row (by rfl) _ _ (by rfl) w.heap.size _ (lks V m) (by rfl) (own_alloc (own_alloc HO.out _) _) _ [([bt m], V)] (by rfl) (lb_one (by simp) (by simp) (by simp)) (by rw [lks_len]; simp; omega) (by have := hb.size; simp; omega) ?_; intro v5 w5 o5 g5)
              have hg := Lib.hid ((kp_alloc (kp_alloc hb (.cells #[.int .u8 (97 + (m : Int))] 5)) (.cells #[.string (str [bt m]), .string (str V)] 38)).grown g5 (by have := hb.size; simp; omega) (fun q hq => own_ge HO.out q hq))
              have ho := Lib.hid o5
              clear g5 o5
              go_wp2_with fail
              go_roundw
              case rel => exact ⟨m + 1, _, rfl, hmk, by go_num, ho.out, hg.out⟩
              case measure => simp [intOf]; omega
            · obtain rfl : m = k := by omega
              have hsv := str_size V
              have HNm := Lib.hid (fun W (hW : Below w.heap.size w W) => name_calls S W (by have := HSl.out; unfold maxLen; omega) (HT.out W hW))
              have HVm := Lib.hid (fun W (hW : Below w.heap.size w W) => value_calls V W (by have := HVl.out; unfold maxLen; omega) (HT.out W hW))
              have HGm := Lib.hid (fun W (hW : Below w.heap.size w W) (hr : LbRow W p (lks V m)) => good_calls (lks V m) p W hr (lks_fit HVl.out m) (HT.out W hW))
              rw [hV.out] at HVm
              rw [lks_good (by omega) hV.out] at HGm
              rw [hN.out] at HNm
              have HR := Lib.hid (LbOwn.row HO.out)
              have HB := Lib.hid hb
              clear hb
              by_cases h1 : 1 ≤ S.length
              · have d1 : decide ((1 : Int) ≤ (S.length : Int)) = true := by simp; omega
                rw [decide_eq_true h1, Bool.true_and] at HNm
                clear h1
                by_cases h8 : m ≤ 8
                · have d8 : decide ((m : Int) ≤ 8) = true := by simp; omega
                  rw [decide_eq_true h8, Bool.true_and] at HGm
                  by_cases h0 : m = 0
                  · have d0 : ((m : Int) == 0) = true := beq_iff_eq.2 (by omega)
                    rw [decide_eq_true h0, Bool.true_or] at HGm
                    clear h8 h0
                    go_wp2_with fail
                    refine (HNm.out _ HB.out).mono ?_; rintro e w2 ⟨rfl, b2⟩
                    have B2 := Lib.hid (trans9 HB.out b2)
                    have R2 := Lib.hid (HR.out.below b2)
                    clear b2
                    go_wp2_with fail
                    refine (HVm.out _ B2.out).mono ?_; rintro e w3 ⟨rfl, b3⟩
                    have B3 := Lib.hid (trans9 B2.out b3)
                    have R3 := Lib.hid (R2.out.below b3)
                    clear b3
                    go_wp2_with fail
                    refine (HGm.out _ B3.out R3.out).mono ?_; rintro e w4 ⟨rfl, b4⟩
                    have B4 := Lib.hid (trans9 B3.out b4)
                    clear b4
                    go_wp2_with fail
                    refine (k_ba _ _ (k_rowba w4) (HT.out _ (kp_alloc B4.out _))).mono ?_; rintro e w5 ⟨rfl, b5⟩
                    have B5 := Lib.hid (trans9 (kp_alloc B4.out _) b5)
                    clear b5
                    go_wp2_with fail
                    refine (k_aa _ _ (k_rowaa w5) (HT.out _ (kp_alloc B5.out _))).mono ?_; rintro e w6 ⟨rfl, b6⟩
                    have B6 := Lib.hid (trans9 (kp_alloc B5.out _) b6)
                    clear b6
                    go_wp2
                    go_ret
                    exact ⟨rfl, B6.out⟩
                  · have d0 : ((m : Int) == 0) = false := beq_eq_false_iff_ne.2 (by omega)
                    rw [decide_eq_false h0, Bool.false_or] at HGm
                    clear h8 h0
                    go_wp2_with fail
                    refine (HNm.out _ HB.out).mono ?_; rintro e w2 ⟨rfl, b2⟩
                    have B2 := Lib.hid (trans9 HB.out b2)
                    have R2 := Lib.hid (HR.out.below b2)
                    clear b2
                    go_wp2_with fail
                    refine (HVm.out _ B2.out).mono ?_; rintro e w3 ⟨rfl, b3⟩
                    have B3 := Lib.hid (trans9 B2.out b3)
                    have R3 := Lib.hid (R2.out.below b3)
                    clear b3
                    go_wp2_with fail
                    refine (HGm.out _ B3.out R3.out).mono ?_; rintro e w4 ⟨rfl, b4⟩
                    have B4 := Lib.hid (trans9 B3.out b4)
                    clear b4
                    go_wp2_with fail
                    refine (k_ba _ _ (k_rowba w4) (HT.out _ (kp_alloc B4.out _))).mono ?_; rintro e w5 ⟨rfl, b5⟩
                    have B5 := Lib.hid (trans9 (kp_alloc B4.out _) b5)
                    clear b5
                    go_wp2_with fail
                    refine (k_aa _ _ (k_rowaa w5) (HT.out _ (kp_alloc B5.out _))).mono ?_; rintro e w6 ⟨rfl, b6⟩
                    have B6 := Lib.hid (trans9 (kp_alloc B5.out _) b6)
                    clear b6
                    go_wp2
                    go_ret
                    exact ⟨rfl, B6.out⟩
                · have d8 : decide ((m : Int) ≤ 8) = false := by simp; omega
                  rw [decide_eq_false h8, Bool.false_and] at HGm
                  clear h8
                  go_wp2_with fail
                  refine (HNm.out _ HB.out).mono ?_; rintro e w2 ⟨rfl, b2⟩
                  have B2 := Lib.hid (trans9 HB.out b2)
                  have R2 := Lib.hid (HR.out.below b2)
                  clear b2
                  go_wp2_with fail
                  refine (HVm.out _ B2.out).mono ?_; rintro e w3 ⟨rfl, b3⟩
                  have B3 := Lib.hid (trans9 B2.out b3)
                  have R3 := Lib.hid (R2.out.below b3)
                  clear b3
                  go_wp2_with fail
                  refine (HGm.out _ B3.out R3.out).mono ?_; rintro e w4 ⟨rfl, b4⟩
                  have B4 := Lib.hid (trans9 B3.out b4)
                  clear b4
                  go_wp2_with fail
                  refine (k_ba _ _ (k_rowba w4) (HT.out _ (kp_alloc B4.out _))).mono ?_; rintro e w5 ⟨rfl, b5⟩
                  have B5 := Lib.hid (trans9 (kp_alloc B4.out _) b5)
                  clear b5
                  go_wp2_with fail
                  refine (k_aa _ _ (k_rowaa w5) (HT.out _ (kp_alloc B5.out _))).mono ?_; rintro e w6 ⟨rfl, b6⟩
                  have B6 := Lib.hid (trans9 (kp_alloc B5.out _) b6)
                  clear b6
                  go_wp2
                  go_ret
                  exact ⟨rfl, B6.out⟩
              · have d1 : decide ((1 : Int) ≤ (S.length : Int)) = false := by simp; omega
                rw [decide_eq_false h1, Bool.false_and] at HNm
                clear h1
                by_cases h8 : m ≤ 8
                · have d8 : decide ((m : Int) ≤ 8) = true := by simp; omega
                  rw [decide_eq_true h8, Bool.true_and] at HGm
                  by_cases h0 : m = 0
                  · have d0 : ((m : Int) == 0) = true := beq_iff_eq.2 (by omega)
                    rw [decide_eq_true h0, Bool.true_or] at HGm
                    clear h8 h0
                    go_wp2_with fail
                    refine (HNm.out _ HB.out).mono ?_; rintro e w2 ⟨rfl, b2⟩
                    have B2 := Lib.hid (trans9 HB.out b2)
                    have R2 := Lib.hid (HR.out.below b2)
                    clear b2
                    go_wp2_with fail
                    refine (HVm.out _ B2.out).mono ?_; rintro e w3 ⟨rfl, b3⟩
                    have B3 := Lib.hid (trans9 B2.out b3)
                    have R3 := Lib.hid (R2.out.below b3)
                    clear b3
                    go_wp2_with fail
                    refine (HGm.out _ B3.out R3.out).mono ?_; rintro e w4 ⟨rfl, b4⟩
                    have B4 := Lib.hid (trans9 B3.out b4)
                    clear b4
                    go_wp2_with fail
                    refine (k_ba _ _ (k_rowba w4) (HT.out _ (kp_alloc B4.out _))).mono ?_; rintro e w5 ⟨rfl, b5⟩
                    have B5 := Lib.hid (trans9 (kp_alloc B4.out _) b5)
                    clear b5
                    go_wp2_with fail
                    refine (k_aa _ _ (k_rowaa w5) (HT.out _ (kp_alloc B5.out _))).mono ?_; rintro e w6 ⟨rfl, b6⟩
                    have B6 := Lib.hid (trans9 (kp_alloc B5.out _) b6)
                    clear b6
                    go_wp2
                    go_ret
                    exact ⟨rfl, B6.out⟩
                  · have d0 : ((m : Int) == 0) = false := beq_eq_false_iff_ne.2 (by omega)
                    rw [decide_eq_false h0, Bool.false_or] at HGm
                    clear h8 h0
                    go_wp2_with fail
                    refine (HNm.out _ HB.out).mono ?_; rintro e w2 ⟨rfl, b2⟩
                    have B2 := Lib.hid (trans9 HB.out b2)
                    have R2 := Lib.hid (HR.out.below b2)
                    clear b2
                    go_wp2_with fail
                    refine (HVm.out _ B2.out).mono ?_; rintro e w3 ⟨rfl, b3⟩
                    have B3 := Lib.hid (trans9 B2.out b3)
                    have R3 := Lib.hid (R2.out.below b3)
                    clear b3
                    go_wp2_with fail
                    refine (HGm.out _ B3.out R3.out).mono ?_; rintro e w4 ⟨rfl, b4⟩
                    have B4 := Lib.hid (trans9 B3.out b4)
                    clear b4
                    go_wp2_with fail
                    refine (k_ba _ _ (k_rowba w4) (HT.out _ (kp_alloc B4.out _))).mono ?_; rintro e w5 ⟨rfl, b5⟩
                    have B5 := Lib.hid (trans9 (kp_alloc B4.out _) b5)
                    clear b5
                    go_wp2_with fail
                    refine (k_aa _ _ (k_rowaa w5) (HT.out _ (kp_alloc B5.out _))).mono ?_; rintro e w6 ⟨rfl, b6⟩
                    have B6 := Lib.hid (trans9 (kp_alloc B5.out _) b6)
                    clear b6
                    go_wp2
                    go_ret
                    exact ⟨rfl, B6.out⟩
                · have d8 : decide ((m : Int) ≤ 8) = false := by simp; omega
                  rw [decide_eq_false h8, Bool.false_and] at HGm
                  clear h8
                  go_wp2_with fail
                  refine (HNm.out _ HB.out).mono ?_; rintro e w2 ⟨rfl, b2⟩
                  have B2 := Lib.hid (trans9 HB.out b2)
                  have R2 := Lib.hid (HR.out.below b2)
                  clear b2
                  go_wp2_with fail
                  refine (HVm.out _ B2.out).mono ?_; rintro e w3 ⟨rfl, b3⟩
                  have B3 := Lib.hid (trans9 B2.out b3)
                  have R3 := Lib.hid (R2.out.below b3)
                  clear b3
                  go_wp2_with fail
                  refine (HGm.out _ B3.out R3.out).mono ?_; rintro e w4 ⟨rfl, b4⟩
                  have B4 := Lib.hid (trans9 B3.out b4)
                  clear b4
                  go_wp2_with fail
                  refine (k_ba _ _ (k_rowba w4) (HT.out _ (kp_alloc B4.out _))).mono ?_; rintro e w5 ⟨rfl, b5⟩
                  have B5 := Lib.hid (trans9 (kp_alloc B4.out _) b5)
                  clear b5
                  go_wp2_with fail
                  refine (k_aa _ _ (k_rowaa w5) (HT.out _ (kp_alloc B5.out _))).mono ?_; rintro e w6 ⟨rfl, b6⟩
                  have B6 := Lib.hid (trans9 (kp_alloc B5.out _) b6)
                  clear b6
                  go_wp2
                  go_ret
                  exact ⟨rfl, B6.out⟩

set_option maxHeartbeats 16000000 in
theorem limits_e (n name value : Int) (w : World) (n0 : 0 ≤ n) (n1 : n ≤ 255) (a0 : 0 ≤ name) (a1 : name ≤ 255) (v0 : 0 ≤ value) (v1 : value ≤ 255) (hT : ShapesIn w) :
    Calls Tryd.prog 6 #[.int .u8 n, .int .u8 name, .int .u8 value, .bool true] w fun e w' => e = .returned (.bool true) ∧ Below w.heap.size w w' := by
  have HT := Lib.hid (fun W (hW : Below w.heap.size w W) => hT.below hW hT.room)
  have hk := Lib.hid (known_calls w hT)
  obtain ⟨k, hk10, tn1, tn2⟩ := tmod_c n 11 n0 (by omega)
  obtain ⟨a, ha63, ta1, ta2⟩ := tmod_c name 64 a0 (by omega)
  obtain ⟨b, hb63, tb1, tb2⟩ := tmod_c value 64 v0 (by omega)
  simp only [show ((11 : Nat) : Int) = 11 from rfl, show ((64 : Nat) : Int) = 64 from rfl] at tn1 tn2 ta1 ta2 tb1 tb2
  have hcu : Hid (0 ≤ Utf.count [195, 169]) := by show _ ≤ _; decide
  have hct : Hid (ctl [195, 169] = false) := by show _ = _; decide
  have wk1 : IntKind.u8.wrap (k : Int) = (k : Int) := by simp [IntKind.wrap, IntKind.bits, IntKind.signed]; omega
  have wk2 : IntKind.i64.wrap (k : Int) = (k : Int) := IntWalk.i64_in _ (by omega)
  have wa1 : IntKind.u8.wrap (a : Int) = (a : Int) := by simp [IntKind.wrap, IntKind.bits, IntKind.signed]; omega
  have wa2 : IntKind.i64.wrap (a : Int) = (a : Int) := IntWalk.i64_in _ (by omega)
  have wb1 : IntKind.u8.wrap (b : Int) = (b : Int) := by simp [IntKind.wrap, IntKind.bits, IntKind.signed]; omega
  have wb2 : IntKind.i64.wrap (b : Int) = (b : Int) := IntWalk.i64_in _ (by omega)
  clear hT
  go_enter Tryd.func6, Tryd.ntmps6
  go_wp2_with fail
  refine hk.out.mono ?_; rintro e w1 ⟨rfl, b1⟩
  have B1 := Lib.hid b1
  clear b1 hk
  go_wp2_with fail
  clear tn1 tn2 ta1 ta2 tb1 tb2 wk1 wa1 wb1
  go_loop [13] (fun v => ∃ j : Nat, v = .string (str (rep [195, 169] j)) ∧ (rep [195, 169] j).length ≤ 63) (fun v => match v with | .string t => 63 - t.size | _ => 0)
  case atStart => exact ⟨0, rfl, by simp [rep]⟩
  case round =>
    obtain ⟨j, rfl, hj⟩ := hrel
    have hsz := str_size (rep [195, 169] j)
    have hsu : (⟨#[195, 169]⟩ : ByteArray).size = 2 := rfl
    have hw : IntKind.i64.wrap (((rep [195, 169] j).length : Int) + 2) = ((rep [195, 169] j).length : Int) + 2 := IntWalk.i64_in _ (by omega)
    by_cases h : ((rep [195, 169] j).length : Int) + 2 ≤ (a : Int)
    · have d : decide (((rep [195, 169] j).length : Int) + 2 ≤ (a : Int)) = true := decide_eq_true h
      have hadd : ∀ W, (Op.stringOp .add (str (rep [195, 169] j)) (⟨#[195, 169]⟩ : ByteArray)).run Tryd.prog W = .ok (.string (str (rep [195, 169] (j + 1)))) W := fun W => add_str (rep [195, 169] j) [195, 169] (by simp; omega) W
      have hj2 := Lib.hid (show (rep [195, 169] (j + 1)).length = (rep [195, 169] j).length + 2 by rw [rep, List.length_append]; rfl)
      have hs2 := Lib.hid (str_size (rep [195, 169] (j + 1)))
      go_wp2_with fail
      go_round
      case rel => exact ⟨j + 1, rfl, by have := hj2.out; omega⟩
      case measure =>
        show 63 - (str (rep [195, 169] (j + 1))).size < 63 - (str (rep [195, 169] j)).size
        have := hj2.out
        have := hs2.out
        omega
    · have d : decide (((rep [195, 169] j).length : Int) + 2 ≤ (a : Int)) = false := decide_eq_false h
      have hN := Lib.hid (rep_name hcu.out hct.out j)
      generalize hS : rep [195, 169] j = S at *
      clear h hS
      go_wp2_with fail
      clear d hw
      go_loop [14] (fun v => ∃ j : Nat, v = .string (str (rep [195, 169] j)) ∧ (rep [195, 169] j).length ≤ 63) (fun v => match v with | .string t => 63 - t.size | _ => 0)
      case atStart => exact ⟨0, rfl, by simp [rep]⟩
      case round =>
        obtain ⟨i, rfl, hi⟩ := hrel
        have hsz2 := str_size (rep [195, 169] i)
        have hw : IntKind.i64.wrap (((rep [195, 169] i).length : Int) + 2) = ((rep [195, 169] i).length : Int) + 2 := IntWalk.i64_in _ (by omega)
        by_cases h : ((rep [195, 169] i).length : Int) + 2 ≤ (b : Int)
        · have d : decide (((rep [195, 169] i).length : Int) + 2 ≤ (b : Int)) = true := decide_eq_true h
          have hadd : ∀ W, (Op.stringOp .add (str (rep [195, 169] i)) (⟨#[195, 169]⟩ : ByteArray)).run Tryd.prog W = .ok (.string (str (rep [195, 169] (i + 1)))) W := fun W => add_str (rep [195, 169] i) [195, 169] (by simp; omega) W
          have hj2 := Lib.hid (show (rep [195, 169] (i + 1)).length = (rep [195, 169] i).length + 2 by rw [rep, List.length_append]; rfl)
          have hs2 := Lib.hid (str_size (rep [195, 169] (i + 1)))
          go_wp2_with fail
          go_round
          case rel => exact ⟨i + 1, rfl, by have := hj2.out; omega⟩
          case measure =>
            show 63 - (str (rep [195, 169] (i + 1))).size < 63 - (str (rep [195, 169] i)).size
            have := hj2.out
            have := hs2.out
            omega
        · have d : decide (((rep [195, 169] i).length : Int) + 2 ≤ (b : Int)) = false := decide_eq_false h
          have hV := Lib.hid (rep_value hcu.out i)
          generalize hVV : rep [195, 169] i = V at *
          clear h hVV
          have HSl := Lib.hid hj
          have HVl := Lib.hid hi
          go_wp2_with fail
          clear d hw hsu
          go_loopw [15, 16] (fun q ii wr => ∃ (m : Nat) (p : Value), p = q ∧ m ≤ k ∧ ii = .int .i64 (m : Nat) ∧ Hid (LbOwn wr w.heap.size p (lks V m)) ∧ Below w.heap.size w wr) (fun _ ii _ => k - (intOf ii).toNat)
          case atStart => exact ⟨0, _, rfl, Nat.zero_le _, rfl, LbOwn.nil _ _, B1.out⟩
          case round =>
            obtain ⟨m, p, rfl, hm, rfl, HO, hb⟩ := hrel
            by_cases hmk : m < k
            · have wm1 : IntKind.u8.wrap (m : Int) = (m : Int) := by simp [IntKind.wrap, IntKind.bits, IntKind.signed]; omega
              have wm2 : IntKind.u8.wrap (97 + (m : Int)) = 97 + (m : Int) := by simp [IntKind.wrap, IntKind.bits, IntKind.signed]; omega
              have hconv := fun W => conv_one W m
              go_wp2_with (at_builtin; refine wpList_append_row (by rfl) _ _ (by rfl) w.heap.size _ (lks V m) (by rfl) (own_alloc (own_alloc HO.out _) _) _ [([bt m], V)] (by rfl) (lb_one (by simp) (by simp) (by simp)) (by rw [lks_len]; simp; omega) (by have := hb.size; simp; omega) ?_; intro v5 w5 o5 g5)
              have hg := Lib.hid ((kp_alloc (kp_alloc hb (.cells #[.int .u8 (97 + (m : Int))] 5)) (.cells #[.string (str [bt m]), .string (str V)] 38)).grown g5 (by have := hb.size; simp; omega) (fun q hq => own_ge HO.out q hq))
              have ho := Lib.hid o5
              clear g5 o5
              go_wp2_with fail
              go_roundw
              case rel => exact ⟨m + 1, _, rfl, hmk, by go_num, ho.out, hg.out⟩
              case measure => simp [intOf]; omega
            · obtain rfl : m = k := by omega
              have hsv := str_size V
              have HNm := Lib.hid (fun W (hW : Below w.heap.size w W) => name_calls S W (by have := HSl.out; unfold maxLen; omega) (HT.out W hW))
              have HVm := Lib.hid (fun W (hW : Below w.heap.size w W) => value_calls V W (by have := HVl.out; unfold maxLen; omega) (HT.out W hW))
              have HGm := Lib.hid (fun W (hW : Below w.heap.size w W) (hr : LbRow W p (lks V m)) => good_calls (lks V m) p W hr (lks_fit HVl.out m) (HT.out W hW))
              rw [hV.out] at HVm
              rw [lks_good (by omega) hV.out] at HGm
              rw [hN.out] at HNm
              have HR := Lib.hid (LbOwn.row HO.out)
              have HB := Lib.hid hb
              clear hb
              by_cases h1 : 1 ≤ S.length
              · have d1 : decide ((1 : Int) ≤ (S.length : Int)) = true := by simp; omega
                rw [decide_eq_true h1, Bool.true_and] at HNm
                clear h1
                by_cases h8 : m ≤ 8
                · have d8 : decide ((m : Int) ≤ 8) = true := by simp; omega
                  rw [decide_eq_true h8, Bool.true_and] at HGm
                  by_cases h0 : m = 0
                  · have d0 : ((m : Int) == 0) = true := beq_iff_eq.2 (by omega)
                    rw [decide_eq_true h0, Bool.true_or] at HGm
                    clear h8 h0
                    go_wp2_with fail
                    refine (HNm.out _ HB.out).mono ?_; rintro e w2 ⟨rfl, b2⟩
                    have B2 := Lib.hid (trans9 HB.out b2)
                    have R2 := Lib.hid (HR.out.below b2)
                    clear b2
                    go_wp2_with fail
                    refine (HVm.out _ B2.out).mono ?_; rintro e w3 ⟨rfl, b3⟩
                    have B3 := Lib.hid (trans9 B2.out b3)
                    have R3 := Lib.hid (R2.out.below b3)
                    clear b3
                    go_wp2_with fail
                    refine (HGm.out _ B3.out R3.out).mono ?_; rintro e w4 ⟨rfl, b4⟩
                    have B4 := Lib.hid (trans9 B3.out b4)
                    clear b4
                    go_wp2_with fail
                    refine (k_ba _ _ (k_rowba w4) (HT.out _ (kp_alloc B4.out _))).mono ?_; rintro e w5 ⟨rfl, b5⟩
                    have B5 := Lib.hid (trans9 (kp_alloc B4.out _) b5)
                    clear b5
                    go_wp2_with fail
                    refine (k_aa _ _ (k_rowaa w5) (HT.out _ (kp_alloc B5.out _))).mono ?_; rintro e w6 ⟨rfl, b6⟩
                    have B6 := Lib.hid (trans9 (kp_alloc B5.out _) b6)
                    clear b6
                    go_wp2
                    go_ret
                    exact ⟨rfl, B6.out⟩
                  · have d0 : ((m : Int) == 0) = false := beq_eq_false_iff_ne.2 (by omega)
                    rw [decide_eq_false h0, Bool.false_or] at HGm
                    clear h8 h0
                    go_wp2_with fail
                    refine (HNm.out _ HB.out).mono ?_; rintro e w2 ⟨rfl, b2⟩
                    have B2 := Lib.hid (trans9 HB.out b2)
                    have R2 := Lib.hid (HR.out.below b2)
                    clear b2
                    go_wp2_with fail
                    refine (HVm.out _ B2.out).mono ?_; rintro e w3 ⟨rfl, b3⟩
                    have B3 := Lib.hid (trans9 B2.out b3)
                    have R3 := Lib.hid (R2.out.below b3)
                    clear b3
                    go_wp2_with fail
                    refine (HGm.out _ B3.out R3.out).mono ?_; rintro e w4 ⟨rfl, b4⟩
                    have B4 := Lib.hid (trans9 B3.out b4)
                    clear b4
                    go_wp2_with fail
                    refine (k_ba _ _ (k_rowba w4) (HT.out _ (kp_alloc B4.out _))).mono ?_; rintro e w5 ⟨rfl, b5⟩
                    have B5 := Lib.hid (trans9 (kp_alloc B4.out _) b5)
                    clear b5
                    go_wp2_with fail
                    refine (k_aa _ _ (k_rowaa w5) (HT.out _ (kp_alloc B5.out _))).mono ?_; rintro e w6 ⟨rfl, b6⟩
                    have B6 := Lib.hid (trans9 (kp_alloc B5.out _) b6)
                    clear b6
                    go_wp2
                    go_ret
                    exact ⟨rfl, B6.out⟩
                · have d8 : decide ((m : Int) ≤ 8) = false := by simp; omega
                  rw [decide_eq_false h8, Bool.false_and] at HGm
                  clear h8
                  go_wp2_with fail
                  refine (HNm.out _ HB.out).mono ?_; rintro e w2 ⟨rfl, b2⟩
                  have B2 := Lib.hid (trans9 HB.out b2)
                  have R2 := Lib.hid (HR.out.below b2)
                  clear b2
                  go_wp2_with fail
                  refine (HVm.out _ B2.out).mono ?_; rintro e w3 ⟨rfl, b3⟩
                  have B3 := Lib.hid (trans9 B2.out b3)
                  have R3 := Lib.hid (R2.out.below b3)
                  clear b3
                  go_wp2_with fail
                  refine (HGm.out _ B3.out R3.out).mono ?_; rintro e w4 ⟨rfl, b4⟩
                  have B4 := Lib.hid (trans9 B3.out b4)
                  clear b4
                  go_wp2_with fail
                  refine (k_ba _ _ (k_rowba w4) (HT.out _ (kp_alloc B4.out _))).mono ?_; rintro e w5 ⟨rfl, b5⟩
                  have B5 := Lib.hid (trans9 (kp_alloc B4.out _) b5)
                  clear b5
                  go_wp2_with fail
                  refine (k_aa _ _ (k_rowaa w5) (HT.out _ (kp_alloc B5.out _))).mono ?_; rintro e w6 ⟨rfl, b6⟩
                  have B6 := Lib.hid (trans9 (kp_alloc B5.out _) b6)
                  clear b6
                  go_wp2
                  go_ret
                  exact ⟨rfl, B6.out⟩
              · have d1 : decide ((1 : Int) ≤ (S.length : Int)) = false := by simp; omega
                rw [decide_eq_false h1, Bool.false_and] at HNm
                clear h1
                by_cases h8 : m ≤ 8
                · have d8 : decide ((m : Int) ≤ 8) = true := by simp; omega
                  rw [decide_eq_true h8, Bool.true_and] at HGm
                  by_cases h0 : m = 0
                  · have d0 : ((m : Int) == 0) = true := beq_iff_eq.2 (by omega)
                    rw [decide_eq_true h0, Bool.true_or] at HGm
                    clear h8 h0
                    go_wp2_with fail
                    refine (HNm.out _ HB.out).mono ?_; rintro e w2 ⟨rfl, b2⟩
                    have B2 := Lib.hid (trans9 HB.out b2)
                    have R2 := Lib.hid (HR.out.below b2)
                    clear b2
                    go_wp2_with fail
                    refine (HVm.out _ B2.out).mono ?_; rintro e w3 ⟨rfl, b3⟩
                    have B3 := Lib.hid (trans9 B2.out b3)
                    have R3 := Lib.hid (R2.out.below b3)
                    clear b3
                    go_wp2_with fail
                    refine (HGm.out _ B3.out R3.out).mono ?_; rintro e w4 ⟨rfl, b4⟩
                    have B4 := Lib.hid (trans9 B3.out b4)
                    clear b4
                    go_wp2_with fail
                    refine (k_ba _ _ (k_rowba w4) (HT.out _ (kp_alloc B4.out _))).mono ?_; rintro e w5 ⟨rfl, b5⟩
                    have B5 := Lib.hid (trans9 (kp_alloc B4.out _) b5)
                    clear b5
                    go_wp2_with fail
                    refine (k_aa _ _ (k_rowaa w5) (HT.out _ (kp_alloc B5.out _))).mono ?_; rintro e w6 ⟨rfl, b6⟩
                    have B6 := Lib.hid (trans9 (kp_alloc B5.out _) b6)
                    clear b6
                    go_wp2
                    go_ret
                    exact ⟨rfl, B6.out⟩
                  · have d0 : ((m : Int) == 0) = false := beq_eq_false_iff_ne.2 (by omega)
                    rw [decide_eq_false h0, Bool.false_or] at HGm
                    clear h8 h0
                    go_wp2_with fail
                    refine (HNm.out _ HB.out).mono ?_; rintro e w2 ⟨rfl, b2⟩
                    have B2 := Lib.hid (trans9 HB.out b2)
                    have R2 := Lib.hid (HR.out.below b2)
                    clear b2
                    go_wp2_with fail
                    refine (HVm.out _ B2.out).mono ?_; rintro e w3 ⟨rfl, b3⟩
                    have B3 := Lib.hid (trans9 B2.out b3)
                    have R3 := Lib.hid (R2.out.below b3)
                    clear b3
                    go_wp2_with fail
                    refine (HGm.out _ B3.out R3.out).mono ?_; rintro e w4 ⟨rfl, b4⟩
                    have B4 := Lib.hid (trans9 B3.out b4)
                    clear b4
                    go_wp2_with fail
                    refine (k_ba _ _ (k_rowba w4) (HT.out _ (kp_alloc B4.out _))).mono ?_; rintro e w5 ⟨rfl, b5⟩
                    have B5 := Lib.hid (trans9 (kp_alloc B4.out _) b5)
                    clear b5
                    go_wp2_with fail
                    refine (k_aa _ _ (k_rowaa w5) (HT.out _ (kp_alloc B5.out _))).mono ?_; rintro e w6 ⟨rfl, b6⟩
                    have B6 := Lib.hid (trans9 (kp_alloc B5.out _) b6)
                    clear b6
                    go_wp2
                    go_ret
                    exact ⟨rfl, B6.out⟩
                · have d8 : decide ((m : Int) ≤ 8) = false := by simp; omega
                  rw [decide_eq_false h8, Bool.false_and] at HGm
                  clear h8
                  go_wp2_with fail
                  refine (HNm.out _ HB.out).mono ?_; rintro e w2 ⟨rfl, b2⟩
                  have B2 := Lib.hid (trans9 HB.out b2)
                  have R2 := Lib.hid (HR.out.below b2)
                  clear b2
                  go_wp2_with fail
                  refine (HVm.out _ B2.out).mono ?_; rintro e w3 ⟨rfl, b3⟩
                  have B3 := Lib.hid (trans9 B2.out b3)
                  have R3 := Lib.hid (R2.out.below b3)
                  clear b3
                  go_wp2_with fail
                  refine (HGm.out _ B3.out R3.out).mono ?_; rintro e w4 ⟨rfl, b4⟩
                  have B4 := Lib.hid (trans9 B3.out b4)
                  clear b4
                  go_wp2_with fail
                  refine (k_ba _ _ (k_rowba w4) (HT.out _ (kp_alloc B4.out _))).mono ?_; rintro e w5 ⟨rfl, b5⟩
                  have B5 := Lib.hid (trans9 (kp_alloc B4.out _) b5)
                  clear b5
                  go_wp2_with fail
                  refine (k_aa _ _ (k_rowaa w5) (HT.out _ (kp_alloc B5.out _))).mono ?_; rintro e w6 ⟨rfl, b6⟩
                  have B6 := Lib.hid (trans9 (kp_alloc B5.out _) b6)
                  clear b6
                  go_wp2
                  go_ret
                  exact ⟨rfl, B6.out⟩
theorem limits_walk (n name value : Int) (wide : Bool) (w : World) (n0 : 0 ≤ n) (n1 : n ≤ 255) (a0 : 0 ≤ name) (a1 : name ≤ 255) (v0 : 0 ≤ value) (v1 : value ≤ 255) (hT : ShapesIn w) :
    Calls Tryd.prog 6 #[.int .u8 n, .int .u8 name, .int .u8 value, .bool wide] w fun e w' => e = .returned (.bool true) ∧ Below w.heap.size w w' := by
  cases wide
  · exact limits_a n name value w n0 n1 a0 a1 v0 v1 hT
  · exact limits_e n name value w n0 n1 a0 a1 v0 v1 hT

end Go.Proofs.YtaloimbffijalaaDoor
