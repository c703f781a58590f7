/- The walk of the law BatchLimits. -/
import Derived.Test.YtkmcjmpdmgdcoaaGreatDoorBatLimB
import Derived.Test.YtkmcjmpdmgdcoaaGreatDoorBatK
set_option maxRecDepth 100000
set_option linter.unusedVariables false
set_option linter.unusedSimpArgs false
namespace Go.Proofs.YtkmcjmpdmgdcoaaGreatDoor
open Go.RowKit Go.Sort Dc
attribute [local go_sem ↓] Go.wp_at_zero Go.wp_at_succ

theorem str_ofB {xs : List Int} {l : List UInt8} (h : xs.map (fun n => UInt8.ofNat n.toNat) = l) : strOfNums xs = ⟨l.toArray⟩ := by
  rw [← h]; rfl
theorem conv_b (w : World) (m : Nat) :
    (convert 40 9 (.slice (some ⟨w.heap.size, 0, none⟩) 1 1)).run Tryz.prog (w.alloc (.cells #[.int .u8 (48 + (m : Int))] 5)) =
      .ok (.string (str [fb m])) (w.alloc (.cells #[.int .u8 (48 + (m : Int))] 5)) := by
  have e : strOfNums [48 + (m : Int)] = str [fb m] := str_ofB (by rw [List.map_cons, List.map_nil, show (48 + (m : Int)).toNat = 48 + m by omega]; rfl)
  rw [← e]
  refine run_convert_bytes_arg _ 40 5 Tryz.underlying40 Tryz.underlying5 _ 0 1 1 _ (by simp) (fun i hi => ?_) 9 Tryz.underlying9
  obtain rfl : i = 0 := by omega
  simp
theorem tmod_b (c : Int) (n : Nat) (h : 0 ≤ c) (hn : 0 < n) : ∃ k : Nat, k < n ∧ c.tmod (n : Int) = (k : Int) ∧ c % (n : Int) = (k : Int) := by
  have h1 : c.tmod (n : Int) = c % (n : Int) := Int.tmod_eq_emod_of_nonneg h
  have h2 := Int.emod_nonneg c (show (n : Int) ≠ 0 by omega)
  have h3 := Int.emod_lt_of_pos c (show 0 < (n : Int) by omega)
  exact ⟨(c % (n : Int)).toNat, by omega, by omega, by omega⟩
theorem mod_b (i n : Nat) : ((i : Int).tmod (n : Int) = ((i % n : Nat) : Int)) ∧ ((i : Int) % (n : Int) = ((i % n : Nat) : Int)) := ⟨by rw [Int.tmod_eq_emod_of_nonneg (by omega)]; simp, by simp⟩
/-- a row of one in a block of its own -/
theorem k_one {α : Type} {enc : α → List Value} {k : Nat} (hk : ∀ x, (enc x).length = k) (w : World) (x : α) (t : TypeId) : KRow enc k (w.alloc (.cells (enc x).toArray t)) (.slice (some ⟨w.heap.size, 0, none⟩) 1 1) [x] := by
  refine ⟨_, 1, rfl, Nat.le_refl _, by unfold maxLen; omega, (by rintro ⟨⟩), fun _ => ⟨w.heap.size, 0, rfl, by simp, fun i y hy j u hu => ?_⟩⟩
  match i, hy with
  | 0, hy =>
    obtain rfl : x = y := by simpa using hy
    rw [Lib.cell_of_heap (heap_new w _), ← hu, Nat.zero_mul, Nat.zero_add]
    try rw [Nat.zero_add]
    simp
  | i + 1, hy => simp at hy
theorem f_one (w : World) (g m : Nat) (t : TypeId) (hg : g = w.heap.size) : KRow encF 5 (w.alloc (.cells #[.string (str [102, fb m]), .int .i64 0, .string ⟨#[]⟩, .string ⟨#[]⟩, .slice none 0 0] t)) (.slice (some ⟨g, 0, none⟩) 1 1) [(⟨fhd m, .slice none 0 0, []⟩ : Fs)] :=
  hg ▸ k_one encF_len w (⟨fhd m, .slice none 0 0, []⟩ : Fs) t
theorem p_one (w : World) (g i : Nat) (t : TypeId) (hg : g = w.heap.size) : KRow encP 9 (w.alloc (.cells #[.slice none 0 0, .int .i64 0, .bool false, .int .i64 0, .int .i64 0, .int .i64 0, .int .i64 0, .bool true, .int .i64 (i : Nat)] t)) (.slice (some ⟨g, 0, none⟩) 1 1) [((.slice none 0 0, tpt i) : Ps)] :=
  hg ▸ k_one encP_len w ((.slice none 0 0, tpt i) : Ps) t
theorem fm_one_cells (m : Nat) : ∀ x ∈ [(⟨fhd m, .slice none 0 0, []⟩ : Fs)], ∀ u ∈ encF x, u.oneCell' = true := fun x hx => by
  obtain rfl := List.mem_singleton.1 hx
  exact encF_one (w := default) ⟨PtRow.nil _, fhd_in m⟩
theorem pt_one_cells {i : Nat} (h : i < 124) : ∀ x ∈ [((.slice none 0 0, tpt i) : Ps)], ∀ u ∈ encP x, u.oneCell' = true := fun x hx => by
  obtain rfl := List.mem_singleton.1 hx
  exact encP_one (w := default) ⟨LbRow.nil _, tpt_in h⟩

theorem Lim.stepk {w0 wr w5 : World} {bB g cap n i k : Nat} {M : List Fs} {x : Fs} {v5 : Value} (hk : k = i % n) (h : Lim w0 wr bB g cap n i M) (hx : M[k]? = some x) (hg : wr.grownBy w5 x.v.ownBlock)
    (ho : PtOwn w5 (g + 1) v5 (x.L ++ [(.slice none 0 0, tpt i)])) (h5 : v5.ownBlock = x.v.ownBlock ∨ v5.ownBlock = some wr.heap.size) :
    Lim w0 (w5.setCell ⟨g, k * 5 + 4, none⟩ v5) bB g cap n (i + 1) (M.set k ⟨x.hd, v5, x.L ++ [(.slice none 0 0, tpt i)]⟩) := by
  subst hk
  exact h.step hx hg ho h5

set_option maxHeartbeats 16000000 in
theorem limits_walk (x y : Int) (sp : Bool) (w : World) (x0 : 0 ≤ x) (x1 : x ≤ 255) (y0 : 0 ≤ y) (y1 : y ≤ 255) (hT : ShPl w) :
    Calls Tryz.prog 4 #[.int .u8 x, .int .u8 y, .bool sp] w fun e w' => e = .returned (.bool true) ∧ Below w.heap.size w w' := by
  have HT := Lib.hid (fun W (hW : Below w.heap.size w W) => shpl_below hT hW)
  have hk := Lib.hid (bknown_calls w hT)
  obtain ⟨n, hn34, tn1, tn2⟩ := tmod_b x 34 x0 (by omega)
  obtain ⟨m, hm124, tm1, tm2⟩ := tmod_b y 124 y0 (by omega)
  simp only [show ((34 : Nat) : Int) = 34 from rfl, show ((124 : Nat) : Int) = 124 from rfl] at tn1 tn2 tm1 tm2
  have wn1 : IntKind.u8.wrap (n : Int) = (n : Int) := by simp [IntKind.wrap, IntKind.bits, IntKind.signed]; omega
  have wn2 : IntKind.i64.wrap (n : Int) = (n : Int) := IntWalk.i64_in _ (by omega)
  have wm1 : IntKind.u8.wrap (m : Int) = (m : Int) := by simp [IntKind.wrap, IntKind.bits, IntKind.signed]; omega
  have wm2 : IntKind.i64.wrap (m : Int) = (m : Int) := IntWalk.i64_in _ (by omega)
  clear hT
  go_enter Tryz.func4, Tryz.ntmps4
  go_wp2_with fail
  refine hk.out.mono ?_; rintro e w1 ⟨rfl, b1⟩
  have hb1 : Below w.heap.size w (w1.alloc (.cells #[.string ⟨#[116]⟩, .slice none 0 0] 24)) := kp_alloc b1 _
  have L0 := Lib.hid (show Lm1 w (w1.alloc (.cells #[.string ⟨#[116]⟩, .slice none 0 0] 24)) w1.heap.size 0 (.slice none 0 0) from ⟨BatAt.new w1 [116] (.slice none 0 0) 24, KOwn.nil _ _ _ _ _, b1.size, hb1⟩)
  clear b1 hb1 hk
  go_wp2_with fail
  clear tn1 tn2 tm1 tm2 wn1 wm1
  obtain ⟨bB, hbB⟩ : ∃ bB, bB = w1.heap.size := ⟨_, rfl⟩
  rw [← hbB] at L0 ⊢
  clear hbB
  go_loopw [10] (fun v wr => ∃ (j : Nat) (p : Value), j ≤ n ∧ v = .int .i64 (j : Nat) ∧ Lm1 w wr bB j p) (fun v _ => n - (intOf v).toNat)
  case atStart => exact ⟨0, _, Nat.zero_le _, rfl, L0.out⟩
  case round =>
    obtain ⟨j, p, hj, rfl, hl⟩ := hrel
    obtain ⟨z0, z1, zf, zl⟩ := hl.bat
    by_cases hjn : j < n
    · have wj1 : IntKind.u8.wrap (j : Int) = (j : Int) := by simp [IntKind.wrap, IntKind.bits, IntKind.signed]; omega
      have wj2 : IntKind.u8.wrap (48 + (j : Int)) = 48 + (j : Int) := by simp [IntKind.wrap, IntKind.bits, IntKind.signed]; omega
      have wj3 : IntKind.i64.wrap ((j : Int) + 1) = (j : Int) + 1 := IntWalk.i64_in _ (by omega)
      have hconv := fun W => conv_b W j
      have hadd : ∀ W, (Op.stringOp .add (⟨#[102]⟩ : ByteArray) (str [fb j])).run Tryz.prog W = .ok (.string (str [102, fb j])) W := fun W => add_str [102] [fb j] (by simp) W
      have HL := Lib.hid hl
      have hlt1 := zl
      clear hl L0
      go_wp2_with (at_builtin; refine wpList_append_knew fmTy encF_len (by rfl) _ _ (by rfl) (bB + 1) _ (fks j) (by rfl) (own_alloc (own_alloc HL.out.own _) _) _ [(⟨fhd j, .slice none 0 0, []⟩ : Fs)] (by rfl) (f_one _ (wr.heap.size + 1) j _ (by simp)) (by simp) (fm_one_cells j) (by rw [fks_len]; simp; omega) (by simp; omega) ?_; intro v5 w5 o5 g5 h5; have hl3 := Lib.hid ((HL.out.below (kp_alloc (kp_alloc (Below.refl wr.heap.size wr) (.cells #[.int .u8 (48 + (j : Int))] 5)) (.cells #[.string (str [102, fb j]), .int .i64 0, .string ⟨#[]⟩, .string ⟨#[]⟩, .slice none 0 0] 35))).step o5 g5); have hlb := ((HL.out.below (kp_alloc (kp_alloc (Below.refl wr.heap.size wr) (.cells #[.int .u8 (48 + (j : Int))] 5)) (.cells #[.string (str [102, fb j]), .int .i64 0, .string ⟨#[]⟩, .string ⟨#[]⟩, .slice none 0 0] 35))).bat.ofBlock (g5.block bB (by simp; omega) (fun e => by have := own_ge HL.out.own bB e.symm; omega)) g5.size); obtain ⟨A5, cap5, hv5, _⟩ := KOwn.row encF_len o5; obtain ⟨y0, y1, yf, yl⟩ := hlb; rw [show (fks j ++ [(⟨fhd j, .slice none 0 0, []⟩ : Fs)]).length = j + 1 by rw [List.length_append, fks_len]; rfl] at hv5; subst hv5; clear o5 g5 h5 z0 z1 zf zl)
      go_roundw
      case rel => exact ⟨j + 1, _, hjn, by go_num, hl3.out⟩
      case measure => simp [intOf]; omega
    · obtain rfl : j = n := by omega
      obtain ⟨Ap, capp, hp, _⟩ := KOwn.row encF_len hl.own
      rw [fks_len] at hp
      subst hp
      have HL := Lib.hid hl
      clear hl L0
      by_cases hn0 : j = 0
      · have HN0 := Lib.hid hn0
        have e0 : ((j : Int) == 0) = true := beq_iff_eq.2 (by omega)
        have e1 : decide ((0 : Int) < (j : Int)) = false := decide_eq_false (by omega)
        have e1' : decide (0 < j) = false := decide_eq_false (by omega)
        have e2 : decide ((30 : Int) < (j : Int)) = false := decide_eq_false (by omega)
        have e2' : decide (30 < j) = false := decide_eq_false (by omega)
        have e3 : decide ((1 : Int) < (j : Int)) = false := decide_eq_false (by omega)
        have e3' : decide (1 < j) = false := decide_eq_false (by omega)
        have hrow := HL.out.own
        have hR := Lib.hid (show FmRow wr (.slice Ap j capp) [] from ⟨by have := KOwn.row encF_len HL.out.own; rw [show fks j = [] by rw [HN0.out]; rfl] at this; rw [hn0]; rw [hn0] at this; exact this, fun x hx => by cases hx⟩)
        have hB := Lib.hid HL.out.bel
        have hBt := Lib.hid HL.out.bat
        clear hrow hn0 hjn
        by_cases hm0 : (0 : Int) < (m : Int)
        · have d0 : decide ((0 : Int) < (m : Int)) = true := decide_eq_true hm0
          have d0' : decide (0 < m) = true := decide_eq_true (by omega)
          go_wp2
          refine wp_loop_rounds 1 ?_
          rw [rounds_succ]
          cases sp
          all_goals
            go_wp2_with fail
            refine (bcheck_calls [116] [] _ _ hR.out nil_few (by unfold maxLen; simp) (HT.out _ hB.out)).mono ?_; rintro e w2 ⟨rfl, b2⟩
            rw [show fms [] = [] from rfl, kn_chk2]
            have B2 := Lib.hid (trans9 hB.out b2)
            have R2 := Lib.hid (hR.out.below b2)
            have X2 := Lib.hid (hBt.out.below b2)
            clear b2 z0 z1 zf zl
            obtain ⟨z0, z1, zf, zl⟩ := X2.out
            go_wp2_with fail
            refine (bpoints_calls [116] [] _ _ R2.out nil_few).mono ?_; rintro e w3 ⟨rfl, b3⟩
            have B3 := Lib.hid (trans9 B2.out b3)
            clear b3
            go_wp2
            go_ret
            exact ⟨rfl, B3.out⟩
        · have d0 : decide ((0 : Int) < (m : Int)) = false := decide_eq_false hm0
          have d0' : decide (0 < m) = false := decide_eq_false (by omega)
          go_wp2
          refine wp_loop_rounds 1 ?_
          rw [rounds_succ]
          cases sp
          all_goals
            go_wp2_with fail
            refine (bcheck_calls [116] [] _ _ hR.out nil_few (by unfold maxLen; simp) (HT.out _ hB.out)).mono ?_; rintro e w2 ⟨rfl, b2⟩
            rw [show fms [] = [] from rfl, kn_chk2]
            have B2 := Lib.hid (trans9 hB.out b2)
            have R2 := Lib.hid (hR.out.below b2)
            have X2 := Lib.hid (hBt.out.below b2)
            clear b2 z0 z1 zf zl
            obtain ⟨z0, z1, zf, zl⟩ := X2.out
            go_wp2_with fail
            refine (bpoints_calls [116] [] _ _ R2.out nil_few).mono ?_; rintro e w3 ⟨rfl, b3⟩
            have B3 := Lib.hid (trans9 B2.out b3)
            clear b3
            go_wp2
            go_ret
            exact ⟨rfl, B3.out⟩
      · obtain ⟨g, hg⟩ : ∃ g, Ap = some ⟨g, 0, none⟩ := by
          rcases HL.out.own.2 with ⟨_, h⟩ | ⟨g, cap, cur, he, _⟩
          · rw [fks_len] at h; exact absurd h hn0
          · simp only [Value.slice.injEq] at he
            exact ⟨g, he.1⟩
        subst hg
        have M0 := Lib.hid (Lim.start HL.out)
        have e0 : ((j : Int) == 0) = false := by rw [beq_eq_false_iff_ne]; omega
        have e1 : decide ((0 : Int) < (j : Int)) = true := decide_eq_true (by omega)
        have e1' : decide (0 < j) = true := decide_eq_true (by omega)
        have en : ¬ (j : Int) = 0 := by omega
        have hpos := Lib.hid (show 0 < j by omega)
        clear hn0 hjn HL z0 z1 zf zl
        go_wp2_with fail
        go_loopw [11] (fun v wr => ∃ (i : Nat) (M : List Fs), i ≤ m ∧ v = .int .i64 (i : Nat) ∧ Lim w wr bB g capp j i M) (fun v _ => m - (intOf v).toNat)
        case atStart => exact ⟨0, _, Nat.zero_le _, rfl, M0.out⟩
        case round =>
          obtain ⟨i, M, hi, rfl, hl⟩ := hrel
          clear M0
          obtain ⟨z0, z1, zf, zl⟩ := hl.bat
          obtain ⟨hbg, hgl⟩ := hl.bg
          by_cases him : i < m
          · have d0 : decide ((i : Int) < (m : Int)) = true := decide_eq_true (by omega)
            obtain ⟨t1, t2⟩ := mod_b i j
            have hkj : i % j < j := Nat.mod_lt _ hpos.out
            have hML := hl.len
            have hx : M[i % j]? = some (M[i % j]'(by rw [hML]; exact hkj)) := List.getElem?_eq_getElem _
            generalize M[i % j]'(by rw [hML]; exact hkj) = X at hx
            have HX := Lib.hid hx
            obtain ⟨q0, q1, q2⟩ := hl.pt _ X hx
            obtain ⟨_, _, _, _, c4⟩ := hl.cell hx
            have f4 := hl.free (i % j * 5 + 4)
            have hXL : X.L.length ≤ 1000 := by rw [q2]; unfold tps; rw [List.length_map]; have := tms_len j (i % j) i; omega
            have hk2 : ((i % j : Nat) : Int) < (j : Int) := by omega
            have hk0 : (0 : Int) ≤ ((i % j : Nat) : Int) := by omega
            have wi : IntKind.i64.wrap (i : Int) = (i : Int) := IntWalk.i64_in _ (by omega)
            have wk : IntKind.i64.wrap ((i % j : Nat) : Int) = ((i % j : Nat) : Int) := IntWalk.i64_in _ (by omega)
            have wi2 : IntKind.i64.wrap ((i : Int) + 1) = (i : Int) + 1 := IntWalk.i64_in _ (by omega)
            have HO := Lib.hid q0
            have hi124 := Lib.hid (show i < 124 by omega)
            obtain ⟨Xh, Xv, XL⟩ := X
            simp only at c4 hXL
            have HLL := Lib.hid hl
            clear hl hx q0 q1 q2 hML
            dsimp only at HO
            have hkk : ∃ k, k = i % j := ⟨_, rfl⟩
            obtain ⟨k, hkk⟩ := hkk
            rw [← hkk] at HX c4 f4 t1 t2 hkj hk2 hk0 wk
            have HKK := Lib.hid hkk
            clear hkk z0 z1 zf zl
            obtain ⟨z0, z1, zf, zl⟩ := HLL.out.bat
            go_wp2_with fail
            go_quiet (fail)
            have hst := Lib.hid (fun w5 v5 hg ho h5 => Lim.stepk HKK.out (HLL.out.below (kp_alloc (below_drewN (Below.refl wr.heap.size wr) nq) (.cells #[.slice none 0 0, .int .i64 0, .bool false, .int .i64 0, .int .i64 0, .int .i64 0, .int .i64 0, .bool true, .int .i64 (i : Nat)] 46))) (w5 := w5) (v5 := v5) HX.out hg ho h5)
            have HO2 := Lib.hid (HO.out.below (below_drewN (Below.refl wr.heap.size wr) nq))
            obtain ⟨z0, z1, zf, zl⟩ := HLL.out.bat.below (below_drewN (Below.refl wr.heap.size wr) nq)
            have hw4 : ∀ o, (wr.drewN nq).frozen? ⟨g, o, none⟩ = false := fun o => (HLL.out.free o)
            have c5 := ((below_drewN (Below.refl wr.heap.size wr) nq).cell (p := ⟨g, k * 5 + 4, none⟩) hgl).trans c4
            have hgN : g < (wr.drewN nq).heap.size := hgl
            have e5 : (XL ++ [((.slice none 0 0, tpt i) : Ps)]).length = XL.length + 1 := by simp
            go_wp2_with (at_builtin; refine wpList_append_knew ptTy encP_len (by rfl) _ _ (by rfl) (g + 1) _ XL (by rfl) (own_alloc HO2.out _) _ [((.slice none 0 0, tpt i) : Ps)] (by rfl) (p_one _ wr.heap.size i _ (by simp)) (by simp) (pt_one_cells hi124.out) (by simp; omega) (by simp; omega) ?_; intro v5 w5 o5 g5 h5; obtain ⟨A5, cap5, hv5, _⟩ := KOwn.row encP_len o5; have hfin := Lib.hid (hst.out w5 v5 g5 o5 h5); have eg := g5.block g (by simp; omega) (fun e => by have := own_ge HO.out g e.symm; omega); have y4 := (World.cell?_of_block (a := ⟨g, k * 5 + 4, none⟩) eg).trans ((kp_alloc (Below.refl (wr.drewN nq).heap.size (wr.drewN nq)) (.cells #[.slice none 0 0, .int .i64 0, .bool false, .int .i64 0, .int .i64 0, .int .i64 0, .int .i64 0, .bool true, .int .i64 (i : Nat)] 46)).cell (p := ⟨g, k * 5 + 4, none⟩) hgN |>.trans c5); have y5 := (World.frozen?_of_block (a := ⟨g, k * 5 + 4, none⟩) eg).trans ((kp_alloc (Below.refl (wr.drewN nq).heap.size (wr.drewN nq)) (.cells #[.slice none 0 0, .int .i64 0, .bool false, .int .i64 0, .int .i64 0, .int .i64 0, .int .i64 0, .bool true, .int .i64 (i : Nat)] 46)).frozen (p := ⟨g, k * 5 + 4, none⟩) hgN |>.trans (hw4 _)); rw [e5] at hv5; subst hv5; clear o5 g5 h5 eg z0 z1 zf zl c4 c5 f4 hst)
            go_roundw
            case rel => exact ⟨i + 1, _, him, by go_num, hfin.out⟩
            case measure => simp [intOf]; omega
          · obtain rfl : i = m := by omega
            have d0 : decide ((i : Int) < (i : Int)) = false := decide_eq_false (by omega)
            have HR := Lib.hid (hl.row (by omega))
            have HW := Lib.hid (hl.few (by omega) (by omega))
            have HFM := Lib.hid hl.fmsEq
            have HCH := Lib.hid (fls_chk (n := j) (i := i) hpos.out (by omega) (by omega))
            have HPT := Lib.hid (fls_pts hpos.out i)
            have HB := Lib.hid hl.bel
            have HLO := Lib.hid hl.lo
            have HBT := Lib.hid hl.bat
            have HSP := Lib.hid (fun h1 => hl.spoil h1 (by omega) (by omega))
            obtain ⟨q, hq⟩ : ∃ q, j = q + 1 := ⟨j - 1, by have := hpos.out; omega⟩
            have hqj : q < j := by omega
            have hML := hl.len
            obtain ⟨xq, hxq⟩ : ∃ xq, M[q]? = some xq := ⟨_, List.getElem?_eq_getElem (show q < M.length by omega)⟩
            obtain ⟨c0, _⟩ := hl.cell hxq
            have f0 := hl.free (q * 5)
            have hq1 : (j : Int) - 1 = (q : Int) := by omega
            have hq2 : (0 : Int) ≤ (q : Int) := by omega
            have hq3 : (q : Int) < (j : Int) := by omega
            have wq : IntKind.i64.wrap (q : Int) = (q : Int) := IntWalk.i64_in _ (by omega)
            have hjq := Lib.hid (show j - 1 = q by omega)
            have hne : bB ≠ g := by omega
            clear hl hq hML him hxq
            by_cases h30 : (30 : Int) < (j : Int)
            · have d30 : decide ((30 : Int) < (j : Int)) = true := decide_eq_true h30
              have d30n : decide (30 < j) = true := decide_eq_true (by omega)
              have HCV := Lib.hid (HCH.out.trans (if_pos (Or.inl (by omega))))
              cases sp with
              | false =>
                go_wp2_with fail
                refine (bcheck_calls [116] M _ _ HR.out HW.out (by unfold maxLen; simp) (HT.out _ HB.out)).mono ?_; rintro e w2 ⟨rfl, b2⟩
                rw [HFM.out, HCV.out]
                have B2 := Lib.hid (trans9 HB.out b2)
                have R2 := Lib.hid (HR.out.below b2)
                have X2 := Lib.hid (HBT.out.below b2)
                clear b2 z0 z1 zf zl c0 f0
                obtain ⟨z0, z1, zf, zl⟩ := X2.out
                go_wp2_with fail
                refine (bpoints_calls [116] M _ _ R2.out HW.out).mono ?_; rintro e w3 ⟨rfl, b3⟩
                rw [HFM.out, HPT.out]
                have B3 := Lib.hid (trans9 B2.out b3)
                clear b3
                go_wp2
                go_ret
                exact ⟨rfl, B3.out⟩
              | true =>
                by_cases h1 : (1 : Int) < (j : Int)
                · have d1 : decide ((1 : Int) < (j : Int)) = true := decide_eq_true h1
                  have d1n : decide (1 < j) = true := decide_eq_true (by omega)
                  obtain ⟨M', r1, r2, r3, r4⟩ := HSP.out (by omega)
                  rw [hjq.out] at r1
                  have R1 := Lib.hid r1
                  have R2 := Lib.hid r2
                  have R3 := Lib.hid r3
                  have R4 := Lib.hid r4
                  have B1 := Lib.hid (HB.out.setCell (p := ⟨g, q * 5, none⟩) (by show w.heap.size ≤ g; have := HLO.out; omega) (.string (str [102, 48])))
                  have X1 := Lib.hid (HBT.out.setOther (c := g) (i := q * 5) (u := .string (str [102, 48])) hne)
                  clear r1 r2 r3 r4
                  go_wp2_with fail
                  refine (bcheck_calls [116] M' _ _ R1.out R2.out (by unfold maxLen; simp) (HT.out _ B1.out)).mono ?_; rintro e w2 ⟨rfl, b2⟩
                  rw [R3.out]
                  have B2 := Lib.hid (trans9 B1.out b2)
                  have Q2 := Lib.hid (R1.out.below b2)
                  have X2 := Lib.hid (X1.out.below b2)
                  clear b2 z0 z1 zf zl c0 f0
                  obtain ⟨z0, z1, zf, zl⟩ := X2.out
                  go_wp2_with fail
                  refine (bpoints_calls [116] M' _ _ Q2.out R2.out).mono ?_; rintro e w3 ⟨rfl, b3⟩
                  rw [R4.out]
                  have B3 := Lib.hid (trans9 B2.out b3)
                  clear b3
                  go_wp2
                  go_ret
                  exact ⟨rfl, B3.out⟩
                · have d1 : decide ((1 : Int) < (j : Int)) = false := decide_eq_false h1
                  have d1n : decide (1 < j) = false := decide_eq_false (by omega)
                  go_wp2_with fail
                  refine (bcheck_calls [116] M _ _ HR.out HW.out (by unfold maxLen; simp) (HT.out _ HB.out)).mono ?_; rintro e w2 ⟨rfl, b2⟩
                  rw [HFM.out, HCV.out]
                  have B2 := Lib.hid (trans9 HB.out b2)
                  have R2 := Lib.hid (HR.out.below b2)
                  have X2 := Lib.hid (HBT.out.below b2)
                  clear b2 z0 z1 zf zl c0 f0
                  obtain ⟨z0, z1, zf, zl⟩ := X2.out
                  go_wp2_with fail
                  refine (bpoints_calls [116] M _ _ R2.out HW.out).mono ?_; rintro e w3 ⟨rfl, b3⟩
                  rw [HFM.out, HPT.out]
                  have B3 := Lib.hid (trans9 B2.out b3)
                  clear b3
                  go_wp2
                  go_ret
                  exact ⟨rfl, B3.out⟩
            · have d30 : decide ((30 : Int) < (j : Int)) = false := decide_eq_false h30
              have d30n : decide (30 < j) = false := decide_eq_false (by omega)
              by_cases h120 : (120 : Int) < (i : Int)
              · have d120 : decide ((120 : Int) < (i : Int)) = true := decide_eq_true h120
                have d120n : decide (120 < i) = true := decide_eq_true (by omega)
                have HCV := Lib.hid (HCH.out.trans (if_pos (Or.inr (by omega))))
                cases sp with
                | false =>
                  go_wp2_with fail
                  refine (bcheck_calls [116] M _ _ HR.out HW.out (by unfold maxLen; simp) (HT.out _ HB.out)).mono ?_; rintro e w2 ⟨rfl, b2⟩
                  rw [HFM.out, HCV.out]
                  have B2 := Lib.hid (trans9 HB.out b2)
                  have R2 := Lib.hid (HR.out.below b2)
                  have X2 := Lib.hid (HBT.out.below b2)
                  clear b2 z0 z1 zf zl c0 f0
                  obtain ⟨z0, z1, zf, zl⟩ := X2.out
                  go_wp2_with fail
                  refine (bpoints_calls [116] M _ _ R2.out HW.out).mono ?_; rintro e w3 ⟨rfl, b3⟩
                  rw [HFM.out, HPT.out]
                  have B3 := Lib.hid (trans9 B2.out b3)
                  clear b3
                  go_wp2
                  go_ret
                  exact ⟨rfl, B3.out⟩
                | true =>
                  by_cases h1 : (1 : Int) < (j : Int)
                  · have d1 : decide ((1 : Int) < (j : Int)) = true := decide_eq_true h1
                    have d1n : decide (1 < j) = true := decide_eq_true (by omega)
                    obtain ⟨M', r1, r2, r3, r4⟩ := HSP.out (by omega)
                    rw [hjq.out] at r1
                    have R1 := Lib.hid r1
                    have R2 := Lib.hid r2
                    have R3 := Lib.hid r3
                    have R4 := Lib.hid r4
                    have B1 := Lib.hid (HB.out.setCell (p := ⟨g, q * 5, none⟩) (by show w.heap.size ≤ g; have := HLO.out; omega) (.string (str [102, 48])))
                    have X1 := Lib.hid (HBT.out.setOther (c := g) (i := q * 5) (u := .string (str [102, 48])) hne)
                    clear r1 r2 r3 r4
                    go_wp2_with fail
                    refine (bcheck_calls [116] M' _ _ R1.out R2.out (by unfold maxLen; simp) (HT.out _ B1.out)).mono ?_; rintro e w2 ⟨rfl, b2⟩
                    rw [R3.out]
                    have B2 := Lib.hid (trans9 B1.out b2)
                    have Q2 := Lib.hid (R1.out.below b2)
                    have X2 := Lib.hid (X1.out.below b2)
                    clear b2 z0 z1 zf zl c0 f0
                    obtain ⟨z0, z1, zf, zl⟩ := X2.out
                    go_wp2_with fail
                    refine (bpoints_calls [116] M' _ _ Q2.out R2.out).mono ?_; rintro e w3 ⟨rfl, b3⟩
                    rw [R4.out]
                    have B3 := Lib.hid (trans9 B2.out b3)
                    clear b3
                    go_wp2
                    go_ret
                    exact ⟨rfl, B3.out⟩
                  · have d1 : decide ((1 : Int) < (j : Int)) = false := decide_eq_false h1
                    have d1n : decide (1 < j) = false := decide_eq_false (by omega)
                    go_wp2_with fail
                    refine (bcheck_calls [116] M _ _ HR.out HW.out (by unfold maxLen; simp) (HT.out _ HB.out)).mono ?_; rintro e w2 ⟨rfl, b2⟩
                    rw [HFM.out, HCV.out]
                    have B2 := Lib.hid (trans9 HB.out b2)
                    have R2 := Lib.hid (HR.out.below b2)
                    have X2 := Lib.hid (HBT.out.below b2)
                    clear b2 z0 z1 zf zl c0 f0
                    obtain ⟨z0, z1, zf, zl⟩ := X2.out
                    go_wp2_with fail
                    refine (bpoints_calls [116] M _ _ R2.out HW.out).mono ?_; rintro e w3 ⟨rfl, b3⟩
                    rw [HFM.out, HPT.out]
                    have B3 := Lib.hid (trans9 B2.out b3)
                    clear b3
                    go_wp2
                    go_ret
                    exact ⟨rfl, B3.out⟩
              · have d120 : decide ((120 : Int) < (i : Int)) = false := decide_eq_false h120
                have d120n : decide (120 < i) = false := decide_eq_false (by omega)
                have HCV := Lib.hid (HCH.out.trans (if_neg (by omega)))
                cases sp with
                | false =>
                  go_wp2_with fail
                  refine (bcheck_calls [116] M _ _ HR.out HW.out (by unfold maxLen; simp) (HT.out _ HB.out)).mono ?_; rintro e w2 ⟨rfl, b2⟩
                  rw [HFM.out, HCV.out]
                  have B2 := Lib.hid (trans9 HB.out b2)
                  have R2 := Lib.hid (HR.out.below b2)
                  have X2 := Lib.hid (HBT.out.below b2)
                  clear b2 z0 z1 zf zl c0 f0
                  obtain ⟨z0, z1, zf, zl⟩ := X2.out
                  go_wp2_with fail
                  refine (bpoints_calls [116] M _ _ R2.out HW.out).mono ?_; rintro e w3 ⟨rfl, b3⟩
                  rw [HFM.out, HPT.out]
                  have B3 := Lib.hid (trans9 B2.out b3)
                  clear b3
                  go_wp2
                  go_ret
                  exact ⟨rfl, B3.out⟩
                | true =>
                  by_cases h1 : (1 : Int) < (j : Int)
                  · have d1 : decide ((1 : Int) < (j : Int)) = true := decide_eq_true h1
                    have d1n : decide (1 < j) = true := decide_eq_true (by omega)
                    obtain ⟨M', r1, r2, r3, r4⟩ := HSP.out (by omega)
                    rw [hjq.out] at r1
                    have R1 := Lib.hid r1
                    have R2 := Lib.hid r2
                    have R3 := Lib.hid r3
                    have R4 := Lib.hid r4
                    have B1 := Lib.hid (HB.out.setCell (p := ⟨g, q * 5, none⟩) (by show w.heap.size ≤ g; have := HLO.out; omega) (.string (str [102, 48])))
                    have X1 := Lib.hid (HBT.out.setOther (c := g) (i := q * 5) (u := .string (str [102, 48])) hne)
                    clear r1 r2 r3 r4
                    go_wp2_with fail
                    refine (bcheck_calls [116] M' _ _ R1.out R2.out (by unfold maxLen; simp) (HT.out _ B1.out)).mono ?_; rintro e w2 ⟨rfl, b2⟩
                    rw [R3.out]
                    have B2 := Lib.hid (trans9 B1.out b2)
                    have Q2 := Lib.hid (R1.out.below b2)
                    have X2 := Lib.hid (X1.out.below b2)
                    clear b2 z0 z1 zf zl c0 f0
                    obtain ⟨z0, z1, zf, zl⟩ := X2.out
                    go_wp2_with fail
                    refine (bpoints_calls [116] M' _ _ Q2.out R2.out).mono ?_; rintro e w3 ⟨rfl, b3⟩
                    rw [R4.out]
                    have B3 := Lib.hid (trans9 B2.out b3)
                    clear b3
                    go_wp2
                    go_ret
                    exact ⟨rfl, B3.out⟩
                  · have d1 : decide ((1 : Int) < (j : Int)) = false := decide_eq_false h1
                    have d1n : decide (1 < j) = false := decide_eq_false (by omega)
                    go_wp2_with fail
                    refine (bcheck_calls [116] M _ _ HR.out HW.out (by unfold maxLen; simp) (HT.out _ HB.out)).mono ?_; rintro e w2 ⟨rfl, b2⟩
                    rw [HFM.out, HCV.out]
                    have B2 := Lib.hid (trans9 HB.out b2)
                    have R2 := Lib.hid (HR.out.below b2)
                    have X2 := Lib.hid (HBT.out.below b2)
                    clear b2 z0 z1 zf zl c0 f0
                    obtain ⟨z0, z1, zf, zl⟩ := X2.out
                    go_wp2_with fail
                    refine (bpoints_calls [116] M _ _ R2.out HW.out).mono ?_; rintro e w3 ⟨rfl, b3⟩
                    rw [HFM.out, HPT.out]
                    have B3 := Lib.hid (trans9 B2.out b3)
                    clear b3
                    go_wp2
                    go_ret
                    exact ⟨rfl, B3.out⟩

end Go.Proofs.YtkmcjmpdmgdcoaaGreatDoor
