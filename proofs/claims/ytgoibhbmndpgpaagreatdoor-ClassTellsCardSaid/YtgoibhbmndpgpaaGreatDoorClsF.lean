/- The walks of strings.HasSuffix, class's headFits, labelsFit, pointFits, fits (layer 16). -/
import Derived.Test.YtgoibhbmndpgpaaGreatDoorClsI
import Derived.Test.YtgoibhbmndpgpaaGreatDoorChW
import Derived.Test.YtgoibhbmndpgpaaGreatDoorDssW
import Derived.Test.YtgoibhbmndpgpaaGreatDoorFamX
import Derived.Test.YtgoibhbmndpgpaaGreatDoorPdW
import Derived.Test.YtgoibhbmndpgpaaGreatDoorBatP
import Derived.Laws.Concat
set_option maxRecDepth 100000
set_option linter.unusedVariables false
set_option linter.unusedSimpArgs false
namespace Go.Proofs.YtgoibhbmndpgpaaGreatDoor
open Go.RowKit Go.Sort Dc
attribute [local go_sem ↓] Go.wp_at_zero Go.wp_at_succ

/-- does l end with s -/
def endW (l s : List UInt8) : Bool := decide (s.length ≤ l.length) && (l.drop (l.length - s.length) == s)
theorem beq_dec (a b : List UInt8) : (a == b) = decide (a = b) := by rw [Bool.eq_iff_iff]; simp
theorem suf_end (n u : List UInt8) : Kl.suf n u = endW n (95 :: u) := by
  unfold Kl.suf endW
  rw [beq_dec, List.length_cons, show n.length - (u.length + 1) = n.length - u.length - 1 by omega]

set_option maxHeartbeats 2000000 in
theorem hsuf0_calls (l s : List UInt8) (w : World) (hl : l.length ≤ maxLen) :
    Calls Tryz.prog 76 #[.string (str l), .string (str s)] w fun e w' => e = .returned (.bool (endW l s)) ∧ w = w' := by
  have hsl := str_size l
  have hss := str_size s
  have hr0 := Lib.hid (show endW l s = (decide (s.length ≤ l.length) && (l.drop (l.length - s.length) == s)) from rfl)
  generalize endW l s = R at *
  unfold maxLen at hl
  by_cases h : s.length ≤ l.length
  rotate_left
  · have d0 : decide ((s.length : Int) ≤ (l.length : Int)) = false := decide_eq_false (by omega)
    have d0' : decide (s.length ≤ l.length) = false := decide_eq_false h
    have hr := Lib.hid (show R = false by rw [hr0.out, d0']; rfl)
    clear hr0
    go_enter Tryz.func76, Tryz.ntmps76
    go_wp2
    go_ret
    exact ⟨by rw [hr.out]; rfl, rfl⟩
  obtain ⟨i, hi⟩ : ∃ i : Nat, l.length = s.length + i := ⟨l.length - s.length, by omega⟩
  have d0 : decide ((s.length : Int) ≤ (l.length : Int)) = true := decide_eq_true (by omega)
  have d0' : decide (s.length ≤ l.length) = true := decide_eq_true h
  have hr := Lib.hid (show R = (l.drop i == s) by rw [hr0.out, d0', show l.length - s.length = i by omega]; rfl)
  have t1 : IntKind.i64.wrap ((l.length : Int) - (s.length : Int)) = (i : Int) := by rw [show (l.length : Int) - (s.length : Int) = (i : Int) by omega]; exact IntWalk.i64_in _ (by omega)
  have t2 : (l.length : Int) - (s.length : Int) = (i : Int) := by omega
  have t3 : IntKind.i64.wrap (i : Int) = (i : Int) := IntWalk.i64_in _ (by omega)
  have hcut : ∀ W, (Instr.slice 9 (.string (str l)) (some (.int .i64 (i : Int))) none none).run Tryz.prog W = .ok (.string (str (l.drop i))) W := fun W => cut_from l _ i rfl (by omega) W
  clear hr0 h hi
  generalize l.drop i = m at *
  go_enter Tryz.func76, Tryz.ntmps76
  go_wp2
  go_ret
  exact ⟨by rw [hr.out]; rfl, rfl⟩
set_option maxHeartbeats 1000000 in
theorem hsuf_calls (l s : List UInt8) (w : World) (hl : l.length ≤ maxLen) :
    Calls Tryz.prog 52 #[.string (str l), .string (str s)] w fun e w' => e = .returned (.bool (endW l s)) ∧ w = w' := by
  have hb := Lib.hid (fun W => hsuf0_calls l s W hl)
  generalize endW l s = R at *
  go_enter Tryz.func52, Tryz.ntmps52
  go_wp2_with fail
  refine (hb.out _).mono ?_; rintro e w1 ⟨rfl, rfl⟩
  go_wp2
  go_ret
  exact ⟨rfl, rfl⟩

theorem no_emp {u : List UInt8} (h : ¬ u = []) : u.isEmpty = false := by
  cases u with
  | nil => exact absurd rfl h
  | cons _ _ => rfl
theorem add_95 (u : List UInt8) (hu : u.length ≤ 60) (W : World) : (Op.stringOp .add (⟨#[95]⟩ : ByteArray) (str u)).run Tryz.prog W = .ok (.string (str (95 :: u))) W := by
  rw [run_string_add_sum W _ _ (by have h1 := str_size u; have h2 : (⟨#[95]⟩ : ByteArray).size = 1 := rfl; omega)]
  rfl

set_option maxHeartbeats 4000000 in
theorem chead_calls (p : Int) (h : Hd) (A : Option Addr) (m cap : Nat) (w : World) (hH : HdIn h) (hul : h.u.length ≤ 60) :
    Calls Tryz.prog 34 #[.int .i64 p, famv h (.slice A m cap)] w fun e w' => e = .returned (.bool (Kl.head p h m)) ∧ Below w.heap.size w w' := by
  have k0 := kp_alloc (Below.refl w.heap.size w) (.cells (famc h (.slice A m cap)) 39)
  have hsu := Lib.hid (fun W => hsuf_calls h.n (95 :: h.u) W hH.ln)
  have hadd := Lib.hid (fun W => add_95 h.u hul W)
  have hr0 := Lib.hid (show Kl.head p h m = if p = 1 then decide (h.u = []) || Kl.suf h.n h.u else decide (h.u = []) && decide (h.h = []) && !decide (m = 0) from rfl)
  rw [suf_end] at hr0
  generalize Kl.head p h m = R at *
  generalize endW h.n (95 :: h.u) = E at *
  obtain ⟨n, k, u, hh⟩ := h
  simp only at hsu hadd hr0
  have K0 := Lib.hid k0
  clear k0 hH hul
  by_cases h1 : p = 1
  · subst h1
    rw [if_pos rfl] at hr0
    by_cases hu : u = []
    · have hr := Lib.hid (show R = true by rw [hr0.out, decide_eq_true hu]; rfl)
      clear hr0 hsu hadd
      subst hu
      go_enter Tryz.func34, Tryz.ntmps34
      go_wp2
      go_ret
      exact ⟨by rw [hr.out]; rfl, by first | exact K0.out | exact below_drewN K0.out _⟩
    · have hr := Lib.hid (show R = E by rw [hr0.out, decide_eq_false hu]; rfl)
      have hie := no_emp hu
      have hadd2 := hadd.out
      clear hr0 hadd
      go_enter Tryz.func34, Tryz.ntmps34
      go_wp2_with fail
      refine (hsu.out _).mono ?_; rintro e w1 ⟨rfl, rfl⟩
      go_wp2
      go_ret
      exact ⟨by rw [hr.out]; rfl, K0.out⟩
  have d1 : (p == 1) = false := by simpa using h1
  rw [if_neg h1] at hr0
  clear h1 hsu hadd
  by_cases hu : u = []
  rotate_left
  · have hr := Lib.hid (show R = false by rw [hr0.out, decide_eq_false hu]; rfl)
    have hie := no_emp hu
    clear hr0
    go_enter Tryz.func34, Tryz.ntmps34
    go_wp2
    go_ret
    exact ⟨by rw [hr.out]; rfl, K0.out⟩
  by_cases hv : hh = []
  rotate_left
  · have hr := Lib.hid (show R = false by rw [hr0.out, decide_eq_false hv, Bool.and_false]; rfl)
    have hie := no_emp hv
    clear hr0
    subst hu
    go_enter Tryz.func34, Tryz.ntmps34
    go_wp2
    go_ret
    exact ⟨by rw [hr.out]; rfl, K0.out⟩
  have hr := Lib.hid (show R = decide ((0 : Int) < (m : Int)) by
    rw [hr0.out, decide_eq_true hu, decide_eq_true hv]
    cases m with
    | zero => rfl
    | succ m => rw [decide_eq_false (show ¬ m + 1 = 0 by omega), decide_eq_true (show (0 : Int) < ((m + 1 : Nat) : Int) by omega)]; rfl)
  clear hr0
  subst hu
  subst hv
  go_enter Tryz.func34, Tryz.ntmps34
  go_wp2
  go_ret
  exact ⟨by rw [hr.out]; first | rfl | simp, K0.out⟩

set_option maxHeartbeats 8000000 in
theorem clabs_calls (p : Int) (l : List Lb) (v : Value) (w : World) (hv : LbRow w v l) (hf : Fit l) (hT : ChT w) (hS : ShapesIn w) :
    Calls Tryz.prog 35 #[.int .i64 p, v] w fun e w' => e = .returned (.bool (Kl.labs p l)) ∧ Below w.heap.size w w' := by
  have HT := Lib.hid hT
  have HS := Lib.hid (fun W (h : Below w.heap.size w W) => show ShapesIn W from hS.below h hS.room)
  obtain ⟨A, cap, rfl, hlc, hcm, hnil, hrow⟩ := hv
  unfold maxLen at hcm
  have HR := Lib.hid hrow
  have HF := Lib.hid hf
  clear hrow hf hnil hT hS
  go_enter Tryz.func35, Tryz.ntmps35
  go_wp2_with fail
  go_loopw [9] (fun s wr => ∃ k : Nat, k ≤ l.length ∧ s = .int .i64 (k : Nat) ∧ Hid (∀ y ∈ l.take k, Kl.lab p y = true) ∧ Below w.heap.size w wr) (fun s _ => l.length - (intOf s).toNat)
  case atStart => exact ⟨0, Nat.zero_le _, rfl, Lib.hid (fun y hy => by cases hy), Below.refl _ _⟩
  case round =>
    obtain ⟨k, hk, rfl, H, hb⟩ := hrel
    by_cases hkl : k < l.length
    · obtain ⟨b, off, rfl, hbs, hc⟩ := HR.out (by omega)
      obtain ⟨c0, c1⟩ := hc k (lbAt l k) (at_get hkl)
      have hR : ∀ o u, w.cell? ⟨b, o, none⟩ = some u → wr.cell? ⟨b, o, none⟩ = some u := fun o u hu => (hb.cell (p := ⟨b, o, none⟩) hbs).trans hu
      have r0 := hR _ _ c0
      have r1 := hR _ _ c1
      have hcl := Lib.hid (fun W (hW : Below w.heap.size w W) => chis_calls p 1 (lbAt l k).1 W (HF.out (lbAt l k) (at_mem hkl)).1 (HT.out.below hW))
      have hvl := Lib.hid (fun W (hW : Below w.heap.size w W) => val16_calls p (lbAt l k).2 W (HF.out (lbAt l k) (at_mem hkl)).2 (HS.out W hW))
      have hno := Lib.hid (fun (h : Kl.lab p (lbAt l k) = false) => show Kl.labs p l = false from Lg.all_no (at_mem hkl) h)
      have hnx := Lib.hid (fun (h : Kl.lab p (lbAt l k) = true) => Lg.all_take (P := fun y : Lb => Kl.lab p y = true) H.out (at_get hkl) h)
      generalize lbAt l k = X at *
      obtain ⟨X1, X2⟩ := X
      simp only at r0 r1 hcl hvl hno hnx
      have ka := Lib.hid (kp_alloc hb (.cells #[.string (str X1), .string (str X2)] 48))
      have N1 := Lib.hid (heap_alloc_new wr (.cells #[.string (str X1), .string (str X2)] 48))
      have hlt : wr.heap.size < (wr.alloc (.cells #[.string (str X1), .string (str X2)] 48)).heap.size := by simp
      have HL := Lib.hid hlt
      clear hc c0 c1 hR hb hlt
      cases hN : Ch.isName p 1 X1
      · rw [hN] at hcl
        have hn := Lib.hid (hno.out (by unfold Kl.lab; rw [hN]; rfl))
        clear hnx hno hvl
        go_wp2_with fail
        refine (hcl.out _ ka.out).mono ?_; rintro e w1 ⟨rfl, b1⟩
        have kB := trans9 ka.out b1
        clear b1
        go_wp2
        go_ret
        exact ⟨by rw [hn.out]; rfl, kB⟩
      rw [hN] at hcl
      cases hV : Kl.val p X2
      · rw [hV] at hvl
        have hn := Lib.hid (hno.out (by unfold Kl.lab; rw [hN, hV]; rfl))
        clear hnx hno
        go_wp2_with fail
        refine (hcl.out _ ka.out).mono ?_; rintro e w1 ⟨rfl, b1⟩
        have kB := Lib.hid (trans9 ka.out b1)
        have y1 : w1.cell? ⟨wr.heap.size, 1, none⟩ = some (.string (str X2)) := (b1.cell (p := ⟨wr.heap.size, 1, none⟩) HL.out).trans (by rw [cell_of_row _ _ 1 _ _ _ N1.out]; rfl)
        clear b1
        go_wp2_with fail
        refine (hvl.out _ kB.out).mono ?_; rintro e w2 ⟨rfl, b2⟩
        have kC := trans9 kB.out b2
        clear b2 y1
        go_wp2
        go_ret
        exact ⟨by rw [hn.out]; rfl, kC⟩
      · rw [hV] at hvl
        have hn := Lib.hid (hnx.out (by unfold Kl.lab; rw [hN, hV]; rfl))
        clear hnx hno
        go_wp2_with fail
        refine (hcl.out _ ka.out).mono ?_; rintro e w1 ⟨rfl, b1⟩
        have kB := Lib.hid (trans9 ka.out b1)
        have y1 : w1.cell? ⟨wr.heap.size, 1, none⟩ = some (.string (str X2)) := (b1.cell (p := ⟨wr.heap.size, 1, none⟩) HL.out).trans (by rw [cell_of_row _ _ 1 _ _ _ N1.out]; rfl)
        clear b1
        go_wp2_with fail
        refine (hvl.out _ kB.out).mono ?_; rintro e w2 ⟨rfl, b2⟩
        have kC := trans9 kB.out b2
        clear b2 y1
        go_wp2
        go_roundw
        case rel => exact ⟨k + 1, hkl, by go_num, hn.out, kC⟩
        case measure => simp [intOf]; omega
    · have hn := Lib.hid (show Kl.labs p l = true from Lg.all_yes (Lg.all_full H.out (by omega)))
      go_wp2
      go_ret
      exact ⟨by rw [hn.out]; rfl, hb⟩

set_option maxHeartbeats 8000000 in
theorem cpoint_calls (p k : Int) (y : Ps) (w : World) (hy : PsIn w y) (hk : ptOk k y.2 = true) (hp : Pl w) :
    Calls Tryz.prog 36 #[.int .i64 p, ptv y.1 y.2] w fun e w' => e = .returned (.bool (Kl.ptT p y.2)) ∧ Below w.heap.size w w' := by
  have k0 := kp_alloc (Below.refl w.heap.size w) (.cells (ptc y.1 y.2) 46)
  have PA := PtAt.new w y.1 y.2 46
  have hst := Lib.hid (fun W (hW : Below w.heap.size w W) => stof_calls y.2.ti 0 W (hp.below hW) hy.2.t1 hy.2.t2)
  have hcm := Lib.hid (fun W => compare_walk y.2.m y.2.s 0 0 W hy.2.m1 hy.2.m2 (by decide) (by decide))
  have hof := Lib.hid (fun h => Kl.of_whole hk h)
  have hcz := Lib.hid (Kl.cmp_zero hk)
  have hR0 := Lib.hid (show Kl.ptT p y.2 = (!(decide (p = 3) && (!y.2.td || !decide (y.2.ti.tmod 1000 = 0))) && !(decide (p = 4) && (y.2.td || decide (y.2.m < 0)))) from rfl)
  obtain ⟨A2, n2, cap2, hy1⟩ : ∃ A1 n1 cap1, y.1 = .slice A1 n1 cap1 := by obtain ⟨_, _, h, _⟩ := hy.1; exact ⟨_, _, _, h⟩
  generalize Kl.ptT p y.2 = R at *
  obtain ⟨yv, ⟨ls, ro, inf, bm, bs, mm, ss, td, ti⟩⟩ := y
  simp only at hy1 k0 PA hst hcm hof hcz hR0
  subst hy1
  have K0 := Lib.hid k0
  have HPA := Lib.hid PA
  clear k0 PA hy hk hp
  generalize cmpO mm ss 0 0 = z at *
  generalize ofO ti 0 = oo at *
  by_cases p3 : p = 3
  · have f4 : decide (p = 4) = false := decide_eq_false (by omega)
    have hR1 := Lib.hid (show R = (td && decide (ti.tmod 1000 = 0)) by rw [hR0.out, decide_eq_true p3, f4]; cases td <;> cases decide (ti.tmod 1000 = 0) <;> rfl)
    clear hR0 hcm hcz f4
    subst p3
    have hw : ∀ b : Bool, td = b → R = (b && oo.isSome) := fun b e => by
      rw [hR1.out, e]
      cases b with
      | false => rfl
      | true =>
        rw [hof.out e]
        by_cases r : ti.tmod 1000 = 0
        · rw [if_pos r, decide_eq_true r]; rfl
        · rw [if_neg r, decide_eq_false r]; rfl
    have hR := Lib.hid (hw td rfl)
    clear hR1 hof hw
    cases oo with
    | none =>
      rw [show scaledV none = .tuple #[.int .i64 0, .bool false] from rfl] at hst
      rw [show (none : Option Int).isSome = false from rfl] at hR
      cases td with
      | false =>
        go_enter Tryz.func36, Tryz.ntmps36
        go_wp2_with fail
        refine (hst.out _ K0.out).mono ?_; rintro e w1 ⟨rfl, b1⟩
        have kB := trans9 K0.out b1
        obtain ⟨y0, y1, y2, y3, y4, y5, y6, y7, y8, yf, yl⟩ := HPA.out.below b1
        clear b1
        go_wp2
        go_ret
        exact ⟨by rw [hR.out]; rfl, kB⟩
      | true =>
        go_enter Tryz.func36, Tryz.ntmps36
        go_wp2_with fail
        refine (hst.out _ K0.out).mono ?_; rintro e w1 ⟨rfl, b1⟩
        have kB := trans9 K0.out b1
        obtain ⟨y0, y1, y2, y3, y4, y5, y6, y7, y8, yf, yl⟩ := HPA.out.below b1
        clear b1
        go_wp2
        go_ret
        exact ⟨by rw [hR.out]; rfl, kB⟩
    | some q =>
      rw [show scaledV (some q) = .tuple #[.int .i64 q, .bool true] from rfl] at hst
      rw [show (some q : Option Int).isSome = true from rfl] at hR
      cases td with
      | false =>
        go_enter Tryz.func36, Tryz.ntmps36
        go_wp2_with fail
        refine (hst.out _ K0.out).mono ?_; rintro e w1 ⟨rfl, b1⟩
        have kB := trans9 K0.out b1
        obtain ⟨y0, y1, y2, y3, y4, y5, y6, y7, y8, yf, yl⟩ := HPA.out.below b1
        clear b1
        go_wp2
        go_ret
        exact ⟨by rw [hR.out]; rfl, kB⟩
      | true =>
        go_enter Tryz.func36, Tryz.ntmps36
        go_wp2_with fail
        refine (hst.out _ K0.out).mono ?_; rintro e w1 ⟨rfl, b1⟩
        have kB := trans9 K0.out b1
        obtain ⟨y0, y1, y2, y3, y4, y5, y6, y7, y8, yf, yl⟩ := HPA.out.below b1
        clear b1
        go_wp2
        go_ret
        exact ⟨by rw [hR.out]; rfl, kB⟩
  have d3 : (p == 3) = false := beq_eq_false_iff_ne.2 p3
  have f3 : decide (p = 3) = false := decide_eq_false p3
  by_cases p4 : p = 4
  · subst p4
    have hR1 := Lib.hid (show R = !(td || decide (mm < 0)) by rw [hR0.out, f3]; cases td <;> cases decide (mm < 0) <;> rfl)
    clear hR0 hst hof f3 p3
    cases td with
    | true =>
      have hR := Lib.hid (show R = false by rw [hR1.out]; rfl)
      clear hR1 hcm hcz
      go_enter Tryz.func36, Tryz.ntmps36
      go_wp2
      go_ret
      exact ⟨by rw [hR.out]; rfl, by first | exact K0.out | exact below_drewN K0.out _⟩
    | false =>
      have hR := Lib.hid (show R = decide (0 ≤ z) by rw [hR1.out, hcz.out]; rfl)
      clear hR1 hcz
      go_enter Tryz.func36, Tryz.ntmps36
      go_wp2_with fail
      refine (hcm.out _).mono ?_; rintro e w1 ⟨rfl, b1⟩
      have kB := trans9 K0.out b1
      clear b1
      go_wp2
      go_ret
      exact ⟨by rw [hR.out]; rfl, kB⟩
  have d4 : (p == 4) = false := beq_eq_false_iff_ne.2 p4
  have hR := Lib.hid (show R = true by rw [hR0.out, f3, decide_eq_false p4]; rfl)
  clear hR0 hst hof f3 p3 p4 hcm hcz
  go_enter Tryz.func36, Tryz.ntmps36
  go_wp2
  go_ret
  exact ⟨by rw [hR.out]; rfl, K0.out⟩

theorem Kl.fam_no16 {p : Int} {h : Hd} {v : Value} {L : List Ps} (e : Kl.hd p h L.length = false) : Kl.fam p (fm ⟨h, v, L⟩) = false := by
  unfold Kl.fam
  rw [show Kl.hd p (fm ⟨h, v, L⟩).1 (fm ⟨h, v, L⟩).2.length = false from by rw [show (fm ⟨h, v, L⟩).2.length = L.length from by simp [fm, pts]]; exact e]; rfl

set_option maxHeartbeats 16000000 in
theorem cfits_calls (p : Int) (h : Hd) (L : List Ps) (v : Value) (w : World) (hv : PtRow w v L) (hHd : HdIn h) (hok : famOk h (pts L) = true) (hT : ChT w) (hP : ShPl w) :
    Calls Tryz.prog 18 #[.int .i64 p, famv h v] w fun e w' => e = .returned (.bool (Kl.fam p (fm ⟨h, v, L⟩))) ∧ Below w.heap.size w w' := by
  have k0 := kp_alloc (Below.refl w.heap.size w) (.cells (famc h v) 39)
  have F0 := FamAt.new w h v 39
  have HPT := Lib.hid hv.2
  have hpo := Lib.hid (famOk_iff.1 hok).2.2.2.2.1
  have HT := Lib.hid hT
  have HP := Lib.hid (fun W (hW : Below w.heap.size w W) => shpl_below hP hW)
  obtain ⟨A, cap, rfl, hlc, hcm, _, hrow⟩ := hv.1
  unfold maxLen at hcm
  have HR := Lib.hid hrow
  have hkd := Lib.hid (fun W => ckinds_calls p W)
  have hct0 : ∀ (W : World) (u : Value), NoRow W u (Kl.kinds p) → Calls Tryz.prog 32 #[u, .int .i64 h.k] W fun e w' => e = .returned (.bool ((Kl.kinds p).contains h.k)) ∧ W = w' := fun W u hu => by
    have := icontains_calls (Kl.kinds p) u h.k W hu
    rwa [Kl.mem_contains] at this
  have hct := Lib.hid hct0
  have his := Lib.hid (fun W (hW : Below w.heap.size w W) => chis_calls p 0 h.n W hHd.ln (hT.below hW))
  have hul : h.u.length ≤ 60 := by
    have hvu := (famOk_iff.1 hok).2.2.1
    unfold valueOk at hvu
    rw [Bool.and_eq_true] at hvu
    exact of_decide_eq_true hvu.1
  have hhd := Lib.hid (fun W => chead_calls p h A L.length cap W hHd hul)
  have hdc := Lib.hid (Kl.hd_code p h L.length)
  have hfn := Lib.hid (fun (e : Kl.hd p h L.length = false) => Kl.fam_no16 (v := .slice A L.length cap) e)
  have hfy := Lib.hid (fun (e : Kl.hd p h L.length = true) => show Kl.fam p (fm ⟨h, .slice A L.length cap, L⟩) = (pts L).all (Kl.pt p) from by
    unfold Kl.fam
    rw [show Kl.hd p (fm ⟨h, .slice A L.length cap, L⟩).1 (fm ⟨h, .slice A L.length cap, L⟩).2.length = true from by rw [show (fm ⟨h, .slice A L.length cap, L⟩).2.length = L.length from by simp [fm, pts]]; exact e]; rfl)
  generalize Kl.fam p (fm ⟨h, .slice A L.length cap, L⟩) = R at *
  generalize Kl.hd p h L.length = H0 at *
  generalize Kl.head p h L.length = H3 at *
  obtain ⟨n, k, u, hh⟩ := h
  simp only at k0 F0 hct his hhd hpo hdc
  have HF0 := Lib.hid F0
  have K0 := Lib.hid k0
  clear hrow hv F0 k0 hHd hct0 hok hT hP hul
  go_enter Tryz.func18, Tryz.ntmps18
  go_upto_region 1 with fail
  obtain ⟨W1, hW1⟩ : ∃ W, W = w.alloc (.cells #[.string (str n), .int .i64 k, .string (str u), .string (str hh), .slice A L.length cap] 39) := ⟨_, rfl⟩
  have HF1 : Hid (FamAt W1 w.heap.size ⟨n, k, u, hh⟩ (.slice A L.length cap)) := Lib.hid (by rw [hW1]; exact HF0.out)
  have K1 : Hid (Below w.heap.size w W1) := Lib.hid (by rw [hW1]; exact K0.out)
  rw [← hW1]
  clear hW1 HF0 K0
  cases c1 : (Kl.kinds p).contains k
  · rw [c1] at hct
    have hr := Lib.hid (hfn.out (by rw [hdc.out, c1]; rfl))
    clear hfn hfy hdc c1
    refine wp_region_noPanic ?_
    refine wp_region_held_drew (S := fun X => Below W1.heap.size W1 X) (by kernel_rfl) ?_ (fun hHeld => ?_)
    · exact Below.drew (Below.refl _ _)
    have kB : Below W1.heap.size W1 W1.drew := Below.drew (Below.refl _ _)
    clear hHeld
    refine tk9 0 kB ?_
    refine tk9 2 kB ?_
    refine tk9 3 kB ?_
    refine tk9 4 kB ?_ (hy := Or.inl ⟨by rfl, by intro x hSw; (try dsimp only at hSw); obtain ⟨q0, q1, q2, q3, q4, qf, ql⟩ := HF1.out.below hSw; dsimp only at q0 q1 q2 q3 q4; first | (go_simp; done) | (go_simp; with_reducible rfl)⟩)
    refine wpAnyH_ready (rs := [1]) (by kernel_rfl) (by simp) ?_
    refine AllReadyH.cons (by simp only [List.getElem?_toArray, List.getElem?_cons_succ, List.getElem?_cons_zero]; rfl) (fun K hK => ?_) AllReadyH.nil
    try go_simp
    refine (hkd.out _).mono ?_
    rintro e w2 ⟨⟨kv, rfl, hkv⟩, b2⟩
    replace kB := trans9 kB b2
    clear b2
    refine hK.out _ _ kB (fun hHeld => ?_)
    clear hK K hHeld
    (try simp only [Act.put, List.setIfInBounds_toArray, List.set_cons_zero, List.set_cons_succ])
    refine wpAnyH_ready (rs := [5]) (by kernel_rfl) (by simp) ?_
    refine AllReadyH.cons (by simp only [List.getElem?_toArray, List.getElem?_cons_succ, List.getElem?_cons_zero]; rfl) (fun K hK => ?_) AllReadyH.nil
    try go_simp
    refine (hct.out _ _ hkv).mono ?_
    rintro e w3 ⟨rfl, rfl⟩
    clear hkv
    refine hK.out _ _ kB (fun hHeld => ?_)
    clear hK K hHeld
    (try simp only [Act.put, List.setIfInBounds_toArray, List.set_cons_zero, List.set_cons_succ])
    refine tk9 6 kB ?_
    refine tk9 7 kB ?_
    refine tk9 8 kB ?_ (v := undef) (hy := Or.inr ⟨by rfl, rfl⟩)
    refine tk9 9 kB ?_ (v := undef) (hy := Or.inr ⟨by rfl, rfl⟩)
    refine tk9 10 kB ?_ (v := undef) (hy := Or.inr ⟨by rfl, rfl⟩)
    refine tk9 11 kB ?_ (v := undef) (hy := Or.inr ⟨by rfl, rfl⟩)
    refine tk9 12 kB ?_ (v := undef) (hy := Or.inr ⟨by rfl, rfl⟩)
    refine tk9 13 kB ?_ (v := undef) (hy := Or.inr ⟨by rfl, rfl⟩)
    refine tk9 14 kB ?_
    refine tk9 15 kB ?_
    refine tk9 16 kB ?_ (v := undef) (hy := Or.inr ⟨by rfl, rfl⟩)
    refine tk9 17 kB ?_ (v := undef) (hy := Or.inr ⟨by rfl, rfl⟩)
    refine tk9 18 kB ?_ (v := undef) (hy := Or.inr ⟨by rfl, rfl⟩)
    refine tk9 19 kB ?_ (v := undef) (hy := Or.inr ⟨by rfl, rfl⟩)
    refine tk9 20 kB ?_
    refine wpAnyH_done (by kernel_rfl) ?_ _
    refine NoPanic.normal ?_
    have kZ := trans9 K1.out kB
    clear kB
    go_wp2
    go_ret
    exact ⟨by rw [hr.out]; rfl, kZ⟩
  rw [c1] at hct
  cases c2 : Ch.isName p 0 n
  · rw [c2] at his
    have hr := Lib.hid (hfn.out (by rw [hdc.out, c2, Bool.and_false]; rfl))
    clear hfn hfy hdc c1 c2
    refine wp_region_noPanic ?_
    refine wp_region_held_drew (S := fun X => Below W1.heap.size W1 X) (by kernel_rfl) ?_ (fun hHeld => ?_)
    · exact Below.drew (Below.refl _ _)
    have kB : Below W1.heap.size W1 W1.drew := Below.drew (Below.refl _ _)
    clear hHeld
    refine tk9 0 kB ?_
    refine tk9 2 kB ?_
    refine tk9 3 kB ?_
    refine tk9 4 kB ?_ (hy := Or.inl ⟨by rfl, by intro x hSw; (try dsimp only at hSw); obtain ⟨q0, q1, q2, q3, q4, qf, ql⟩ := HF1.out.below hSw; dsimp only at q0 q1 q2 q3 q4; first | (go_simp; done) | (go_simp; with_reducible rfl)⟩)
    refine wpAnyH_ready (rs := [1]) (by kernel_rfl) (by simp) ?_
    refine AllReadyH.cons (by simp only [List.getElem?_toArray, List.getElem?_cons_succ, List.getElem?_cons_zero]; rfl) (fun K hK => ?_) AllReadyH.nil
    try go_simp
    refine (hkd.out _).mono ?_
    rintro e w2 ⟨⟨kv, rfl, hkv⟩, b2⟩
    replace kB := trans9 kB b2
    clear b2
    refine hK.out _ _ kB (fun hHeld => ?_)
    clear hK K hHeld
    (try simp only [Act.put, List.setIfInBounds_toArray, List.set_cons_zero, List.set_cons_succ])
    refine wpAnyH_ready (rs := [5]) (by kernel_rfl) (by simp) ?_
    refine AllReadyH.cons (by simp only [List.getElem?_toArray, List.getElem?_cons_succ, List.getElem?_cons_zero]; rfl) (fun K hK => ?_) AllReadyH.nil
    try go_simp
    refine (hct.out _ _ hkv).mono ?_
    rintro e w3 ⟨rfl, rfl⟩
    clear hkv
    refine hK.out _ _ kB (fun hHeld => ?_)
    clear hK K hHeld
    (try simp only [Act.put, List.setIfInBounds_toArray, List.set_cons_zero, List.set_cons_succ])
    refine tk9 6 kB ?_
    refine tk9 7 kB ?_
    refine tk9 8 kB ?_
    refine tk9 9 kB ?_
    refine tk9 10 kB ?_
    refine tk9 11 kB ?_ (hy := Or.inl ⟨by rfl, by intro x hSw; (try dsimp only at hSw); obtain ⟨q0, q1, q2, q3, q4, qf, ql⟩ := HF1.out.below hSw; dsimp only at q0 q1 q2 q3 q4; first | (go_simp; done) | (go_simp; with_reducible rfl)⟩)
    refine wpAnyH_ready (rs := [12]) (by kernel_rfl) (by simp) ?_
    refine AllReadyH.cons (by simp only [List.getElem?_toArray, List.getElem?_cons_succ, List.getElem?_cons_zero]; rfl) (fun K hK => ?_) AllReadyH.nil
    try go_simp
    refine (his.out _ (trans9 K1.out kB)).mono ?_
    rintro e w4 ⟨rfl, b4⟩
    replace kB := trans9 kB b4
    clear b4
    refine hK.out _ _ kB (fun hHeld => ?_)
    clear hK K hHeld
    (try simp only [Act.put, List.setIfInBounds_toArray, List.set_cons_zero, List.set_cons_succ])
    refine tk9 13 kB ?_
    refine tk9 14 kB ?_
    refine tk9 15 kB ?_
    refine tk9 16 kB ?_ (v := undef) (hy := Or.inr ⟨by rfl, rfl⟩)
    refine tk9 17 kB ?_ (v := undef) (hy := Or.inr ⟨by rfl, rfl⟩)
    refine tk9 18 kB ?_ (v := undef) (hy := Or.inr ⟨by rfl, rfl⟩)
    refine tk9 19 kB ?_ (v := undef) (hy := Or.inr ⟨by rfl, rfl⟩)
    refine tk9 20 kB ?_
    refine wpAnyH_done (by kernel_rfl) ?_ _
    refine NoPanic.normal ?_
    have kZ := trans9 K1.out kB
    clear kB
    go_wp2
    go_ret
    exact ⟨by rw [hr.out]; rfl, kZ⟩
  rw [c2] at his
  cases H3 with
  | false =>
    have hr := Lib.hid (hfn.out (by rw [hdc.out, Bool.and_false]))
    clear hfn hfy hdc c1 c2
    refine wp_region_noPanic ?_
    refine wp_region_held_drew (S := fun X => Below W1.heap.size W1 X) (by kernel_rfl) ?_ (fun hHeld => ?_)
    · exact Below.drew (Below.refl _ _)
    have kB : Below W1.heap.size W1 W1.drew := Below.drew (Below.refl _ _)
    clear hHeld
    refine tk9 0 kB ?_
    refine tk9 2 kB ?_
    refine tk9 3 kB ?_
    refine tk9 4 kB ?_ (hy := Or.inl ⟨by rfl, by intro x hSw; (try dsimp only at hSw); obtain ⟨q0, q1, q2, q3, q4, qf, ql⟩ := HF1.out.below hSw; dsimp only at q0 q1 q2 q3 q4; first | (go_simp; done) | (go_simp; with_reducible rfl)⟩)
    refine wpAnyH_ready (rs := [1]) (by kernel_rfl) (by simp) ?_
    refine AllReadyH.cons (by simp only [List.getElem?_toArray, List.getElem?_cons_succ, List.getElem?_cons_zero]; rfl) (fun K hK => ?_) AllReadyH.nil
    try go_simp
    refine (hkd.out _).mono ?_
    rintro e w2 ⟨⟨kv, rfl, hkv⟩, b2⟩
    replace kB := trans9 kB b2
    clear b2
    refine hK.out _ _ kB (fun hHeld => ?_)
    clear hK K hHeld
    (try simp only [Act.put, List.setIfInBounds_toArray, List.set_cons_zero, List.set_cons_succ])
    refine wpAnyH_ready (rs := [5]) (by kernel_rfl) (by simp) ?_
    refine AllReadyH.cons (by simp only [List.getElem?_toArray, List.getElem?_cons_succ, List.getElem?_cons_zero]; rfl) (fun K hK => ?_) AllReadyH.nil
    try go_simp
    refine (hct.out _ _ hkv).mono ?_
    rintro e w3 ⟨rfl, rfl⟩
    clear hkv
    refine hK.out _ _ kB (fun hHeld => ?_)
    clear hK K hHeld
    (try simp only [Act.put, List.setIfInBounds_toArray, List.set_cons_zero, List.set_cons_succ])
    refine tk9 6 kB ?_
    refine tk9 7 kB ?_
    refine tk9 8 kB ?_
    refine tk9 9 kB ?_
    refine tk9 10 kB ?_
    refine tk9 11 kB ?_ (hy := Or.inl ⟨by rfl, by intro x hSw; (try dsimp only at hSw); obtain ⟨q0, q1, q2, q3, q4, qf, ql⟩ := HF1.out.below hSw; dsimp only at q0 q1 q2 q3 q4; first | (go_simp; done) | (go_simp; with_reducible rfl)⟩)
    refine wpAnyH_ready (rs := [12]) (by kernel_rfl) (by simp) ?_
    refine AllReadyH.cons (by simp only [List.getElem?_toArray, List.getElem?_cons_succ, List.getElem?_cons_zero]; rfl) (fun K hK => ?_) AllReadyH.nil
    try go_simp
    refine (his.out _ (trans9 K1.out kB)).mono ?_
    rintro e w4 ⟨rfl, b4⟩
    replace kB := trans9 kB b4
    clear b4
    refine hK.out _ _ kB (fun hHeld => ?_)
    clear hK K hHeld
    (try simp only [Act.put, List.setIfInBounds_toArray, List.set_cons_zero, List.set_cons_succ])
    refine tk9 13 kB ?_
    refine tk9 14 kB ?_
    refine tk9 15 kB ?_
    refine tk9 16 kB ?_
    refine tk9 17 kB ?_ (hy := Or.inl ⟨by rfl, by intro x hSw; (try dsimp only at hSw); obtain ⟨q0, q1, q2, q3, q4, qf, ql⟩ := HF1.out.below hSw; dsimp only at q0 q1 q2 q3 q4; first | (go_simp; done) | (go_simp; with_reducible rfl)⟩)
    refine wpAnyH_ready (rs := [18]) (by kernel_rfl) (by simp) ?_
    refine AllReadyH.cons (by simp only [List.getElem?_toArray, List.getElem?_cons_succ, List.getElem?_cons_zero]; rfl) (fun K hK => ?_) AllReadyH.nil
    try go_simp
    refine (hhd.out _).mono ?_
    rintro e w5 ⟨rfl, b5⟩
    replace kB := trans9 kB b5
    clear b5
    refine hK.out _ _ kB (fun hHeld => ?_)
    clear hK K hHeld
    (try simp only [Act.put, List.setIfInBounds_toArray, List.set_cons_zero, List.set_cons_succ])
    refine tk9 19 kB ?_
    refine tk9 20 kB ?_
    refine wpAnyH_done (by kernel_rfl) ?_ _
    refine NoPanic.normal ?_
    have kZ := trans9 K1.out kB
    clear kB
    go_wp2
    go_ret
    exact ⟨by rw [hr.out]; rfl, kZ⟩
  | true =>
    have hr := Lib.hid (hfy.out (by rw [hdc.out, c1, c2]; rfl))
    clear hfn hfy hdc c1 c2
    refine wp_region_noPanic ?_
    refine wp_region_held_drew (S := fun X => Below W1.heap.size W1 X) (by kernel_rfl) ?_ (fun hHeld => ?_)
    · exact Below.drew (Below.refl _ _)
    have kB : Below W1.heap.size W1 W1.drew := Below.drew (Below.refl _ _)
    clear hHeld
    refine tk9 0 kB ?_
    refine tk9 2 kB ?_
    refine tk9 3 kB ?_
    refine tk9 4 kB ?_ (hy := Or.inl ⟨by rfl, by intro x hSw; (try dsimp only at hSw); obtain ⟨q0, q1, q2, q3, q4, qf, ql⟩ := HF1.out.below hSw; dsimp only at q0 q1 q2 q3 q4; first | (go_simp; done) | (go_simp; with_reducible rfl)⟩)
    refine wpAnyH_ready (rs := [1]) (by kernel_rfl) (by simp) ?_
    refine AllReadyH.cons (by simp only [List.getElem?_toArray, List.getElem?_cons_succ, List.getElem?_cons_zero]; rfl) (fun K hK => ?_) AllReadyH.nil
    try go_simp
    refine (hkd.out _).mono ?_
    rintro e w2 ⟨⟨kv, rfl, hkv⟩, b2⟩
    replace kB := trans9 kB b2
    clear b2
    refine hK.out _ _ kB (fun hHeld => ?_)
    clear hK K hHeld
    (try simp only [Act.put, List.setIfInBounds_toArray, List.set_cons_zero, List.set_cons_succ])
    refine wpAnyH_ready (rs := [5]) (by kernel_rfl) (by simp) ?_
    refine AllReadyH.cons (by simp only [List.getElem?_toArray, List.getElem?_cons_succ, List.getElem?_cons_zero]; rfl) (fun K hK => ?_) AllReadyH.nil
    try go_simp
    refine (hct.out _ _ hkv).mono ?_
    rintro e w3 ⟨rfl, rfl⟩
    clear hkv
    refine hK.out _ _ kB (fun hHeld => ?_)
    clear hK K hHeld
    (try simp only [Act.put, List.setIfInBounds_toArray, List.set_cons_zero, List.set_cons_succ])
    refine tk9 6 kB ?_
    refine tk9 7 kB ?_
    refine tk9 8 kB ?_
    refine tk9 9 kB ?_
    refine tk9 10 kB ?_
    refine tk9 11 kB ?_ (hy := Or.inl ⟨by rfl, by intro x hSw; (try dsimp only at hSw); obtain ⟨q0, q1, q2, q3, q4, qf, ql⟩ := HF1.out.below hSw; dsimp only at q0 q1 q2 q3 q4; first | (go_simp; done) | (go_simp; with_reducible rfl)⟩)
    refine wpAnyH_ready (rs := [12]) (by kernel_rfl) (by simp) ?_
    refine AllReadyH.cons (by simp only [List.getElem?_toArray, List.getElem?_cons_succ, List.getElem?_cons_zero]; rfl) (fun K hK => ?_) AllReadyH.nil
    try go_simp
    refine (his.out _ (trans9 K1.out kB)).mono ?_
    rintro e w4 ⟨rfl, b4⟩
    replace kB := trans9 kB b4
    clear b4
    refine hK.out _ _ kB (fun hHeld => ?_)
    clear hK K hHeld
    (try simp only [Act.put, List.setIfInBounds_toArray, List.set_cons_zero, List.set_cons_succ])
    refine tk9 13 kB ?_
    refine tk9 14 kB ?_
    refine tk9 15 kB ?_
    refine tk9 16 kB ?_
    refine tk9 17 kB ?_ (hy := Or.inl ⟨by rfl, by intro x hSw; (try dsimp only at hSw); obtain ⟨q0, q1, q2, q3, q4, qf, ql⟩ := HF1.out.below hSw; dsimp only at q0 q1 q2 q3 q4; first | (go_simp; done) | (go_simp; with_reducible rfl)⟩)
    refine wpAnyH_ready (rs := [18]) (by kernel_rfl) (by simp) ?_
    refine AllReadyH.cons (by simp only [List.getElem?_toArray, List.getElem?_cons_succ, List.getElem?_cons_zero]; rfl) (fun K hK => ?_) AllReadyH.nil
    try go_simp
    refine (hhd.out _).mono ?_
    rintro e w5 ⟨rfl, b5⟩
    replace kB := trans9 kB b5
    clear b5
    refine hK.out _ _ kB (fun hHeld => ?_)
    clear hK K hHeld
    (try simp only [Act.put, List.setIfInBounds_toArray, List.set_cons_zero, List.set_cons_succ])
    refine tk9 19 kB ?_
    refine tk9 20 kB ?_
    refine wpAnyH_done (by kernel_rfl) ?_ _
    refine NoPanic.normal ?_
    have HB := Lib.hid (trans9 K1.out kB)
    have HF3 := Lib.hid (HF1.out.below kB)
    obtain ⟨W3, hW3⟩ : ∃ W, W = w5 := ⟨_, rfl⟩
    rw [← hW3] at HB HF3 ⊢
    clear kB HF1 K1 hW3 hkd hct his hhd
    obtain ⟨x0, x1, x2, x3, x4, xf, xl⟩ := HF3.out
    dsimp only at x0 x1 x2 x3 x4
    go_wp2_with fail
    go_loopw [31] (fun s wr => ∃ j : Nat, j ≤ L.length ∧ s = .int .i64 (j : Nat) ∧ Hid (∀ y ∈ (pts L).take j, Kl.pt p y = true) ∧ Below W3.heap.size W3 wr) (fun s _ => L.length - (intOf s).toNat)
    case atStart => exact ⟨0, Nat.zero_le _, rfl, Lib.hid (fun y hy => by cases hy), Below.refl _ _⟩
    case round =>
      obtain ⟨j, hj, rfl, H, hb⟩ := hrel
      by_cases hjl : j < L.length
      · clear x0 x1 x2 x3 x4 xf xl
        obtain ⟨b1, off1, rfl, hbs1, hc1⟩ := HR.out (by omega)
        obtain ⟨y, hy, hyp⟩ := ps_get hjl
        have hmy := List.mem_of_getElem? hy
        have hyi := HPT.out y hmy
        have hpk := hpo.out y.2 (List.mem_of_getElem? hyp)
        obtain ⟨e0, e1, e2, e3, e4, e5, e6, e7, e8⟩ := pr_cells hc1 hy
        have hno := Lib.hid (fun (h : Kl.pt p y.2 = false) => show R = false from by rw [hr.out]; exact Lg.all_no (List.mem_of_getElem? hyp) h)
        have hnx := Lib.hid (fun (h : Kl.pt p y.2 = true) => Lg.all_take (P := fun y => Kl.pt p y = true) H.out hyp h)
        rw [Kl.pt_parts] at hno hnx
        obtain ⟨A2, cap2, hy1, hlc2, hcm2, _, hrow2⟩ := hyi.1
        have hR1 : ∀ o u, w.cell? ⟨b1, o, none⟩ = some u → wr.cell? ⟨b1, o, none⟩ = some u := fun o u hu => ((trans9 HB.out hb).cell (p := ⟨b1, o, none⟩) hbs1).trans hu
        have s0 := hR1 _ _ e0
        have s1 := hR1 _ _ e1
        have s2 := hR1 _ _ e2
        have s3 := hR1 _ _ e3
        have s4 := hR1 _ _ e4
        have s5 := hR1 _ _ e5
        have s6 := hR1 _ _ e6
        have s7 := hR1 _ _ e7
        have s8 := hR1 _ _ e8
        have ka := kp_alloc (Below.refl wr.heap.size wr) (.cells (ptc y.1 y.2) 46)
        have PA := PtAt.new wr y.1 y.2 46
        have hl := Lib.hid (fun W (hW : Below w.heap.size w W) => clabs_calls p y.2.l y.1 W (hyi.1.below hW) hyi.2.fit (HT.out.below hW) (HP.out W hW).1)
        have hq := Lib.hid (fun W (hW : Below w.heap.size w W) => cpoint_calls p k y W ⟨hyi.1.below hW, hyi.2⟩ hpk (HP.out W hW).2)
        have hKw0 := trans9 HB.out (trans9 hb ka)
        have hKv0 := trans9 hb ka
        generalize Kl.labs p y.2.l = cl at *
        generalize Kl.ptT p y.2 = cq at *
        obtain ⟨yv, ⟨ls, ro, inf, bm, bs, mm, ss, td, ti⟩⟩ := y
        simp only at hy1 hlc2 s0 s1 s2 s3 s4 s5 s6 s7 s8 ka PA hl hq
        subst hy1
        have HPA := Lib.hid PA
        have HKA := Lib.hid hKw0
        have HKV := Lib.hid hKv0
        clear hc1 e0 e1 e2 e3 e4 e5 e6 e7 e8 hR1 hy hyp hmy hyi hrow2 ka PA hKw0 hKv0 hpk H
        go_upto_region 6 with fail
        obtain ⟨W4, hW4⟩ : ∃ W, W = wr.alloc (.cells #[.slice A2 ls.length cap2, .int .i64 ro, .bool inf, .int .i64 bm, .int .i64 bs, .int .i64 mm, .int .i64 ss, .bool td, .int .i64 ti] 46) := ⟨_, rfl⟩
        have HP4 : Hid (PtAt W4 wr.heap.size (.slice A2 ls.length cap2) ⟨ls, ro, inf, bm, bs, mm, ss, td, ti⟩) := Lib.hid (by rw [hW4]; exact HPA.out)
        have HK4 : Hid (Below w.heap.size w W4) := Lib.hid (by rw [hW4]; exact HKA.out)
        have HK3 : Hid (Below W3.heap.size W3 W4) := Lib.hid (by rw [hW4]; exact HKV.out)
        rw [← hW4]
        clear hW4 HPA HKA HKV s0 s1 s2 s3 s4 s5 s6 s7 s8 hb
        obtain ⟨y0, y1, y2, y3, y4, y5, y6, y7, y8, yf, yl⟩ := HP4.out
        dsimp only at y0 y1 y2 y3 y4 y5 y6 y7 y8
        cases cl with
        | false =>
          have hr2 := Lib.hid (hno.out rfl)
          clear hno hnx hq
          go_wp2_with fail
          refine (hl.out _ HK4.out).mono ?_; rintro e w6 ⟨rfl, b6⟩
          have kZ := trans9 HK4.out b6
          clear b6 y0 y1 y2 y3 y4 y5 y6 y7 y8 yf yl
          go_wp2
          go_ret
          exact ⟨by rw [hr2.out]; rfl, kZ⟩
        | true =>
          go_wp2_with fail
          refine (hl.out _ HK4.out).mono ?_; rintro e w6 ⟨rfl, b6⟩
          have HK6 := Lib.hid (trans9 HK4.out b6)
          have HV6 := Lib.hid (trans9 HK3.out b6)
          have HP6 := Lib.hid (HP4.out.below b6)
          clear b6 y0 y1 y2 y3 y4 y5 y6 y7 y8 yf yl HP4 HK3 HK4 hl
          obtain ⟨y0, y1, y2, y3, y4, y5, y6, y7, y8, yf, yl⟩ := HP6.out
          dsimp only at y0 y1 y2 y3 y4 y5 y6 y7 y8
          cases cq with
          | false =>
            have hr2 := Lib.hid (hno.out rfl)
            clear hno hnx
            go_wp2_with fail
            refine (hq.out _ HK6.out).mono ?_; rintro e w7 ⟨rfl, b7⟩
            have kZ := trans9 HK6.out b7
            clear b7 y0 y1 y2 y3 y4 y5 y6 y7 y8 yf yl
            go_wp2
            go_ret
            exact ⟨by rw [hr2.out]; rfl, kZ⟩
          | true =>
            have hr2 := Lib.hid (hnx.out rfl)
            clear hno hnx
            go_wp2_with fail
            refine (hq.out _ HK6.out).mono ?_; rintro e w7 ⟨rfl, b7⟩
            have kZ := trans9 HV6.out b7
            clear b7 y0 y1 y2 y3 y4 y5 y6 y7 y8 yf yl
            go_wp2
            go_roundw
            case rel => exact ⟨j + 1, hjl, by go_num, hr2.out, kZ⟩
            case measure => simp [intOf]; omega
      · have hr2 := Lib.hid (show R = true from by rw [hr.out]; exact Lg.all_yes (Lg.all_full H.out (by show (pts L).length ≤ j; simp [pts]; omega)))
        have hK9 := Lib.hid (trans9 HB.out hb)
        clear x0 x1 x2 x3 x4 xf xl
        go_wp2
        go_ret
        exact ⟨by rw [hr2.out]; rfl, hK9.out⟩

end Go.Proofs.YtgoibhbmndpgpaaGreatDoor
