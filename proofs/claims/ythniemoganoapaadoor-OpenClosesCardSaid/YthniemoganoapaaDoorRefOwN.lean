/- The walk of the reference's Rows (layer 17). -/
import Derived.Test.YthniemoganoapaaDoorRefOwL
import Derived.Test.YthniemoganoapaaDoorRefOwM
import Derived.Test.YthniemoganoapaaDoorOpM
set_option maxRecDepth 100000
set_option linter.unusedVariables false
set_option linter.unusedSimpArgs false
namespace Go.Proofs.YthniemoganoapaaDoor
open Go.RowKit
attribute [local go_sem ↓] Go.wp_at_zero Go.wp_at_succ

/-- told, whatever the line begins with -/
theorem told_calls (b : Nat) (s : List UInt8) (w : World) (r00 : List UInt8) (h : ScO w b s (Ow.Out.ok () r00)) (hs : s.length ≤ 1900) :
    Calls Tryd.prog 23 #[.pointer (some ⟨b, 0, none⟩)] w fun e w' => ToldP w b s (Ow.told s.length r00) e w' := by
  by_cases h1 : r00.head? = some 69
  · exact told4_calls b s w r00 h hs h1
  by_cases h2 : r00.head? = some 84
  · exact told1_calls b s w r00 h hs h2
  by_cases h3 : r00.head? = some 85
  · exact told2_calls b s w r00 h hs h3
  by_cases h4 : r00.head? = some 72
  · exact told3_calls b s w r00 h hs h4
  · exact told0_calls b s w r00 h hs ⟨h1, h2, h3, h4⟩
/-- rows so far, each with its tags, all in blocks from B on -/
structure RowsS (W : World) (B : Nat) (v : Value) (L : List Rs) : Prop where
  own : KOwn encRw 42 10 W B v L
  tgs : ∀ x ∈ L, TgOwn W B x.2 x.1.tags
theorem RowsS.grown {W W' : World} {B b : Nat} {v : Value} {L : List Rs} (h : RowsS W B v L) (g : W.grownBy W' (some b)) (hb : b < B) : RowsS W' B v L := ⟨ko_grown h.own g hb, fun x hx => ko_grown (h.tgs x hx) g hb⟩
theorem RowsS.below {W W' : World} {B : Nat} {v : Value} {L : List Rs} (h : RowsS W B v L) (g : Below W.heap.size W W') : RowsS W' B v L := ⟨KOwn.below h.own g, fun x hx => KOwn.below (h.tgs x hx) g⟩
/-- c is none of their blocks -/
def RowsN (v : Value) (L : List Rs) (c : Nat) : Prop := v.ownBlock ≠ some c ∧ ∀ x ∈ L, x.2.ownBlock ≠ some c
theorem RowsS.new {W : World} {B : Nat} {v : Value} {L : List Rs} (h : RowsS W B v L) : RowsN v L W.heap.size :=
  ⟨fun e => Nat.lt_irrefl _ (own_lt9 h.own _ e), fun x hx e => Nat.lt_irrefl _ (own_lt9 (h.tgs x hx) _ e)⟩
theorem RowsS.sto {W W' : World} {B c : Nat} {v : Value} {L : List Rs} (h : RowsS W B v L) (hn : RowsN v L c) (g : W.grownBy W' (some c)) : RowsS W' B v L :=
  ⟨World.ownsRow.kept h.own g (Or.inr hn.1), fun x hx => World.ownsRow.kept (h.tgs x hx) g (Or.inr (hn.2 x hx))⟩
namespace Ow
/-- what a line's told part is as a row -/
def rowO (o : Out (Option Rw)) : Out Rw := match o with | .fell r => .fell r | .ok none r => .fell r | .ok (some x) r => .ok x r
theorem line_hash {N : Nat} {l : List UInt8} (h : l.head? = some 35) : line N l = (lit [35, 32] l).bind fun _ r => told N r := by unfold line; rw [if_pos h]
theorem line_no {N : Nat} {l : List UInt8} (h : ¬ l.head? = some 35) : line N l = (sample N l).map some := by unfold line; rw [if_neg h]
/-- a round's relation, by the line as a row -/
theorem rows_round {f N : Nat} {r0 : List UInt8} {o : Out Rw} (h : line N r0 = o.map some) : rowsF (f + 1) N r0 = o.bind fun x r => (lit [10] r).bind fun _ r' => (rowsF f N r').map (x :: ·) := by
  rw [rowsF_succ, h]; cases o <;> rfl
end Ow
/-- what the reference's Rows returns -/
def RRowsP (s : List UInt8) (w : World) (e : Ending) (w' : World) : Prop :=
  ∃ A n cap L, e = .returned (.tuple #[.slice A n cap, .int .i64 (Ow.bad s)]) ∧ Below w.heap.size w w' ∧ RowsS w' w.heap.size (.slice A n cap) L ∧
    (Ow.bad s < 0 → ∃ r, Ow.rows s.length s = .ok (L.map (·.1)) r) ∧ (0 ≤ Ow.bad s → L = [])

set_option maxHeartbeats 64000000 in
theorem rrows_calls (s : List UInt8) (w : World) (hs : s.length ≤ 1900) :
    Calls Tryd.prog 10 #[.string (str s)] w fun e w' => RRowsP s w e w' := by
  have hNeg := Lib.hid (Ow.bad_neg s)
  have HBd := Lib.hid (fun j => Ow.bad_rows s j)
  obtain ⟨Q, hQ⟩ : ∃ Q, Q = Ow.rows s.length s := ⟨_, rfl⟩
  unfold RRowsP
  rw [← hQ] at HBd hNeg ⊢
  obtain ⟨Bd, hBd⟩ : ∃ B, B = Ow.bad s := ⟨_, rfl⟩
  rw [← hBd] at HBd hNeg ⊢
  have HQ0 := Lib.hid (show Q = ((Ow.Out.ok () s : Ow.Out Unit).bind fun _ r => Ow.rowsF (s.length + 1) s.length r).map (([] : List Rs).map (·.1) ++ ·) by rw [hQ]; exact Ow.map_nil _)
  obtain ⟨b, hb⟩ : ∃ z, z = w.heap.size := ⟨_, rfl⟩
  obtain ⟨W1, hW1⟩ : ∃ X, X = w.alloc (.cells #[.string (str s), .int .i64 0, .bool false] 51) := ⟨_, rfl⟩
  have S0 := Lib.hid (show ScO W1 b s (Ow.Out.ok () s : Ow.Out Unit) by
    rw [hW1, hb]
    refine ⟨List.suffix_refl _, ?_⟩
    show ScA _ _ s (s.length - s.length) false
    rw [Nat.sub_self]
    exact ⟨by simp, by simp, by simp, fun o => by simp, by simp⟩)
  have G0 := Lib.hid (show Below w.heap.size w W1 by rw [hW1]; exact (Below.refl _ _).alloc (Nat.le_refl _) _)
  have hz1 : w.heap.size + 1 ≤ W1.heap.size := by rw [hW1, al_size]; omega
  have K0 := Lib.hid (show RowsS W1 (w.heap.size + 1) (.slice none 0 0) [] from ⟨KOwn.nil _ _ _ _ _, fun x hx => (by cases hx)⟩)
  have HW1 := Lib.hid hW1
  have HB := Lib.hid hb
  clear hQ hBd hW1 hb
  go_enter Tryd.func10, Tryd.ntmps10
  go_wp2_with fail
  rw [← HW1.out, ← HB.out]
  have hbw1 : b < w.heap.size + 1 := by have := HB.out; omega
  have hbw2 : w.heap.size ≤ b := by have := HB.out; omega
  clear HW1
  go_loopg [5] (s.length + 1) (fun g v wr => ∃ (o' : Ow.Out Unit) (f : Nat) (L : List Rs) (A : Option Addr) (n cap : Nat), g = (if Ow.fellB o' = true then 0 else o'.rest.length + 1) ∧ v = .slice A n cap ∧ (Ow.fellB o' = false → o'.rest.length < f) ∧ L.length ≤ s.length + 1 ∧ (Ow.fellB o' = false → L.length + o'.rest.length ≤ s.length) ∧ Hid (ScO wr b s o') ∧ Hid (Below w.heap.size w wr) ∧ Hid (RowsS wr (w.heap.size + 1) (.slice A n cap) L) ∧ Hid (Q = (o'.bind fun _ r => Ow.rowsF f s.length r).map (L.map (·.1) ++ ·)))
  case atStart => exact ⟨.ok () s, _, [], none, 0, 0, rfl, rfl, fun _ => Nat.lt_succ_self _, Nat.zero_le _, fun _ => (by show 0 + s.length ≤ _; omega), S0, G0, K0, HQ0⟩
  case round =>
    clear S0 G0 K0 HQ0 hz1
    obtain ⟨o', f, L, A, n, cap, hg, rfl, hf, hL, hL2, S1, G1, K1, HQ⟩ := hrel
    have HGg := Lib.hid hg
    clear hg
    obtain ⟨c0, c1, c2, cf, cl⟩ := S1.out.num
    cases o' with
    | fell r =>
      have hr := Lib.hid (show Q = .fell r from HQ.out)
      have hrs : r <:+ s := S1.out.suf
      have hBdv := Lib.hid (show Bd = ((s.length - r.length : Nat) : Int) by
        have := HBd.out (s.length - r.length) (by rw [hr.out]; exact (Ow.suf_at hrs).symm) (Nat.sub_le _ _)
        rw [this, hr.out]; rfl)
      replace c2 : wr.cell? ⟨b, 2, none⟩ = some (.bool true) := c2
      replace c1 : wr.cell? ⟨b, 1, none⟩ = some (.int .i64 ((s.length - r.length : Nat) : Int)) := c1
      obtain ⟨K, hK⟩ : ∃ K, K = s.length - r.length := ⟨_, rfl⟩
      rw [← hK] at c1 hBdv
      clear hK
      clear HQ hf hL hL2
      go_upto_region 15 with fail
      go_quiet (fail)
      go_wp2
      go_ret2
      exact ⟨none, 0, 0, [], by rw [hBdv.out]; rfl, below_drewN G1.out _, ⟨KOwn.nil _ _ _ _ _, fun x hx => (by cases hx)⟩, fun h => (by have := hBdv.out; exfalso; omega), fun _ => rfl⟩
    | ok u0 r0 =>
      have hf2 : r0.length < f := hf rfl
      have hL3 : L.length + r0.length ≤ s.length := hL2 rfl
      obtain ⟨f, rfl⟩ : ∃ f', f = f' + 1 := ⟨f - 1, by omega⟩
      have HQ1 := Lib.hid (show Q = (Ow.rowsF (f + 1) s.length r0).map (L.map (·.1) ++ ·) from HQ.out)
      clear HQ hf hL2
      replace c2 : wr.cell? ⟨b, 2, none⟩ = some (.bool false) := c2
      obtain ⟨br, hbr⟩ : ∃ z, z = wr.heap.size := ⟨_, rfl⟩
      have hbrg : w.heap.size + 1 ≤ br := by have := S1.out.num.lt; omega
      have hbn := Lib.hid (show RowsN (.slice A n cap) L br by rw [hbr]; exact K1.out.new)
      obtain ⟨W2, hW2⟩ : ∃ X, X = wr.alloc (.cells #[.int .i64 0, .string ⟨#[]⟩, .int .i64 0, .slice none 0 0, .slice none 0 0, .string ⟨#[]⟩, .int .i64 0, .bool false, .string ⟨#[]⟩, .int .i64 0] 42) := ⟨_, rfl⟩
      have b2 : Below wr.heap.size wr W2 := by rw [hW2]; exact (Below.refl _ _).alloc (Nat.le_refl _) _
      have R2 := Lib.hid (show RwAt W2 br (⟨0, [], 0, [], [], 0, false, [], 0⟩, .slice none 0 0) by rw [hW2, hbr]; exact RwAt.new wr 0 0 _)
      have S2 := Lib.hid (S1.out.below b2)
      have K2 := Lib.hid (K1.out.below b2)
      have G2 := Lib.hid (G1.out.trans (b2.mono (by omega)))
      have HW2 := Lib.hid hW2
      have HBR := Lib.hid hbr
      clear b2 S1 K1 G1 hW2 hbr
      go_wp2_with fail
      rw [← HW2.out, ← HBR.out]
      clear c0 c1 c2 cf cl HW2 HBR
      refine (scnext_calls _ b s W2 S2.out (by unfold maxLen; omega)).mono ?_; rintro e w3 ⟨rfl, b3⟩
      have S3 := Lib.hid (S2.out.below b3)
      have R3 := Lib.hid (R2.out.below b3)
      have K3 := Lib.hid (K2.out.below b3)
      have hz2 := G2.out.size
      have G3 := Lib.hid (G2.out.trans (b3.mono hz2))
      clear b3 S2 R2 K2 G2
      have hdm : (Ow.hd r0 == (35 : Int)) = decide (r0.head? = some 35) := Ow.hd_is (l := r0) (c := 35) (by decide)
      rw [show (Ow.Out.ok u0 r0).rest = r0 from rfl]
      by_cases q : r0.head? = some 35
      rotate_left
      · rw [decide_eq_false q] at hdm
        have hLn := Lib.hid (Ow.line_no (N := s.length) q)
        generalize Ow.hd r0 = HD at *
        go_wp2_with fail
        refine (scsample_calls b s w3 r0 S3.out hs).mono ?_; rintro e w4 ⟨x0, A2, n2, cap2, M, rfl, S4, g4, T4, hxM⟩
        obtain ⟨ol, hol⟩ : ∃ o, o = Ow.sample s.length r0 := ⟨_, rfl⟩
        rw [← hol] at S4 hxM hLn
        obtain ⟨x, hxx⟩ : ∃ x : Ow.Rw, x = { x0 with tags := M } := ⟨_, rfl⟩
        have hrv : rwv (x0, .slice A2 n2 cap2) = rwv (x, .slice A2 n2 cap2) := by rw [hxx]; rfl
        have hx : ∀ R r, ol = .ok R r → x = R := fun R r e => (by obtain ⟨h1, h2⟩ := hxM R r e; rw [hxx, h2, h1])
        have hMt : M = x.tags := by rw [hxx]
        rw [hMt] at T4
        have hz3 : w.heap.size + 1 ≤ w3.heap.size := by have := R3.out.lt; omega
        have R4 := Lib.hid (R3.out.grown g4 (by intro e; injection e; omega))
        have K4 := Lib.hid (K3.out.grown g4 (by omega))
        have G4 := Lib.hid (Below.grown G3.out g4 (by omega) (fun q e => by injection e with e; omega))
        have HLQ := Lib.hid (show Q = (ol.bind fun R r => (Ow.lit [10] r).bind fun _ r' => (Ow.rowsF f s.length r').map (R :: ·)).map (L.map (·.1) ++ ·) by rw [HQ1.out, Ow.rows_round hLn.out])
        have HSuf := Lib.hid (show ol.rest.length ≤ r0.length by rw [hol]; exact (Ow.suf_sample _ _).length_le)
        have gp := grown_ten (w := w4) (c := br) (v0 := .int .i64 x.k) (v1 := .string (str x.n)) (v2 := .int .i64 (x.off : Nat)) (v3 := .slice A2 n2 cap2) (v4 := .slice none 0 0) (v5 := .string (str x.text)) (v6 := .int .i64 (x.at_ : Nat)) (v7 := .bool x.td) (v8 := .string (str x.tm)) (v9 := .int .i64 (x.wh : Nat))
        have SC := Lib.hid (S4.grown gp (by intro e; injection e; omega))
        have RC := Lib.hid (R4.out.all x (.slice A2 n2 cap2))
        have TC := Lib.hid (World.ownsRow.kept (KOwn.mono T4 hz3) gp (Or.inr (fun e => by have := own_ge T4 _ e; have := R3.out.lt; omega)))
        have KC := Lib.hid (K4.out.sto hbn.out gp)
        have GC := Lib.hid (Below.grown G4.out gp (by have := G4.out.size; omega) (fun q e => by injection e with e; omega))
        have hszc := GC.out.size
        obtain ⟨z0, z1, z2, z3, z4, z5, z6, z7, z8, z9, zf, zl⟩ := R4.out
        dsimp only at z0 z1 z2 z3 z4 z5 z6 z7 z8 z9
        rw [hrv]
        unfold rwv
        clear hLn hol hxM hxx hrv hMt S4 T4 g4 gp R3 K3 S3 G3 HQ1 K4 G4 q
        go_wp2_with fail
        clear z0 z1 z2 z3 z4 z5 z6 z7 z8 z9 zf zl R4
        obtain ⟨WC, hWC⟩ : ∃ X, X = ((((((((((w4.setCell ⟨br, 0, none⟩ (.int .i64 x.k)).setCell ⟨br, 1, none⟩ (.string (str x.n))).setCell ⟨br, 2, none⟩ (.int .i64 (x.off : Nat))).setCell ⟨br, 3, none⟩ (.slice A2 n2 cap2)).setCell ⟨br, 4, none⟩ (.slice none 0 0)).setCell ⟨br, 5, none⟩ (.string (str x.text))).setCell ⟨br, 6, none⟩ (.int .i64 (x.at_ : Nat))).setCell ⟨br, 7, none⟩ (.bool x.td)).setCell ⟨br, 8, none⟩ (.string (str x.tm))).setCell ⟨br, 9, none⟩ (.int .i64 (x.wh : Nat))) := ⟨_, rfl⟩
        rw [← hWC] at SC RC TC KC GC hszc ⊢
        clear hWC
        refine (scl_calls ol [10] b s _ SC.out (by decide) (by unfold maxLen; omega)).mono ?_; rintro e w8 ⟨rfl, g8, S8⟩
        have HS8 := Lib.hid S8
        have R8 := Lib.hid (RC.out.grown g8 (by intro e; injection e; omega))
        have T8 := Lib.hid (ko_grown TC.out g8 (by omega))
        have K8 := Lib.hid (KC.out.grown g8 (by omega))
        have G8 := Lib.hid (Below.grown GC.out g8 hszc (fun q e => by injection e with e; omega))
        have hz8 := g8.size
        clear S8 g8 SC RC TC KC GC
        obtain ⟨z0, z1, z2, z3, z4, z5, z6, z7, z8, z9, zf, zl⟩ := R8.out
        dsimp only at z0 z1 z2 z3 z4 z5 z6 z7 z8 z9
        have KX := Lib.hid (rw_knew w8 (x, .slice A2 n2 cap2))
        have B9 := (Below.refl w8.heap.size w8).alloc (Nat.le_refl _) (.cells #[.int .i64 x.k, .string (str x.n), .int .i64 (x.off : Nat), .slice A2 n2 cap2, .slice none 0 0, .string (str x.text), .int .i64 (x.at_ : Nat), .bool x.td, .string (str x.tm), .int .i64 (x.wh : Nat)] 42)
        have S9 := Lib.hid (HS8.out.below B9)
        have T9 := Lib.hid (KOwn.below T8.out B9)
        have K9 := Lib.hid (K8.out.below B9)
        have G9 := Lib.hid (G8.out.trans (B9.mono (by omega)))
        have hz9 := B9.size
        clear B9
        go_wp2_with (at_builtin; refine wpList_append_krow rwTy encRw_len (by rfl) (.tmp 45) (.tmp 47) (by rfl) (w.heap.size + 1) _ L (by rfl) K9.out.own _ [(x, .slice A2 n2 cap2)] (by rfl) KX.out (fun y hy => by rw [List.mem_singleton.1 hy]; exact encRw_one x A2 n2 cap2) (by simp; omega) (by omega) ?_; intro v6 w6 o6 g6)
        obtain ⟨A6, n6, cap6, rfl⟩ : ∃ A n cap, v6 = .slice A n cap := (by obtain ⟨A, cap, he, _⟩ := KOwn.row encRw_len o6; exact ⟨A, _, cap, he⟩)
        have hge := own_ge K9.out.own
        have SN := Lib.hid (S9.out.grown g6 (by intro e; have := hge _ e.symm; omega))
        have KN := Lib.hid (show RowsS w6 (w.heap.size + 1) (.slice A6 n6 cap6) (L ++ [(x, .slice A2 n2 cap2)]) from ⟨o6, fun y hy => by
          rcases List.mem_append.1 hy with hy | hy
          · exact tg_far (K9.out.tgs y hy) K9.out.own g6
          · rw [List.mem_singleton.1 hy]; exact tg_far T9.out K9.out.own g6⟩)
        have GN := Lib.hid (Below.grown G9.out g6 (by omega) (fun q e => by have := hge q e; omega))
        obtain ⟨oN, hoN⟩ : ∃ o, o = ol.bind fun _ r => Ow.lit [10] r := ⟨_, rfl⟩
        have SN2 := Lib.hid (show ScO w6 b s oN by rw [hoN]; exact SN.out)
        have HQN := Lib.hid (show Q = (oN.bind fun _ r => Ow.rowsF f s.length r).map ((L ++ [(x, Value.slice A2 n2 cap2)]).map (·.1) ++ ·) by
          rw [HLQ.out, hoN]
          cases ho : ol with
          | fell r => rfl
          | ok R r =>
            obtain rfl := hx _ _ ho
            show Ow.Out.map ((Ow.lit [10] r).bind _) _ = Ow.Out.map ((Ow.lit [10] r).bind _) _
            cases Ow.lit [10] r with
            | fell r => rfl
            | ok u r =>
              show Ow.Out.map (Ow.Out.map (Ow.rowsF f s.length r) _) _ = Ow.Out.map (Ow.rowsF f s.length r) _
              cases Ow.rowsF f s.length r <;> simp [Ow.Out.map])
        have hlen : (Ow.fellB oN = false → oN.rest.length < r0.length) := by
          intro hf
          rw [hoN] at hf ⊢
          cases ho : ol with
          | fell r => rw [ho] at hf; cases hf
          | ok R r =>
            rw [ho] at hf
            have hsu := HSuf.out
            rw [ho] at hsu
            have hsu : r.length ≤ r0.length := hsu
            show (Ow.lit [10] r).rest.length < r0.length
            cases hl : Ow.lit [10] r with
            | fell r' => have hf : Ow.fellB (Ow.lit [10] r) = false := hf; rw [hl] at hf; cases hf
            | ok u r' =>
              have := congrArg List.length (Ow.lit_ok hl)
              simp only [List.length_append, List.length_cons, List.length_nil] at this
              show r'.length < r0.length
              omega
        clear HS8 R8 T8 K8 G8 KX S9 T9 K9 G9 o6 g6 hge SN hoN HLQ HSuf hx z0 z1 z2 z3 z4 z5 z6 z7 z8 z9 zf zl
        go_roundg (if Ow.fellB oN = true then 0 else oN.rest.length + 1)
        case measure =>
          have hgg : _ = r0.length + 1 := HGg.out
          by_cases hf : Ow.fellB oN = true
          · rw [if_pos hf]; omega
          · rw [if_neg hf]; have := hlen (by simpa using hf); omega
        case rel => exact ⟨oN, f, L ++ [(x, Value.slice A2 n2 cap2)], A6, n6, cap6, rfl, rfl, fun hf => (by have := hlen hf; omega), by simp; omega, fun hf => (by have := hlen hf; simp; omega), SN2, GN, KN, HQN⟩
      · rw [decide_eq_true q] at hdm
        have hLn0 := Lib.hid (Ow.line_hash (N := s.length) q)
        generalize Ow.hd r0 = HD at *
        go_wp2_with fail
        refine (scl_calls _ [35, 32] b s w3 S3.out (by decide) (by unfold maxLen; omega)).mono ?_; rintro e w4 ⟨rfl, g4, S4⟩
        obtain ⟨o1, ho1⟩ : ∃ o, o = Ow.lit [35, 32] r0 := ⟨_, rfl⟩
        rw [show ((Ow.Out.ok u0 r0).bind fun _ r => Ow.lit [35, 32] r) = o1 from ho1.symm] at S4
        rw [← ho1] at hLn0
        have HS4 := Lib.hid S4
        have hz3 : w.heap.size + 1 ≤ w3.heap.size := by have := R3.out.lt; omega
        have R4 := Lib.hid (R3.out.grown g4 (by intro e; injection e; omega))
        have K4 := Lib.hid (K3.out.grown g4 (by omega))
        have G4 := Lib.hid (Below.grown G3.out g4 (by omega) (fun q e => by injection e with e; omega))
        have hz4 := g4.size
        obtain ⟨c0, c1, c2, cf, cl⟩ := S4.num
        clear S4 g4 S3 R3 K3 G3 q
        cases hP1 : o1 with
        | fell r =>
          rw [hP1] at HS4
          replace c2 : w4.cell? ⟨b, 2, none⟩ = some (.bool true) := by rw [hP1] at c2; exact c2
          obtain ⟨ol, hol⟩ : ∃ o : Ow.Out Ow.Rw, o = .fell r := ⟨_, rfl⟩
          obtain ⟨x, hxx⟩ : ∃ x : Ow.Rw, x = ⟨0, [], 0, [], [], 0, false, [], 0⟩ := ⟨_, rfl⟩
          obtain ⟨A2, hA2⟩ : ∃ A : Option Addr, A = none := ⟨_, rfl⟩
          obtain ⟨n2, hn2⟩ : ∃ n : Nat, n = 0 := ⟨_, rfl⟩
          obtain ⟨cap2, hcap2⟩ : ∃ n : Nat, n = 0 := ⟨_, rfl⟩
          have SC := Lib.hid (show ScO w4 b s ol by rw [hol]; exact HS4.out.to rfl rfl)
          have RC := Lib.hid (show RwAt w4 br (x, .slice A2 n2 cap2) by rw [hxx, hA2, hn2, hcap2]; exact R4.out)
          have TC := Lib.hid (show TgOwn w4 (w.heap.size + 1) (.slice A2 n2 cap2) x.tags by rw [hxx, hA2, hn2, hcap2]; exact KOwn.nil _ _ _ _ _)
          have KC := K4
          have GC := G4
          have hszc := GC.out.size
          have hx : ∀ R r, ol = .ok R r → x = R := fun R r e => (by rw [hol] at e; cases e)
          have HLQ := Lib.hid (show Q = (ol.bind fun R r => (Ow.lit [10] r).bind fun _ r' => (Ow.rowsF f s.length r').map (R :: ·)).map (L.map (·.1) ++ ·) by
            rw [HQ1.out, Ow.rows_round (o := ol) (by rw [hLn0.out, hP1, hol]; rfl)])
          have HSuf := Lib.hid (show ol.rest.length ≤ r0.length by
            rw [hol]
            have h := (Ow.suf_lit [35, 32] r0).length_le
            rw [← ho1, hP1] at h; exact h)
          clear HS4 R4 K4 G4 hxx hA2 hn2 hcap2 hLn0 HQ1 ho1 hP1 hol
          go_wp2_with fail
          clear c0 c1 c2 cf cl
          refine (scl_calls ol [10] b s _ SC.out (by decide) (by unfold maxLen; omega)).mono ?_; rintro e w8 ⟨rfl, g8, S8⟩
          have HS8 := Lib.hid S8
          have R8 := Lib.hid (RC.out.grown g8 (by intro e; injection e; omega))
          have T8 := Lib.hid (ko_grown TC.out g8 (by omega))
          have K8 := Lib.hid (KC.out.grown g8 (by omega))
          have G8 := Lib.hid (Below.grown GC.out g8 hszc (fun q e => by injection e with e; omega))
          have hz8 := g8.size
          clear S8 g8 SC RC TC KC GC
          obtain ⟨z0, z1, z2, z3, z4, z5, z6, z7, z8, z9, zf, zl⟩ := R8.out
          dsimp only at z0 z1 z2 z3 z4 z5 z6 z7 z8 z9
          have KX := Lib.hid (rw_knew w8 (x, .slice A2 n2 cap2))
          have B9 := (Below.refl w8.heap.size w8).alloc (Nat.le_refl _) (.cells #[.int .i64 x.k, .string (str x.n), .int .i64 (x.off : Nat), .slice A2 n2 cap2, .slice none 0 0, .string (str x.text), .int .i64 (x.at_ : Nat), .bool x.td, .string (str x.tm), .int .i64 (x.wh : Nat)] 42)
          have S9 := Lib.hid (HS8.out.below B9)
          have T9 := Lib.hid (KOwn.below T8.out B9)
          have K9 := Lib.hid (K8.out.below B9)
          have G9 := Lib.hid (G8.out.trans (B9.mono (by omega)))
          have hz9 := B9.size
          clear B9
          go_wp2_with (at_builtin; refine wpList_append_krow rwTy encRw_len (by rfl) (.tmp 45) (.tmp 47) (by rfl) (w.heap.size + 1) _ L (by rfl) K9.out.own _ [(x, .slice A2 n2 cap2)] (by rfl) KX.out (fun y hy => by rw [List.mem_singleton.1 hy]; exact encRw_one x A2 n2 cap2) (by simp; omega) (by omega) ?_; intro v6 w6 o6 g6)
          obtain ⟨A6, n6, cap6, rfl⟩ : ∃ A n cap, v6 = .slice A n cap := (by obtain ⟨A, cap, he, _⟩ := KOwn.row encRw_len o6; exact ⟨A, _, cap, he⟩)
          have hge := own_ge K9.out.own
          have SN := Lib.hid (S9.out.grown g6 (by intro e; have := hge _ e.symm; omega))
          have KN := Lib.hid (show RowsS w6 (w.heap.size + 1) (.slice A6 n6 cap6) (L ++ [(x, .slice A2 n2 cap2)]) from ⟨o6, fun y hy => by
            rcases List.mem_append.1 hy with hy | hy
            · exact tg_far (K9.out.tgs y hy) K9.out.own g6
            · rw [List.mem_singleton.1 hy]; exact tg_far T9.out K9.out.own g6⟩)
          have GN := Lib.hid (Below.grown G9.out g6 (by omega) (fun q e => by have := hge q e; omega))
          obtain ⟨oN, hoN⟩ : ∃ o, o = ol.bind fun _ r => Ow.lit [10] r := ⟨_, rfl⟩
          have SN2 := Lib.hid (show ScO w6 b s oN by rw [hoN]; exact SN.out)
          have HQN := Lib.hid (show Q = (oN.bind fun _ r => Ow.rowsF f s.length r).map ((L ++ [(x, Value.slice A2 n2 cap2)]).map (·.1) ++ ·) by
            rw [HLQ.out, hoN]
            cases ho : ol with
            | fell r => rfl
            | ok R r =>
              obtain rfl := hx _ _ ho
              show Ow.Out.map ((Ow.lit [10] r).bind _) _ = Ow.Out.map ((Ow.lit [10] r).bind _) _
              cases Ow.lit [10] r with
              | fell r => rfl
              | ok u r =>
                show Ow.Out.map (Ow.Out.map (Ow.rowsF f s.length r) _) _ = Ow.Out.map (Ow.rowsF f s.length r) _
                cases Ow.rowsF f s.length r <;> simp [Ow.Out.map])
          have hlen : (Ow.fellB oN = false → oN.rest.length < r0.length) := by
            intro hf
            rw [hoN] at hf ⊢
            cases ho : ol with
            | fell r => rw [ho] at hf; cases hf
            | ok R r =>
              rw [ho] at hf
              have hsu := HSuf.out
              rw [ho] at hsu
              have hsu : r.length ≤ r0.length := hsu
              show (Ow.lit [10] r).rest.length < r0.length
              cases hl : Ow.lit [10] r with
              | fell r' => have hf : Ow.fellB (Ow.lit [10] r) = false := hf; rw [hl] at hf; cases hf
              | ok u r' =>
                have := congrArg List.length (Ow.lit_ok hl)
                simp only [List.length_append, List.length_cons, List.length_nil] at this
                show r'.length < r0.length
                omega
          clear HS8 R8 T8 K8 G8 KX S9 T9 K9 G9 o6 g6 hge SN hoN HLQ HSuf hx z0 z1 z2 z3 z4 z5 z6 z7 z8 z9 zf zl
          go_roundg (if Ow.fellB oN = true then 0 else oN.rest.length + 1)
          case measure =>
            have hgg : _ = r0.length + 1 := HGg.out
            by_cases hf : Ow.fellB oN = true
            · rw [if_pos hf]; omega
            · rw [if_neg hf]; have := hlen (by simpa using hf); omega
          case rel => exact ⟨oN, f, L ++ [(x, Value.slice A2 n2 cap2)], A6, n6, cap6, rfl, rfl, fun hf => (by have := hlen hf; omega), by simp; omega, fun hf => (by have := hlen hf; simp; omega), SN2, GN, KN, HQN⟩
        | ok u1 r1 =>
          rw [hP1] at HS4
          replace c2 : w4.cell? ⟨b, 2, none⟩ = some (.bool false) := by rw [hP1] at c2; exact c2
          have hr1 : r1.length ≤ r0.length := by
            have h := (Ow.suf_lit [35, 32] r0).length_le
            rw [← ho1, hP1] at h; exact h
          go_wp2_with fail
          clear c0 c1 c2 cf cl
          refine (told_calls b s w4 r1 (HS4.out.to rfl rfl) hs).mono ?_; rintro e w5 ⟨x, on, rfl, hon, S5, g5, hx0⟩
          obtain ⟨P, hP⟩ : ∃ o, o = Ow.told s.length r1 := ⟨_, rfl⟩
          rw [← hP] at S5 hon hx0
          have hLn := Lib.hid (show Ow.line s.length r0 = P by rw [hLn0.out, hP1, hP]; rfl)
          have hsu : P.rest.length ≤ r1.length := by rw [hP]; exact (Ow.suf_told _ _).length_le
          have R5 := Lib.hid (R4.out.grown g5 (by intro e; injection e; omega))
          have K5 := Lib.hid (K4.out.grown g5 (by omega))
          have G5 := Lib.hid (Below.grown G4.out g5 (by omega) (fun q e => by injection e with e; omega))
          have hz5 := g5.size
          have gp := grown_ten (w := w5) (c := br) (v0 := .int .i64 x.k) (v1 := .string (str x.n)) (v2 := .int .i64 (x.off : Nat)) (v3 := .slice none 0 0) (v4 := .slice none 0 0) (v5 := .string (str x.text)) (v6 := .int .i64 (x.at_ : Nat)) (v7 := .bool x.td) (v8 := .string (str x.tm)) (v9 := .int .i64 (x.wh : Nat))
          have S6 := Lib.hid (S5.grown gp (by intro e; injection e; omega))
          have R6 := Lib.hid (R5.out.all x (.slice none 0 0))
          have K6 := Lib.hid (K5.out.sto hbn.out gp)
          have G6 := Lib.hid (Below.grown G5.out gp (by omega) (fun q e => by injection e with e; omega))
          obtain ⟨z0, z1, z2, z3, z4, z5, z6, z7, z8, z9, zf, zl⟩ := R5.out
          dsimp only at z0 z1 z2 z3 z4 z5 z6 z7 z8 z9
          clear hLn0 hP1 hP S5 g5 gp HS4 R4 K4 G4 R5 K5 G5
          unfold rwv
          dsimp only
          go_upto_region 10 with fail
          clear z0 z1 z2 z3 z4 z5 z6 z7 z8 z9 zf zl
          obtain ⟨WC, hWC⟩ : ∃ X, X = ((((((((((w5.setCell ⟨br, 0, none⟩ (.int .i64 x.k)).setCell ⟨br, 1, none⟩ (.string (str x.n))).setCell ⟨br, 2, none⟩ (.int .i64 (x.off : Nat))).setCell ⟨br, 3, none⟩ (.slice none 0 0)).setCell ⟨br, 4, none⟩ (.slice none 0 0)).setCell ⟨br, 5, none⟩ (.string (str x.text))).setCell ⟨br, 6, none⟩ (.int .i64 (x.at_ : Nat))).setCell ⟨br, 7, none⟩ (.bool x.td)).setCell ⟨br, 8, none⟩ (.string (str x.tm))).setCell ⟨br, 9, none⟩ (.int .i64 (x.wh : Nat))) := ⟨_, rfl⟩
          rw [← hWC] at S6 R6 K6 G6 ⊢
          clear hWC
          obtain ⟨A2, hA2⟩ : ∃ A : Option Addr, A = none := ⟨_, rfl⟩
          obtain ⟨n2, hn2⟩ : ∃ n : Nat, n = 0 := ⟨_, rfl⟩
          obtain ⟨cap2, hcap2⟩ : ∃ n : Nat, n = 0 := ⟨_, rfl⟩
          have RC := Lib.hid (show RwAt WC br (x, .slice A2 n2 cap2) by rw [hA2, hn2, hcap2]; exact R6.out)
          have KC := K6
          have GC := G6
          have hszc := GC.out.size
          have hszd : w.heap.size + 1 ≤ WC.heap.size := by have := R6.out.lt; omega
          obtain ⟨c0, c1, c2, cf, cl⟩ := S6.out.num
          cases P with
          | fell r =>
            obtain rfl : on = false := hon
            replace c2 : WC.cell? ⟨b, 2, none⟩ = some (.bool true) := c2
            obtain ⟨ol, hol⟩ : ∃ o : Ow.Out Ow.Rw, o = .fell r := ⟨_, rfl⟩
            have SC := Lib.hid (show ScO WC b s ol by rw [hol]; exact S6.out.to rfl rfl)
            obtain ⟨xx, hxx⟩ : ∃ y : Ow.Rw, y = { x with tags := [] } := ⟨_, rfl⟩
            have RC := Lib.hid (show RwAt WC br (xx, .slice A2 n2 cap2) by rw [hxx]; obtain ⟨z0, z1, z2, z3, z4, z5, z6, z7, z8, z9, zf, zl⟩ := RC.out; exact ⟨z0, z1, z2, z3, z4, z5, z6, z7, z8, z9, zf, zl⟩)
            have TC := Lib.hid (show TgOwn WC (w.heap.size + 1) (.slice A2 n2 cap2) xx.tags by rw [hxx, hA2, hn2, hcap2]; exact KOwn.nil _ _ _ _ _)
            have hx : ∀ R r, ol = .ok R r → xx = R := fun R r e => (by rw [hol] at e; cases e)
            have HLQ := Lib.hid (show Q = (ol.bind fun R r => (Ow.lit [10] r).bind fun _ r' => (Ow.rowsF f s.length r').map (R :: ·)).map (L.map (·.1) ++ ·) by
              rw [HQ1.out, Ow.rows_round (o := ol) (by rw [hLn.out, hol]; rfl)])
            have HSuf := Lib.hid (show ol.rest.length ≤ r0.length by rw [hol]; exact Nat.le_trans hsu hr1)
            clear hLn HQ1 hol hxx hA2 hn2 hcap2 S6 R6 K6 G6 hx0
            go_wp2_with fail
            clear c0 c1 c2 cf cl
            refine (scl_calls ol [10] b s _ SC.out (by decide) (by unfold maxLen; omega)).mono ?_; rintro e w8 ⟨rfl, g8, S8⟩
            have HS8 := Lib.hid S8
            have R8 := Lib.hid (RC.out.grown g8 (by intro e; injection e; omega))
            have T8 := Lib.hid (ko_grown TC.out g8 (by omega))
            have K8 := Lib.hid (KC.out.grown g8 (by omega))
            have G8 := Lib.hid (Below.grown GC.out g8 hszc (fun q e => by injection e with e; omega))
            have hz8 := g8.size
            clear S8 g8 SC RC TC KC GC
            obtain ⟨z0, z1, z2, z3, z4, z5, z6, z7, z8, z9, zf, zl⟩ := R8.out
            dsimp only at z0 z1 z2 z3 z4 z5 z6 z7 z8 z9
            have KX := Lib.hid (rw_knew w8 (xx, .slice A2 n2 cap2))
            have B9 := (Below.refl w8.heap.size w8).alloc (Nat.le_refl _) (.cells #[.int .i64 xx.k, .string (str xx.n), .int .i64 (xx.off : Nat), .slice A2 n2 cap2, .slice none 0 0, .string (str xx.text), .int .i64 (xx.at_ : Nat), .bool xx.td, .string (str xx.tm), .int .i64 (xx.wh : Nat)] 42)
            have S9 := Lib.hid (HS8.out.below B9)
            have T9 := Lib.hid (KOwn.below T8.out B9)
            have K9 := Lib.hid (K8.out.below B9)
            have G9 := Lib.hid (G8.out.trans (B9.mono (by omega)))
            have hz9 := B9.size
            clear B9
            go_wp2_with (at_builtin; refine wpList_append_krow rwTy encRw_len (by rfl) (.tmp 45) (.tmp 47) (by rfl) (w.heap.size + 1) _ L (by rfl) K9.out.own _ [(xx, .slice A2 n2 cap2)] (by rfl) KX.out (fun y hy => by rw [List.mem_singleton.1 hy]; exact encRw_one xx A2 n2 cap2) (by simp; omega) (by omega) ?_; intro v6 w6 o6 g6)
            obtain ⟨A6, n6, cap6, rfl⟩ : ∃ A n cap, v6 = .slice A n cap := (by obtain ⟨A, cap, he, _⟩ := KOwn.row encRw_len o6; exact ⟨A, _, cap, he⟩)
            have hge := own_ge K9.out.own
            have SN := Lib.hid (S9.out.grown g6 (by intro e; have := hge _ e.symm; omega))
            have KN := Lib.hid (show RowsS w6 (w.heap.size + 1) (.slice A6 n6 cap6) (L ++ [(xx, .slice A2 n2 cap2)]) from ⟨o6, fun y hy => by
              rcases List.mem_append.1 hy with hy | hy
              · exact tg_far (K9.out.tgs y hy) K9.out.own g6
              · rw [List.mem_singleton.1 hy]; exact tg_far T9.out K9.out.own g6⟩)
            have GN := Lib.hid (Below.grown G9.out g6 (by omega) (fun q e => by have := hge q e; omega))
            obtain ⟨oN, hoN⟩ : ∃ o, o = ol.bind fun _ r => Ow.lit [10] r := ⟨_, rfl⟩
            have SN2 := Lib.hid (show ScO w6 b s oN by rw [hoN]; exact SN.out)
            have HQN := Lib.hid (show Q = (oN.bind fun _ r => Ow.rowsF f s.length r).map ((L ++ [(xx, Value.slice A2 n2 cap2)]).map (·.1) ++ ·) by
              rw [HLQ.out, hoN]
              cases ho : ol with
              | fell r => rfl
              | ok R r =>
                obtain rfl := hx _ _ ho
                show Ow.Out.map ((Ow.lit [10] r).bind _) _ = Ow.Out.map ((Ow.lit [10] r).bind _) _
                cases Ow.lit [10] r with
                | fell r => rfl
                | ok u r =>
                  show Ow.Out.map (Ow.Out.map (Ow.rowsF f s.length r) _) _ = Ow.Out.map (Ow.rowsF f s.length r) _
                  cases Ow.rowsF f s.length r <;> simp [Ow.Out.map])
            have hlen : (Ow.fellB oN = false → oN.rest.length < r0.length) := by
              intro hf
              rw [hoN] at hf ⊢
              cases ho : ol with
              | fell r => rw [ho] at hf; cases hf
              | ok R r =>
                rw [ho] at hf
                have hsu := HSuf.out
                rw [ho] at hsu
                have hsu : r.length ≤ r0.length := hsu
                show (Ow.lit [10] r).rest.length < r0.length
                cases hl : Ow.lit [10] r with
                | fell r' => have hf : Ow.fellB (Ow.lit [10] r) = false := hf; rw [hl] at hf; cases hf
                | ok u r' =>
                  have := congrArg List.length (Ow.lit_ok hl)
                  simp only [List.length_append, List.length_cons, List.length_nil] at this
                  show r'.length < r0.length
                  omega
            clear HS8 R8 T8 K8 G8 KX S9 T9 K9 G9 o6 g6 hge SN hoN HLQ HSuf hx z0 z1 z2 z3 z4 z5 z6 z7 z8 z9 zf zl
            go_roundg (if Ow.fellB oN = true then 0 else oN.rest.length + 1)
            case measure =>
              have hgg : _ = r0.length + 1 := HGg.out
              by_cases hf : Ow.fellB oN = true
              · rw [if_pos hf]; omega
              · rw [if_neg hf]; have := hlen (by simpa using hf); omega
            case rel => exact ⟨oN, f, L ++ [(xx, Value.slice A2 n2 cap2)], A6, n6, cap6, rfl, rfl, fun hf => (by have := hlen hf; omega), by simp; omega, fun hf => (by have := hlen hf; simp; omega), SN2, GN, KN, HQN⟩
          | ok y r =>
            cases y with
            | none =>
              obtain rfl : on = false := hon
              replace c2 : WC.cell? ⟨b, 2, none⟩ = some (.bool false) := c2
              have hQf := Lib.hid (show Q = .ok (L.map (·.1)) r by
                rw [HQ1.out, Ow.rowsF_succ, hLn.out]; show Ow.Out.ok (_ ++ []) _ = _; rw [List.append_nil])
              have hBm := Lib.hid (show Bd = -1 from hNeg.out.1 (by rw [hQf.out]; rfl))
              clear hLn HQ1 hA2 hn2 hcap2 S6 R6 K6 G6 hx0 RC
              go_wp2
              go_ret2
              exact ⟨A, n, cap, L, by rw [hBm.out]; rfl, GC.out, ⟨KOwn.mono KC.out.own (Nat.le_succ _), fun x hx => KOwn.mono (KC.out.tgs x hx) (Nat.le_succ _)⟩, fun _ => ⟨r, hQf.out⟩, fun h => (by have := hBm.out; exfalso; omega)⟩
            | some R0 =>
              obtain rfl : on = true := hon
              obtain ⟨hxR, hRt⟩ := hx0 _ _ rfl
              obtain ⟨ol, hol⟩ : ∃ o : Ow.Out Ow.Rw, o = .ok R0 r := ⟨_, rfl⟩
              have SC := Lib.hid (show ScO WC b s ol by rw [hol]; exact S6.out.to rfl rfl)
              obtain ⟨xx, hxx⟩ : ∃ y : Ow.Rw, y = x := ⟨_, rfl⟩
              have RC := Lib.hid (show RwAt WC br (xx, .slice A2 n2 cap2) by rw [hxx]; exact RC.out)
              have TC := Lib.hid (show TgOwn WC (w.heap.size + 1) (.slice A2 n2 cap2) xx.tags by rw [hxx, hxR, hRt, hA2, hn2, hcap2]; exact KOwn.nil _ _ _ _ _)
              have hx : ∀ R r, ol = .ok R r → xx = R := fun R r e => (by rw [hol] at e; injection e with e1 e2; rw [hxx, hxR, e1])
              have HLQ := Lib.hid (show Q = (ol.bind fun R r => (Ow.lit [10] r).bind fun _ r' => (Ow.rowsF f s.length r').map (R :: ·)).map (L.map (·.1) ++ ·) by
                rw [HQ1.out, Ow.rows_round (o := ol) (by rw [hLn.out, hol]; rfl)])
              have HSuf := Lib.hid (show ol.rest.length ≤ r0.length by rw [hol]; exact Nat.le_trans hsu hr1)
              clear hLn HQ1 hol hxx hxR hRt hA2 hn2 hcap2 S6 R6 K6 G6 hx0
              go_wp2_with fail
              clear c0 c1 c2 cf cl
              refine (scl_calls ol [10] b s _ SC.out (by decide) (by unfold maxLen; omega)).mono ?_; rintro e w8 ⟨rfl, g8, S8⟩
              have HS8 := Lib.hid S8
              have R8 := Lib.hid (RC.out.grown g8 (by intro e; injection e; omega))
              have T8 := Lib.hid (ko_grown TC.out g8 (by omega))
              have K8 := Lib.hid (KC.out.grown g8 (by omega))
              have G8 := Lib.hid (Below.grown GC.out g8 hszc (fun q e => by injection e with e; omega))
              have hz8 := g8.size
              clear S8 g8 SC RC TC KC GC
              obtain ⟨z0, z1, z2, z3, z4, z5, z6, z7, z8, z9, zf, zl⟩ := R8.out
              dsimp only at z0 z1 z2 z3 z4 z5 z6 z7 z8 z9
              have KX := Lib.hid (rw_knew w8 (xx, .slice A2 n2 cap2))
              have B9 := (Below.refl w8.heap.size w8).alloc (Nat.le_refl _) (.cells #[.int .i64 xx.k, .string (str xx.n), .int .i64 (xx.off : Nat), .slice A2 n2 cap2, .slice none 0 0, .string (str xx.text), .int .i64 (xx.at_ : Nat), .bool xx.td, .string (str xx.tm), .int .i64 (xx.wh : Nat)] 42)
              have S9 := Lib.hid (HS8.out.below B9)
              have T9 := Lib.hid (KOwn.below T8.out B9)
              have K9 := Lib.hid (K8.out.below B9)
              have G9 := Lib.hid (G8.out.trans (B9.mono (by omega)))
              have hz9 := B9.size
              clear B9
              go_wp2_with (at_builtin; refine wpList_append_krow rwTy encRw_len (by rfl) (.tmp 45) (.tmp 47) (by rfl) (w.heap.size + 1) _ L (by rfl) K9.out.own _ [(xx, .slice A2 n2 cap2)] (by rfl) KX.out (fun y hy => by rw [List.mem_singleton.1 hy]; exact encRw_one xx A2 n2 cap2) (by simp; omega) (by omega) ?_; intro v6 w6 o6 g6)
              obtain ⟨A6, n6, cap6, rfl⟩ : ∃ A n cap, v6 = .slice A n cap := (by obtain ⟨A, cap, he, _⟩ := KOwn.row encRw_len o6; exact ⟨A, _, cap, he⟩)
              have hge := own_ge K9.out.own
              have SN := Lib.hid (S9.out.grown g6 (by intro e; have := hge _ e.symm; omega))
              have KN := Lib.hid (show RowsS w6 (w.heap.size + 1) (.slice A6 n6 cap6) (L ++ [(xx, .slice A2 n2 cap2)]) from ⟨o6, fun y hy => by
                rcases List.mem_append.1 hy with hy | hy
                · exact tg_far (K9.out.tgs y hy) K9.out.own g6
                · rw [List.mem_singleton.1 hy]; exact tg_far T9.out K9.out.own g6⟩)
              have GN := Lib.hid (Below.grown G9.out g6 (by omega) (fun q e => by have := hge q e; omega))
              obtain ⟨oN, hoN⟩ : ∃ o, o = ol.bind fun _ r => Ow.lit [10] r := ⟨_, rfl⟩
              have SN2 := Lib.hid (show ScO w6 b s oN by rw [hoN]; exact SN.out)
              have HQN := Lib.hid (show Q = (oN.bind fun _ r => Ow.rowsF f s.length r).map ((L ++ [(xx, Value.slice A2 n2 cap2)]).map (·.1) ++ ·) by
                rw [HLQ.out, hoN]
                cases ho : ol with
                | fell r => rfl
                | ok R r =>
                  obtain rfl := hx _ _ ho
                  show Ow.Out.map ((Ow.lit [10] r).bind _) _ = Ow.Out.map ((Ow.lit [10] r).bind _) _
                  cases Ow.lit [10] r with
                  | fell r => rfl
                  | ok u r =>
                    show Ow.Out.map (Ow.Out.map (Ow.rowsF f s.length r) _) _ = Ow.Out.map (Ow.rowsF f s.length r) _
                    cases Ow.rowsF f s.length r <;> simp [Ow.Out.map])
              have hlen : (Ow.fellB oN = false → oN.rest.length < r0.length) := by
                intro hf
                rw [hoN] at hf ⊢
                cases ho : ol with
                | fell r => rw [ho] at hf; cases hf
                | ok R r =>
                  rw [ho] at hf
                  have hsu := HSuf.out
                  rw [ho] at hsu
                  have hsu : r.length ≤ r0.length := hsu
                  show (Ow.lit [10] r).rest.length < r0.length
                  cases hl : Ow.lit [10] r with
                  | fell r' => have hf : Ow.fellB (Ow.lit [10] r) = false := hf; rw [hl] at hf; cases hf
                  | ok u r' =>
                    have := congrArg List.length (Ow.lit_ok hl)
                    simp only [List.length_append, List.length_cons, List.length_nil] at this
                    show r'.length < r0.length
                    omega
              clear HS8 R8 T8 K8 G8 KX S9 T9 K9 G9 o6 g6 hge SN hoN HLQ HSuf hx z0 z1 z2 z3 z4 z5 z6 z7 z8 z9 zf zl
              go_roundg (if Ow.fellB oN = true then 0 else oN.rest.length + 1)
              case measure =>
                have hgg : _ = r0.length + 1 := HGg.out
                by_cases hf : Ow.fellB oN = true
                · rw [if_pos hf]; omega
                · rw [if_neg hf]; have := hlen (by simpa using hf); omega
              case rel => exact ⟨oN, f, L ++ [(xx, Value.slice A2 n2 cap2)], A6, n6, cap6, rfl, rfl, fun hf => (by have := hlen hf; omega), by simp; omega, fun hf => (by have := hlen hf; simp; omega), SN2, GN, KN, HQN⟩

end Go.Proofs.YthniemoganoapaaDoor
