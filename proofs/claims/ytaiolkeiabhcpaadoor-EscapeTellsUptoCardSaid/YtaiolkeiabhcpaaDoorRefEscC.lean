/- The walks of the reference's Undo and Back (layer 13). -/
import Derived.Test.YtaiolkeiabhcpaaDoorEscD
import Derived.Test.YtaiolkeiabhcpaaDoorRefEscA
import Derived.Test.YtaiolkeiabhcpaaDoorRefEscB
import Derived.Laws.IdiomStrings
set_option maxRecDepth 100000
set_option linter.unusedVariables false
set_option linter.unusedSimpArgs false
namespace Go.Proofs.YtaiolkeiabhcpaaDoor
open Go.RowKit

theorem econv_own {w : World} {B n : Nat} {v : Value} {l : List UInt8} (h : w.ownsRow B 5 1 v n (Lib.byteCells l)) : (convert 35 9 v).run Tryd.prog w = .ok (.string (str l)) w := by
  have hn : n = l.length := by have := h.1; rw [Lib.byteCells_length] at this; omega
  subst hn
  rcases h.2 with ⟨rfl, h0⟩ | ⟨g, cap, cur, rfl, hg, hc, h1, h2, h3, h4⟩
  · obtain rfl := List.eq_nil_of_length_eq_zero h0
    exact run_convert_bytes_nil w 35 5 Tryd.underlying35 Tryd.underlying5 0 0 9 Tryd.underlying9
  · refine run_convert_bytes_back w 35 9 5 ⟨g, 0, none⟩ cap l Tryd.underlying35 Tryd.underlying5 Tryd.underlying9 (fun j hj => ?_)
    exact h.cells (g := g) rfl j _ (by simp [Lib.byteCells, hj])
theorem own_put {w : World} {B n : Nat} {v : Value} {l : List UInt8} {c : UInt8} (h : w.ownsRow B 5 1 v n (Lib.byteCells l ++ [.int .u8 (c.toNat : Int)])) : w.ownsRow B 5 1 v n (Lib.byteCells (l ++ [c])) := by
  have e : Lib.byteCells l ++ [.int .u8 (c.toNat : Int)] = Lib.byteCells (l ++ [c]) := by simp [Lib.byteCells]
  rw [e] at h; exact h
namespace Ch
theorem undo_stay {l : List UInt8} {k : Nat} (h : k < l.length) (hx : isX (l.drop k) = false) : undo (l.drop k) = (undo (l.drop (k + 1))).map (l[k] :: ·) := by
  have e := List.drop_eq_getElem_cons h
  rw [e, isX_cons] at hx
  rw [e]; exact undo_keep _ _ hx
theorem undo_two {l : List UInt8} {k : Nat} (h : k + 1 < l.length) (h1 : l[k] = 95) (h2 : l[k + 1] = 120) : undo (l.drop k) = match byteO (l.drop (k + 2)) with | none => none | some c => (undo (l.drop (k + 4))).map (c :: ·) := by
  have e : l.drop k = 95 :: 120 :: l.drop (k + 2) := by
    rw [List.drop_eq_getElem_cons (by omega), h1, List.drop_eq_getElem_cons h, h2]
  rw [e, undo_x, List.drop_drop]
  rfl
theorem byteO_at {l : List UInt8} {k : Nat} (h : k + 3 < l.length) : byteO (l.drop (k + 2)) = byteO (l[k + 2] :: l[k + 3] :: l.drop (k + 4)) := by
  rw [List.drop_eq_getElem_cons (by omega), List.drop_eq_getElem_cons (by omega)]
end Ch

set_option maxHeartbeats 16000000 in
theorem rundo_calls (l : List UInt8) (w : World) (hl : l.length ≤ 4194304) :
    Calls Tryd.prog 14 #[.string (str l)] w fun e w' => e = .returned (undoV (Ch.undo l)) ∧ Below w.heap.size w w' := by
  have hsz := str_size l
  obtain ⟨i0, hi, hz0, hz1, hz2⟩ := info_parts (P := Tryd.prog) (t := 5) (z := .int .u8 0) (n := 1) (m := 1) (by kernel_rfl)
  have Hi := Lib.hid (And.intro hi (And.intro hz0 (And.intro hz1 hz2)))
  clear hi hz0 hz1 hz2
  go_enter Tryd.func14, Tryd.ntmps14
  go_wp2_with fail
  go_loopw [4, 5] (fun vo v wr => ∃ (k : Nat) (out : List UInt8), k ≤ l.length ∧ out.length ≤ k ∧ v = .int .i64 (k : Nat) ∧ Hid (Ch.undo l = (Ch.undo (l.drop k)).map (out ++ ·) ∧ Below w.heap.size w wr ∧ wr.ownsRow w.heap.size 5 1 vo out.length (Lib.byteCells out))) (fun _ v _ => l.length - (intOf v).toNat)
  case atStart => exact ⟨0, [], by omega, by simp, rfl, by rw [List.drop_zero]; cases Ch.undo l <;> rfl, Below.refl _ _, World.ownsRow_nil w w.heap.size 5 1⟩
  case round =>
    obtain ⟨k, out, hk, ho, rfl, H⟩ := hrel
    by_cases h : k < l.length
    · have hk2 : k < (str l).size := by rw [hsz]; exact h
      have hlt : decide ((k : Int) < (l.length : Int)) = true := decide_eq_true (by omega)
      have hlt' : decide (k < l.length) = true := decide_eq_true h
      have hX := Lib.hid (Ch.isX_at h)
      have hS := Lib.hid (fun e => Ch.undo_stay (l := l) (k := k) h e)
      have hbyte : (str l)[k] = l[k] := rfl
      have hw := H.out.2.1.size
      obtain ⟨n, hn⟩ : ∃ n : Nat, l[k].toNat = n := ⟨_, rfl⟩
      have hbn : (l[k].toNat : Int) = (n : Int) := by rw [hn]
      have HN := Lib.hid hn
      have hn95 : (n = 95) ↔ l[k] = 95 := by
        rw [← hn]; constructor
        · intro e; exact UInt8.toNat_inj.1 e
        · intro e; rw [e]; rfl
      have H95 := Lib.hid hn95
      clear hn hn95
      by_cases a1 : n = 95
      · have e1 : decide ((n : Int) = 95) = true := decide_eq_true (by omega)
        have e1' : decide (n = 95) = true := decide_eq_true a1
        have e1b : ((n : Int) == 95) = true := by simp; omega
        have e1c : (n == 95) = true := by simpa using a1
        have e1d : ((n : Int) != 95) = false := by simp; omega
        have HL := Lib.hid (H95.out.1 a1)
        clear a1
        by_cases a2 : k + 1 < l.length
        · have e2 : decide ((l.length : Int) ≤ (k : Int) + 1) = false := decide_eq_false (by omega)
          have e2' : decide (l.length ≤ k + 1) = false := decide_eq_false (by omega)
          have hk3 : k + 1 < (str l).size := by rw [hsz]; exact a2
          have hbyte2 : (str l)[k + 1] = l[k + 1] := rfl
          obtain ⟨m, hm⟩ : ∃ m : Nat, l[k + 1].toNat = m := ⟨_, rfl⟩
          have hbm : (l[k + 1].toNat : Int) = (m : Int) := by rw [hm]
          have hm120 : (m = 120) ↔ l[k + 1] = 120 := by
            rw [← hm]; constructor
            · intro e; exact UInt8.toNat_inj.1 e
            · intro e; rw [e]; rfl
          have H120 := Lib.hid hm120
          clear hm hm120
          by_cases a3 : m = 120
          · have e3 : decide ((m : Int) = 120) = true := decide_eq_true (by omega)
            have e3' : decide (m = 120) = true := decide_eq_true a3
            have e3b : ((m : Int) == 120) = true := by simp; omega
            have e3c : (m == 120) = true := by simpa using a3
            have e3d : ((m : Int) != 120) = false := by simp; omega
            have HM := Lib.hid (H120.out.1 a3)
            clear a3
            have hU := Lib.hid (Ch.undo_two (l := l) (k := k) a2 HL.out HM.out)
            clear hX hS
            by_cases a4 : k + 3 < l.length
            · have e4 : decide ((l.length : Int) ≤ (k : Int) + 3) = false := decide_eq_false (by omega)
              have e4' : decide (l.length ≤ k + 3) = false := decide_eq_false (by omega)
              have hk5 : k + 2 < (str l).size := by rw [hsz]; omega
              have hk6 : k + 3 < (str l).size := by rw [hsz]; omega
              have hb5 : (str l)[k + 2] = l[k + 2] := rfl
              have hb6 : (str l)[k + 3] = l[k + 3] := rfl
              have hBA := Lib.hid (Ch.byteO_at (l := l) (k := k) a4)
              have c0 := rhex_calls l[k + 2]
              have c1 := rhex_calls l[k + 3]
              cases he : Ch.unhex l[k + 2] with
              | none =>
                rw [Ch.hexI_none he] at c0
                have hB := Lib.hid (show Ch.byteO (l.drop (k + 2)) = none by rw [hBA.out]; exact Ch.byteO_none (Or.inl he))
                clear he hBA
                have HR := Lib.hid (show Ch.undo l = none by rw [H.out.1, hU.out, hB.out]; rfl)
                clear hU hB
                go_wp2_with fail
                refine (c0 _).mono ?_; rintro e w1 ⟨rfl, rfl⟩
                go_wp2_with fail
                go_ret2
                exact ⟨by rw [HR.out]; rfl, H.out.2.1⟩
              | some x =>
                rw [Ch.hexI_some he] at c0
                have hx16 := Ch.unhex_lt _ _ he
                have x1 : decide ((x : Int) < 0) = false := by simp
                cases hf : Ch.unhex l[k + 3] with
                | none =>
                  rw [Ch.hexI_none hf] at c1
                  have hB := Lib.hid (show Ch.byteO (l.drop (k + 2)) = none by rw [hBA.out]; exact Ch.byteO_none (Or.inr hf))
                  clear he hf hBA
                  have HR := Lib.hid (show Ch.undo l = none by rw [H.out.1, hU.out, hB.out]; rfl)
                  clear hU hB
                  go_wp2_with fail
                  refine (c0 _).mono ?_; rintro e w1 ⟨rfl, rfl⟩
                  go_wp2_with fail
                  refine (c1 _).mono ?_; rintro e w1 ⟨rfl, rfl⟩
                  go_wp2_with fail
                  go_ret2
                  exact ⟨by rw [HR.out]; rfl, H.out.2.1⟩
                | some y =>
                  rw [Ch.hexI_some hf] at c1
                  have hy16 := Ch.unhex_lt _ _ hf
                  have y1 : decide ((y : Int) < 0) = false := by simp
                  obtain ⟨c, hcc⟩ : ∃ c, c = UInt8.ofNat (16 * x + y) := ⟨_, rfl⟩
                  have hcn : (c.toNat : Int) = 16 * (x : Int) + (y : Int) := by
                    rw [hcc, UInt8.toNat_ofNat', Nat.mod_eq_of_lt (by show _ < 256; omega)]; omega
                  have HE := Lib.hid (show Ch.undo l = (Ch.undo (l.drop (k + 4))).map ((out ++ [c]) ++ ·) by
                    rw [H.out.1, hU.out, hBA.out, Ch.byteO_some he hf, ← hcc, map_put])
                  have HC := Lib.hid hcn
                  clear hcc hcn he hf hBA hU
                  go_wp2_with fail
                  refine (c0 _).mono ?_; rintro e w1 ⟨rfl, rfl⟩
                  go_wp2_with fail
                  refine (c1 _).mono ?_; rintro e w1 ⟨rfl, rfl⟩
                  go_wp2_with fail
                  have q1 : IntKind.i64.wrap ((k : Int) + 2) = (k : Int) + 2 := IntWalk.i64_in _ (by omega)
                  have q2 : IntKind.i64.wrap ((k : Int) + 3) = (k : Int) + 3 := IntWalk.i64_in _ (by omega)
                  have q3 : (0 : Int) ≤ (k : Int) + 2 := by omega
                  have q4 : (k : Int) + 2 < (l.length : Int) := by omega
                  have q5 : (0 : Int) ≤ (k : Int) + 3 := by omega
                  have q6 : (k : Int) + 3 < (l.length : Int) := by omega
                  have q7 : ((k : Int) + 2).toNat = k + 2 := by omega
                  have q8 : ((k : Int) + 3).toNat = k + 3 := by omega
                  have q9 : IntKind.i64.wrap (16 * (x : Int)) = 16 * (x : Int) := IntWalk.i64_in _ (by omega)
                  have q10 : IntKind.i64.wrap (16 * (x : Int) + (y : Int)) = 16 * (x : Int) + (y : Int) := IntWalk.i64_in _ (by omega)
                  have q11 : IntKind.u8.wrap (16 * (x : Int) + (y : Int)) = 16 * (x : Int) + (y : Int) := by
                    show (16 * (x : Int) + (y : Int)) % _ = _
                    exact Int.emod_eq_of_lt (by omega) (by show _ < (256 : Int); omega)
                  refine wp_region_noPanic ?_
                  refine wp_region_held_drew (S := fun X => Below w.heap.size wr X) (by kernel_rfl) ?_ (fun hHeld => ?_)
                  · exact Below.drew (Below.refl _ _)
                  have kB : Below w.heap.size wr wr.drew := Below.drew (Below.refl _ _)
                  clear hHeld
                  refine tk9 0 kB ?_
                  refine tk9 1 kB ?_
                  refine tk9 2 kB ?_
                  refine tk9 3 kB ?_
                  refine tk9 4 kB ?_
                  refine tk9 7 kB ?_
                  refine tk9 8 kB ?_
                  refine tk9 9 kB ?_
                  refine tk9 10 kB ?_
                  refine wpAnyH_ready (rs := [5]) (by kernel_rfl) (by simp) ?_
                  refine AllReadyH.cons (by simp only [List.getElem?_toArray, List.getElem?_cons_succ, List.getElem?_cons_zero]; rfl) (fun K hK => ?_) AllReadyH.nil
                  try go_simp
                  refine (c0 _).mono ?_
                  rintro e w1 ⟨rfl, rfl⟩
                  refine hK.out _ _ kB (fun hHeld => ?_)
                  clear hK K hHeld
                  (try simp only [Act.put, List.setIfInBounds_toArray, List.set_cons_zero, List.set_cons_succ])
                  refine tk9 6 kB ?_
                  refine wpAnyH_ready (rs := [11]) (by kernel_rfl) (by simp) ?_
                  refine AllReadyH.cons (by simp only [List.getElem?_toArray, List.getElem?_cons_succ, List.getElem?_cons_zero]; rfl) (fun K hK => ?_) AllReadyH.nil
                  try go_simp
                  refine (c1 _).mono ?_
                  rintro e w1 ⟨rfl, rfl⟩
                  refine hK.out _ _ kB (fun hHeld => ?_)
                  clear hK K hHeld
                  (try simp only [Act.put, List.setIfInBounds_toArray, List.set_cons_zero, List.set_cons_succ])
                  refine tk9 12 kB ?_
                  refine tk9 13 kB ?_
                  refine wpAnyH_ready (rs := [14]) (by kernel_rfl) (by simp) ?_
                  refine AllReadyH.cons (by simp only [List.getElem?_toArray, List.getElem?_cons_succ, List.getElem?_cons_zero]; rfl) (fun K hK => ?_) AllReadyH.nil
                  go_simp
                  replace kB : Below w.heap.size wr ((wr.alloc (.cells #[.int .u8 (16 * (x : Int) + (y : Int))] 5)).drew) := Below.drew (kb_alloc (Below.refl _ _) hw _)
                  refine hK.out _ _ kB (fun hHeld => ?_)
                  clear hK K hHeld
                  (try simp only [Act.put, List.setIfInBounds_toArray, List.set_cons_zero, List.set_cons_succ])
                  refine wpAnyH_ready (rs := [15]) (by kernel_rfl) (by simp) ?_
                  refine AllReadyH.cons (by simp only [List.getElem?_toArray, List.getElem?_cons_succ, List.getElem?_cons_zero]; rfl) (fun K hK => ?_) AllReadyH.nil
                  refine step_append_lies _ (by rfl) _ _ _ (by rfl) w.heap.size 5 i0 _ 1 1 Tryd.underlying35 Hi.out.1 Hi.out.2.1 Hi.out.2.2.1 Hi.out.2.2.2 rfl (by omega) _ out.length _ (by rfl) (own_drew (own_alloc H.out.2.2 _)) _ 1 1 [.int .u8 (16 * (x : Int) + (y : Int))] (by rfl) rfl (World.news_of_block (heap_new wr _)) (by intro u hu; simp at hu; subst hu; rfl) (by omega) (by unfold maxLen; omega) (by omega) (by simp; omega) _ rfl ?_
                  intro g cap w3 hown hgrow hat hlt3
                  replace kB := Below.grown kB hgrow (by simp; omega) (own_ge H.out.2.2)
                  refine hK.out _ _ kB (fun hHeld => ?_)
                  clear hK K hHeld
                  (try simp only [Act.put, List.setIfInBounds_toArray, List.set_cons_zero, List.set_cons_succ])
                  refine tk9 16 kB ?_
                  refine wpAnyH_done (by kernel_rfl) ?_ _
                  refine NoPanic.normal ?_
                  go_wp2_with fail
                  go_roundw
                  case rel => exact ⟨k + 4, out ++ [c], by omega, by simp; omega, by go_num, HE.out, (H.out.2.1).trans kB, by
                    have e : (out ++ [c]).length = out.length + 1 := by simp
                    rw [e]; refine own_put ?_; rw [HC.out]; exact hown⟩
                  case measure => simp [intOf]; omega
            · have e4 : decide ((l.length : Int) ≤ (k : Int) + 3) = true := decide_eq_true (by omega)
              have e4' : decide (l.length ≤ k + 3) = true := decide_eq_true (by omega)
              have hB := Lib.hid (show Ch.byteO (l.drop (k + 2)) = none from Ch.byteO_short (by rw [List.length_drop]; omega))
              have HR := Lib.hid (show Ch.undo l = none by rw [H.out.1, hU.out, hB.out]; rfl)
              clear hU hB
              go_wp2_with fail
              go_ret2
              exact ⟨by rw [HR.out]; rfl, H.out.2.1⟩
          · have e3 : decide ((m : Int) = 120) = false := decide_eq_false (by omega)
            have e3' : decide (m = 120) = false := decide_eq_false a3
            have e3b : ((m : Int) == 120) = false := beq_eq_false_iff_ne.2 (by omega)
            have e3c : (m == 120) = false := by simpa using a3
            have e3d : ((m : Int) != 120) = true := by simp; omega
            have HM := Lib.hid (fun e => a3 (H120.out.2 e))
            clear a3
            have hx := Lib.hid (show Ch.isX (l.drop k) = false by rw [hX.out, List.getElem?_eq_getElem a2, decide_eq_false (p := some l[k + 1] = some 120) (fun e => HM.out (Option.some.inj e)), Bool.and_false])
            have HE := Lib.hid (show Ch.undo l = (Ch.undo (l.drop (k + 1))).map ((out ++ [l[k]]) ++ ·) by rw [H.out.1, hS.out hx.out, map_put])
            clear hS hX hx
            go_wp2_with (first
              | (at_builtin
                 refine wpList_append_lies _ rfl _ _ _ (by rfl) w.heap.size 5 i0 _ 1 1 Tryd.underlying35 Hi.out.1 Hi.out.2.1 Hi.out.2.2.1 Hi.out.2.2.2 rfl (by omega) _ out.length _ (by rfl) (own_alloc H.out.2.2 _) _ 1 1 [.int .u8 (n : Int)] (by rfl) rfl (World.news_of_block (heap_new _ _)) (by intro u hu; simp at hu; subst hu; rfl) (by omega) (by unfold maxLen; omega) (by omega) (by simp; omega) _ rfl ?_
                 intro g cap w3 hown hgrow hat hlt3)
              | fail)
            go_roundw
            case rel => exact ⟨k + 1, out ++ [l[k]], h, by simp; omega, by go_num, HE.out, Below.grown (kb_alloc H.out.2.1 (Nat.le_refl _) _) hgrow (by simp; omega) (own_ge H.out.2.2), by
              have e : (out ++ [l[k]]).length = out.length + 1 := by simp
              rw [e]; refine own_put ?_; rw [HN.out]; exact hown⟩
            case measure => simp [intOf]; omega
        · have e2 : decide ((l.length : Int) ≤ (k : Int) + 1) = true := decide_eq_true (by omega)
          have e2' : decide (l.length ≤ k + 1) = true := decide_eq_true (by omega)
          have hx := Lib.hid (show Ch.isX (l.drop k) = false by rw [hX.out, List.getElem?_eq_none (by omega)]; simp)
          have HE := Lib.hid (show Ch.undo l = (Ch.undo (l.drop (k + 1))).map ((out ++ [l[k]]) ++ ·) by rw [H.out.1, hS.out hx.out, map_put])
          clear hS hX hx
          go_wp2_with (first
            | (at_builtin
               refine wpList_append_lies _ rfl _ _ _ (by rfl) w.heap.size 5 i0 _ 1 1 Tryd.underlying35 Hi.out.1 Hi.out.2.1 Hi.out.2.2.1 Hi.out.2.2.2 rfl (by omega) _ out.length _ (by rfl) (own_alloc H.out.2.2 _) _ 1 1 [.int .u8 (n : Int)] (by rfl) rfl (World.news_of_block (heap_new _ _)) (by intro u hu; simp at hu; subst hu; rfl) (by omega) (by unfold maxLen; omega) (by omega) (by simp; omega) _ rfl ?_
               intro g cap w3 hown hgrow hat hlt3)
            | fail)
          go_roundw
          case rel => exact ⟨k + 1, out ++ [l[k]], h, by simp; omega, by go_num, HE.out, Below.grown (kb_alloc H.out.2.1 (Nat.le_refl _) _) hgrow (by simp; omega) (own_ge H.out.2.2), by
            have e : (out ++ [l[k]]).length = out.length + 1 := by simp
            rw [e]; refine own_put ?_; rw [HN.out]; exact hown⟩
          case measure => simp [intOf]; omega
      · have e1 : decide ((n : Int) = 95) = false := decide_eq_false (by omega)
        have e1' : decide (n = 95) = false := decide_eq_false a1
        have e1b : ((n : Int) == 95) = false := beq_eq_false_iff_ne.2 (by omega)
        have e1c : (n == 95) = false := by simpa using a1
        have e1d : ((n : Int) != 95) = true := by simp; omega
        have hx := Lib.hid (show Ch.isX (l.drop k) = false by rw [hX.out, decide_eq_false (fun e => a1 (H95.out.2 e)), Bool.false_and])
        have HE := Lib.hid (show Ch.undo l = (Ch.undo (l.drop (k + 1))).map ((out ++ [l[k]]) ++ ·) by rw [H.out.1, hS.out hx.out, map_put])
        clear hS hX hx
        go_wp2_with (first
          | (at_builtin
             refine wpList_append_lies _ rfl _ _ _ (by rfl) w.heap.size 5 i0 _ 1 1 Tryd.underlying35 Hi.out.1 Hi.out.2.1 Hi.out.2.2.1 Hi.out.2.2.2 rfl (by omega) _ out.length _ (by rfl) (own_alloc H.out.2.2 _) _ 1 1 [.int .u8 (n : Int)] (by rfl) rfl (World.news_of_block (heap_new _ _)) (by intro u hu; simp at hu; subst hu; rfl) (by omega) (by unfold maxLen; omega) (by omega) (by simp; omega) _ rfl ?_
             intro g cap w3 hown hgrow hat hlt3)
          | fail)
        go_roundw
        case rel => exact ⟨k + 1, out ++ [l[k]], h, by simp; omega, by go_num, HE.out, Below.grown (kb_alloc H.out.2.1 (Nat.le_refl _) _) hgrow (by simp; omega) (own_ge H.out.2.2), by
          have e : (out ++ [l[k]]).length = out.length + 1 := by simp
          rw [e]; refine own_put ?_; rw [HN.out]; exact hown⟩
        case measure => simp [intOf]; omega
    · have hlt : decide ((k : Int) < (l.length : Int)) = false := decide_eq_false (by omega)
      have hlt' : decide (k < l.length) = false := decide_eq_false h
      have he : k = l.length := by omega
      have HE := Lib.hid (show Ch.undo l = some out by rw [H.out.1, he, List.drop_length]; simp [Ch.undo])
      have hconv := econv_own H.out.2.2
      clear he
      go_wp2
      go_ret2
      exact ⟨by rw [HE.out]; rfl, H.out.2.1⟩

set_option maxHeartbeats 2000000 in
theorem rback_calls (p s : Int) (l : List UInt8) (w : World) (hl : l.length ≤ 4194304) :
    Calls Tryd.prog 11 #[.int .i64 p, .int .i64 s, .string (str l)] w fun e w' => e = .returned (.string (str (Ch.back p s l))) ∧ Below w.heap.size w w' := by
  have hu := rundo_calls l w hl
  cases ht : Ch.undo l with
  | none =>
    rw [ht, show undoV none = .tuple #[.string ⟨#[]⟩, .bool false] from rfl] at hu
    have HR := Lib.hid (Ch.back_none (p := p) (w := s) ht)
    go_enter Tryd.func11, Tryd.ntmps11
    go_wp2_with fail
    refine hu.mono ?_; rintro e w1 ⟨rfl, b1⟩
    go_wp2
    go_ret
    exact ⟨by rw [HR.out]; rfl, b1⟩
  | some t =>
    rw [ht, show undoV (some t) = .tuple #[.string (str t), .bool true] from rfl] at hu
    have htl := Ch.undo_len _ l t (Nat.le_refl _) ht
    have he := fun W => rescape_calls p s t W (by omega)
    by_cases hq : Ch.esc p s t = l
    · have HR := Lib.hid (Ch.back_yes ht hq)
      rw [hq] at he
      clear ht hq
      go_enter Tryd.func11, Tryd.ntmps11
      go_wp2_with fail
      refine hu.mono ?_; rintro e w1 ⟨rfl, b1⟩
      have B1 := Lib.hid b1
      clear b1
      go_wp2_with fail
      refine (he _).mono ?_; rintro e w2 ⟨rfl, b2⟩
      have B2 := Lib.hid (trans9 B1.out b2)
      clear b2
      go_wp2
      go_ret
      exact ⟨by rw [HR.out]; rfl, B2.out⟩
    · have HR := Lib.hid (Ch.back_no ht hq)
      have q1 : (Ch.esc p s t == l) = false := beq_eq_false_iff_ne.2 hq
      generalize Ch.esc p s t = x at *
      clear ht
      go_enter Tryd.func11, Tryd.ntmps11
      go_wp2_with fail
      refine hu.mono ?_; rintro e w1 ⟨rfl, b1⟩
      have B1 := Lib.hid b1
      clear b1
      go_wp2_with fail
      refine (he _).mono ?_; rintro e w2 ⟨rfl, b2⟩
      have B2 := Lib.hid (trans9 B1.out b2)
      clear b2
      go_wp2
      go_ret
      exact ⟨by rw [HR.out]; rfl, B2.out⟩

end Go.Proofs.YtaiolkeiabhcpaaDoor
