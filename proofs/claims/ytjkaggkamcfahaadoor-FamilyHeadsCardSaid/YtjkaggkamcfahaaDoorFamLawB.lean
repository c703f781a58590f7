/- The walk of the law FamilyHeads. -/
import Derived.Test.YtjkaggkamcfahaaDoorFamK
import Derived.Laws.BytesArg
import Derived.Laws.OwnMore
import Derived.Deep.CutBlock
import Derived.Deep.DeepCutAuto
set_option maxRecDepth 100000
set_option linter.unusedVariables false
set_option linter.unusedSimpArgs false
namespace Go.Proofs.YtjkaggkamcfahaaDoor
open Go.RowKit Dc
attribute [local go_sem ↓] Go.wp_at_zero Go.wp_at_succ

theorem tmod_f (c : Int) (n : Nat) (h : 0 ≤ c) (hn : 0 < n) : ∃ k : Nat, k < n ∧ c.tmod (n : Int) = (k : Int) ∧ c % (n : Int) = (k : Int) := by
  have h1 : c.tmod (n : Int) = c % (n : Int) := Int.tmod_eq_emod_of_nonneg h
  have h2 := Int.emod_nonneg c (show (n : Int) ≠ 0 by omega)
  have h3 := Int.emod_lt_of_pos c (show 0 < (n : Int) by omega)
  exact ⟨(c % (n : Int)).toNat, by omega, by omega, by omega⟩
/-- n noughts -/
def nulL (n : Nat) : List UInt8 := List.replicate n 0
theorem nul_str (n : Nat) : strOfNums (List.replicate n 0) = str (nulL n) := by
  unfold strOfNums nulL
  rw [List.map_replicate]
  rfl
theorem nul_text {w : World} {b n : Nat} (h : ∀ j, j < n → w.cell? ⟨b, j, none⟩ = some (.int .u8 0)) : (convert 50 9 (.slice (some ⟨b, 0, none⟩) n n)).run Tryd.prog w = .ok (.string (str (nulL n))) w := by
  rw [← nul_str]
  exact run_convert_bytes_arg w 50 5 Tryd.underlying50 Tryd.underlying5 b 0 n n (List.replicate n 0) (by simp) (fun i hi => by
    rw [Nat.zero_add, h i hi]; simp [hi]) 9 Tryd.underlying9
theorem nul_made (w : World) (n : Nat) (t : TypeId) : ∀ j, j < n → (w.alloc (.cells (madeCells #[.int .u8 0] n) t)).cell? ⟨w.heap.size, j, none⟩ = some (.int .u8 0) := fun j hj => by
  have hb : (w.alloc (.cells (madeCells #[.int .u8 0] n) t)).heap[w.heap.size]? = some (.cells (madeCells #[.int .u8 0] n) t (0, 0)) := heap_alloc_new w _
  rw [Lib.cell_of_heap hb]
  rw [← Array.getElem?_toList, toList_madeCells_one]
  simp [hj]
theorem nul_make (n : Nat) (hn : n ≤ 20000) (w : World) : (Instr.makeSlice 50 (.int .i64 (n : Int)) (.int .i64 (n : Int))).run Tryd.prog w = .ok (.slice (some ⟨w.heap.size, 0, none⟩) n n) (w.alloc (.cells (madeCells #[.int .u8 0] n) 5)) := by
  obtain ⟨i, hi, hz, h1, h2⟩ := info_parts (P := Tryd.prog) (t := 5) (z := .int .u8 0) (n := 1) (m := 1) (by kernel_rfl)
  have h := run_make (P := Tryd.prog) w 50 5 i (.int .u8 0) Tryd.underlying50 hi hz .i64 .i64 n n (by omega) (by omega) (by rw [h2]; omega) (by omega)
  rw [h, h1]
  simp [Value.cells]
/-- one byte as a text -/
def byL (n : Int) : List UInt8 := [UInt8.ofNat n.toNat]
theorem by_text (w : World) (n : Int) :
    (convert 50 9 (.slice (some ⟨w.heap.size, 0, none⟩) 1 1)).run Tryd.prog (w.alloc (.cells #[.int .u8 n] 5)) = .ok (.string (str (byL n))) (w.alloc (.cells #[.int .u8 n] 5)) := by
  have e : strOfNums [n] = str (byL n) := rfl
  rw [← e]
  refine run_convert_bytes_arg _ 50 5 Tryd.underlying50 Tryd.underlying5 _ 0 1 1 _ (by simp) (fun i hi => ?_) 9 Tryd.underlying9
  obtain rfl : i = 0 := by omega
  simp
/-- a family without points -/
theorem fam_none (h : Hd) : famOk h [] = (nameOk h.n && kindOk h.k && valueOk h.u && valueOk h.h) := by
  unfold famOk
  simp [StrictP]
theorem ok_a : nameOk [97] = true := by decide
theorem ok_b : valueOk [98] = true := by decide
theorem ok_c : valueOk [99] = true := by decide
theorem kind_in {j : Nat} (h : j < 5) : kindOk (j : Int) = true := decide_eq_true ⟨by omega, by omega⟩
theorem kind_out {k : Int} (h : ¬ (0 ≤ k ∧ k < 5)) : kindOk k = false := decide_eq_false h
theorem nul_good : valueOk (nulL 60) = true := by decide +kernel
theorem nul_long : valueOk (nulL 61) = false := by unfold valueOk nulL; simp
theorem bad_e2 : valueOk [226, 130] = false := by decide
theorem by_all : ∀ n : Fin 256, nameOk ([97] ++ byL (n.val : Int)) = decide (32 ≤ n.val ∧ n.val < 127) := by decide +kernel
theorem by_name {n : Int} (h0 : 0 ≤ n) (h1 : n ≤ 255) : nameOk ([97] ++ byL n) = decide (32 ≤ n ∧ n < 127) := by
  have := by_all ⟨n.toNat, by omega⟩
  simp only at this
  rw [show ((n.toNat : Nat) : Int) = n by omega] at this
  rw [this, decide_eq_decide]
  omega

set_option maxHeartbeats 16000000 in
theorem heads_walk (kind how n : Int) (w : World) (k0 : 0 ≤ kind) (k1 : kind ≤ 255) (h0 : 0 ≤ how) (h1 : how ≤ 255) (n0 : 0 ≤ n) (n1 : n ≤ 255) (hT : FamT w) :
    Calls Tryd.prog 6 #[.int .u8 kind, .int .u8 how, .int .u8 n] w fun e w' => e = .returned (.bool true) ∧ Below w.heap.size w w' := by
  have hk := Lib.hid (fknown_calls w hT)
  have HG := Lib.hid (fun (h : Hd) (hh : HdIn h) W (hW : Below w.heap.size w W) => fgood_calls h [] (.slice none 0 0) W (PtRow.nil W) (by simp) hh (hT.below hW).sp)
  obtain ⟨j, hj5, tj1, tj2⟩ := tmod_f kind 5 k0 (by omega)
  obtain ⟨i, hi7, ti1, ti2⟩ := tmod_f how 7 h0 (by omega)
  simp only [show ((5 : Nat) : Int) = 5 from rfl, show ((7 : Nat) : Int) = 7 from rfl] at tj1 tj2 ti1 ti2
  have wj1 : IntKind.u8.wrap (j : Int) = (j : Int) := by simp [IntKind.wrap, IntKind.bits, IntKind.signed]; omega
  have wj2 : IntKind.i64.wrap (j : Int) = (j : Int) := IntWalk.i64_in _ (by omega)
  have wi1 : IntKind.u8.wrap (i : Int) = (i : Int) := by simp [IntKind.wrap, IntKind.bits, IntKind.signed]; omega
  have hmk := nul_make 61 (by omega)
  simp only [show ((61 : Nat) : Int) = 61 from rfl] at hmk
  clear hT k0 k1 h0 h1
  go_enter Tryd.func6, Tryd.ntmps6
  go_wp2_with fail
  refine hk.out.mono ?_; rintro e w1 ⟨rfl, b1⟩
  have bA := kp_alloc (Below.refl w1.heap.size w1) (.cells #[.string ⟨#[97]⟩, .int .i64 j, .string ⟨#[98]⟩, .string ⟨#[99]⟩, .slice none 0 0] 26)
  have F1 := Lib.hid (FamAt.new w1 ⟨[97], j, [98], [99]⟩ (.slice none 0 0) 26)
  have B1 := Lib.hid (trans9 b1 bA)
  have hz1 := b1.size
  have hg1 := Lib.hid (HG.out ⟨[97], j, [98], [99]⟩ ⟨by show ([97] : List UInt8).length ≤ maxLen; decide, by show ([98] : List UInt8).length ≤ maxLen; decide, by show ([99] : List UInt8).length ≤ maxLen; decide, by show _ ≤ (j : Int); omega, by show (j : Int) ≤ _; omega⟩ _ B1.out)
  rw [show famOk ⟨[97], j, [98], [99]⟩ (pts []) = true from (fam_none _).trans (by rw [ok_a, ok_b, ok_c, kind_in hj5]; rfl)] at hg1
  clear b1 bA hk
  go_wp2_with fail
  refine hg1.out.mono ?_; rintro e w2 ⟨rfl, b2⟩
  have hz2 := b2.size
  simp only [World.size_alloc] at hz2
  have F2 := Lib.hid (F1.out.below b2)
  have bZ := kp_alloc b2 (.cells (madeCells #[.int .u8 0] 61) 5)
  have F3 := Lib.hid (F1.out.below bZ)
  have B3 := Lib.hid (trans9 B1.out bZ)
  have hcv := nul_text (nul_made w2 61 5)
  clear b2 bZ hg1 F1
  go_upto_region 7 with fail
  generalize w2.alloc (.cells (madeCells #[.int .u8 0] 61) 5) = W3 at *
  obtain ⟨x0, x1, x2, x3, x4, xf, xl⟩ := F3.out
  dsimp only at x0 x1 x2 x3
  have hbs : w.heap.size ≤ w1.heap.size := hz1
  clear F2 hz1 hz2
  rcases (by omega : i = 0 ∨ i = 1 ∨ i = 2 ∨ i = 3 ∨ i = 4 ∨ i = 5 ∨ i = 6) with rfl | rfl | rfl | rfl | rfl | rfl | rfl
  · rw [show ((0 : Nat) : Int) = 0 from rfl] at ti1 ti2 wi1
    have hg2 := Lib.hid (HG.out ⟨[], j, [98], [99]⟩ ⟨by show ([] : List UInt8).length ≤ maxLen; decide, by show ([98] : List UInt8).length ≤ maxLen; decide, by show ([99] : List UInt8).length ≤ maxLen; decide, by show _ ≤ (j : Int); omega, by show (j : Int) ≤ _; omega⟩ (W3.setCell ⟨w1.heap.size, 0, none⟩ (.string ⟨#[]⟩)) (B3.out.setCell (by show w.heap.size ≤ w1.heap.size; omega) _))
    rw [show famOk ⟨[], j, [98], [99]⟩ (pts []) = false from (fam_none _).trans (by show (nameOk [] && _ && _ && _) = false; rfl)] at hg2
    have KB := Lib.hid (B3.out.setCell (by show w.heap.size ≤ w1.heap.size; omega) _ : Below w.heap.size w (W3.setCell ⟨w1.heap.size, 0, none⟩ (.string ⟨#[]⟩)))
    go_wp2_with fail
    refine hg2.out.mono ?_; rintro e w4 ⟨rfl, b4⟩
    go_wp2
    go_ret
    exact ⟨by rfl, trans9 KB.out b4⟩
  · rw [show ((1 : Nat) : Int) = 1 from rfl] at ti1 ti2 wi1
    have hby := by_text W3 n
    have hadd := fun W => add_str [97] (byL n) (by unfold byL; simp) W
    have hbn := by_name n0 n1
    have KB := Lib.hid (kb_alloc (B3.out.setCell (p := ⟨w1.heap.size, 0, none⟩) hbs (.string (str (97 :: byL n)))) (Nat.le_refl _) (.cells #[.int .u8 n] 5))
    have hg2 := Lib.hid (HG.out ⟨97 :: byL n, j, [98], [99]⟩ ⟨by show (97 :: byL n).length ≤ maxLen; unfold byL maxLen; simp, by show ([98] : List UInt8).length ≤ maxLen; decide, by show ([99] : List UInt8).length ≤ maxLen; decide, by show _ ≤ (j : Int); omega, by show (j : Int) ≤ _; omega⟩ ((W3.setCell ⟨w1.heap.size, 0, none⟩ (.string (str (97 :: byL n)))).alloc (.cells #[.int .u8 n] 5)) KB.out)
    rw [show famOk ⟨97 :: byL n, j, [98], [99]⟩ (pts []) = decide (32 ≤ n ∧ n < 127) from (fam_none _).trans (by rw [show nameOk (Hd.mk (97 :: byL n) (j : Int) [98] [99]).n = _ from hbn, ok_b, ok_c, kind_in hj5]; simp)] at hg2
    have xl2 : w1.heap.size < W3.heap.size + 1 := by omega
    clear hbn
    generalize byL n = BN at *
    by_cases h32 : 32 ≤ n
    · have d32 : decide (32 ≤ n) = true := decide_eq_true h32
      by_cases h127 : n < 127
      · have d127 : decide (n < 127) = true := decide_eq_true h127
        rw [decide_eq_true ⟨h32, h127⟩] at hg2
        go_wp2_with fail
        refine hg2.out.mono ?_; rintro e w4 ⟨rfl, b4⟩
        go_wp2
        go_ret
        exact ⟨rfl, trans9 KB.out b4⟩
      · have d127 : decide (n < 127) = false := decide_eq_false h127
        rw [decide_eq_false (fun h => h127 h.2)] at hg2
        go_wp2_with fail
        refine hg2.out.mono ?_; rintro e w4 ⟨rfl, b4⟩
        go_wp2
        go_ret
        exact ⟨rfl, trans9 KB.out b4⟩
    · have d32 : decide (32 ≤ n) = false := decide_eq_false h32
      rw [decide_eq_false (fun h => h32 h.1)] at hg2
      go_wp2_with fail
      refine hg2.out.mono ?_; rintro e w4 ⟨rfl, b4⟩
      go_wp2
      go_ret
      exact ⟨rfl, trans9 KB.out b4⟩
  · rw [show ((2 : Nat) : Int) = 2 from rfl] at ti1 ti2 wi1
    have wn1 : IntKind.i64.wrap n = n := IntWalk.i64_in _ (by omega)
    have wn2 : IntKind.i64.wrap (5 + n) = 5 + n := IntWalk.i64_in _ (by omega)
    have hg2 := Lib.hid (HG.out ⟨[97], 5 + n, [98], [99]⟩ ⟨by show ([97] : List UInt8).length ≤ maxLen; decide, by show ([98] : List UInt8).length ≤ maxLen; decide, by show ([99] : List UInt8).length ≤ maxLen; decide, by show _ ≤ (5 + n : Int); omega, by show (5 + n : Int) ≤ _; omega⟩ (W3.setCell ⟨w1.heap.size, 1, none⟩ (.int .i64 (5 + n))) (B3.out.setCell (by show w.heap.size ≤ w1.heap.size; omega) _))
    rw [show famOk ⟨[97], 5 + n, [98], [99]⟩ (pts []) = false from (fam_none _).trans (by rw [show kindOk (Hd.mk [97] (5 + n) [98] [99]).k = false from kind_out (k := 5 + n) (by omega)]; simp)] at hg2
    have KB := Lib.hid (B3.out.setCell (by show w.heap.size ≤ w1.heap.size; omega) _ : Below w.heap.size w (W3.setCell ⟨w1.heap.size, 1, none⟩ (.int .i64 (5 + n))))
    go_wp2_with fail
    refine hg2.out.mono ?_; rintro e w4 ⟨rfl, b4⟩
    go_wp2
    go_ret
    exact ⟨by rfl, trans9 KB.out b4⟩
  · rw [show ((3 : Nat) : Int) = 3 from rfl] at ti1 ti2 wi1
    have hg2 := Lib.hid (HG.out ⟨[97], j, nulL 61, [99]⟩ ⟨by show ([97] : List UInt8).length ≤ maxLen; decide, by show (nulL 61).length ≤ maxLen; unfold nulL maxLen; simp, by show ([99] : List UInt8).length ≤ maxLen; decide, by show _ ≤ (j : Int); omega, by show (j : Int) ≤ _; omega⟩ (W3.setCell ⟨w1.heap.size, 2, none⟩ (.string (str (nulL 61)))) (B3.out.setCell (by show w.heap.size ≤ w1.heap.size; omega) _))
    rw [show famOk ⟨[97], j, nulL 61, [99]⟩ (pts []) = false from (fam_none _).trans (by rw [show valueOk (Hd.mk [97] (j : Int) (nulL 61) [99]).u = false from nul_long]; simp)] at hg2
    have KB := Lib.hid (B3.out.setCell (by show w.heap.size ≤ w1.heap.size; omega) _ : Below w.heap.size w (W3.setCell ⟨w1.heap.size, 2, none⟩ (.string (str (nulL 61)))))
    go_wp2_with fail
    refine hg2.out.mono ?_; rintro e w4 ⟨rfl, b4⟩
    go_wp2
    go_ret
    exact ⟨by rfl, trans9 KB.out b4⟩
  · rw [show ((4 : Nat) : Int) = 4 from rfl] at ti1 ti2 wi1
    have hct := fun W => cut_to (nulL 61) 60 60 rfl (by unfold nulL; simp) W
    rw [show (nulL 61).take 60 = nulL 60 by unfold nulL; rw [List.take_replicate]; rfl] at hct
    have hg2 := Lib.hid (HG.out ⟨[97], j, [98], nulL 60⟩ ⟨by show ([97] : List UInt8).length ≤ maxLen; decide, by show ([98] : List UInt8).length ≤ maxLen; decide, by show (nulL 60).length ≤ maxLen; unfold nulL maxLen; simp, by show _ ≤ (j : Int); omega, by show (j : Int) ≤ _; omega⟩ (W3.setCell ⟨w1.heap.size, 3, none⟩ (.string (str (nulL 60)))) (B3.out.setCell (by show w.heap.size ≤ w1.heap.size; omega) _))
    rw [show famOk ⟨[97], j, [98], nulL 60⟩ (pts []) = true from (fam_none _).trans (by rw [show valueOk (Hd.mk [97] (j : Int) [98] (nulL 60)).h = true from nul_good, ok_a, ok_b, kind_in hj5]; rfl)] at hg2
    have KB := Lib.hid (B3.out.setCell (by show w.heap.size ≤ w1.heap.size; omega) _ : Below w.heap.size w (W3.setCell ⟨w1.heap.size, 3, none⟩ (.string (str (nulL 60)))))
    go_wp2_with fail
    refine hg2.out.mono ?_; rintro e w4 ⟨rfl, b4⟩
    go_wp2
    go_ret
    exact ⟨by rfl, trans9 KB.out b4⟩
  · rw [show ((5 : Nat) : Int) = 5 from rfl] at ti1 ti2 wi1
    have hg2 := Lib.hid (HG.out ⟨[97], j, [98], [226, 130]⟩ ⟨by show ([97] : List UInt8).length ≤ maxLen; decide, by show ([98] : List UInt8).length ≤ maxLen; decide, by show ([226, 130] : List UInt8).length ≤ maxLen; decide, by show _ ≤ (j : Int); omega, by show (j : Int) ≤ _; omega⟩ (W3.setCell ⟨w1.heap.size, 3, none⟩ (.string ⟨#[226, 130]⟩)) (B3.out.setCell (by show w.heap.size ≤ w1.heap.size; omega) _))
    rw [show famOk ⟨[97], j, [98], [226, 130]⟩ (pts []) = false from (fam_none _).trans (by rw [show valueOk (Hd.mk [97] (j : Int) [98] [226, 130]).h = false from bad_e2]; simp)] at hg2
    have KB := Lib.hid (B3.out.setCell (by show w.heap.size ≤ w1.heap.size; omega) _ : Below w.heap.size w (W3.setCell ⟨w1.heap.size, 3, none⟩ (.string ⟨#[226, 130]⟩)))
    go_wp2_with fail
    refine hg2.out.mono ?_; rintro e w4 ⟨rfl, b4⟩
    go_wp2
    go_ret
    exact ⟨by rfl, trans9 KB.out b4⟩
  · rw [show ((6 : Nat) : Int) = 6 from rfl] at ti1 ti2 wi1
    have wn1 : IntKind.i64.wrap n = n := IntWalk.i64_in _ (by omega)
    have wn2 : IntKind.i64.wrap (-1 - n) = -1 - n := IntWalk.i64_in _ (by omega)
    have hg2 := Lib.hid (HG.out ⟨[97], -1 - n, [98], [99]⟩ ⟨by show ([97] : List UInt8).length ≤ maxLen; decide, by show ([98] : List UInt8).length ≤ maxLen; decide, by show ([99] : List UInt8).length ≤ maxLen; decide, by show _ ≤ (-1 - n : Int); omega, by show (-1 - n : Int) ≤ _; omega⟩ (W3.setCell ⟨w1.heap.size, 1, none⟩ (.int .i64 (-1 - n))) (B3.out.setCell (by show w.heap.size ≤ w1.heap.size; omega) _))
    rw [show famOk ⟨[97], -1 - n, [98], [99]⟩ (pts []) = false from (fam_none _).trans (by rw [show kindOk (Hd.mk [97] (-1 - n) [98] [99]).k = false from kind_out (k := -1 - n) (by omega)]; simp)] at hg2
    have KB := Lib.hid (B3.out.setCell (by show w.heap.size ≤ w1.heap.size; omega) _ : Below w.heap.size w (W3.setCell ⟨w1.heap.size, 1, none⟩ (.int .i64 (-1 - n))))
    go_wp2_with fail
    refine hg2.out.mono ?_; rintro e w4 ⟨rfl, b4⟩
    go_wp2
    go_ret
    exact ⟨by rfl, trans9 KB.out b4⟩

end Go.Proofs.YtjkaggkamcfahaaDoor
