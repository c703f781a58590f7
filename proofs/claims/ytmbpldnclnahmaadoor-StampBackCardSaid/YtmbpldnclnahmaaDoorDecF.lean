/- The walks of package dec's number and Parse. -/
import Derived.Test.YtmbpldnclnahmaaDoorDecE
set_option linter.unusedVariables false
set_option linter.unusedSimpArgs false
namespace Go.Proofs.YtmbpldnclnahmaaDoor
open Go.RowKit Dc

def numAt (neg : Bool) (L B : List UInt8) : Option (Int × Nat) :=
  if 19 < L.length ∨ 19 < L.length + B.length then none
  else if big < valN (vals (L ++ B)) then none
  else decOf (decide ((if neg then -(valN (vals (L ++ B)) : Int) else (valN (vals (L ++ B)) : Int)) < 0)) (valN (vals (L ++ B))) B.length
theorem numOf_at (neg : Bool) (d e : List UInt8) : numOf neg d e = numAt neg (trimL 48 d) (trimR 48 e) := rfl

set_option maxRecDepth 100000 in
set_option maxHeartbeats 4000000 in
theorem number_calls (neg : Bool) (d e : List UInt8) (w : World) (hd : allDg d) (he : allDg e) (ld : d.length ≤ 140737488351232) (le : e.length ≤ 140737488351232) :
    Calls Tryd.prog 51 #[.agg #[.bool neg, .string (str d), .string (str e)]] w fun x w' => x = .returned (normV (numOf neg d e)) ∧ Below w.heap.size w w' := by
  have tl1 := fun W => tleft_calls d W ld
  have tr1 := fun W => tright_calls e W le
  have hL := trimL_len 48 d
  have hB := trimR_len 48 e
  obtain ⟨j, ej⟩ := trimL_is 48 d
  obtain ⟨k, ek⟩ := trimR_is 48 e
  have hLd : allDg (trimL 48 d) := fun c hc => hd c (by rw [ej]; simp [hc])
  have hBd : allDg (trimR 48 e) := fun c hc => he c (by rw [ek]; simp [hc])
  have Hnum := Lib.hid (numOf_at neg d e)
  have b1 := kb_alloc ((Below.refl w.heap.size w).alloc (Nat.le_refl _) (.cells #[.bool neg, .string (str d), .string (str e)] 80)) (Nat.le_refl _) (.cells #[.int .i64 0, .int .i64 0] 23)
  have Htl := Lib.hid tl1
  have Htr := Lib.hid tr1
  have B1 := Lib.hid b1
  clear ej ek hd he tl1 tr1 b1
  generalize trimL 48 d = L at *
  generalize trimR 48 e = B at *
  have hLs := str_size L
  have hBs := str_size B
  have Had := Lib.hid (allDg_app hLd hBd)
  clear hLd hBd
  go_enter Tryd.func51, Tryd.ntmps51
  go_wp2_with fail
  go_quiet (first | (go_at_call 56; exact Calls.quiet_of_same ((Htl.out _).mono fun _ _ h => ⟨h.1, h.2.symm⟩)) | (go_at_call 57; exact Calls.quiet_of_same ((Htr.out _).mono fun _ _ h => ⟨h.1, h.2.symm⟩)))
  have B2 := Lib.hid (below_drewN B1.out nq)
  clear B1 Htl Htr
  by_cases h1 : 19 < L.length
  · have hn : numOf neg d e = none := by rw [Hnum.out, numAt, if_pos (Or.inl h1)]
    have Hn := Lib.hid hn
    clear hn Hnum
    go_wp2_with fail
    refine bodyPost_ret (v := normV none) (by simp [results, Tryd.results51, go_sem, normV]) rfl ⟨by rw [Hn.out], ?_⟩
    repeat (refine Below.setCell ?_ (by simp) _)
    exact B2.out
  by_cases h2 : 19 < L.length + B.length
  · have hn : numOf neg d e = none := by rw [Hnum.out, numAt, if_pos (Or.inr h2)]
    have Hn := Lib.hid hn
    clear hn Hnum
    have h2b : ¬ (L.length : Int) + (B.length : Int) ≤ 19 := by omega
    have h2c : (19 : Int) < (L.length : Int) + (B.length : Int) := by omega
    go_wp2_with fail
    refine bodyPost_ret (v := normV none) (by simp [results, Tryd.results51, go_sem, normV]) rfl ⟨by rw [Hn.out], ?_⟩
    repeat (refine Below.setCell ?_ (by simp) _)
    exact B2.out
  have h2b : ¬ (19 : Int) < (L.length : Int) + (B.length : Int) := by omega
  have happ := str_app L B
  have hga := Lib.hid (fun W => gather_calls (L ++ B) (by rw [List.length_append]; omega) Had.out W)
  have htop := Lib.hid (zOf_top (L ++ B) (by rw [List.length_append]; omega))
  have hjo := Lib.hid (fun W => join_calls (zOf (L ++ B)) (fun i _ => zOf_le _ Had.out i) W)
  go_wp2_with fail
  refine (hga.out _).mono ?_; rintro e w3 ⟨rfl, b3⟩
  go_wp2_with fail
  refine (hjo.out _).mono ?_; rintro e w4 ⟨rfl, b4⟩
  rw [htop.out]
  have b34 := trans9 b3 b4
  have B4 := Lib.hid (B2.out.trans (b34.mono B2.out.size))
  have c0 : w4.cell? ⟨w.heap.size + 1, 0, none⟩ = some (.int .i64 0) := (b34.cell (p := ⟨w.heap.size + 1, 0, none⟩) (by simp)).trans (by simp [go_sem])
  have c1 : w4.cell? ⟨w.heap.size + 1, 1, none⟩ = some (.int .i64 0) := (b34.cell (p := ⟨w.heap.size + 1, 1, none⟩) (by simp)).trans (by simp [go_sem])
  have cneg : w4.cell? ⟨w.heap.size, 0, none⟩ = some (.bool neg) := (b34.cell (p := ⟨w.heap.size, 0, none⟩) (by simp; omega)).trans (by simp [go_sem])
  have f0 : w4.frozen? ⟨w.heap.size + 1, 0, none⟩ = false := (b34.frozen (p := ⟨w.heap.size + 1, 0, none⟩) (by simp)).trans (by simp [go_sem])
  have f1 : w4.frozen? ⟨w.heap.size + 1, 1, none⟩ = false := (b34.frozen (p := ⟨w.heap.size + 1, 1, none⟩) (by simp)).trans (by simp [go_sem])
  have hz4 : w.heap.size + 1 < w4.heap.size := by have := b34.size; simp at this; omega
  clear b3 b4 b34 B2 hga hjo htop happ
  have hat : numAt neg L B = if 19 < L.length ∨ 19 < L.length + B.length then none
      else if big < valN (vals (L ++ B)) then none
      else decOf (decide ((if neg then -(valN (vals (L ++ B)) : Int) else (valN (vals (L ++ B)) : Int)) < 0)) (valN (vals (L ++ B))) B.length := rfl
  have Hat := Lib.hid hat
  clear hat
  generalize valN (vals (L ++ B)) = n at *
  by_cases h3 : big < n
  · have hn : numOf neg d e = none := by rw [Hnum.out, Hat.out, if_neg (by omega), if_pos h3]
    have Hn := Lib.hid hn
    rw [show joinV n = Value.tuple #[.int .i64 0, .bool false] by unfold joinV; rw [if_neg (by omega)]]
    clear hn Hnum
    go_wp2_with fail
    refine bodyPost_ret (v := normV none) (by simp [results, Tryd.results51, go_sem, normV, c0, c1]) rfl ⟨by rw [Hn.out], ?_⟩
    repeat (refine Below.setCell ?_ (by simp) _)
    exact B4.out
  · rw [show joinV n = Value.tuple #[.int .i64 (n : Nat), .bool true] by unfold joinV; rw [if_pos (by omega)]]
    have hbig := h3
    unfold big at hbig
    cases hneg : neg
    · subst hneg
      have hn : numOf false d e = decOf (decide ((n : Int) < 0)) ((n : Int)).natAbs (B.length : Int) := by rw [Hnum.out, Hat.out, if_neg (by omega), if_neg h3]; rfl
      have hnc := Lib.hid (fun W => norm_calls (n : Int) (B.length : Int) W (by omega) (by omega) (by omega))
      rw [← hn] at hnc
      clear Hnum hn
      go_wp2_with fail
      refine (hnc.out _).mono ?_; rintro e w5 ⟨rfl, b5⟩
      have B5 := Lib.hid (B4.out.trans (b5.mono B4.out.size))
      have d0 : w5.cell? ⟨w.heap.size + 1, 0, none⟩ = some (.int .i64 0) := (b5.cell (p := ⟨w.heap.size + 1, 0, none⟩) hz4).trans c0
      have d1 : w5.cell? ⟨w.heap.size + 1, 1, none⟩ = some (.int .i64 0) := (b5.cell (p := ⟨w.heap.size + 1, 1, none⟩) hz4).trans c1
      have g0 : w5.frozen? ⟨w.heap.size + 1, 0, none⟩ = false := (b5.frozen (p := ⟨w.heap.size + 1, 0, none⟩) hz4).trans f0
      have g1 : w5.frozen? ⟨w.heap.size + 1, 1, none⟩ = false := (b5.frozen (p := ⟨w.heap.size + 1, 1, none⟩) hz4).trans f1
      clear b5 B4 c0 c1 cneg hnc f0 f1 Hat
      cases ho : numOf false d e with
      | none =>
        have Hn := Lib.hid ho
        rw [show normV none = Value.tuple #[dv2 0 0, .bool false] from rfl]
        clear ho
        go_wp2_with fail
        refine bodyPost_ret (v := normV none) (by simp [results, Tryd.results51, go_sem, normV, d0, d1]) rfl ⟨by rw [Hn.out], ?_⟩
        repeat (refine Below.setCell ?_ (by simp) _)
        exact B5.out
      | some r =>
        obtain ⟨a, k⟩ := r
        have Hn := Lib.hid ho
        rw [show normV (some (a, k)) = Value.tuple #[dv2 a k, .bool true] from rfl]
        clear ho
        go_wp2_with fail
        refine bodyPost_ret (v := normV (some (a, k))) (by simp [results, Tryd.results51, go_sem, normV, d0, d1]) rfl ⟨by rw [Hn.out], ?_⟩
        repeat (refine Below.setCell ?_ (by simp) _)
        exact B5.out
    · subst hneg
      have hn : numOf true d e = decOf (decide ((-(n : Int)) < 0)) ((-(n : Int))).natAbs (B.length : Int) := by rw [Hnum.out, Hat.out, if_neg (by omega), if_neg h3]; rw [Int.natAbs_neg]; rfl
      have hnc := Lib.hid (fun W => norm_calls (-(n : Int)) (B.length : Int) W (by omega) (by omega) (by omega))
      rw [← hn] at hnc
      clear Hnum hn
      go_wp2_with fail
      refine (hnc.out _).mono ?_; rintro e w5 ⟨rfl, b5⟩
      have B5 := Lib.hid (B4.out.trans (b5.mono B4.out.size))
      have d0 : w5.cell? ⟨w.heap.size + 1, 0, none⟩ = some (.int .i64 0) := (b5.cell (p := ⟨w.heap.size + 1, 0, none⟩) hz4).trans c0
      have d1 : w5.cell? ⟨w.heap.size + 1, 1, none⟩ = some (.int .i64 0) := (b5.cell (p := ⟨w.heap.size + 1, 1, none⟩) hz4).trans c1
      have g0 : w5.frozen? ⟨w.heap.size + 1, 0, none⟩ = false := (b5.frozen (p := ⟨w.heap.size + 1, 0, none⟩) hz4).trans f0
      have g1 : w5.frozen? ⟨w.heap.size + 1, 1, none⟩ = false := (b5.frozen (p := ⟨w.heap.size + 1, 1, none⟩) hz4).trans f1
      clear b5 B4 c0 c1 cneg hnc f0 f1 Hat
      cases ho : numOf true d e with
      | none =>
        have Hn := Lib.hid ho
        rw [show normV none = Value.tuple #[dv2 0 0, .bool false] from rfl]
        clear ho
        go_wp2_with fail
        refine bodyPost_ret (v := normV none) (by simp [results, Tryd.results51, go_sem, normV, d0, d1]) rfl ⟨by rw [Hn.out], ?_⟩
        repeat (refine Below.setCell ?_ (by simp) _)
        exact B5.out
      | some r =>
        obtain ⟨a, k⟩ := r
        have Hn := Lib.hid ho
        rw [show normV (some (a, k)) = Value.tuple #[dv2 a k, .bool true] from rfl]
        clear ho
        go_wp2_with fail
        refine bodyPost_ret (v := normV (some (a, k))) (by simp [results, Tryd.results51, go_sem, normV, d0, d1]) rfl ⟨by rw [Hn.out], ?_⟩
        repeat (refine Below.setCell ?_ (by simp) _)
        exact B5.out

end Go.Proofs.YtmbpldnclnahmaaDoor
