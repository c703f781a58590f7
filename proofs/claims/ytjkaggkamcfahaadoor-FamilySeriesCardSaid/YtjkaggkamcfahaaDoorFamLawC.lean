/- The walk of the law FamilySeries. -/
import Derived.Test.YtjkaggkamcfahaaDoorFamK
import Derived.Test.YtjkaggkamcfahaaDoorRefPointA
import Derived.Deep.CutBlock
set_option maxRecDepth 100000
set_option linter.unusedVariables false
set_option linter.unusedSimpArgs false
namespace Go.Proofs.YtjkaggkamcfahaaDoor
open Go.RowKit Dc
attribute [local go_sem ↓] Go.wp_at_zero Go.wp_at_succ

/-- a text as its one cell -/
def encS (s : List UInt8) : List Value := [.string (str s)]
theorem encS_len (s : List UInt8) : (encS s).length = 1 := rfl
theorem strTy : KTy Tryd.prog 39 9 1 16 (.string ⟨#[]⟩) :=
  ⟨Tryd.underlying39, by kernel_rfl, Tryd.sizeOf9, rfl, by omega, by omega⟩
/-- the names of the first r roles -/
def seenL (n : List UInt8) (k : Int) (r : Nat) : List (List UInt8) := (List.range r).filterMap fun (i : Nat) => serO n k (i : Int)
theorem seenL_succ (n : List UInt8) (k : Int) (r : Nat) : seenL n k (r + 1) = seenL n k r ++ (serO n k (r : Int)).toList := by
  unfold seenL
  rw [List.range_succ, List.filterMap_append]
  cases h : serO n k (r : Int) <;> simp [h]
theorem roles_mem {k r : Int} (h : memI (rolesL k) r = true) : ((k = 0 ∨ k = 1 ∨ k = 2) ∧ r = 0) ∨ (k = 3 ∧ (r = 1 ∨ r = 3 ∨ r = 4)) ∨ (k = 4 ∧ (r = 2 ∨ r = 3 ∨ r = 4)) := by
  unfold rolesL at h
  split at h
  · rename_i hk
    simp only [memI, Bool.or_false, decide_eq_true_eq] at h
    exact Or.inl ⟨hk, h.symm⟩
  · split at h
    · rename_i hk
      simp only [memI, Bool.or_false, Bool.or_eq_true, decide_eq_true_eq] at h
      exact Or.inr (Or.inl ⟨hk, by omega⟩)
    · split at h
      · rename_i hk
        simp only [memI, Bool.or_false, Bool.or_eq_true, decide_eq_true_eq] at h
        exact Or.inr (Or.inr ⟨hk, by omega⟩)
      · cases h
theorem suf_ne {k i r : Int} (hi : memI (rolesL k) i = true) (hr : memI (rolesL k) r = true) (hne : i ≠ r) : sufL k i ≠ sufL k r := by
  rcases roles_mem hi with ⟨hk, rfl⟩ | ⟨rfl, h1⟩ | ⟨rfl, h1⟩ <;> rcases roles_mem hr with ⟨hk2, rfl⟩ | ⟨h3, h2⟩ | ⟨h3, h2⟩ <;>
    first
    | (exact absurd rfl hne)
    | (exfalso; omega)
    | (rcases h1 with rfl | rfl | rfl <;> rcases h2 with rfl | rfl | rfl <;> first | (exact absurd rfl hne) | decide)
theorem seen_ne {n : List UInt8} {k : Int} {r : Nat} (hr : memI (rolesL k) (r : Int) = true) {x : List UInt8} (hx : x ∈ seenL n k r) : x ≠ n ++ sufL k (r : Int) := by
  obtain ⟨i, hi, he⟩ := List.mem_filterMap.1 hx
  have hir := List.mem_range.1 hi
  unfold serO at he
  split at he
  · rename_i hm
    obtain rfl := Option.some.inj he
    intro e
    exact suf_ne hm hr (by omega) (List.append_cancel_left e)
  · cases he
theorem seen_len (n : List UInt8) (k : Int) : (seenL n k 5).length = (rolesL k).length := by
  unfold seenL
  rw [show List.range 5 = [0, 1, 2, 3, 4] from rfl]
  unfold rolesL
  by_cases h0 : k = 0 ∨ k = 1 ∨ k = 2
  · have hr : rolesL k = [0] := by unfold rolesL; rw [if_pos h0]
    rw [if_pos h0]
    simp [serO, hr, memI]
  · rw [if_neg h0]
    by_cases h3 : k = 3
    · have hr : rolesL k = [1, 3, 4] := by unfold rolesL; rw [if_neg h0, if_pos h3]
      rw [if_pos h3]
      simp [serO, hr, memI]
    · rw [if_neg h3]
      by_cases h4 : k = 4
      · have hr : rolesL k = [2, 3, 4] := by unfold rolesL; rw [if_neg h0, if_neg h3, if_pos h4]
        rw [if_pos h4]
        simp [serO, hr, memI]
      · have hr : rolesL k = [] := by unfold rolesL; rw [if_neg h0, if_neg h3, if_neg h4]
        rw [if_neg h4]
        simp [serO, hr, memI]
theorem seen_le (n : List UInt8) (k : Int) (r : Nat) : (seenL n k r).length ≤ r := by
  unfold seenL
  exact Nat.le_trans (List.length_filterMap_le _ _) (by simp)
/-- a head lies in block b -/
structure HdAt (w : World) (b : Nat) (h : Hd) : Prop where
  c0 : w.cell? ⟨b, 0, none⟩ = some (.string (str h.n))
  c1 : w.cell? ⟨b, 1, none⟩ = some (.int .i64 h.k)
  c2 : w.cell? ⟨b, 2, none⟩ = some (.string (str h.u))
  c3 : w.cell? ⟨b, 3, none⟩ = some (.string (str h.h))
  lt : b < w.heap.size
theorem HdAt.below {w w' : World} {b : Nat} {h : Hd} (k : HdAt w b h) (hb : Below w.heap.size w w') : HdAt w' b h :=
  ⟨(hb.cell k.lt).trans k.c0, (hb.cell k.lt).trans k.c1, (hb.cell k.lt).trans k.c2, (hb.cell k.lt).trans k.c3, Nat.lt_of_lt_of_le k.lt hb.size⟩
abbrev SOwn (w : World) (base : Nat) (v : Value) (S : List (List UInt8)) : Prop := KOwn encS 9 1 w base v S
theorem s_one (w : World) (s : List UInt8) (t : TypeId) : KRow encS 1 (w.alloc (.cells #[.string (str s)] t)) (.slice (some ⟨w.heap.size, 0, none⟩) 1 1) [s] :=
  ⟨_, 1, rfl, Nat.le_refl _, by unfold maxLen; omega, (by rintro ⟨⟩), fun _ => ⟨w.heap.size, 0, rfl, by simp, fun i x hx j u hu => by
    match i, hx with
    | 0, hx =>
      obtain rfl : s = x := by simpa using hx
      match j, hu with
      | 0, hu =>
        obtain rfl : Value.string (str s) = u := by simpa [encS] using hu
        simp
      | j + 1, hu => simp [encS] at hu
    | i + 1, hx => simp at hx⟩⟩

set_option maxHeartbeats 16000000 in
theorem series_walk (n : List UInt8) (k : Int) (w : World) (hn : n.length ≤ maxLen) (hT : FamT w) :
    Calls Tryd.prog 4 #[.string (str n), .int .i64 k] w fun e w' => e = .returned (.bool true) ∧ Below w.heap.size w w' := by
  unfold maxLen at hn
  have hsz := str_size n
  have hk := Lib.hid (fknown_calls w hT)
  clear hT
  go_enter Tryd.func4, Tryd.ntmps4
  go_wp2_with fail
  refine hk.out.mono ?_; rintro e w1 ⟨rfl, b1⟩
  have B1 := Lib.hid b1
  clear hk b1
  by_cases h1 : (100 : Int) < (n.length : Int)
  · have d1 : decide ((100 : Int) < (n.length : Int)) = true := decide_eq_true h1
    have d1' : decide (100 < n.length) = true := by simp; omega
    go_wp2
    go_ret
    exact ⟨rfl, B1.out⟩
  have d1 : decide ((100 : Int) < (n.length : Int)) = false := decide_eq_false h1
  have d1' : decide (100 < n.length) = false := by simp; omega
  have hn100 : n.length ≤ 100 := by omega
  have H0 : HdAt (w1.alloc (.cells #[.string (str n), .int .i64 k, .string ⟨#[]⟩, .string ⟨#[]⟩] 23)) w1.heap.size ⟨n, k, [], []⟩ := ⟨by simp, by simp, by simp, by simp, by simp⟩
  have bA := kp_alloc B1.out (.cells #[.string (str n), .int .i64 k, .string ⟨#[]⟩, .string ⟨#[]⟩] 23)
  go_upto_region 6 with fail
  obtain ⟨W0, hW0⟩ : ∃ W0 : World, W0 = w1.alloc (.cells #[.string (str n), .int .i64 k, .string ⟨#[]⟩, .string ⟨#[]⟩] 23) := ⟨_, rfl⟩
  rw [← hW0] at H0 bA ⊢
  have BA := Lib.hid bA
  have HH := Lib.hid H0
  generalize w1.heap.size = b0 at *
  clear hW0 h1 bA H0 B1
  have hser := Lib.hid (fun (r : Int) W => series_calls ⟨n, k, [], []⟩ r W (by show n.length ≤ 1000; omega))
  have hrol := Lib.hid (fun (r : Int) W => rhasrole_calls k r W)
  have HS0 : Hid (SOwn W0 W0.heap.size (.slice none 0 0) (seenL n k 0)) := KOwn.nil _ _ _ _ _
  go_wp2_with fail
  go_loopw [6, 7] (fun s6 s7 wr => ∃ r : Nat, r ≤ 5 ∧ s7 = .int .i64 (r : Nat) ∧ Hid (SOwn wr W0.heap.size s6 (seenL n k r) ∧ Below W0.heap.size W0 wr)) (fun _ s7 _ => 5 - (intOf s7).toNat)
  case atStart => exact ⟨0, Nat.zero_le _, rfl, HS0.out, Below.refl _ _⟩
  case round =>
    obtain ⟨r, hr, rfl, HR⟩ := hrel
    clear HS0
    by_cases hr5 : r < 5
    · have dr : decide ((r : Int) ≤ 4) = true := by simp; omega
      have hwr : IntKind.i64.wrap ((r : Int) + 1) = (r : Int) + 1 := IntWalk.i64_in _ (by omega)
      obtain ⟨c0, c1, c2, c3, hlt⟩ := HH.out.below HR.out.2
      dsimp only at c0 c1 c2 c3
      have hs1 := Lib.hid (hser.out (r : Int) wr)
      have hr1 := Lib.hid (fun W => hrol.out (r : Int) W)
      have hsucc := Lib.hid (seenL_succ n k r)
      try dsimp only at hs1
      cases hm : memI (rolesL k) (r : Int) with
      | false =>
        rw [show serO n k (r : Int) = none by unfold serO; rw [hm]; rfl] at hs1 hsucc
        rw [show serV none = .tuple #[.string (str []), .bool false] from rfl] at hs1
        rw [hm] at hr1
        go_wp2_with fail
        refine hs1.out.mono ?_; rintro e w2 ⟨rfl, b2⟩
        go_wp2_with fail
        refine (hr1.out _).mono ?_; rintro e w3 ⟨rfl, b3⟩
        have B3 := Lib.hid (trans9 b2 b3)
        clear b2 b3
        go_wp2_with fail
        go_roundw
        case rel => exact ⟨r + 1, hr5, by go_num, by have := hsucc.out; simp only [Option.toList, List.append_nil] at this; rw [this]; exact HR.out.1.below B3.out, HR.out.2.trans (B3.out.mono HR.out.2.size)⟩
        case measure => simp [intOf]; omega
      | true =>
        have hne := Lib.hid (fun x (hx : x ∈ seenL n k r) => seen_ne (n := n) hm hx)
        rw [show serO n k (r : Int) = some (n ++ sufL k (r : Int)) by unfold serO; rw [hm]; rfl] at hs1 hsucc
        rw [hm] at hr1
        have hSl := seen_le n k r
        have hTl : n.length ≤ (n ++ sufL k (r : Int)).length := by simp
        have hct := fun W => cut_to (n ++ sufL k (r : Int)) (n.length : Int) n.length rfl hTl W
        rw [List.take_left] at hct
        have hTne : ((n ++ sufL k (r : Int)) == ([] : List UInt8)) = (n ++ sufL k (r : Int)).isEmpty := by cases n ++ sufL k (r : Int) <;> rfl
        generalize n ++ sufL k (r : Int) = T at *
        rw [show serV (some T) = .tuple #[.string (str T), .bool true] from rfl] at hs1
        have hszT := str_size T
        have dlt : decide ((T.length : Int) < (n.length : Int)) = false := by simp; omega
        have dlt' : decide (T.length < n.length) = false := by simp; omega
        go_wp2_with fail
        refine hs1.out.mono ?_; rintro e w2 ⟨rfl, b2⟩
        go_wp2_with fail
        refine (hr1.out _).mono ?_; rintro e w3 ⟨rfl, b3⟩
        have B3 := Lib.hid (trans9 b2 b3)
        have own3 := Lib.hid (HR.out.1.below B3.out)
        have BB3 := Lib.hid (HR.out.2.trans (B3.out.mono HR.out.2.size))
        clear b2 b3 hs1 hr1
        obtain ⟨A, cap, rfl, hlc, hcm, hnil, hrow⟩ := KOwn.row encS_len own3.out
        unfold maxLen at hcm
        have HRow := Lib.hid hrow
        clear hrow hnil
        generalize hL : seenL n k r = S at *
        go_wp2_with fail
        go_loop [10] (fun v => ∃ i : Nat, i ≤ S.length ∧ v = .int .i64 (i : Nat)) (fun v => S.length - (intOf v).toNat)
        case atStart => exact ⟨0, Nat.zero_le _, rfl⟩
        case round =>
          obtain ⟨i, hi, rfl⟩ := hrel
          by_cases hil : i < S.length
          · obtain ⟨b, off, rfl, hbs, hc⟩ := HRow.out (by omega)
            have hx := hc i S[i] (List.getElem?_eq_getElem hil) 0 _ rfl
            have dx : (S[i] == T) = false := beq_eq_false_iff_ne.2 (hne.out _ (List.getElem_mem hil))
            simp only [Nat.mul_one, Nat.add_zero] at hx
            have hw1 : IntKind.i64.wrap ((i : Int) + 1) = (i : Int) + 1 := IntWalk.i64_in _ (by omega)
            generalize S[i] = X at *
            clear hc
            go_wp2
            go_round
            case rel => exact ⟨i + 1, hil, by go_num⟩
            case measure => simp [intOf]; omega
          · have hrow2 := s_one w3 T 9
            have own4 := own_alloc own3.out (.cells #[.string (str T)] 9)
            have hz3 := BB3.out.size
            have B4 := Lib.hid (kb_alloc BB3.out (Nat.le_refl _) (.cells #[.string (str T)] 9))
            have hb4 : W0.heap.size ≤ (w3.alloc (.cells #[.string (str T)] 9)).heap.size := by simp; omega
            go_wp2_with (at_builtin; refine wpList_append_krow strTy encS_len rfl _ _ (by rfl) W0.heap.size _ S (by rfl) own4 _ [T] (by rfl) hrow2 (by intro x hx u hu; simp [encS] at hu; subst hu; rfl) (by simp; omega) hb4 ?_; intro v5 w5 own5 grow5)
            have BB5 := Lib.hid (B4.out.grown grow5 hb4 (own_ge own4))
            have hsz5 := own5.1
            obtain ⟨A5, cap5, rfl, _⟩ := KOwn.row encS_len own5
            have own6 := Lib.hid own5
            clear own5 own4 hrow2 grow5
            go_wp2_with fail
            go_roundw
            case rel => exact ⟨r + 1, hr5, by go_num, by rw [hsucc.out]; exact own6.out, BB5.out⟩
            case measure => simp [intOf]; omega
    · obtain rfl : r = 5 := by omega
      rw [show ((5 : Nat) : Int) = 5 from rfl]
      have hlen := seen_len n k
      have hro := Lib.hid (fun W => rroles_calls k W)
      obtain ⟨A, cap, rfl, _⟩ := KOwn.row encS_len HR.out.1
      have B5 := Lib.hid (BA.out.trans (HR.out.2.mono BA.out.size))
      rw [hlen]
      generalize rolesL k = R at *
      clear HR hlen
      go_wp2_with fail
      refine (hro.out _).mono ?_; rintro e w2 ⟨⟨v2, rfl, hv2⟩, b2⟩
      obtain ⟨A2, cap2, rfl, _⟩ := hv2
      go_wp2
      go_ret
      exact ⟨by simp, trans9 B5.out b2⟩

theorem series_text (s : ByteArray) (k : Int) (w : World) (hs : s.data.toList.length ≤ maxLen) (hT : FamT w) :
    Calls Tryd.prog 4 #[.string s, .int .i64 k] w fun e w' => e = .returned (.bool true) ∧ Below w.heap.size w w' := by
  have h := series_walk s.data.toList k w hs hT
  rwa [← str_self s] at h

end Go.Proofs.YtjkaggkamcfahaaDoor
