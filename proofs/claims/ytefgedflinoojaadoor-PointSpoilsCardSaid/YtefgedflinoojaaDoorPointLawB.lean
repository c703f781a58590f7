/- The walk of the law PointSpoils. -/
import Derived.Test.YtefgedflinoojaaDoorPointK
import Derived.Test.YtefgedflinoojaaDoorRefPointA
import Derived.Test.YtefgedflinoojaaDoorGrd
import Derived.RegionTactic
import Derived.Laws.BitsLemmas
import Derived.Deep.CutBlock
set_option maxRecDepth 100000
set_option linter.unusedVariables false
set_option linter.unusedSimpArgs false
namespace Go.Proofs.YtefgedflinoojaaDoor
open Go.RowKit Dc
attribute [local go_sem ↓] Go.wp_at_zero Go.wp_at_succ

theorem i64_and1023 (n : Int) : bits .and .i64 n 1023 = n % 1024 := by
  have h127 : (BitVec.ofInt 64 1023).toNat = 2 ^ 10 - 1 := by decide
  have key : (BitVec.ofInt 64 n &&& BitVec.ofInt 64 1023).toNat = (n % ((2 ^ 64 : Nat) : Int)).toNat % 2 ^ 10 := by
    rw [BitVec.toNat_and, BitVec.toNat_ofInt, h127, Nat.and_two_pow_sub_one_eq_mod]
  show IntKind.i64.wrap ((BitVec.ofInt 64 n &&& BitVec.ofInt 64 1023).toNat : Nat) = n % 1024
  rw [key, IntKind.wrap_i64]
  omega
theorem ptOk_mk (k : Int) (l : List Lb) (ro : Int) (inf : Bool) (bm bs m s : Int) (td : Bool) (ti : Int) : ptOk k ⟨l, ro, inf, bm, bs, m, s, td, ti⟩ =
    (memI (rolesL k) ro && goodL l && (!inf || decide (ro = 1)) && (if ro = 1 ∧ inf = false then goodD bm bs else if ro = 2 then goodD bm bs && !decide (cmpO bm bs 0 0 < 0) && decide (cmpO bm bs 1 0 ≤ 0) else decide (bm = 0 ∧ bs = 0)) &&
      (goodD m s && !(cntOf k ro && decide (cmpO m s 0 0 < 0))) && (if td = true then isT ti else decide (ti = 0)) && !(if ro = 1 then (getL l leB).2 else if ro = 2 then (getL l quB).2 else false)) := rfl
/-- a kind and a role of it -/
def KR (k r : Int) : Prop := (k = 0 ∧ r = 0 ∨ k = 1 ∧ r = 0 ∨ k = 2 ∧ r = 0) ∨ (k = 3 ∧ r = 1 ∨ k = 3 ∧ r = 3 ∨ k = 3 ∧ r = 4) ∨ (k = 4 ∧ r = 2 ∨ k = 4 ∧ r = 3 ∨ k = 4 ∧ r = 4)
theorem KR.of {k r : Int} {j : Nat} (h : 0 ≤ k ∧ k < 5) (hg : (rolesL k)[j]? = some r) : KR k r := by
  rcases (by omega : k = 0 ∨ k = 1 ∨ k = 2 ∨ k = 3 ∨ k = 4) with rfl | rfl | rfl | rfl | rfl
  · obtain rfl : r = 0 := by simpa using (List.mem_of_getElem? hg : r ∈ [0])
    exact Or.inl (Or.inl ⟨rfl, rfl⟩)
  · obtain rfl : r = 0 := by simpa using (List.mem_of_getElem? hg : r ∈ [0])
    exact Or.inl (Or.inr (Or.inl ⟨rfl, rfl⟩))
  · obtain rfl : r = 0 := by simpa using (List.mem_of_getElem? hg : r ∈ [0])
    exact Or.inl (Or.inr (Or.inr ⟨rfl, rfl⟩))
  · have : r = 1 ∨ r = 3 ∨ r = 4 := by simpa using (List.mem_of_getElem? hg : r ∈ [1, 3, 4])
    rcases this with rfl | rfl | rfl
    · exact Or.inr (Or.inl (Or.inl ⟨rfl, rfl⟩))
    · exact Or.inr (Or.inl (Or.inr (Or.inl ⟨rfl, rfl⟩)))
    · exact Or.inr (Or.inl (Or.inr (Or.inr ⟨rfl, rfl⟩)))
  · have : r = 2 ∨ r = 3 ∨ r = 4 := by simpa using (List.mem_of_getElem? hg : r ∈ [2, 3, 4])
    rcases this with rfl | rfl | rfl
    · exact Or.inr (Or.inr (Or.inl ⟨rfl, rfl⟩))
    · exact Or.inr (Or.inr (Or.inr (Or.inl ⟨rfl, rfl⟩)))
    · exact Or.inr (Or.inr (Or.inr (Or.inr ⟨rfl, rfl⟩)))
theorem KR.bounds {k r : Int} (h : KR k r) : 0 ≤ k ∧ k < 5 ∧ 0 ≤ r ∧ r < 5 := by unfold KR at h; omega
def bmOf (r : Int) : Int := if r = 2 then 5 else 0
def bsOf (r : Int) : Int := if r = 2 then 1 else 0
theorem val_m {m : Int} (h0 : 0 ≤ m) (h1 : m ≤ 1023) : goodD m 0 = true ∧ decide (cmpO m 0 0 0 < 0) = false := by
  have hg : goodD m 0 = true := (goodD_iff m 0).2 ⟨by omega, by omega, by omega, Or.inl rfl⟩
  exact ⟨hg, by rw [cmpO_zero hg]; exact decide_eq_false (by omega)⟩
theorem sp_neg : decide (cmpO (-1) 0 0 0 < 0) = true := by decide
theorem sp_bnd : goodD 2 0 = true ∧ goodD 5 1 = true ∧ decide (cmpO 5 1 0 0 < 0) = false ∧ decide (cmpO 5 1 1 0 ≤ 0) = true ∧ decide (cmpO 2 0 1 0 ≤ 0) = false ∧ goodD 0 0 = true ∧ goodD (-1) 0 = true ∧ goodD 10 1 = false := by decide
theorem sp_z {k r m : Int} (h : KR k r) (m0 : 0 ≤ m) (m1 : m ≤ 1023) : ptOk k ⟨[], r, false, bmOf r, bsOf r, m, 0, false, 0⟩ = true := by
  obtain ⟨a, b⟩ := val_m m0 m1
  obtain ⟨s1, s2, s3, s4, s5, s6, s7, s8⟩ := sp_bnd
  unfold KR at h
  rw [ptOk_mk]
  first | rw [a] | skip
  first | rw [b] | skip
  clear a b m0 m1
  rcases h with (⟨rfl, rfl⟩ | ⟨rfl, rfl⟩ | ⟨rfl, rfl⟩) | (⟨rfl, rfl⟩ | ⟨rfl, rfl⟩ | ⟨rfl, rfl⟩) | (⟨rfl, rfl⟩ | ⟨rfl, rfl⟩ | ⟨rfl, rfl⟩) <;> decide
theorem sp_1 {k r m : Int} (h : KR k r) (m0 : 0 ≤ m) (m1 : m ≤ 1023) : ptOk k ⟨[(leB, [])], r, false, bmOf r, bsOf r, m, 0, false, 0⟩ = (r != 1) := by
  obtain ⟨a, b⟩ := val_m m0 m1
  obtain ⟨s1, s2, s3, s4, s5, s6, s7, s8⟩ := sp_bnd
  unfold KR at h
  rw [ptOk_mk]
  first | rw [a] | skip
  first | rw [b] | skip
  clear a b m0 m1
  rcases h with (⟨rfl, rfl⟩ | ⟨rfl, rfl⟩ | ⟨rfl, rfl⟩) | (⟨rfl, rfl⟩ | ⟨rfl, rfl⟩ | ⟨rfl, rfl⟩) | (⟨rfl, rfl⟩ | ⟨rfl, rfl⟩ | ⟨rfl, rfl⟩) <;> decide
theorem sp_2 {k r m : Int} (h : KR k r) (m0 : 0 ≤ m) (m1 : m ≤ 1023) : ptOk k ⟨[(quB, [])], r, false, bmOf r, bsOf r, m, 0, false, 0⟩ = (r != 2) := by
  obtain ⟨a, b⟩ := val_m m0 m1
  obtain ⟨s1, s2, s3, s4, s5, s6, s7, s8⟩ := sp_bnd
  unfold KR at h
  rw [ptOk_mk]
  first | rw [a] | skip
  first | rw [b] | skip
  clear a b m0 m1
  rcases h with (⟨rfl, rfl⟩ | ⟨rfl, rfl⟩ | ⟨rfl, rfl⟩) | (⟨rfl, rfl⟩ | ⟨rfl, rfl⟩ | ⟨rfl, rfl⟩) | (⟨rfl, rfl⟩ | ⟨rfl, rfl⟩ | ⟨rfl, rfl⟩) <;> decide
theorem sp_3 {k r m : Int} (h : KR k r) (m0 : 0 ≤ m) (m1 : m ≤ 1023) : ptOk k ⟨[], r, false, 2, 0, m, 0, false, 0⟩ = (r == 1) := by
  obtain ⟨a, b⟩ := val_m m0 m1
  obtain ⟨s1, s2, s3, s4, s5, s6, s7, s8⟩ := sp_bnd
  unfold KR at h
  rw [ptOk_mk]
  first | rw [a] | skip
  first | rw [b] | skip
  clear a b m0 m1
  rcases h with (⟨rfl, rfl⟩ | ⟨rfl, rfl⟩ | ⟨rfl, rfl⟩) | (⟨rfl, rfl⟩ | ⟨rfl, rfl⟩ | ⟨rfl, rfl⟩) | (⟨rfl, rfl⟩ | ⟨rfl, rfl⟩ | ⟨rfl, rfl⟩) <;> decide
theorem sp_4 {k r m : Int} (h : KR k r) (m0 : 0 ≤ m) (m1 : m ≤ 1023) : ptOk k ⟨[], r, true, bmOf r, bsOf r, m, 0, false, 0⟩ = (r == 1) := by
  obtain ⟨a, b⟩ := val_m m0 m1
  obtain ⟨s1, s2, s3, s4, s5, s6, s7, s8⟩ := sp_bnd
  unfold KR at h
  rw [ptOk_mk]
  first | rw [a] | skip
  first | rw [b] | skip
  clear a b m0 m1
  rcases h with (⟨rfl, rfl⟩ | ⟨rfl, rfl⟩ | ⟨rfl, rfl⟩) | (⟨rfl, rfl⟩ | ⟨rfl, rfl⟩ | ⟨rfl, rfl⟩) | (⟨rfl, rfl⟩ | ⟨rfl, rfl⟩ | ⟨rfl, rfl⟩) <;> decide
theorem sp_5 {k r m : Int} (h : KR k r) (m0 : 0 ≤ m) (m1 : m ≤ 1023) : ptOk k ⟨[], r, false, bmOf r, bsOf r, m, 0, false, 1⟩ = false := by
  obtain ⟨a, b⟩ := val_m m0 m1
  obtain ⟨s1, s2, s3, s4, s5, s6, s7, s8⟩ := sp_bnd
  unfold KR at h
  rw [ptOk_mk]
  first | rw [a] | skip
  first | rw [b] | skip
  clear a b m0 m1
  rcases h with (⟨rfl, rfl⟩ | ⟨rfl, rfl⟩ | ⟨rfl, rfl⟩) | (⟨rfl, rfl⟩ | ⟨rfl, rfl⟩ | ⟨rfl, rfl⟩) | (⟨rfl, rfl⟩ | ⟨rfl, rfl⟩ | ⟨rfl, rfl⟩) <;> decide
theorem sp_6 {k r m : Int} (h : KR k r) (m0 : 0 ≤ m) (m1 : m ≤ 1023) : ptOk k ⟨[], r, false, bmOf r, bsOf r, m, 0, true, 1125899906842625⟩ = false := by
  obtain ⟨a, b⟩ := val_m m0 m1
  obtain ⟨s1, s2, s3, s4, s5, s6, s7, s8⟩ := sp_bnd
  unfold KR at h
  rw [ptOk_mk]
  first | rw [a] | skip
  first | rw [b] | skip
  clear a b m0 m1
  rcases h with (⟨rfl, rfl⟩ | ⟨rfl, rfl⟩ | ⟨rfl, rfl⟩) | (⟨rfl, rfl⟩ | ⟨rfl, rfl⟩ | ⟨rfl, rfl⟩) | (⟨rfl, rfl⟩ | ⟨rfl, rfl⟩ | ⟨rfl, rfl⟩) <;> decide
theorem sp_7 {k r m : Int} (h : KR k r) (m0 : 0 ≤ m) (m1 : m ≤ 1023) : ptOk k ⟨[], r, false, bmOf r, bsOf r, -1, 0, false, 0⟩ = ((k != 2 && r != 1) && r != 3) := by
  obtain ⟨a, b⟩ := val_m m0 m1
  obtain ⟨s1, s2, s3, s4, s5, s6, s7, s8⟩ := sp_bnd
  unfold KR at h
  rw [ptOk_mk]
  first | rw [a] | skip
  first | rw [b] | skip
  clear a b m0 m1
  rcases h with (⟨rfl, rfl⟩ | ⟨rfl, rfl⟩ | ⟨rfl, rfl⟩) | (⟨rfl, rfl⟩ | ⟨rfl, rfl⟩ | ⟨rfl, rfl⟩) | (⟨rfl, rfl⟩ | ⟨rfl, rfl⟩ | ⟨rfl, rfl⟩) <;> decide
theorem sp_8 {k r m : Int} (h : KR k r) (m0 : 0 ≤ m) (m1 : m ≤ 1023) : ptOk k ⟨[], r, false, bmOf r, bsOf r, 10, 1, false, 0⟩ = false := by
  obtain ⟨a, b⟩ := val_m m0 m1
  obtain ⟨s1, s2, s3, s4, s5, s6, s7, s8⟩ := sp_bnd
  unfold KR at h
  rw [ptOk_mk]
  first | rw [a] | skip
  first | rw [b] | skip
  clear a b m0 m1
  rcases h with (⟨rfl, rfl⟩ | ⟨rfl, rfl⟩ | ⟨rfl, rfl⟩) | (⟨rfl, rfl⟩ | ⟨rfl, rfl⟩ | ⟨rfl, rfl⟩) | (⟨rfl, rfl⟩ | ⟨rfl, rfl⟩ | ⟨rfl, rfl⟩) <;> decide

/-- what is in its place -/
abbrev pnt (r m : Int) : Pt := ⟨[], r, false, bmOf r, bsOf r, m, 0, false, 0⟩
theorem pnt_in {r m : Int} (m0 : 0 ≤ m) (m1 : m ≤ 1023) : PtIn (pnt r m) :=
  ⟨by show _ ≤ bmOf r; unfold bmOf; split <;> decide, by show bmOf r ≤ _; unfold bmOf; split <;> decide, by show _ ≤ m; omega, by show m ≤ _; omega, by show (-9223372036854775808 : Int) ≤ 0; decide, by show (0 : Int) ≤ 9223372036854775807; decide, fun x hx => by cases hx⟩
theorem fit_lb {s : List UInt8} (h : s.length ≤ maxLen) : Fit [(s, [])] := fun x hx => by
  obtain rfl : x = (s, []) := by simpa using hx
  exact ⟨h, by unfold maxLen; simp⟩
/-- the point behind what was turned, what is wanted, the world -/
def SpI (k : Int) (w0 : World) (g1 g2 : Nat) (s : Value) (wx : World) : Prop :=
  ∃ lv q, PtAt wx g2 lv q ∧ LbRow wx lv q.l ∧ PtIn q ∧ s = .bool (ptOk k q) ∧ Below w0.heap.size w0 wx ∧ ShPl wx

set_option maxHeartbeats 8000000 in
theorem spoils_walk (kind role how v : Int) (w : World) (k0 : 0 ≤ kind) (k1 : kind ≤ 255) (r0 : 0 ≤ role) (r1 : role ≤ 255) (h0 : 0 ≤ how) (h1 : how ≤ 255) (v0 : -2147483648 ≤ v) (v1 : v ≤ 2147483647) (hT : ShPl w) :
    Calls Tryd.prog 4 #[.int .u8 kind, .int .u8 role, .int .u8 how, .int .i32 v] w fun e w' => e = .returned (.bool true) ∧ Below w.heap.size w w' := by
  go_enter Tryd.func4, Tryd.ntmps4
  go_wp2_with fail
  refine (pknown_calls _ hT).mono ?_; rintro e w1 ⟨rfl, c1⟩
  have K1 := Lib.hid c1
  have hT1 := hT.below c1
  clear c1 hT
  obtain ⟨k, hk⟩ : ∃ k, k = kind % 5 := ⟨_, rfl⟩
  have ht : kind.tmod 5 = k := by rw [Int.tmod_eq_emod_of_nonneg k0, hk]
  have ht2 : kind % 5 = k := hk.symm
  have hk5 : 0 ≤ k ∧ k < 5 := by omega
  have hw1 : IntKind.u8.wrap k = k := by
    rcases (by omega : k = 0 ∨ k = 1 ∨ k = 2 ∨ k = 3 ∨ k = 4) with rfl | rfl | rfl | rfl | rfl <;> rfl
  have hw2 : IntKind.i64.wrap k = k := by
    rcases (by omega : k = 0 ∨ k = 1 ∨ k = 2 ∨ k = 3 ∨ k = 4) with rfl | rfl | rfl | rfl | rfl <;> rfl
  have HK := Lib.hid hk5
  clear hk hk5
  go_wp2_with fail
  refine (roles_calls k _).mono ?_; rintro e w2 ⟨⟨lr, rfl, hr⟩, c2⟩
  have K2 := Lib.hid (trans9 K1.out c2)
  have hT2 := hT1.below c2
  clear c2 hT1
  obtain ⟨n, hn⟩ : ∃ n, n = (rolesL k).length := ⟨_, rfl⟩
  have hk5 := HK.out
  have hn13 : n = 1 ∨ n = 3 := by
    rcases (by omega : k = 0 ∨ k = 1 ∨ k = 2 ∨ k = 3 ∨ k = 4) with rfl | rfl | rfl | rfl | rfl <;> subst hn <;> decide
  obtain ⟨j, hj⟩ : ∃ j : Nat, (j : Int) = role % n := ⟨(role % n).toNat, by rcases hn13 with rfl | rfl <;> omega⟩
  have hjn : j < n := by rcases hn13 with rfl | rfl <;> omega
  have hj2 : role.tmod n = j := by rw [Int.tmod_eq_emod_of_nonneg r0, hj]
  have hj3 : role % n = j := hj.symm
  have d1 : ((n : Int) == 0) = false := by rcases hn13 with rfl | rfl <;> rfl
  have d2 : ¬ (n : Int) = 0 := by omega
  have d3 : IntKind.i64.wrap (j : Int) = j := by
    rcases (by omega : j = 0 ∨ j = 1 ∨ j = 2) with rfl | rfl | rfl <;> rfl
  have d4 : (n == 0) = false := by rcases hn13 with rfl | rfl <;> rfl
  obtain ⟨A, cap, rfl, hlc, hcm, hrow⟩ := hr
  rw [← hn] at hlc hrow ⊢
  obtain ⟨b, off, rfl, hb, hc⟩ := hrow (by omega)
  obtain ⟨r, hg⟩ : ∃ r, (rolesL k)[j]? = some r := ⟨_, no_get (by omega)⟩
  have cr := hc j r hg
  have HKR := Lib.hid (KR.of hk5 hg)
  clear hc hg hn hrow hk5 hj
  go_upto_region 8 with fail
  have em : bits BinOp.and IntKind.i64 v 1023 = v % 1024 := i64_and1023 v
  rw [em]
  clear em
  obtain ⟨m, hm⟩ : ∃ m, m = v % 1024 := ⟨_, rfl⟩
  rw [← hm]
  have HM : Hid (0 ≤ m ∧ m ≤ 1023) := Lib.hid (by omega)
  obtain ⟨z, hz⟩ : ∃ z, z = w2.heap.size := ⟨_, rfl⟩
  have P0 : PtAt (w2.alloc (.cells #[.slice none 0 0, .int .i64 r, .bool false, .int .i64 0, .int .i64 0, .int .i64 m, .int .i64 0, .bool false, .int .i64 0] 26)) w2.heap.size (.slice none 0 0) ⟨[], r, false, 0, 0, m, 0, false, 0⟩ := PtAt.new w2 (.slice none 0 0) ⟨[], r, false, 0, 0, m, 0, false, 0⟩ _
  have kA : Below w2.heap.size w2 (w2.alloc (.cells #[.slice none 0 0, .int .i64 r, .bool false, .int .i64 0, .int .i64 0, .int .i64 m, .int .i64 0, .bool false, .int .i64 0] 26)) := kp_alloc (Below.refl _ _) _
  have hz3 : w2.heap.size ≤ z := by omega
  generalize hW3 : w2.alloc (.cells #[.slice none 0 0, .int .i64 r, .bool false, .int .i64 0, .int .i64 0, .int .i64 m, .int .i64 0, .bool false, .int .i64 0] 26) = w3 at *
  clear hW3
  rw [← hz] at P0 ⊢
  clear hz cr hb hlc hcm hn13 hjn hj2 hj3 d1 d2 d3 d4 hm v0 v1 k0 k1 r0 r1 ht ht2
  obtain ⟨y0, y1, y2, y3, y4, y5, y6, y7, y8, yf, ylt⟩ := P0
  dsimp only at y0 y1 y2 y3 y4 y5 y6 y7 y8
  go_upto_if 39 with (fail)
  have P0 : PtAt w3 z (.slice none 0 0) ⟨[], r, false, 0, 0, m, 0, false, 0⟩ := ⟨y0, y1, y2, y3, y4, y5, y6, y7, y8, yf, ylt⟩
  clear y0 y1 y2 y3 y4 y5 y6 y7 y8 yf ylt
  go_cut [11] (fun s11 wx => s11 = .pointer (some ⟨z, 0, none⟩) ∧ Below w2.heap.size w2 wx ∧ PtAt wx z (.slice none 0 0) (pnt r m))
  case first =>
    obtain ⟨p0, p1, p2, p3, p4, p5, p6, p7, p8, pf, plt⟩ := P0
    dsimp only at p0 p1 p2 p3 p4 p5 p6 p7 p8
    by_cases hr2 : r = 2
    · subst hr2
      go_wp2
      go_meet
      refine ⟨rfl, kp_set (kp_set kA hz3) hz3, ?_⟩
      refine ⟨?_, ?_, ?_, ?_, ?_, ?_, ?_, ?_, ?_, fun o => ?_, ?_⟩
      all_goals (try unfold pnt bmOf bsOf); all_goals first | (go_simp; done) | (simp; omega) | (simp [World.setCell]; done) | (simp [World.setCell]; omega)
    · have dr : (r == 2) = false := by simpa using hr2
      have eb : bmOf r = 0 := if_neg hr2
      have es : bsOf r = 0 := if_neg hr2
      go_wp2
      go_meet
      exact ⟨rfl, kA, by unfold pnt; rw [eb, es]; exact ⟨p0, p1, p2, p3, p4, p5, p6, p7, p8, pf, plt⟩⟩
  case rest =>
    obtain ⟨rfl, c3, X1⟩ := hcut
    clear P0 kA w3
    have hm2 := HM.out
    have hkr := HKR.out
    have HG := Lib.hid (pgood_calls k (.slice none 0 0) (pnt r m) wc (LbRow.nil _) (pnt_in hm2.1 hm2.2) (hT2.below c3).1 (hT2.below c3).2)
    rw [sp_z hkr hm2.1 hm2.2] at HG
    have K3 := Lib.hid (trans9 K2.out c3)
    have hT3 := hT2.below c3
    have hz4 : z < wc.heap.size := X1.lt
    clear hT2 c3
    have X2 := X1
    obtain ⟨p0, p1, p2, p3, p4, p5, p6, p7, p8, pf, plt⟩ := X2
    dsimp only at p0 p1 p2 p3 p4 p5 p6 p7 p8
    go_wp2_with fail
    refine HG.out.mono ?_; rintro e w4 ⟨rfl, c4⟩
    clear HG p0 p1 p2 p3 p4 p5 p6 p7 p8 pf plt
    have K4 := Lib.hid (trans9 K3.out c4)
    have hT4 := hT3.below c4
    have X3 := X1.below c4
    have hz5 : z < w4.heap.size := X3.lt
    clear X1 hT3 c4 hz4
    have hh : how.tmod 9 = how % 9 := Int.tmod_eq_emod_of_nonneg h0
    have hw9 : ∀ i : Int, 0 ≤ i → i < 9 → IntKind.u8.wrap i = i := fun i a b => by
      rcases (by omega : i = 0 ∨ i = 1 ∨ i = 2 ∨ i = 3 ∨ i = 4 ∨ i = 5 ∨ i = 6 ∨ i = 7 ∨ i = 8) with rfl | rfl | rfl | rfl | rfl | rfl | rfl | rfl | rfl <;> rfl
    obtain ⟨h9, e9⟩ : ∃ q, q = how % 9 := ⟨_, rfl⟩
    rw [← e9] at hh
    have e10 := e9.symm
    have hb9 : 0 ≤ h9 ∧ h9 < 9 := by omega
    have hw10 := hw9 h9 hb9.1 hb9.2
    have HB9 := Lib.hid hb9
    clear e9 hb9 hw9
    have X4 := X3
    obtain ⟨p0, p1, p2, p3, p4, p5, p6, p7, p8, pf, plt⟩ := X4
    dsimp only at p0 p1 p2 p3 p4 p5 p6 p7 p8
    have PA : PtAt (w4.alloc (.cells (ptc (.slice none 0 0) (pnt r m)) 26)) w4.heap.size (.slice none 0 0) (pnt r m) := PtAt.new w4 _ _ _
    have kA : Below w4.heap.size w4 (w4.alloc (.cells (ptc (.slice none 0 0) (pnt r m)) 26)) := kp_alloc (Below.refl _ _) _
    go_upto_region 14 with fail
    have hT5 : ShPl (w4.alloc (.cells (ptc (.slice none 0 0) (pnt r m)) 26)) := hT4.below kA
    obtain ⟨y, hy⟩ : ∃ y, y = w4.heap.size := ⟨_, rfl⟩
    have hy2 : w4.heap.size ≤ y := by omega
    have hy3 : z < y := by omega
    have X5 := X3.below kA
    generalize hW5 : w4.alloc (.cells (ptc (.slice none 0 0) (pnt r m)) 26) = w5 at *
    rw [← hy] at PA ⊢
    clear hW5 hy hT5 X3 p0 p1 p2 p3 p4 p5 p6 p7 p8 pf plt hz5
    have hkrb := hkr.bounds
    have rt : (r + 1).tmod 5 = (r + 1) % 5 := Int.tmod_eq_emod_of_nonneg (by omega)
    have rw5 : IntKind.i64.wrap (r + 1) = r + 1 := by
      rcases (by omega : r = 0 ∨ r = 1 ∨ r = 2 ∨ r = 3 ∨ r = 4) with rfl | rfl | rfl | rfl | rfl <;> rfl
    obtain ⟨r2, hr2⟩ : ∃ r2, r2 = (r + 1) % 5 := ⟨_, rfl⟩
    rw [← hr2] at rt
    have rt2 := hr2.symm
    have rw6 : IntKind.i64.wrap r2 = r2 := by
      rcases (by omega : r2 = 0 ∨ r2 = 1 ∨ r2 = 2 ∨ r2 = 3 ∨ r2 = 4) with rfl | rfl | rfl | rfl | rfl <;> rfl
    have R5 := Lib.hid hkrb
    have HI := Lib.hid (pnt_in (r := r) hm2.1 hm2.2)
    have HKRM := Lib.hid (And.intro hkr hm2)
    clear hr2 hkrb hkr hm2 hy3
    have X6 := X5
    have PA2 := PA
    obtain ⟨x0, x1, x2, x3, x4, x5, x6, x7, x8, xf, xlt⟩ := X6
    obtain ⟨p0, p1, p2, p3, p4, p5, p6, p7, p8, pf, plt⟩ := PA2
    dsimp only at x0 x1 x2 x3 x4 x5 x6 x7 x8 p0 p1 p2 p3 p4 p5 p6 p7 p8
    clear X5 PA
    go_upto_block 0 with fail
    have hb9 := HB9.out
    go_cut [13] (fun s13 wx => SpI k w4 z y s13 wx)
    case first =>
      have K5 := Lib.hid kA
      rcases (by omega : h9 = 0 ∨ h9 = 1 ∨ h9 = 2 ∨ h9 = 3 ∨ h9 = 4 ∨ h9 = 5 ∨ h9 = 6 ∨ h9 = 7 ∨ h9 = 8) with rfl | rfl | rfl | rfl | rfl | rfl | rfl | rfl | rfl
      · go_upto_region 18 with fail
        obtain ⟨W6, hW6⟩ : ∃ W6 : World, W6 = (w5.setCell ⟨y, 1, none⟩ (.int .i64 r2)) := ⟨_, rfl⟩
        rw [← hW6]
        have k6 : Below w4.heap.size w4 W6 := by
          rw [hW6]
          (repeat' first | assumption | exact K5.out | exact Below.refl _ _ | apply kp_set | apply kp_alloc)
        have P6 : PtAt W6 y (.slice none 0 0) ⟨[], r2, false, bmOf r, bsOf r, m, 0, false, 0⟩ := by
          rw [hW6]
          refine ⟨?_, ?_, ?_, ?_, ?_, ?_, ?_, ?_, ?_, fun o => ?_, ?_⟩
          all_goals first | (go_simp; done) | (simp; omega) | (simp [World.setCell]; done) | (simp [World.setCell]; omega)
        have hLY := LbRow.nil W6
        have I6 : PtIn ⟨[], r2, false, bmOf r, bsOf r, m, 0, false, 0⟩ := ⟨HI.out.bm1, HI.out.bm2, HI.out.m1, HI.out.m2, HI.out.t1, HI.out.t2, HI.out.fit⟩
        have HC := Lib.hid (rpoint_calls k (.slice none 0 0) ⟨[], r2, false, bmOf r, bsOf r, m, 0, false, 0⟩ W6 (LbRow.nil _) I6)
        have T6 : ShPl W6 := hT4.below k6
        clear hW6 x0 x1 x2 x3 x4 x5 x6 x7 x8 xf xlt p0 p1 p2 p3 p4 p5 p6 p7 p8 pf plt rt rt2 rw5 rw6
        have P7 := P6
        obtain ⟨p0, p1, p2, p3, p4, p5, p6, p7, p8, pf, plt⟩ := P7
        dsimp only at p0 p1 p2 p3 p4 p5 p6 p7 p8
        go_wp2_with fail
        refine HC.out.mono ?_; rintro e w7 ⟨rfl, c7⟩
        go_wp2_with fail
        go_meet
        exact ⟨_, _, P6.below c7, LbRow.nil _, I6, rfl, trans9 k6 c7, T6.below c7⟩
      · clear rt rt2 rw5 rw6
        go_wp2_with fail
        go_meet
        obtain ⟨W6, hW6⟩ : ∃ W6 : World, W6 = ((w5.setCell ⟨y, 0, none⟩ (.slice (some ⟨w5.heap.size, 0, none⟩) 1 1)).alloc (.cells #[.string ⟨#[108, 101]⟩, .string ⟨#[]⟩] 30)) := ⟨_, rfl⟩
        rw [← hW6]
        have k6 : Below w4.heap.size w4 W6 := by
          rw [hW6]
          (repeat' first | assumption | exact K5.out | exact Below.refl _ _ | apply kp_set | apply kp_alloc)
        have q1 : y ≠ w5.heap.size := by omega
        have q2 : w5.heap.size ≠ y := by omega
        have P6 : PtAt W6 y (.slice (some ⟨w5.heap.size, 0, none⟩) 1 1) ⟨[(leB, [])], r, false, bmOf r, bsOf r, m, 0, false, 0⟩ := by
          rw [hW6]
          refine ⟨?_, ?_, ?_, ?_, ?_, ?_, ?_, ?_, ?_, fun o => ?_, ?_⟩
          all_goals first | (go_simp; done) | (simp; omega) | (simp [World.setCell]; done) | (simp [World.setCell]; omega)
        have hLY : LbRow W6 (.slice (some ⟨w5.heap.size, 0, none⟩) 1 1) [(leB, [])] := by
          refine ⟨_, 1, rfl, Nat.le_refl _, by unfold maxLen; omega, (by rintro ⟨⟩), fun _ => ⟨w5.heap.size, 0, rfl, by rw [hW6]; simp [World.setCell], fun i p hp => ?_⟩⟩
          match i, hp with
          | 0, hp =>
            obtain rfl : (leB, []) = p := by simpa using hp
            rw [hW6]
            constructor <;> go_simp <;> rfl
        have I6 : PtIn ⟨[(leB, [])], r, false, bmOf r, bsOf r, m, 0, false, 0⟩ := ⟨HI.out.bm1, HI.out.bm2, HI.out.m1, HI.out.m2, HI.out.t1, HI.out.t2, fit_lb (by decide)⟩
        exact ⟨_, _, P6, hLY, I6, by rw [sp_1 HKRM.out.1 HKRM.out.2.1 HKRM.out.2.2], k6, hT4.below k6⟩
      · clear rt rt2 rw5 rw6
        go_wp2_with fail
        go_meet
        obtain ⟨W6, hW6⟩ : ∃ W6 : World, W6 = ((w5.setCell ⟨y, 0, none⟩ (.slice (some ⟨w5.heap.size, 0, none⟩) 1 1)).alloc (.cells #[.string ⟨#[113, 117, 97, 110, 116, 105, 108, 101]⟩, .string ⟨#[]⟩] 30)) := ⟨_, rfl⟩
        rw [← hW6]
        have k6 : Below w4.heap.size w4 W6 := by
          rw [hW6]
          (repeat' first | assumption | exact K5.out | exact Below.refl _ _ | apply kp_set | apply kp_alloc)
        have q1 : y ≠ w5.heap.size := by omega
        have q2 : w5.heap.size ≠ y := by omega
        have P6 : PtAt W6 y (.slice (some ⟨w5.heap.size, 0, none⟩) 1 1) ⟨[(quB, [])], r, false, bmOf r, bsOf r, m, 0, false, 0⟩ := by
          rw [hW6]
          refine ⟨?_, ?_, ?_, ?_, ?_, ?_, ?_, ?_, ?_, fun o => ?_, ?_⟩
          all_goals first | (go_simp; done) | (simp; omega) | (simp [World.setCell]; done) | (simp [World.setCell]; omega)
        have hLY : LbRow W6 (.slice (some ⟨w5.heap.size, 0, none⟩) 1 1) [(quB, [])] := by
          refine ⟨_, 1, rfl, Nat.le_refl _, by unfold maxLen; omega, (by rintro ⟨⟩), fun _ => ⟨w5.heap.size, 0, rfl, by rw [hW6]; simp [World.setCell], fun i p hp => ?_⟩⟩
          match i, hp with
          | 0, hp =>
            obtain rfl : (quB, []) = p := by simpa using hp
            rw [hW6]
            constructor <;> go_simp <;> rfl
        have I6 : PtIn ⟨[(quB, [])], r, false, bmOf r, bsOf r, m, 0, false, 0⟩ := ⟨HI.out.bm1, HI.out.bm2, HI.out.m1, HI.out.m2, HI.out.t1, HI.out.t2, fit_lb (by decide)⟩
        exact ⟨_, _, P6, hLY, I6, by rw [sp_2 HKRM.out.1 HKRM.out.2.1 HKRM.out.2.2], k6, hT4.below k6⟩
      · clear rt rt2 rw5 rw6
        go_wp2_with fail
        go_meet
        obtain ⟨W6, hW6⟩ : ∃ W6 : World, W6 = ((w5.setCell ⟨y, 3, none⟩ (.int .i64 2)).setCell ⟨y, 4, none⟩ (.int .i64 0)) := ⟨_, rfl⟩
        rw [← hW6]
        have k6 : Below w4.heap.size w4 W6 := by
          rw [hW6]
          (repeat' first | assumption | exact K5.out | exact Below.refl _ _ | apply kp_set | apply kp_alloc)
        have P6 : PtAt W6 y (.slice none 0 0) ⟨[], r, false, 2, 0, m, 0, false, 0⟩ := by
          rw [hW6]
          refine ⟨?_, ?_, ?_, ?_, ?_, ?_, ?_, ?_, ?_, fun o => ?_, ?_⟩
          all_goals first | (go_simp; done) | (simp; omega) | (simp [World.setCell]; done) | (simp [World.setCell]; omega)
        have hLY := LbRow.nil W6
        have I6 : PtIn ⟨[], r, false, 2, 0, m, 0, false, 0⟩ := ⟨by show (-9223372036854775808 : Int) ≤ 2; decide, by show (2 : Int) ≤ 9223372036854775807; decide, HI.out.m1, HI.out.m2, HI.out.t1, HI.out.t2, HI.out.fit⟩
        exact ⟨_, _, P6, hLY, I6, by rw [sp_3 HKRM.out.1 HKRM.out.2.1 HKRM.out.2.2], k6, hT4.below k6⟩
      · clear rt rt2 rw5 rw6
        go_wp2_with fail
        go_meet
        obtain ⟨W6, hW6⟩ : ∃ W6 : World, W6 = (w5.setCell ⟨y, 2, none⟩ (.bool true)) := ⟨_, rfl⟩
        rw [← hW6]
        have k6 : Below w4.heap.size w4 W6 := by
          rw [hW6]
          (repeat' first | assumption | exact K5.out | exact Below.refl _ _ | apply kp_set | apply kp_alloc)
        have P6 : PtAt W6 y (.slice none 0 0) ⟨[], r, true, bmOf r, bsOf r, m, 0, false, 0⟩ := by
          rw [hW6]
          refine ⟨?_, ?_, ?_, ?_, ?_, ?_, ?_, ?_, ?_, fun o => ?_, ?_⟩
          all_goals first | (go_simp; done) | (simp; omega) | (simp [World.setCell]; done) | (simp [World.setCell]; omega)
        have hLY := LbRow.nil W6
        have I6 : PtIn ⟨[], r, true, bmOf r, bsOf r, m, 0, false, 0⟩ := ⟨HI.out.bm1, HI.out.bm2, HI.out.m1, HI.out.m2, HI.out.t1, HI.out.t2, HI.out.fit⟩
        exact ⟨_, _, P6, hLY, I6, by rw [sp_4 HKRM.out.1 HKRM.out.2.1 HKRM.out.2.2], k6, hT4.below k6⟩
      · clear rt rt2 rw5 rw6
        go_wp2_with fail
        go_meet
        obtain ⟨W6, hW6⟩ : ∃ W6 : World, W6 = (w5.setCell ⟨y, 8, none⟩ (.int .i64 1)) := ⟨_, rfl⟩
        rw [← hW6]
        have k6 : Below w4.heap.size w4 W6 := by
          rw [hW6]
          (repeat' first | assumption | exact K5.out | exact Below.refl _ _ | apply kp_set | apply kp_alloc)
        have P6 : PtAt W6 y (.slice none 0 0) ⟨[], r, false, bmOf r, bsOf r, m, 0, false, 1⟩ := by
          rw [hW6]
          refine ⟨?_, ?_, ?_, ?_, ?_, ?_, ?_, ?_, ?_, fun o => ?_, ?_⟩
          all_goals first | (go_simp; done) | (simp; omega) | (simp [World.setCell]; done) | (simp [World.setCell]; omega)
        have hLY := LbRow.nil W6
        have I6 : PtIn ⟨[], r, false, bmOf r, bsOf r, m, 0, false, 1⟩ := ⟨HI.out.bm1, HI.out.bm2, HI.out.m1, HI.out.m2, by show (-9223372036854775808 : Int) ≤ 1; decide, by show (1 : Int) ≤ 9223372036854775807; decide, HI.out.fit⟩
        exact ⟨_, _, P6, hLY, I6, by rw [sp_5 HKRM.out.1 HKRM.out.2.1 HKRM.out.2.2], k6, hT4.below k6⟩
      · clear rt rt2 rw5 rw6
        go_wp2_with fail
        go_meet
        obtain ⟨W6, hW6⟩ : ∃ W6 : World, W6 = ((w5.setCell ⟨y, 7, none⟩ (.bool true)).setCell ⟨y, 8, none⟩ (.int .i64 1125899906842625)) := ⟨_, rfl⟩
        rw [← hW6]
        have k6 : Below w4.heap.size w4 W6 := by
          rw [hW6]
          (repeat' first | assumption | exact K5.out | exact Below.refl _ _ | apply kp_set | apply kp_alloc)
        have P6 : PtAt W6 y (.slice none 0 0) ⟨[], r, false, bmOf r, bsOf r, m, 0, true, 1125899906842625⟩ := by
          rw [hW6]
          refine ⟨?_, ?_, ?_, ?_, ?_, ?_, ?_, ?_, ?_, fun o => ?_, ?_⟩
          all_goals first | (go_simp; done) | (simp; omega) | (simp [World.setCell]; done) | (simp [World.setCell]; omega)
        have hLY := LbRow.nil W6
        have I6 : PtIn ⟨[], r, false, bmOf r, bsOf r, m, 0, true, 1125899906842625⟩ := ⟨HI.out.bm1, HI.out.bm2, HI.out.m1, HI.out.m2, by show (-9223372036854775808 : Int) ≤ 1125899906842625; decide, by show (1125899906842625 : Int) ≤ 9223372036854775807; decide, HI.out.fit⟩
        exact ⟨_, _, P6, hLY, I6, by rw [sp_6 HKRM.out.1 HKRM.out.2.1 HKRM.out.2.2], k6, hT4.below k6⟩
      · clear rt rt2 rw5 rw6
        by_cases q1 : k = 2
        · have d1 : (k == 2) = true := by simpa using q1
          have d2 : (k != 2) = false := by simpa using q1
          clear q1
          go_wp2_with fail
          go_meet
          obtain ⟨W6, hW6⟩ : ∃ W6 : World, W6 = ((w5.setCell ⟨y, 5, none⟩ (.int .i64 (-1))).setCell ⟨y, 6, none⟩ (.int .i64 0)) := ⟨_, rfl⟩
          rw [← hW6]
          have k6 : Below w4.heap.size w4 W6 := by
            rw [hW6]
            (repeat' first | assumption | exact K5.out | exact Below.refl _ _ | apply kp_set | apply kp_alloc)
          have P6 : PtAt W6 y (.slice none 0 0) ⟨[], r, false, bmOf r, bsOf r, -1, 0, false, 0⟩ := by
            rw [hW6]
            refine ⟨?_, ?_, ?_, ?_, ?_, ?_, ?_, ?_, ?_, fun o => ?_, ?_⟩
            all_goals first | (go_simp; done) | (simp; omega) | (simp [World.setCell]; done) | (simp [World.setCell]; omega)
          have hLY := LbRow.nil W6
          have I6 : PtIn ⟨[], r, false, bmOf r, bsOf r, -1, 0, false, 0⟩ := ⟨HI.out.bm1, HI.out.bm2, by show (-9223372036854775808 : Int) ≤ -1; decide, by show (-1 : Int) ≤ 9223372036854775807; decide, HI.out.t1, HI.out.t2, HI.out.fit⟩
          exact ⟨_, _, P6, hLY, I6, by rw [sp_7 HKRM.out.1 HKRM.out.2.1 HKRM.out.2.2]; simp only [d2, Bool.false_and], k6, hT4.below k6⟩
        have d1 : (k == 2) = false := by simpa using q1
        have d2 : (k != 2) = true := by simpa using q1
        clear q1
        by_cases q1 : r = 1
        · have d3 : (r == 1) = true := by simpa using q1
          have d4 : (r != 1) = false := by simpa using q1
          clear q1
          go_wp2_with fail
          go_meet
          obtain ⟨W6, hW6⟩ : ∃ W6 : World, W6 = ((w5.setCell ⟨y, 5, none⟩ (.int .i64 (-1))).setCell ⟨y, 6, none⟩ (.int .i64 0)) := ⟨_, rfl⟩
          rw [← hW6]
          have k6 : Below w4.heap.size w4 W6 := by
            rw [hW6]
            (repeat' first | assumption | exact K5.out | exact Below.refl _ _ | apply kp_set | apply kp_alloc)
          have P6 : PtAt W6 y (.slice none 0 0) ⟨[], r, false, bmOf r, bsOf r, -1, 0, false, 0⟩ := by
            rw [hW6]
            refine ⟨?_, ?_, ?_, ?_, ?_, ?_, ?_, ?_, ?_, fun o => ?_, ?_⟩
            all_goals first | (go_simp; done) | (simp; omega) | (simp [World.setCell]; done) | (simp [World.setCell]; omega)
          have hLY := LbRow.nil W6
          have I6 : PtIn ⟨[], r, false, bmOf r, bsOf r, -1, 0, false, 0⟩ := ⟨HI.out.bm1, HI.out.bm2, by show (-9223372036854775808 : Int) ≤ -1; decide, by show (-1 : Int) ≤ 9223372036854775807; decide, HI.out.t1, HI.out.t2, HI.out.fit⟩
          exact ⟨_, _, P6, hLY, I6, by rw [sp_7 HKRM.out.1 HKRM.out.2.1 HKRM.out.2.2]; simp only [d2, d4, Bool.false_and, Bool.and_false], k6, hT4.below k6⟩
        have d3 : (r == 1) = false := by simpa using q1
        have d4 : (r != 1) = true := by simpa using q1
        clear q1
        go_wp2_with fail
        go_meet
        obtain ⟨W6, hW6⟩ : ∃ W6 : World, W6 = ((w5.setCell ⟨y, 5, none⟩ (.int .i64 (-1))).setCell ⟨y, 6, none⟩ (.int .i64 0)) := ⟨_, rfl⟩
        rw [← hW6]
        have k6 : Below w4.heap.size w4 W6 := by
          rw [hW6]
          (repeat' first | assumption | exact K5.out | exact Below.refl _ _ | apply kp_set | apply kp_alloc)
        have P6 : PtAt W6 y (.slice none 0 0) ⟨[], r, false, bmOf r, bsOf r, -1, 0, false, 0⟩ := by
          rw [hW6]
          refine ⟨?_, ?_, ?_, ?_, ?_, ?_, ?_, ?_, ?_, fun o => ?_, ?_⟩
          all_goals first | (go_simp; done) | (simp; omega) | (simp [World.setCell]; done) | (simp [World.setCell]; omega)
        have hLY := LbRow.nil W6
        have I6 : PtIn ⟨[], r, false, bmOf r, bsOf r, -1, 0, false, 0⟩ := ⟨HI.out.bm1, HI.out.bm2, by show (-9223372036854775808 : Int) ≤ -1; decide, by show (-1 : Int) ≤ 9223372036854775807; decide, HI.out.t1, HI.out.t2, HI.out.fit⟩
        exact ⟨_, _, P6, hLY, I6, by rw [sp_7 HKRM.out.1 HKRM.out.2.1 HKRM.out.2.2]; simp only [d2, d4, Bool.true_and], k6, hT4.below k6⟩
      · clear rt rt2 rw5 rw6
        go_wp2_with fail
        go_meet
        obtain ⟨W6, hW6⟩ : ∃ W6 : World, W6 = ((w5.setCell ⟨y, 5, none⟩ (.int .i64 10)).setCell ⟨y, 6, none⟩ (.int .i64 1)) := ⟨_, rfl⟩
        rw [← hW6]
        have k6 : Below w4.heap.size w4 W6 := by
          rw [hW6]
          (repeat' first | assumption | exact K5.out | exact Below.refl _ _ | apply kp_set | apply kp_alloc)
        have P6 : PtAt W6 y (.slice none 0 0) ⟨[], r, false, bmOf r, bsOf r, 10, 1, false, 0⟩ := by
          rw [hW6]
          refine ⟨?_, ?_, ?_, ?_, ?_, ?_, ?_, ?_, ?_, fun o => ?_, ?_⟩
          all_goals first | (go_simp; done) | (simp; omega) | (simp [World.setCell]; done) | (simp [World.setCell]; omega)
        have hLY := LbRow.nil W6
        have I6 : PtIn ⟨[], r, false, bmOf r, bsOf r, 10, 1, false, 0⟩ := ⟨HI.out.bm1, HI.out.bm2, by show (-9223372036854775808 : Int) ≤ 10; decide, by show (10 : Int) ≤ 9223372036854775807; decide, HI.out.t1, HI.out.t2, HI.out.fit⟩
        exact ⟨_, _, P6, hLY, I6, by rw [sp_8 HKRM.out.1 HKRM.out.2.1 HKRM.out.2.2], k6, hT4.below k6⟩
    case rest =>
      obtain ⟨lv, q, hp6, hr6, hi6, rfl, k6, T6⟩ := hcut
      have K6 := Lib.hid (trans9 K4.out k6)
      have HG := Lib.hid (pgood_calls k lv q wc hr6 hi6 T6.1 T6.2)
      obtain ⟨tb, htb⟩ : ∃ tb, tb = ptOk k q := ⟨_, rfl⟩
      rw [← htb] at HG ⊢
      clear htb x0 x1 x2 x3 x4 x5 x6 x7 x8 xf xlt p0 p1 p2 p3 p4 p5 p6 p7 p8 pf plt rt rt2 rw5 rw6
      obtain ⟨p0, p1, p2, p3, p4, p5, p6, p7, p8, pf, plt⟩ := hp6
      go_wp2_with fail
      refine HG.out.mono ?_; rintro e w7 ⟨rfl, c7⟩
      cases tb
      all_goals
        go_wp2
        go_ret
        exact ⟨rfl, trans9 K6.out c7⟩

end Go.Proofs.YtefgedflinoojaaDoor
