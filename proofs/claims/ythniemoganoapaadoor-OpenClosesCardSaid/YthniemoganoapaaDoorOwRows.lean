/- The rows of a text of the open format stand where they say (layer 17). -/
import Derived.Test.YthniemoganoapaaDoorOwDfaC
set_option linter.unusedVariables false
set_option linter.unusedSimpArgs false
set_option maxRecDepth 100000
namespace Go.Proofs.YthniemoganoapaaDoor
namespace Ow
open Utf

/-- t stands in s at a byte -/
def Std (s : List UInt8) (a : Nat) (t : List UInt8) : Prop := a ≤ s.length ∧ t <+: s.drop a
def tagsEnd : Nat → List Tg → Nat
  | a, [] => a
  | _, t :: l => tagsEnd t.at_ l
def TagOk (s : List UInt8) (a : Nat) (t : Tg) : Prop := a < t.off ∧ Std s t.off t.n ∧ Std s (t.off + t.n.length) [61, 34] ∧ t.at_ = t.off + t.n.length + 2
def TagsOk (s : List UInt8) : Nat → List Tg → Prop
  | _, [] => True
  | a, t :: l => TagOk s a t ∧ TagsOk s t.at_ l
structure RowOk (s : List UInt8) (a : Nat) (x : Rw) : Prop where
  off : a ≤ x.off
  nm : Std s x.off x.n
  at1 : x.off + x.n.length ≤ x.at_
  tx : x.k ≠ 3 → Std s x.at_ x.text
  tg : TagsOk s (x.off + x.n.length) x.tags
  te : tagsEnd (x.off + x.n.length) x.tags < x.at_
  t1 : x.td = true → x.at_ < x.wh ∧ Std s (x.wh - 1) (32 :: x.tm ++ [10])
  t0 : x.td = false → x.wh = 0 ∧ x.tm = []
def rowsEnd : Nat → List Rw → Nat
  | a, [] => a
  | _, x :: l => rowsEnd (max x.at_ x.wh) l
def RowsOk (s : List UInt8) : Nat → List Rw → Prop
  | _, [] => True
  | a, x :: l => RowOk s a x ∧ RowsOk s (max x.at_ x.wh) l

theorem suf_drop {l s : List UInt8} (h : l <:+ s) : s.drop (s.length - l.length) = l := by
  obtain ⟨t, rfl⟩ := h
  rw [List.length_append, Nat.add_sub_cancel]; exact List.drop_left
theorem std_suf {l s v r : List UInt8} (h : l <:+ s) (e : l = v ++ r) : Std s (s.length - l.length) v := by
  refine ⟨Nat.sub_le _ _, ?_⟩
  rw [suf_drop h, e]; exact List.prefix_append _ _
theorem lit_ok : ∀ {t l r : List UInt8} {u : Unit}, lit t l = .ok u r → l = t ++ r
  | [], l, r, u, h => by
    rw [show lit [] l = .ok () l from rfl] at h
    injection h
  | c :: t, [], r, u, h => by cases h
  | c :: t, d :: l, r, u, h => by
    rw [show lit (c :: t) (d :: l) = if d = c then lit t l else .fell (d :: l) from rfl] at h
    split at h
    · rename_i e
      rw [lit_ok h, e]; rfl
    · cases h
theorem num_ok {l v r : List UInt8} (h : num false l = .ok v r) : l = v ++ r := by
  have hs := ok_suf (suf_num false l) h
  have hv : v = l.take (l.length - r.length) := by
    unfold num at h
    cases e : run 0 [] false (if l.head? = some 45 then l.tail else l) with
    | fell r1 => rw [e] at h; cases h
    | ok v1 r1 =>
      rw [e] at h
      simp only [Out.bind] at h
      split at h
      · cases e2 : run 0 [] false r1.tail with
        | fell r2 => rw [e2] at h; cases h
        | ok v2 r2 => rw [e2] at h; injection h with h1 h2; rw [← h1, h2]
      · injection h with h1 h2; rw [← h1, h2]
  obtain ⟨t, ht⟩ := hs
  subst ht
  rw [hv, List.length_append, Nat.add_sub_cancel, List.take_left]
theorem bind_ok {α β : Type} {o : Out α} {f : α → List UInt8 → Out β} {b : β} {r : List UInt8} (h : o.bind f = .ok b r) : ∃ v r1, o = .ok v r1 ∧ f v r1 = .ok b r := by
  cases o with
  | fell r1 => cases h
  | ok v r1 => exact ⟨v, r1, rfl, h⟩
theorem map_ok {α β : Type} {o : Out α} {f : α → β} {b : β} {r : List UInt8} (h : o.map f = .ok b r) : ∃ v, o = .ok v r ∧ b = f v := by
  cases o with
  | fell r1 => cases h
  | ok v r1 => injection h with h1 h2; exact ⟨v, by rw [h2], h1.symm⟩
theorem len_suf {l s : List UInt8} (h : l <:+ s) : l.length ≤ s.length := h.length_le

theorem tag1_ok {s l r : List UInt8} {t : Tg} {a : Nat} (hl : l <:+ s) (ha : a < s.length - l.length) (h : tag1 s.length l = .ok t r) : TagOk s a t ∧ t.at_ < s.length - r.length ∧ r <:+ s := by
  unfold tag1 at h
  obtain ⟨nm, r1, h1, h⟩ := bind_ok h
  obtain ⟨u, r2, h2, h⟩ := bind_ok h
  obtain ⟨v, r3, h3, h⟩ := bind_ok h
  obtain ⟨u', r4, h4, h⟩ := bind_ok h
  injection h with ht hr
  subst ht; subst hr
  obtain ⟨e1, _, _, _⟩ := run_ok h1
  have e2 := lit_ok h2
  have s3 := ok_suf (suf_str (by decide) _ _ (Nat.le_refl _)) h3
  have e4 := lit_ok h4
  have hs1 : r1 <:+ s := (ok_suf (suf_run ..) h1).trans hl
  have hs2 : r2 <:+ s := (ok_suf (suf_lit ..) h2).trans hs1
  have hs3 : r3 <:+ s := s3.trans hs2
  have hs4 : r4 <:+ s := (ok_suf (suf_lit ..) h4).trans hs3
  have n1 := congrArg List.length e1
  have n2 := congrArg List.length e2
  have n4 := congrArg List.length e4
  have n3 := len_suf s3
  have n0 := len_suf hl
  simp only [List.length_append, List.length_cons, List.length_nil] at n1 n2 n4
  refine ⟨⟨ha, std_suf hl e1, ?_, ?_⟩, ?_, hs4⟩
  · show Std s (s.length - l.length + nm.length) [61, 34]
    rw [show s.length - l.length + nm.length = s.length - r1.length by omega]
    exact std_suf hs1 e2
  · show s.length - r2.length = s.length - l.length + nm.length + 2
    omega
  · show s.length - r2.length < s.length - r4.length
    have := len_suf hs4
    omega
theorem head_some {c : UInt8} {l : List UInt8} (h : l.head? = some c) : l = c :: l.tail := by
  cases l with
  | nil => cases h
  | cons d l => obtain rfl : d = c := by simpa using h
                rfl
theorem tags_ok (s : List UInt8) : ∀ (f : Nat) (l r : List UInt8) (L : List Tg) (a : Nat), l <:+ s → a < s.length - l.length → tagsF f s.length l = .ok L r → TagsOk s a L ∧ tagsEnd a L < s.length - r.length ∧ r <:+ s
  | 0, l, r, L, a, hl, ha, h => by cases h
  | f + 1, l, r, L, a, hl, ha, h => by
    unfold tagsF at h
    obtain ⟨t, r1, h1, h⟩ := bind_ok h
    obtain ⟨k1, k2, k3⟩ := tag1_ok hl ha h1
    split at h
    · rename_i hc
      obtain ⟨L', h2, rfl⟩ := map_ok h
      have e := head_some hc
      have n := congrArg List.length e
      rw [List.length_cons] at n
      have n1 := len_suf k3
      obtain ⟨m1, m2, m3⟩ := tags_ok s f r1.tail r L' t.at_ ((List.tail_suffix _).trans k3) (by omega) h2
      exact ⟨⟨k1, m1⟩, m2, m3⟩
    · obtain ⟨u, r2, h2, h⟩ := bind_ok h
      injection h with h3 h4
      subst h3; subst h4
      have e := lit_ok h2
      have n := congrArg List.length e
      simp only [List.length_append, List.length_cons, List.length_nil] at n
      have n1 := len_suf k3
      exact ⟨⟨k1, trivial⟩, by show t.at_ < _; omega, (ok_suf (suf_lit ..) h2).trans k3⟩
theorem std_snoc {s l v r : List UInt8} (hl : l <:+ s) (e : l = 32 :: (v ++ 10 :: r)) : Std s (s.length - l.tail.length - 1) (32 :: v ++ [10]) := by
  have n := congrArg List.length e
  rw [List.length_cons] at n
  have hn := len_suf hl
  have e2 : s.length - l.tail.length - 1 = s.length - l.length := by rw [List.length_tail]; omega
  rw [e2]
  exact std_suf (r := r) hl (by rw [e]; simp)
theorem sample_ok {s l r r' : List UInt8} {x : Rw} {a : Nat} (hl : l <:+ s) (ha : a ≤ s.length - l.length) (h : sample s.length l = .ok x r) (hr : r = 10 :: r') : RowOk s a x ∧ x.at_ ≤ s.length - r.length ∧ x.wh ≤ s.length - r.length ∧ r <:+ s := by
  unfold sample at h
  obtain ⟨nm, r1, h1, h⟩ := bind_ok h
  obtain ⟨tg, r2, h2, h⟩ := bind_ok h
  obtain ⟨u, r3, h3, h⟩ := bind_ok h
  obtain ⟨tx, r4, h4, h⟩ := bind_ok h
  obtain ⟨e1, _, _, _⟩ := run_ok h1
  have hs1 : r1 <:+ s := (ok_suf (suf_run ..) h1).trans hl
  have n1 := congrArg List.length e1
  rw [List.length_append] at n1
  have n0 := len_suf hl
  have hp : s.length - l.length + nm.length = s.length - r1.length := by omega
  have hT : TagsOk s (s.length - r1.length) tg ∧ tagsEnd (s.length - r1.length) tg ≤ s.length - r2.length ∧ r2 <:+ s := by
    split at h2
    · rename_i hb
      have eb := head_some hb
      have nb := congrArg List.length eb
      rw [List.length_cons] at nb
      split at h2
      · rename_i hc
        have ec := head_some hc
        have nc := congrArg List.length ec
        rw [List.length_cons] at nc
        injection h2 with h5 h6
        subst h5; subst h6
        refine ⟨trivial, ?_, ((List.tail_suffix _).trans (List.tail_suffix _)).trans hs1⟩
        show s.length - r1.length ≤ _
        omega
      · unfold tags at h2
        have n2 := len_suf hs1
        obtain ⟨m1, m2, m3⟩ := tags_ok s _ r1.tail r2 tg (s.length - r1.length) ((List.tail_suffix _).trans hs1) (by omega) h2
        exact ⟨m1, by omega, m3⟩
    · injection h2 with h5 h6
      subst h5; subst h6
      exact ⟨trivial, Nat.le_refl _, hs1⟩
  obtain ⟨t1, t2, hs2⟩ := hT
  have e3 := lit_ok h3
  have n3 := congrArg List.length e3
  simp only [List.length_append, List.length_cons, List.length_nil] at n3
  have hs3 : r3 <:+ s := (ok_suf (suf_lit ..) h3).trans hs2
  have m2 := len_suf hs2
  have e4 := num_ok h4
  have hs4 : r4 <:+ s := (ok_suf (suf_num ..) h4).trans hs3
  have n4 := congrArg List.length e4
  rw [List.length_append] at n4
  have m3 := len_suf hs3
  have hr12 : r2.length ≤ r1.length := by
    split at h2
    · split at h2
      · injection h2 with _ h6; subst h6; simp only [List.length_tail]; omega
      · exact Nat.le_trans (len_suf (ok_suf (suf_tagsF ..) h2)) (by simp only [List.length_tail]; omega)
    · injection h2 with _ h6; subst h6; exact Nat.le_refl _
  split at h
  · rename_i hq
    obtain ⟨tm, r5, h5, h⟩ := bind_ok h
    injection h with h6 h7
    subst h6; subst h7
    have eq := head_some hq
    have nq := congrArg List.length eq
    rw [List.length_cons] at nq
    have e5 := num_ok h5
    have n5 := congrArg List.length e5
    rw [List.length_append] at n5
    have hs5 : r5 <:+ s := ((ok_suf (suf_num ..) h5).trans (List.tail_suffix _)).trans hs4
    have m5 := len_suf hs5
    have hst := std_snoc (v := tm) (r := r') hs4 (by rw [← hr, ← e5]; exact eq)
    refine ⟨⟨ha, std_suf hl e1, ?_, fun _ => std_suf hs3 e4, ?_, ?_, fun _ => ⟨?_, hst⟩, (by rintro ⟨⟩)⟩, ?_, ?_, hs5⟩
    · show s.length - l.length + nm.length ≤ s.length - r3.length; omega
    · show TagsOk s (s.length - l.length + nm.length) tg; rw [hp]; exact t1
    · show tagsEnd (s.length - l.length + nm.length) tg < s.length - r3.length; rw [hp]; omega
    · show s.length - r3.length < s.length - r4.tail.length; omega
    · show s.length - r3.length ≤ s.length - r5.length; omega
    · show s.length - r4.tail.length ≤ s.length - r5.length; omega
  · injection h with h6 h7
    subst h6; subst h7
    refine ⟨⟨ha, std_suf hl e1, ?_, fun _ => std_suf hs3 e4, ?_, ?_, (by rintro ⟨⟩), fun _ => ⟨rfl, rfl⟩⟩, ?_, Nat.zero_le _, hs4⟩
    · show s.length - l.length + nm.length ≤ s.length - r3.length; omega
    · show TagsOk s (s.length - l.length + nm.length) tg; rw [hp]; exact t1
    · show tagsEnd (s.length - l.length + nm.length) tg < s.length - r3.length; rw [hp]; omega
    · show s.length - r3.length ≤ s.length - r4.length; omega
theorem head_ok {k : Int} (hk : k = 1 ∨ k = 2 ∨ k = 3) {s l r : List UInt8} {o : Option Rw} {a : Nat} (hl : l <:+ s) (ha : a ≤ s.length - l.length) (h : head k s.length l = .ok o r) : ∃ x, o = some x ∧ RowOk s a x ∧ x.at_ ≤ s.length - r.length ∧ x.wh ≤ s.length - r.length ∧ r <:+ s := by
  unfold head at h
  obtain ⟨nm, r1, h1, h⟩ := bind_ok h
  obtain ⟨u, r2, h2, h⟩ := bind_ok h
  obtain ⟨tx, r3, h3, h⟩ := bind_ok h
  injection h with h4 h5
  subst h4; subst h5
  obtain ⟨e1, _, _, _⟩ := run_ok h1
  have hs1 : r1 <:+ s := (ok_suf (suf_run ..) h1).trans hl
  have e2 := lit_ok h2
  have hs2 : r2 <:+ s := (ok_suf (suf_lit ..) h2).trans hs1
  have hs3 : r3 <:+ s := (ok_suf (suf_text ..) h3).trans hs2
  have n0 := len_suf hl
  have n1 := congrArg List.length e1
  have n2 := congrArg List.length e2
  have n3 := len_suf (ok_suf (suf_text ..) h3)
  simp only [List.length_append, List.length_cons, List.length_nil] at n1 n2
  have m2 := len_suf hs2
  refine ⟨_, rfl, ⟨ha, std_suf hl e1, ?_, fun h3k => ?_, trivial, ?_, (by rintro ⟨⟩), fun _ => ⟨rfl, rfl⟩⟩, ?_, Nat.zero_le _, hs3⟩
  · show s.length - l.length + nm.length ≤ s.length - r2.length; omega
  · have hk3 : k ≠ 3 := h3k
    have e3 : r2 = tx ++ r3 := by
      unfold text at h3
      rcases hk with rfl | rfl | rfl
      · exact (run_ok h3).1
      · exact (run_ok h3).1
      · exact absurd rfl hk3
    exact std_suf hs2 e3
  · show s.length - l.length + nm.length < s.length - r2.length; omega
  · show s.length - r2.length ≤ s.length - r3.length; omega
theorem line_ok {s l r r' : List UInt8} {x : Rw} {a : Nat} (hl : l <:+ s) (ha : a ≤ s.length - l.length) (h : line s.length l = .ok (some x) r) (hr : r = 10 :: r') : RowOk s a x ∧ x.at_ ≤ s.length - r.length ∧ x.wh ≤ s.length - r.length ∧ r <:+ s := by
  unfold line at h
  split at h
  · obtain ⟨u, r1, h1, h⟩ := bind_ok h
    have hs1 : r1 <:+ s := (ok_suf (suf_lit ..) h1).trans hl
    have n1 := len_suf (ok_suf (suf_lit ..) h1)
    cases r1 with
    | nil => cases h
    | cons c r1 =>
      rw [told_cons] at h
      have go : ∀ (k : Int) (t : List UInt8), (k = 1 ∨ k = 2 ∨ k = 3) → ((lit t (c :: r1)).bind fun _ r => head k s.length r) = .ok (some x) r → RowOk s a x ∧ x.at_ ≤ s.length - r.length ∧ x.wh ≤ s.length - r.length ∧ r <:+ s := by
        intro k t hk h
        obtain ⟨u, r2, h2, h⟩ := bind_ok h
        have hs2 : r2 <:+ s := (ok_suf (suf_lit ..) h2).trans hs1
        have n2 := len_suf (ok_suf (suf_lit ..) h2)
        obtain ⟨x', e, k1⟩ := head_ok hk hs2 (a := a) (by omega) h
        injection e with e
        subst e; exact k1
      split at h
      · obtain ⟨u, r2, h2, h⟩ := bind_ok h
        split at h
        · injection h with h3; cases h3
        · cases h
      split at h
      · exact go 1 _ (Or.inl rfl) h
      split at h
      · exact go 2 _ (Or.inr (Or.inl rfl)) h
      split at h
      · exact go 3 _ (Or.inr (Or.inr rfl)) h
      · cases h
  · obtain ⟨x', h1, h2⟩ := map_ok h
    injection h2 with h2
    subst h2
    exact sample_ok hl ha h1 hr
theorem rowsF_ok (s : List UInt8) : ∀ (f : Nat) (l r : List UInt8) (L : List Rw) (a : Nat), l <:+ s → a ≤ s.length - l.length → rowsF f s.length l = .ok L r → RowsOk s a L ∧ rowsEnd a L ≤ s.length
  | 0, l, r, L, a, hl, ha, h => by cases h
  | f + 1, l, r, L, a, hl, ha, h => by
    unfold rowsF at h
    obtain ⟨o, r1, h1, h⟩ := bind_ok h
    cases o with
    | none =>
      injection h with h2 h3
      subst h2
      exact ⟨trivial, by show a ≤ _; omega⟩
    | some x =>
      obtain ⟨u, r2, h2, h⟩ := bind_ok h
      obtain ⟨L', h3, rfl⟩ := map_ok h
      have e := lit1_len h2
      obtain ⟨k1, k2, k3, k4⟩ := line_ok hl ha h1 e
      have n := congrArg List.length e
      rw [List.length_cons] at n
      have n1 := len_suf k4
      obtain ⟨m1, m2⟩ := rowsF_ok s f r2 r L' (max x.at_ x.wh) ((ok_suf (suf_lit ..) h2).trans k4) (by omega) h3
      exact ⟨⟨k1, m1⟩, m2⟩
theorem rows_ok {s r : List UInt8} {L : List Rw} (h : rows s.length s = .ok L r) : RowsOk s 0 L ∧ rowsEnd 0 L ≤ s.length := rowsF_ok s _ s r L 0 (List.suffix_refl _) (by omega) h

end Ow
end Go.Proofs.YthniemoganoapaaDoor
