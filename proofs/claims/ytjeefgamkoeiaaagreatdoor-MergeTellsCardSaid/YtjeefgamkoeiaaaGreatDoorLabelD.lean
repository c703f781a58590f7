/- The walks of slices.Clone at labels, of slices.SortFunc by the names. -/
import Derived.Test.YtjeefgamkoeiaaaGreatDoorLabelW
import Derived.Maps.AppendAt
import Derived.Laws.AppendOwnNone
import Derived.Lib.SliceRun
set_option maxRecDepth 100000
set_option linter.unusedVariables false
set_option linter.unusedSimpArgs false
namespace Go.Proofs.YtjeefgamkoeiaaaGreatDoor
open Go.RowKit Go.Sort Go.Lib

theorem label_info : (Tryz.prog.info? 62).map (fun i => (i.zero, i.size, i.bytes)) = some (some (.agg #[.string ⟨#[]⟩, .string ⟨#[]⟩]), 2, 32) := by kernel_rfl
theorem own_made (w : World) : LbOwn (w.alloc (.cells #[] 62)) w.heap.size (.slice (some ⟨w.heap.size, 0, none⟩) 0 0) [] :=
  World.ownsRow_made w #[] 0 (Nat.le_refl _) (Nat.zero_le _) rfl
set_option maxHeartbeats 2000000 in
theorem clone_calls (l : List Lb) (v : Value) (w : World) (hv : LbRow w v l) (hn : l.length ≤ 1000) :
    Calls Tryz.prog 72 #[v] w fun e w' => ∃ v', e = .returned v' ∧ Below w.heap.size w w' ∧ LbOwn w' w.heap.size v' l := by
  have q22 : ∀ (w : World) (a : Option Addr) (n c n' c' : Nat), (binOp .eql 49 (.slice a n c) (.slice none n' c')).run Tryz.prog w = .ok (.bool a.isNone) w := fun w a n c n' c' => Go.Lib.run_eql_slice_nil w _ _ a n c n' c' Tryz.underlying49
  obtain ⟨A, cap, rfl, hlc, hcm, hnil, hrow⟩ := hv
  cases A with
  | none =>
    have h0 : l.length = 0 := by
      rcases Nat.eq_zero_or_pos l.length with h | h
      · exact h
      · obtain ⟨_, _, h, _⟩ := hrow h; cases h
    obtain rfl : l = [] := List.eq_nil_of_length_eq_zero h0
    obtain rfl := hnil rfl
    clear hrow hnil
    go_enter Tryz.func72, Tryz.ntmps72
    go_wp2
    go_ret
    exact ⟨_, rfl, Below.refl _ _, LbOwn.nil _ _⟩
  | some ad =>
    obtain ⟨i0, hi0, hz0, hz1, hz2⟩ := info_parts label_info
    have Hi := Lib.hid hi0
    have Hz0 := Lib.hid hz0
    have Hz1 := Lib.hid hz1
    have Hz2 := Lib.hid hz2
    have hnews : Hid (∀ j u, (lbCells l)[j]? = some u → (w.alloc (.cells #[] 62)).cell? (ad.add j) = some u) := by
      intro j u hu
      have hpos : 0 < l.length := by
        rcases Nat.eq_zero_or_pos l.length with h | h
        · obtain rfl := List.eq_nil_of_length_eq_zero h
          simp [lbCells] at hu
        · exact h
      obtain ⟨b, off, he, hbs, hc⟩ := hrow hpos
      obtain rfl : ad = ⟨b, off, none⟩ := by simpa using he
      have := LbRow.news (n := 0) (cap := 0) hc j u hu
      rw [World.cell?_alloc_old]
      · exact this
      · rw [Go.WideShapes.add_plain]; simp; omega
    clear hrow hnil hi0 hz0 hz1 hz2
    go_enter Tryz.func72, Tryz.ntmps72
    go_wp2_with (at_builtin; refine wpList_append_own_at _ rfl _ _ _ (by rfl) w.heap.size 62 i0 _ 2 32 Tryz.underlying49 Hi.out Hz0.out Hz1.out Hz2.out rfl (by omega) _ 0 (lbCells []) (by rfl) (own_made w) ad l.length cap (lbCells l) (by rfl) (lbCells_len l) hnews.out (lbCells_one l) (by unfold maxLen; omega) (by omega) (by simp) ?_; intro v2 w2 hown2 hgrow2 hnil2 hat2)
    go_ret
    refine ⟨_, rfl, ?_, ?_⟩
    · exact Below.grown ((Below.refl w.heap.size w).alloc (Nat.le_refl _) _) hgrow2 (by simp) (fun k hk => by simp [Value.ownBlock] at hk; omega)
    · have := hown2
      rw [Nat.zero_add] at this
      exact this

end Go.Proofs.YtjeefgamkoeiaaaGreatDoor
