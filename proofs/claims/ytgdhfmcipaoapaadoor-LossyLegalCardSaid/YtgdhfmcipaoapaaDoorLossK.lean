/- The walk of known (the laws of layer 14). -/
import Derived.Test.YtgdhfmcipaoapaaDoorColl
import Derived.Test.YtgdhfmcipaoapaaDoorLossAll
import Derived.Laws.StructEq
set_option maxRecDepth 100000
set_option linter.unusedVariables false
set_option linter.unusedSimpArgs false
namespace Go.Proofs.YtgdhfmcipaoapaaDoor
open Go.RowKit

/-- some texts, laid anew -/
def tx (l : List Co.Bs) (i : Nat) : ByteArray := str (l.getD i [])
theorem tx_txs (l : List Co.Bs) : txs l.length (tx l) = l := by
  unfold txs tx
  apply List.ext_getElem
  · simp
  · intro i h1 h2
    simp [List.getD_eq_getElem?_getD, h2]
theorem tx_row (w : World) (b : Nat) (l : List Co.Bs) (cs : Array Value) (hcs : cs = (l.map fun x => Value.string (str x)).toArray) (hl : l.length ≤ maxLen) (hs : ∀ x ∈ l, x.length ≤ maxLen) (hb : w.heap[b]? = some (.cells cs 9 (0, 0))) :
    StrRow w (.slice (some ⟨b, 0, none⟩) l.length l.length) l.length (tx l) := by
  refine ⟨_, _, rfl, Nat.le_refl _, hl, fun _ => ⟨b, 0, rfl, (Array.getElem?_eq_some_iff.1 hb).1, fun i hi => ?_⟩⟩
  rw [cell_of_row w b (0 + i) _ _ _ hb, hcs]
  unfold tx
  refine ⟨by simp [List.getD_eq_getElem?_getD, hi], ?_⟩
  rw [str_size, List.getD_eq_getElem?_getD, List.getElem?_eq_getElem hi]
  exact hs _ (List.getElem_mem _)

theorem tx_small (l : List Co.Bs) (h : ∀ x ∈ l, x.length ≤ 4194304) : ∀ i, i < l.length → (tx l i).size ≤ 4194304 := fun i hi => by
  unfold tx
  rw [str_size, List.getD_eq_getElem?_getD, List.getElem?_eq_getElem hi]
  exact h _ (List.getElem_mem _)
theorem two_new (w : World) (o1 o2 : Obj) : ((w.alloc o1).alloc o2).heap[w.heap.size]? = some o1 ∧ ((w.alloc o1).alloc o2).heap[w.heap.size + 1]? = some o2 ∧ Below w.heap.size w ((w.alloc o1).alloc o2) := by
  have h1 := heap_alloc_new w o1
  have h2 := heap_alloc_new (w.alloc o1) o2
  rw [World.size_alloc] at h2
  exact ⟨by rw [Below.heap_alloc _ _ _ (by simp)]; exact h1, h2, ((Below.refl _ w).alloc (Nat.le_refl _) _).alloc (by simp) _⟩
theorem equalc_self (x y : ByteArray) (w : World) : (Op.equalIn 10000 26 (.agg #[.string x, .string y]) (.agg #[.string x, .string y])).run Tryd.prog w = .ok true w := by go_simp
theorem eqlc_self (x y : ByteArray) (w : World) : (binOp .eql 26 (.agg #[.string x, .string y]) (.agg #[.string x, .string y])).run Tryd.prog w = .ok (.bool true) w := by
  rw [run_eql_struct, equalc_self]; rfl
theorem neqc_self (x y : ByteArray) (w : World) : (binOp .neq 26 (.agg #[.string x, .string y]) (.agg #[.string x, .string y])).run Tryd.prog w = .ok (.bool false) w := by
  rw [run_neq_struct, equalc_self]; rfl

namespace Ch
theorem k_loss1 : loss 1 1 [97, 46, 98] = [97, 95, 98] := by decide +kernel
theorem k_loss2 : loss 1 1 [57] = [95] := by decide +kernel
theorem k_coll1 : Co.collO (loss 1 1) [[97, 46, 98], [99], [97, 45, 98]] = some ([97, 45, 98], [97, 46, 98]) := by decide +kernel
theorem k_coll2 : Co.collO (loss 1 1) [[97, 46, 98], [97, 46, 98]] = none := by decide +kernel
end Ch

set_option maxHeartbeats 4000000 in
theorem lknown_calls (w : World) (hT : ChT w) :
    Calls Tryd.prog 7 #[] w fun e w' => e = .returned (.bool true) ∧ Below w.heap.size w w' := by
  have n1 := fun W hW => lname_calls 1 1 [97, 46, 98] W (by decide) hW
  rw [Ch.k_loss1] at n1
  go_enter Tryd.func7, Tryd.ntmps7
  go_wp2_with fail
  have R1 := tx_row (w.alloc (.cells #[.string (str [97, 46, 98]), .string (str [99]), .string (str [97, 45, 98])] 9)) w.heap.size [[97, 46, 98], [99], [97, 45, 98]] _ rfl (by decide) (by decide) (heap_alloc_new w _)
  have B1 := Lib.hid (kp_alloc (Below.refl w.heap.size w) (.cells #[.string (str [97, 46, 98]), .string (str [99]), .string (str [97, 45, 98])] 9))
  have c1 := lcoll_calls 1 1 _ _ _ _ (by decide) R1 (tx_small _ (by decide)) (hT.below B1.out)
  rw [tx_txs, Ch.k_coll1, show collV (some ([97, 45, 98], [97, 46, 98])) = .tuple #[.agg #[.string (str [97, 45, 98]), .string (str [97, 46, 98])], .bool true] from rfl] at c1
  refine c1.mono ?_; rintro e w1 ⟨rfl, q1⟩
  have B2 := Lib.hid (trans9 B1.out q1)
  clear c1 R1 q1 B1
  go_wp2_with fail
  obtain ⟨g1, g2, g3⟩ := two_new w1 (.cells #[.string (str [97, 45, 98]), .string (str [97, 46, 98])] 26) (.cells #[.string (str [97, 46, 98]), .string (str [97, 46, 98])] 9)
  have B3 := Lib.hid (trans9 B2.out g3)
  generalize hW2 : (w1.alloc (.cells #[.string (str [97, 45, 98]), .string (str [97, 46, 98])] 26)).alloc (.cells #[.string (str [97, 46, 98]), .string (str [97, 46, 98])] 9) = W2 at *
  clear hW2 g3 B2
  generalize w1.heap.size = b at *
  have c2 := lcoll_calls 1 1 _ _ _ W2 (by decide) (tx_row W2 (b + 1) [[97, 46, 98], [97, 46, 98]] _ rfl (by decide) (by decide) g2) (tx_small _ (by decide)) (hT.below B3.out)
  rw [tx_txs, Ch.k_coll2, show collV none = .tuple #[.agg #[.string ⟨#[]⟩, .string ⟨#[]⟩], .bool false] from rfl] at c2
  refine c2.mono ?_; rintro e w3 ⟨rfl, q3⟩
  have hb := (Array.getElem?_eq_some_iff.1 g1).1
  have e1 := (q3.block b hb).trans g1
  have B4 := Lib.hid (trans9 B3.out q3)
  clear c2 g1 g2 q3 B3 hb
  go_wp2_with fail
  obtain ⟨g1, g2, g3⟩ := two_new w3 (.cells #[.string ⟨#[]⟩, .string ⟨#[]⟩] 26) (.cells #[.string (str [97, 46, 98]), .string (str [57])] 9)
  have B5 := Lib.hid (trans9 B4.out g3)
  have hb := (Array.getElem?_eq_some_iff.1 e1).1
  have e2 := (g3.block b hb).trans e1
  generalize (w3.alloc (.cells #[.string ⟨#[]⟩, .string ⟨#[]⟩] 26)).alloc (.cells #[.string (str [97, 46, 98]), .string (str [57])] 9) = W4 at *
  generalize w3.heap.size = b2 at *
  have c3 := lall_calls 1 1 _ _ _ W4 (by decide) (tx_row W4 (b2 + 1) [[97, 46, 98], [57]] _ rfl (by decide) (by decide) g2) (tx_small _ (by decide)) (hT.below B5.out)
  refine c3.mono ?_; rintro e w5 ⟨rfl, T5, q5⟩
  have hb := (Array.getElem?_eq_some_iff.1 e2).1
  have e5 := (q5.block b hb).trans e2
  have B6 := Lib.hid (trans9 B5.out q5)
  have d0 : w5.cell? ⟨W4.heap.size, 0, none⟩ = some (.string (str [97, 95, 98])) := (T5.cell 0 (by decide)).trans (by show some (Value.string (str (Ch.loss 1 1 [97, 46, 98]))) = _; rw [Ch.k_loss1])
  have d1 : w5.cell? ⟨W4.heap.size, 1, none⟩ = some (.string (str [95])) := (T5.cell 1 (by decide)).trans (by show some (Value.string (str (Ch.loss 1 1 [57]))) = _; rw [Ch.k_loss2])
  have hlt := T5.lt
  clear c3 e1 e2 g1 g2 T5 q5 B4 B5
  generalize W4.heap.size = b3 at *
  go_wp2_with fail
  refine (n1 _ (hT.below B6.out)).mono ?_; rintro e w6 ⟨rfl, q6⟩
  have B7 := Lib.hid (trans9 B6.out q6)
  replace d0 := (q6.cell (p := ⟨b3, 0, none⟩) hlt).trans d0
  replace d1 := (q6.cell (p := ⟨b3, 1, none⟩) hlt).trans d1
  have hb := (Array.getElem?_eq_some_iff.1 e5).1
  have e6 := (q6.block b hb).trans e5
  have k0 : w6.cell? ⟨b, 0, none⟩ = some (.string (str [97, 45, 98])) := by rw [cell_of_row _ _ 0 _ _ _ e6]; rfl
  have k1 : w6.cell? ⟨b, 1, none⟩ = some (.string (str [97, 46, 98])) := by rw [cell_of_row _ _ 1 _ _ _ e6]; rfl
  have hq := eqlc_self
  clear e5 e6 q6 n1 hlt hb
  go_wp2_with fail
  go_ret
  exact ⟨rfl, B7.out⟩

end Go.Proofs.YtgdhfmcipaoapaaDoor
