/- The walks of package escape's byteOf, Undo, Back. -/
import Derived.Test.YtaiolkeiabhcpaaDoorEscB
set_option maxRecDepth 100000
set_option linter.unusedVariables false
set_option linter.unusedSimpArgs false
namespace Go.Proofs.YtaiolkeiabhcpaaDoor
open Go.RowKit

namespace Ch
/-- a digit's place among the digits, as the code has it -/
def hexI (c : UInt8) : Int := match unhex c with | none => -1 | some k => (k : Int)
theorem hexI_is : ∀ c : UInt8, Lib.indexByte [48, 49, 50, 51, 52, 53, 54, 55, 56, 57, 97, 98, 99, 100, 101, 102] c = hexI c := all_bytes (by decide +kernel)
theorem unhex_lt : ∀ (c : UInt8) (k : Nat), unhex c = some k → k < 16 := by
  intro c k h
  unfold unhex at h
  split at h
  · cases h; omega
  · split at h
    · cases h; omega
    · cases h
theorem hexI_none {c : UInt8} (h : unhex c = none) : hexI c = -1 := by unfold hexI; rw [h]
theorem hexI_some {c : UInt8} {k : Nat} (h : unhex c = some k) : hexI c = (k : Int) := by unfold hexI; rw [h]
/-- the byte whose two digits a text begins with -/
def byteO : List UInt8 → Option UInt8
  | e :: f :: _ => match unhex e, unhex f with | some x, some y => some (UInt8.ofNat (16 * x + y)) | _, _ => none
  | _ => none
theorem byteO_cons (e f : UInt8) (r : List UInt8) : byteO (e :: f :: r) = match unhex e, unhex f with | some x, some y => some (UInt8.ofNat (16 * x + y)) | _, _ => none := rfl
theorem byteO_none {e f : UInt8} {r : List UInt8} (h : unhex e = none ∨ unhex f = none) : byteO (e :: f :: r) = none := by
  rw [byteO_cons]
  rcases h with h | h
  · rw [h]
  · rw [h]; cases unhex e <;> rfl
theorem byteO_some {e f : UInt8} {r : List UInt8} {x y : Nat} (h : unhex e = some x) (k : unhex f = some y) : byteO (e :: f :: r) = some (UInt8.ofNat (16 * x + y)) := by rw [byteO_cons, h, k]
theorem byteO_short {l : List UInt8} (h : ¬ 2 ≤ l.length) : byteO l = none := by
  match l, h with
  | [], _ => rfl
  | [_], _ => rfl
  | _ :: _ :: _, h => simp at h
theorem byteO_drop {l : List UInt8} {c : UInt8} (h : byteO l = some c) : 2 ≤ l.length := by
  match l, h with
  | [], h => cases h
  | [_], h => cases h
  | _ :: _ :: _, _ => simp
/-- what an _x and what is behind it were -/
theorem undo_x (q : List UInt8) : undo (95 :: 120 :: q) = match byteO q with | none => none | some c => (undo (q.drop 2)).map (c :: ·) := by
  match q with
  | [] => rfl
  | [e] => conv => lhs; rw [undo]
           rfl
  | e :: f :: r =>
    conv => lhs; rw [undo]
    rw [if_pos ⟨rfl, rfl⟩]
    cases h : unhex e with
    | none => rw [byteO_none (Or.inl h)]
    | some x =>
      cases k : unhex f with
      | none => rw [byteO_none (Or.inr k)]
      | some y => rw [byteO_some h k]; rfl
theorem idx_cases : ∀ l : List UInt8, (Lib.index l [95, 120] = -1 ∧ undo l = some l) ∨
    ∃ a q, l = a ++ 95 :: 120 :: q ∧ Lib.index l [95, 120] = (a.length : Int) ∧ undo l = (undo (95 :: 120 :: q)).map (a ++ ·)
  | [] => Or.inl ⟨rfl, rfl⟩
  | c :: r => by
    by_cases hx : isUx c r = true
    · unfold isUx at hx
      rw [Bool.and_eq_true] at hx
      have h1 : c = 95 := by simpa using hx.1
      have h2 : r.head? = some 120 := by simpa using hx.2
      subst h1
      cases r with
      | nil => cases h2
      | cons d q =>
        cases h2
        exact Or.inr ⟨[], q, rfl, rfl, by simp⟩
    · have hx' : isUx c r = false := by simpa using hx
      have hp : ([95, 120] : List UInt8).isPrefixOf (c :: r) = false := by
        unfold isUx at hx'
        cases r with
        | nil => simp [List.isPrefixOf]
        | cons d q =>
          simp only [List.isPrefixOf, List.head?_cons, Option.some.injEq] at hx' ⊢
          by_cases h1 : c = 95 <;> by_cases h2 : d = 120 <;> simp_all
          · intro e; exact absurd e.symm h2
          · intro e; exact absurd e.symm h1
          · intro e; exact absurd e.symm h1
      have hi : Lib.index (c :: r) [95, 120] = if Lib.index r [95, 120] == -1 then -1 else Lib.index r [95, 120] + 1 := by
        conv => lhs; unfold Lib.index
        rw [hp]; rfl
      rcases idx_cases r with ⟨h1, h2⟩ | ⟨a, q, rfl, h1, h2⟩
      · exact Or.inl ⟨by rw [hi, h1]; rfl, by rw [undo_keep c r hx', h2]; rfl⟩
      · refine Or.inr ⟨c :: a, q, rfl, ?_, ?_⟩
        · rw [hi, h1]
          have : ((a.length : Int) == -1) = false := beq_eq_false_iff_ne.2 (by omega)
          rw [this]; simp
        · rw [undo_keep c _ hx', h2]
          cases undo (95 :: 120 :: q) <;> rfl
end Ch

theorem ebyte0_calls (c : UInt8) (w : World) :
    Calls Tryd.prog 37 #[.string ⟨#[48, 49, 50, 51, 52, 53, 54, 55, 56, 57, 97, 98, 99, 100, 101, 102]⟩, .int .u8 (c.toNat : Int)] w fun e w' => e = .returned (.int .i64 (Ch.hexI c)) ∧ w = w' := by
  have h := Any.stringslite_IndexByte { layIndex with } ⟨#[48, 49, 50, 51, 52, 53, 54, 55, 56, 57, 97, 98, 99, 100, 101, 102]⟩ (c.toNat : Int) w
  refine h.mono fun e w' ⟨h1, h2⟩ => ⟨?_, h2.symm⟩
  rw [h1, ← Ch.hexI_is c]
  have : (c.toNat : Int).toNat.toUInt8 = c := by rw [Int.toNat_natCast]; exact UInt8.ofNat_toNat
  rw [this]
theorem ebyte_calls (c : UInt8) (w : World) :
    Calls Tryd.prog 34 #[.string ⟨#[48, 49, 50, 51, 52, 53, 54, 55, 56, 57, 97, 98, 99, 100, 101, 102]⟩, .int .u8 (c.toNat : Int)] w fun e w' => e = .returned (.int .i64 (Ch.hexI c)) ∧ w = w' := by
  go_enter Tryd.func34, Tryd.ntmps34
  go_wp2_with fail
  refine (ebyte0_calls c _).mono ?_; rintro e w' ⟨rfl, rfl⟩
  go_wp2
  go_ret
  exact ⟨rfl, rfl⟩

/-- a byte that may be there, as the code hands it back -/
def byteV (o : Option UInt8) : Value := match o with | none => .tuple #[.int .u8 0, .bool false] | some c => .tuple #[.int .u8 (c.toNat : Int), .bool true]
theorem or_hex : ∀ x y : Fin 16, bits .or .i64 ((x.val : Int) * 16) (y.val : Int) = ((16 * x.val + y.val : Nat) : Int) := by decide +kernel

set_option maxHeartbeats 1000000 in
theorem byteOf_calls (l : List UInt8) (w : World) (hm : l.length ≤ maxLen) :
    Calls Tryd.prog 24 #[.string (str l)] w fun e w' => e = .returned (byteV (Ch.byteO l)) ∧ w = w' := by
  have hsz := str_size l
  unfold maxLen at hm
  by_cases h2 : 2 ≤ l.length
  · have d2 : decide ((l.length : Int) < 2) = false := by simp; omega
    have d2' : decide (l.length < 2) = false := by simp; omega
    have k0 : 0 < (str l).size := by rw [hsz]; omega
    have k1 : 1 < (str l).size := by rw [hsz]; omega
    obtain ⟨e, f, r, hl⟩ : ∃ e f r, l = e :: f :: r := by
      match l, h2 with
      | e :: f :: r, _ => exact ⟨e, f, r, rfl⟩
    have hb0 : (str l)[0] = e := by subst hl; rfl
    have hb1 : (str l)[1] = f := by subst hl; rfl
    have HO := Lib.hid (show Ch.byteO l = Ch.byteO (e :: f :: r) by rw [hl])
    have c0 := ebyte_calls e
    have c1 := ebyte_calls f
    clear hl
    cases he : Ch.unhex e with
    | none =>
      rw [Ch.hexI_none he] at c0
      have HR := Lib.hid (show Ch.byteO l = none by rw [HO.out]; exact Ch.byteO_none (Or.inl he))
      go_enter Tryd.func24, Tryd.ntmps24
      go_wp2_with fail
      refine (c0 _).mono ?_; rintro e w1 ⟨rfl, rfl⟩
      go_wp2_with fail
      refine (c1 _).mono ?_; rintro e w1 ⟨rfl, rfl⟩
      go_wp2_with fail
      go_ret2
      exact ⟨by rw [HR.out]; rfl, rfl⟩
    | some x =>
      rw [Ch.hexI_some he] at c0
      cases hf : Ch.unhex f with
      | none =>
        rw [Ch.hexI_none hf] at c1
        have HR := Lib.hid (show Ch.byteO l = none by rw [HO.out]; exact Ch.byteO_none (Or.inr hf))
        go_enter Tryd.func24, Tryd.ntmps24
        go_wp2_with fail
        refine (c0 _).mono ?_; rintro e w1 ⟨rfl, rfl⟩
        go_wp2_with fail
        refine (c1 _).mono ?_; rintro e w1 ⟨rfl, rfl⟩
        go_wp2_with fail
        go_ret2
        exact ⟨by rw [HR.out]; rfl, rfl⟩
      | some y =>
        rw [Ch.hexI_some hf] at c1
        have hx := Ch.unhex_lt _ _ he
        have hy := Ch.unhex_lt _ _ hf
        have hor := or_hex ⟨x, hx⟩ ⟨y, hy⟩
        have HR := Lib.hid (show Ch.byteO l = some (UInt8.ofNat (16 * x + y)) by rw [HO.out]; exact Ch.byteO_some he hf)
        go_enter Tryd.func24, Tryd.ntmps24
        go_wp2_with fail
        refine (c0 _).mono ?_; rintro e w1 ⟨rfl, rfl⟩
        go_wp2_with fail
        refine (c1 _).mono ?_; rintro e w1 ⟨rfl, rfl⟩
        go_wp2_with fail
        go_ret2
        have hu : ((UInt8.ofNat (16 * x + y)).toNat : Int) = 16 * (x : Int) + (y : Int) := by
          rw [UInt8.toNat_ofNat', Nat.mod_eq_of_lt (by show _ < 256; omega)]; omega
        refine ⟨?_, rfl⟩
        rw [HR.out]
        show _ = Ending.returned (.tuple #[.int .u8 ((UInt8.ofNat (16 * x + y)).toNat : Int), .bool true])
        rw [hu]; rfl
  · have d2 : decide ((l.length : Int) < 2) = true := by simp; omega
    have d2' : decide (l.length < 2) = true := by simp; omega
    have HR := Lib.hid (Ch.byteO_short h2)
    go_enter Tryd.func24, Tryd.ntmps24
    go_wp2_with fail
    go_ret2
    exact ⟨by rw [HR.out]; rfl, rfl⟩

/-- a text that may be there, as the code hands it back -/
def undoV (o : Option (List UInt8)) : Value := match o with | none => .tuple #[.string ⟨#[]⟩, .bool false] | some t => .tuple #[.string (str t), .bool true]
/-- how long a text in a slot is -/
def lenOf (v : Value) : Nat := match v with | .string s => s.size | _ => 0
theorem map_out {o : Option (List UInt8)} {a b : List UInt8} : (o.map (a ++ ·)).map (b ++ ·) = o.map ((b ++ a) ++ ·) := by cases o <;> simp
theorem map_put {o : Option (List UInt8)} {c : UInt8} {b : List UInt8} : (o.map (c :: ·)).map (b ++ ·) = o.map ((b ++ [c]) ++ ·) := by cases o <;> simp

set_option maxHeartbeats 2000000 in
theorem undo_calls (l : List UInt8) (w : World) (hl : l.length ≤ 4194304) (hM : MxT w) :
    Calls Tryd.prog 13 #[.string (str l)] w fun e w' => e = .returned (undoV (Ch.undo l)) ∧ Below w.heap.size w w' := by
  have H0 := Lib.hid (Lib.fresh_isBuilder 37 5 w)
  have B0 := Lib.hid ((Below.refl w.heap.size w).alloc (Nat.le_refl _) (.cells #[.pointer none, .slice none 0 0] 37))
  go_enter Tryd.func13, Tryd.ntmps13
  go_wp2_with fail
  go_loopw [0] (fun v wr => ∃ (out q : List UInt8), out.length + q.length ≤ 4194304 ∧ v = .string (str q) ∧ Hid (Ch.undo l = (Ch.undo q).map (out ++ ·) ∧ Below w.heap.size w wr ∧ Lib.IsBuilder 37 5 w.heap.size w.heap.size (Lib.byteCells out) wr)) (fun v _ => lenOf v)
  case atStart => exact ⟨[], l, by simpa using hl, rfl, by cases Ch.undo l <;> rfl, B0.out, H0.out⟩
  case round =>
    obtain ⟨out, q, ho, rfl, H⟩ := hrel
    have hsz := str_size q
    have hix := eidx_calls q wr (by omega) (hM.below H.out.2.1)
    rcases Ch.idx_cases q with ⟨h1, h2⟩ | ⟨a, q2, hq, h1, h2⟩
    · rw [h1] at hix
      have HE := Lib.hid (show Ch.undo l = some (out ++ q) by rw [H.out.1, h2]; rfl)
      clear h1 h2
      go_wp2_with fail
      refine hix.mono ?_; rintro e w1 ⟨rfl, rfl⟩
      go_wp2_with fail
      refine (bwrite_calls w.heap.size w.heap.size _ _ _ H.out.2.2 (by rw [Lib.byteCells_length, str_size]; omega) H.out.2.1.size).mono ?_; rintro e w3 ⟨rfl, h3, b3⟩
      have B3 := Lib.hid (H.out.2.1.trans b3)
      have H3 := Lib.hid (isb_text h3)
      clear h3 b3 H
      go_wp2_with fail
      refine (bstring_calls w.heap.size w.heap.size _ _ H3.out B3.out.size).mono ?_; rintro e w4 ⟨rfl, b4⟩
      have B4 := Lib.hid (B3.out.trans b4)
      clear b4
      go_wp2_with fail
      go_ret2
      exact ⟨by rw [HE.out]; rfl, B4.out⟩
    · rw [h1] at hix
      have hlen : q.length = a.length + (q2.length + 2) := by rw [hq]; simp
      have hto := cut_to q (a.length : Int) a.length rfl (by omega)
      have hfrom := cut_from q ((a.length : Int) + 2) (a.length + 2) (by omega) (by omega)
      rw [show q.take a.length = a by rw [hq]; simp] at hto
      rw [show q.drop (a.length + 2) = q2 by rw [hq, ← List.drop_drop]; simp] at hfrom
      have dn : decide ((a.length : Int) < 0) = false := by simp
      have HX := Lib.hid (Ch.undo_x q2)
      have HE := Lib.hid (show Ch.undo l = (Ch.undo (95 :: 120 :: q2)).map ((out ++ a) ++ ·) by rw [H.out.1, h2, map_out])
      have HL := Lib.hid hlen
      have hal : a.length ≤ 4194304 := by omega
      have hby := fun W => byteOf_calls q2 W (by unfold maxLen; omega)
      clear h1 h2 hq hlen
      go_wp2_with fail
      refine hix.mono ?_; rintro e w1 ⟨rfl, rfl⟩
      go_wp2_with fail
      refine (bwrite_calls w.heap.size w.heap.size _ _ _ H.out.2.2 (by rw [Lib.byteCells_length, str_size]; have := HL.out; omega) H.out.2.1.size).mono ?_; rintro e w3 ⟨rfl, h3, b3⟩
      have B3 := Lib.hid (H.out.2.1.trans b3)
      have H3 := Lib.hid (isb_text h3)
      clear h3 b3 H
      cases hb : Ch.byteO q2 with
      | none =>
        rw [hb, show byteV none = .tuple #[.int .u8 0, .bool false] from rfl] at hby
        have HR := Lib.hid (show Ch.undo l = none by rw [HE.out, HX.out, hb]; rfl)
        go_wp2_with fail
        refine (hby _).mono ?_; rintro e w4 ⟨rfl, rfl⟩
        go_wp2_with fail
        go_ret2
        exact ⟨by rw [HR.out]; rfl, B3.out⟩
      | some c =>
        rw [hb, show byteV (some c) = .tuple #[.int .u8 (c.toNat : Int), .bool true] from rfl] at hby
        have h2 := Ch.byteO_drop hb
        have HR := Lib.hid (show Ch.undo l = (Ch.undo (q2.drop 2)).map (((out ++ a) ++ [c]) ++ ·) by rw [HE.out, HX.out, hb]; exact map_put)
        have hf2 := cut_from q2 2 2 rfl h2
        have HZ := Lib.hid (show (q2.drop 2).length = q2.length - 2 by simp)
        clear hb HX HE
        go_wp2_with fail
        refine (hby _).mono ?_; rintro e w4 ⟨rfl, rfl⟩
        go_wp2_with fail
        refine (bbyte_calls w.heap.size w.heap.size _ _ _ H3.out (by rw [Lib.byteCells_length, List.length_append]; have := HL.out; omega) B3.out.size).mono ?_; rintro e w5 ⟨rfl, h5, b5, _⟩
        have B5 := Lib.hid (B3.out.trans b5)
        have H5 := Lib.hid (isb_byte h5)
        clear h5 b5 B3 H3
        go_wp2_with fail
        go_roundw
        case rel => exact ⟨_, q2.drop 2, by rw [HZ.out, List.length_append, List.length_append]; have := HL.out; simp; omega, rfl, HR.out, B5.out, H5.out⟩
        case measure => have := HL.out; have := HZ.out; show (str (q2.drop 2)).size < (str q).size; rw [str_size, str_size]; omega

end Go.Proofs.YtaiolkeiabhcpaaDoor
