import Derived.Test.YtbapneipjmpcbaaGreatDoorChW
import Derived.Test.YtbapneipjmpcbaaGreatDoorChP
import Derived.Test.YtbapneipjmpcbaaGreatDoorGrd
import Derived.Laws.BytesArg
import Derived.Test.YtbapneipjmpcbaaGreatDoorChecked
import Derived.Shelf.Strings.Search3
set_option maxHeartbeats 16000000
set_option maxRecDepth 100000
set_option linter.unusedVariables false
set_option linter.unusedSimpArgs false
namespace Go.Proofs.YtbapneipjmpcbaaGreatDoor
open Go.RowKit
namespace Ch
def isX (l:List UInt8):Bool:=decide (l.take 2=[95,120])
theorem isX_cons (c:UInt8) (r:List UInt8):isX (c::r)=isUx c r:=by
 unfold isX isUx
 cases r with
 | nil=>simp
 | cons d r =>
   simp only[List.take_succ_cons,List.take_zero,List.head?_cons,List.cons.injEq,and_true,Option.some.injEq];by_cases h:c=95 <;> by_cases k:d=120 <;> simp[h,k]
end Ch
theorem epre_bool (l:List UInt8) (h:2≤l.length):(((str l).extract 0 2).toList==[95,120])=Ch.isX l:=by
 have e:((str l).extract 0 2).toList=l.take 2:=by
  rw[show(str l).extract 0 2=str (l.take 2) from str_ext (by rw[ext_list];simp)];exact ByteArray.toList_mk _
 rw[e];unfold Ch.isX;by_cases hh:l.take 2=[95,120]
 ·rw[hh];rfl
 ·rw[decide_eq_false hh];simp[hh]
theorem epre0_calls (l:List UInt8) (w:World) :
 Calls Tryz.prog 85 #[.string (str l),.string ⟨#[95,120]⟩] w fun e w'=>e = .returned (.bool (Ch.isX l))∧w=w':=by
 have hsz:=str_size l;by_cases h:2≤l.length
 ·have hb:=Lh (epre_bool l h);have d1:decide ((2:Int)≤(l.length:Int))=true:=by simp;omega
  have d1':decide (2≤l.length)=true:=decide_eq_true h;go_enter Tryz.func85,Tryz.ntmps85;go_wp2;go_ret;exact⟨ret_bool hb.out,rfl⟩
 ·have d1:decide ((2:Int)≤(l.length:Int))=false:=by simp;omega
  have d1':decide (2≤l.length)=false:=decide_eq_false h;have hb:=Lh (show Ch.isX l=false by
   unfold Ch.isX;refine decide_eq_false fun e => ?_;have:=congrArg List.length e;simp at this;omega)
  go_enter Tryz.func85,Tryz.ntmps85;go_wp2;go_ret;exact⟨ret_bool hb.out.symm,rfl⟩
theorem epre_calls (l:List UInt8) (w:World) :
 Calls Tryz.prog 47 #[.string (str l),.string ⟨#[95,120]⟩] w fun e w'=>e = .returned (.bool (Ch.isX l))∧w=w':=by
 go_enter Tryz.func47,Tryz.ntmps47;go_wp2_with fail;refine(epre0_calls l _).mono ?_;rintro e w' ⟨rfl,rfl⟩;go_wp2;go_ret;exact⟨rfl,rfl⟩
theorem econv2 {W:World} {b:Nat} {x y:Int} (h0:W.cell? ⟨b,0,none⟩=some (.int .u8 x)) (h1:W.cell? ⟨b,1,none⟩=some (.int .u8 y)) :
 (convert 85 9 (.slice (some ⟨b,0,none⟩) 2 2)).run Tryz.prog W = .ok (.string (strOfNums [x,y])) W:=by
 refine run_convert_bytes_arg _ 85 5 Tryz.underlying85 Tryz.underlying5 _ 0 2 2 _ rfl (fun i hi => ?_) 9 Tryz.underlying9
 match i,hi with
 | 0,_=>exact h0
 | 1,_=>exact h1
theorem hex_at : ∀(k:Nat) (h:k<16) (W:World),(Instr.index 9 (.string ⟨#[48,49,50,51,52,53,54,55,56,57,97,98,99,100,101,102]⟩) (.int .u8 (k:Int))).run Tryz.prog W = .ok (.int .u8 ((Ch.hexD k).toNat:Int)) W
 | 0,_=>fun _=>by kernel_rfl
 | 1,_=>fun _=>by kernel_rfl
 | 2,_=>fun _=>by kernel_rfl
 | 3,_=>fun _=>by kernel_rfl
 | 4,_=>fun _=>by kernel_rfl
 | 5,_=>fun _=>by kernel_rfl
 | 6,_=>fun _=>by kernel_rfl
 | 7,_=>fun _=>by kernel_rfl
 | 8,_=>fun _=>by kernel_rfl
 | 9,_=>fun _=>by kernel_rfl
 | 10,_=>fun _=>by kernel_rfl
 | 11,_=>fun _=>by kernel_rfl
 | 12,_=>fun _=>by kernel_rfl
 | 13,_=>fun _=>by kernel_rfl
 | 14,_=>fun _=>by kernel_rfl
 | 15,_=>fun _=>by kernel_rfl
 | k+16,h=>absurd h (by omega)
theorem two_str (a b:UInt8):strOfNums [(a.toNat:Int),(b.toNat:Int)]=str [a,b]:=str_ext (by simp[strOfNums])
theorem escaped_calls (c:UInt8) (w:World) :
 Calls Tryz.prog 50 #[.int .u8 (c.toNat:Int)] w fun e w'=>e = .returned (.string (str (Ch.code c)))∧Below w.heap.size w w':=by
 have hc:c.toNat<256:=c.toNat_lt;have h1:=fun W=>hex_at (c.toNat/16) (by omega) W;have h2:=fun W=>hex_at (c.toNat%16) (by omega) W;have r2:=fun (W:World) (b:Nat) (h0:W.cell? ⟨b,0,none⟩=some (.int .u8 ((Ch.hexD (c.toNat/16)).toNat:Int))) (h1:W.cell? ⟨b,1,none⟩=some (.int .u8 ((Ch.hexD (c.toNat%16)).toNat:Int)))=>econv2 h0 h1;rw[two_str] at r2;have ha:=fun W=>add_str [95,120] [Ch.hexD (c.toNat/16),Ch.hexD (c.toNat%16)] (by simp) W;have hcode:=Lh (show Ch.code c=[95,120]++[Ch.hexD (c.toNat/16),Ch.hexD (c.toNat%16)] from rfl);generalize Ch.code c=cc at *;generalize Ch.hexD (c.toNat/16)=x at *;generalize Ch.hexD (c.toNat%16)=y at *;generalize c.toNat=n at *;rw[show((n/16:Nat):Int)=(n:Int)/16 by omega] at h1;rw[show((n%16:Nat):Int)=(n:Int)%16 by omega] at h2;rw[←hcode.out] at ha;go_enter Tryz.func50,Tryz.ntmps50;go_wp2
 go_region
 all_goals (go_wp2;go_ret;exact⟨rfl,(Below.drew (Below.refl _ _)).alloc (Nat.le_refl _) _⟩)
end Go.Proofs.YtbapneipjmpcbaaGreatDoor
namespace Go.Proofs.YtbapneipjmpcbaaGreatDoor
open Go.Shelf
def layIndex_ren:Go.Shelf.Ren:=⟨fun|143=>102|219=>126|217=>167|225=>168|224=>169|267=>170|266=>195|314=>196|n=>n,fun|9=>9|3=>3|4=>4|5=>5|46=>27|146=>210|51=>180|n=>n,fun|1=>2|n=>n⟩
theorem layIndex:Lays.n143 Tryz.prog layIndex_ren := {
 mixed:=by kernel_rfl,
 f143:=Tryz.func102.trans (congrArg some (by kernel_rfl)),
 f217:=Tryz.func167.trans (congrArg some (by kernel_rfl)),
 f219:=Tryz.func126.trans (congrArg some (by kernel_rfl)),
 f224:=Tryz.func169.trans (congrArg some (by kernel_rfl)),
 f225:=Tryz.func168.trans (congrArg some (by kernel_rfl)),
 f266:=Tryz.func195.trans (congrArg some (by kernel_rfl)),
 f267:=Tryz.func170.trans (congrArg some (by kernel_rfl)),
 f314:=Tryz.func196.trans (congrArg some (by kernel_rfl)),
 t3:=Tryz.underlying3,
 a3:=Tryz.isAgg3,
 z3:=Tryz.sizeOf3,
 v3:=Tryz.zeroValue3,
 t4:=Tryz.underlying4,
 a4:=Tryz.isAgg4,
 z4:=Tryz.sizeOf4,
 v4:=Tryz.zeroValue4,
 t5:=Tryz.underlying5,
 a5:=Tryz.isAgg5,
 z5:=Tryz.sizeOf5,
 v5:=Tryz.zeroValue5,
 t9:=Tryz.underlying9,
 a9:=Tryz.isAgg9,
 z9:=Tryz.sizeOf9,
 v9:=Tryz.zeroValue9,
 t46:=Tryz.underlying27,
 a46:=Tryz.isAgg27,
 z46:=Tryz.sizeOf27,
 v46:=Tryz.zeroValue27,
 t51:=Tryz.underlying180,
 a51:=Tryz.isAgg180,
 z51:=Tryz.sizeOf180,
 v51:=Tryz.zeroValue180,
 t146:=Tryz.underlying210,
 a146:=Tryz.isAgg210,
 z146:=Tryz.sizeOf210,
 v146:=Tryz.zeroValue210,
 g1:=by kernel_rfl}
end Go.Proofs.YtbapneipjmpcbaaGreatDoor
namespace Go.Proofs.YtbapneipjmpcbaaGreatDoor
open Go.RowKit
theorem isb_kept {T e B b:Nat} {bs:List Value} {w w':World} (h:Lib.IsBuilder T e B b bs w) (hb:Below w.heap.size w w'):Lib.IsBuilder T e B b bs w':=by
 have key : ∀p,Lib.BuilderAt T e B b p bs w→Lib.BuilderAt T e B b p bs w':=fun p k=>by
  obtain⟨hB,v,h1,h2,h3⟩:=k;exact⟨hB,v,by rw[hb.block b (Array.getElem?_eq_some_iff.1 h1).1];exact h1,own_below h2 hb,h3⟩
 rcases h with h|h
 ·exact Or.inl (key _ h)
 ·exact Or.inr (key _ h)
theorem isb_byte {B b:Nat} {l:List UInt8} {c:UInt8} {w:World} (h:Lib.BuilderAt 90 5 B b (.pointer (some ⟨b,0,none⟩)) (Lib.byteCells l++[.int .u8 (c.toNat:Int)]) w):Lib.IsBuilder 90 5 B b (Lib.byteCells (l++[c])) w:=by
 have e:Lib.byteCells l++[.int .u8 (c.toNat:Int)]=Lib.byteCells (l++[c]):=by simp[Lib.byteCells]
 rw[e] at h;exact Or.inr h
theorem isb_text {B b:Nat} {l r:List UInt8} {w:World} (h:Lib.BuilderAt 90 5 B b (.pointer (some ⟨b,0,none⟩)) (Lib.byteCells l++Lib.strCells (str r)) w):Lib.IsBuilder 90 5 B b (Lib.byteCells (l++r)) w:=by
 rw[Lib.strCells_eq,←Lib.byteCells_append] at h;exact Or.inr h
structure MxT (w:World):Prop where
 cell : ∃m,w.cell? ⟨2,0,none⟩=some (.int .i64 m)
 low:2<w.heap.size
theorem MxT.below {w w':World} (h:MxT w) (hb:Below w.heap.size w w'):MxT w':=by
 obtain⟨⟨m,hm⟩,hl⟩:=h;exact⟨⟨m,(hb.cell (p:=⟨2,0,none⟩) hl).trans hm⟩,Nat.lt_of_lt_of_le hl hb.size⟩
theorem eidx_calls (l:List UInt8) (w:World) (hl:l.length<4294967281) (hM:MxT w) :
 Calls Tryz.prog 102 #[.string (str l),.string ⟨#[95,120]⟩] w fun e w'=>e = .returned (.int .i64 (Lib.index l [95,120]))∧w=w':=by
 obtain⟨⟨m,hm⟩,_⟩:=hM;have h:=Any.strings_Index layIndex (str l) ⟨#[95,120]⟩ m w (by rw[str_size];exact hl) hm;exact h.mono fun e w' ⟨h1,h2⟩=>⟨h1,h2.symm⟩
namespace Ch
theorem esc_round (p w:Int) (l:List UInt8) (k:Nat) (hk:k<l.length) :
 escL p w (l.take k).getLast? (l.drop k)=(if leg p w l k && !isX (l.drop k) then [l[k]] else code l[k])++escL p w (l.take (k+1)).getLast? (l.drop (k+1)):=by
 have e1:l.drop k=l[k]::l.drop (k+1):=List.drop_eq_getElem_cons hk;have e2:(l.take (k+1)).getLast? = some l[k]:=by
  rw[List.take_succ_eq_append_getElem hk,List.getLast?_append,List.getLast?_singleton,Option.some_or]
 have e3:leg p w l k=legC p w l[k] (l.take k).getLast?.isSome (midP (l.take k).getLast? (l.drop (k+1))):=by
  have h:=leg_split p w (l.take k) l[k] (l.drop (k+1));rw[←e1,List.take_append_drop,List.length_take,Nat.min_eq_left (Nat.le_of_lt hk)] at h;exact h
 rw[e2,e3,e1,isX_cons]
 conv=>lhs;unfold escL
theorem esc_stop (p w:Int) (l:List UInt8):escL p w (l.take l.length).getLast? (l.drop l.length)=[]:=by
 rw[List.drop_length];rfl
theorem code_len (c:UInt8):(code c).length=4:=rfl
end Ch
theorem escape_calls (p s:Int) (l:List UInt8) (w:World) (hl:l.length≤4194304) (hT:ChT w) :
 Calls Tryz.prog 24 #[.int .i64 p,.int .i64 s,.string (str l)] w fun e w'=>e = .returned (.string (str (Ch.esc p s l)))∧Below w.heap.size w w':=by
 have hsz:=str_size l;have H0:=Lh (Lib.fresh_isBuilder 90 5 w);have B0:=Lh ((Below.refl w.heap.size w).alloc (Nat.le_refl _) (.cells #[.pointer none,.slice none 0 0] 90));go_enter Tryz.func24,Tryz.ntmps24;go_wp2_with fail;go_loopw [11] (fun v wr => ∃(k:Nat) (out:List UInt8),k≤l.length∧out.length≤4*k∧v = .int .i64 (k:Nat)∧Hid (Ch.esc p s l=out++Ch.escL p s (l.take k).getLast? (l.drop k)∧Below w.heap.size w wr∧Lib.IsBuilder 90 5 w.heap.size w.heap.size (Lib.byteCells out) wr)) (fun v _=>l.length-(intOf v).toNat);case atStart=>exact ⟨0,[],by omega,by simp,rfl,rfl,B0.out,H0.out⟩
 case round =>
  obtain⟨k,out,hk,ho,rfl,H⟩:=hrel;by_cases h:k<l.length
  ·have hk2:k<(str l).size:=by rw[hsz];exact h
   have hlt:decide ((k:Int)<(l.length:Int))=true:=by simp;omega
   have hlt':decide (k<l.length)=true:=decide_eq_true h;have hbyte:(str l)[k]=l[k]:=rfl;have hc:=chlegal_calls p s l (k:Int) wr (by unfold maxLen;omega) (hT.below H.out.2.1);rw[Ch.legI_at] at hc;have hsl:=cut_from l (k:Int) k rfl (Nat.le_of_lt h);have hR:=Lh (Ch.esc_round p s l k h)
   cases hg:Ch.leg p s l k
   ·rw[hg] at hc;have HE:=Lh (show Ch.esc p s l=(out++Ch.code l[k])++Ch.escL p s (l.take (k+1)).getLast? (l.drop (k+1)) by
     rw[H.out.1,hR.out,hg,List.append_assoc];rfl)
    clear hR hg;go_wp2_with fail;refine hc.mono ?_;rintro e w1 ⟨rfl,b1⟩;have B1:=Lh (trans9 H.out.2.1 b1);have H1:=Lh (isb_kept H.out.2.2 b1);clear H b1;go_wp2_with fail;refine(escaped_calls _ _).mono ?_;rintro e w2 ⟨rfl,b2⟩;have B2:=Lh (trans9 B1.out b2);have H2:=Lh (isb_kept H1.out b2);clear b2 B1 H1;go_wp2_with fail;refine(bwrite_calls w.heap.size w.heap.size _ _ _ H2.out (by rw[Lib.byteCells_length,str_size,Ch.code_len];omega) B2.out.size).mono ?_;rintro e w3 ⟨rfl,h3,b3⟩;have B3:=Lh (B2.out.trans b3);have H3:=Lh (isb_text h3);clear h3 b3 B2 H2;go_wp2_with fail;go_roundw;case rel=>exact ⟨k+1,_,h,by rw[List.length_append,Ch.code_len];omega,by go_num,HE.out,B3.out,H3.out⟩
    case measure=>simp [intOf];omega
   ·rw[hg] at hc
    cases hx:Ch.isX (l.drop k)
    ·have hpc:=epre_calls (l.drop k);rw[hx] at hpc;have HE:=Lh (show Ch.esc p s l=(out++[l[k]])++Ch.escL p s (l.take (k+1)).getLast? (l.drop (k+1)) by
      rw[H.out.1,hR.out,hg,hx,List.append_assoc];rfl)
     clear hR hg hx;go_wp2_with fail;refine hc.mono ?_;rintro e w1 ⟨rfl,b1⟩;have B1:=Lh (trans9 H.out.2.1 b1);have H1:=Lh (isb_kept H.out.2.2 b1);clear H b1;go_wp2_with fail;refine(hpc _).mono ?_;rintro e w2 ⟨rfl,rfl⟩;go_wp2_with fail;refine(bbyte_calls w.heap.size w.heap.size _ _ _ H1.out (by rw[Lib.byteCells_length];omega) B1.out.size).mono ?_;rintro e w3 ⟨rfl,h3,b3,_⟩;have B3:=Lh (B1.out.trans b3);have H3:=Lh (isb_byte h3);clear h3 b3 B1 H1;go_wp2_with fail;go_roundw;case rel=>exact ⟨k+1,_,h,by rw[List.length_append];simp;omega,by go_num,HE.out,B3.out,H3.out⟩
     case measure=>simp [intOf];omega
    ·have hpc:=epre_calls (l.drop k);rw[hx] at hpc;have HE:=Lh (show Ch.esc p s l=(out++Ch.code l[k])++Ch.escL p s (l.take (k+1)).getLast? (l.drop (k+1)) by
      rw[H.out.1,hR.out,hg,hx,List.append_assoc];rfl)
     clear hR hg hx;go_wp2_with fail;refine hc.mono ?_;rintro e w1 ⟨rfl,b1⟩;have B1:=Lh (trans9 H.out.2.1 b1);have H1:=Lh (isb_kept H.out.2.2 b1);clear H b1;go_wp2_with fail;refine(hpc _).mono ?_;rintro e w2 ⟨rfl,rfl⟩;go_wp2_with fail;refine(escaped_calls _ _).mono ?_;rintro e w2 ⟨rfl,b2⟩;have B2:=Lh (trans9 B1.out b2);have H2:=Lh (isb_kept H1.out b2);clear b2 B1 H1;go_wp2_with fail;refine(bwrite_calls w.heap.size w.heap.size _ _ _ H2.out (by rw[Lib.byteCells_length,str_size,Ch.code_len];omega) B2.out.size).mono ?_;rintro e w3 ⟨rfl,h3,b3⟩;have B3:=Lh (B2.out.trans b3);have H3:=Lh (isb_text h3);clear h3 b3 B2 H2;go_wp2_with fail;go_roundw;case rel=>exact ⟨k+1,_,h,by rw[List.length_append,Ch.code_len];omega,by go_num,HE.out,B3.out,H3.out⟩
     case measure=>simp [intOf];omega
  ·have hlt:decide ((k:Int)<(l.length:Int))=false:=by simp;omega
   have hlt':decide (k<l.length)=false:=decide_eq_false h;have he:k=l.length:=by omega
   have HE:=Lh (show Ch.esc p s l=out by rw[H.out.1,he,Ch.esc_stop,List.append_nil]);clear he;have hs:=bstring_calls w.heap.size w.heap.size out wr H.out.2.2 H.out.2.1.size;go_wp2_with fail;refine hs.mono ?_;rintro e w2 ⟨rfl,b2⟩;have B2:=Lh (H.out.2.1.trans b2);go_wp2;go_ret;exact⟨by rw[HE.out];rfl,B2.out⟩
namespace Ch
def hexI (c:UInt8):Int:=match unhex c with|none => -1|some k=>(k:Int)
theorem hexI_is : ∀c:UInt8,Lib.indexByte [48,49,50,51,52,53,54,55,56,57,97,98,99,100,101,102] c=hexI c:=all_bytes (by decide +kernel)
theorem unhex_lt : ∀(c:UInt8) (k:Nat),unhex c=some k→k<16:=by
 intro c k h;unfold unhex at h;split at h
 ·cases h;omega
 ·split at h
  ·cases h;omega
  ·cases h
theorem hexI_none {c:UInt8} (h:unhex c=none):hexI c = -1:=by unfold hexI;rw[h]
theorem hexI_some {c:UInt8} {k:Nat} (h:unhex c=some k):hexI c=(k:Int):=by unfold hexI;rw[h]
def byteO:List UInt8→Option UInt8
 | e::f::_=>match unhex e,unhex f with|some x,some y=>some (UInt8.ofNat (16*x+y))|_,_=>none
 | _=>none
theorem byteO_cons (e f:UInt8) (r:List UInt8):byteO (e::f::r)=match unhex e,unhex f with|some x,some y=>some (UInt8.ofNat (16*x+y))|_,_=>none:=rfl
theorem byteO_none {e f:UInt8} {r:List UInt8} (h:unhex e=none∨unhex f=none):byteO (e::f::r)=none:=by
 rw[byteO_cons];rcases h with h|h
 ·rw[h]
 ·rw[h];cases unhex e <;> rfl
theorem byteO_some {e f:UInt8} {r:List UInt8} {x y:Nat} (h:unhex e=some x) (k:unhex f=some y):byteO (e::f::r)=some (UInt8.ofNat (16*x+y)):=by rw[byteO_cons,h,k]
theorem byteO_short {l:List UInt8} (h : ¬2≤l.length):byteO l=none:=by
 match l,h with
 | [],_=>rfl
 | [_],_=>rfl
 | _::_::_,h=>simp at h
theorem byteO_drop {l:List UInt8} {c:UInt8} (h:byteO l=some c):2≤l.length:=by
 match l,h with
 | [],h=>cases h
 | [_],h=>cases h
 | _::_::_,_=>simp
theorem undo_x (q:List UInt8):undo (95::120::q)=match byteO q with|none=>none|some c=>(undo (q.drop 2)).map (c :: ·):=by
 match q with
 | []=>rfl
 | [e]=>conv=>lhs;rw[undo]
        rfl
 | e::f::r =>
   conv=>lhs;rw[undo]
   rw[if_pos ⟨rfl,rfl⟩]
   cases h:unhex e with
   | none=>rw [byteO_none (Or.inl h)]
   | some x =>
     cases k:unhex f with
     | none=>rw [byteO_none (Or.inr k)]
     | some y=>rw [byteO_some h k];rfl
theorem idx_cases : ∀l:List UInt8,(Lib.index l [95,120] = -1∧undo l=some l) ∨
 ∃a q,l=a++95::120::q∧Lib.index l [95,120]=(a.length:Int)∧undo l=(undo (95::120::q)).map (a ++ ·)
 | []=>Or.inl ⟨rfl,rfl⟩
 | c::r=>by
   by_cases hx:isUx c r=true
   ·unfold isUx at hx;rw[Bool.and_eq_true] at hx;have h1:c=95:=by simpa using hx.1
    have h2:r.head? = some 120:=by simpa using hx.2
    subst h1
    cases r with
    | nil=>cases h2
    | cons d q =>
      cases h2
      exact Or.inr ⟨[],q,rfl,rfl,by simp⟩
   ·have hx':isUx c r=false:=by simpa using hx
    have hp:([95,120]:List UInt8).isPrefixOf (c::r)=false:=by
     unfold isUx at hx'
     cases r with
     | nil=>simp [List.isPrefixOf]
     | cons d q =>
       simp only[List.isPrefixOf,List.head?_cons,Option.some.injEq] at hx' ⊢;by_cases h1:c=95 <;> by_cases h2:d=120 <;> simp_all
       ·intro e;exact absurd e.symm h2
       ·intro e;exact absurd e.symm h1
       ·intro e;exact absurd e.symm h1
    have hi:Lib.index (c::r) [95,120]=if Lib.index r [95,120] == -1 then -1 else Lib.index r [95,120]+1:=by
     conv=>lhs;unfold Lib.index
     rw[hp];rfl
    rcases idx_cases r with ⟨h1,h2⟩|⟨a,q,rfl,h1,h2⟩
    ·exact Or.inl ⟨by rw[hi,h1];rfl,by rw[undo_keep c r hx',h2];rfl⟩
    ·refine Or.inr ⟨c::a,q,rfl,?_,?_⟩
     ·rw[hi,h1];have:((a.length:Int) == -1)=false:=beq_eq_false_iff_ne.2 (by omega);rw[this];simp
     ·rw[undo_keep c _ hx',h2]
      cases undo (95::120::q) <;> rfl
end Ch
theorem ebyte0_calls (c:UInt8) (w:World) :
 Calls Tryz.prog 167 #[.string ⟨#[48,49,50,51,52,53,54,55,56,57,97,98,99,100,101,102]⟩,.int .u8 (c.toNat:Int)] w fun e w'=>e = .returned (.int .i64 (Ch.hexI c))∧w=w':=by
 have h:=Any.stringslite_IndexByte {layIndex with} ⟨#[48,49,50,51,52,53,54,55,56,57,97,98,99,100,101,102]⟩ (c.toNat:Int) w;refine h.mono fun e w' ⟨h1,h2⟩=>⟨?_,h2.symm⟩
 rw[h1,←Ch.hexI_is c];have:(c.toNat:Int).toNat.toUInt8=c:=by rw[Int.toNat_natCast];exact UInt8.ofNat_toNat
 rw[this]
theorem ebyte_calls (c:UInt8) (w:World) :
 Calls Tryz.prog 127 #[.string ⟨#[48,49,50,51,52,53,54,55,56,57,97,98,99,100,101,102]⟩,.int .u8 (c.toNat:Int)] w fun e w'=>e = .returned (.int .i64 (Ch.hexI c))∧w=w':=by
 go_enter Tryz.func127,Tryz.ntmps127;go_wp2_with fail;refine(ebyte0_calls c _).mono ?_;rintro e w' ⟨rfl,rfl⟩;go_wp2;go_ret;exact⟨rfl,rfl⟩
def byteV (o:Option UInt8):Value:=match o with|none => .tuple #[.int .u8 0,.bool false]|some c => .tuple #[.int .u8 (c.toNat:Int),.bool true]
theorem or_hex : ∀x y:Fin 16,bits .or .i64 ((x.val:Int)*16) (y.val:Int)=((16*x.val+y.val:Nat):Int):=by decide +kernel
theorem byteOf_calls (l:List UInt8) (w:World) (hm:l.length≤maxLen) :
 Calls Tryz.prog 103 #[.string (str l)] w fun e w'=>e = .returned (byteV (Ch.byteO l))∧w=w':=by
 have hsz:=str_size l;unfold maxLen at hm;by_cases h2:2≤l.length
 ·have d2:decide ((l.length:Int)<2)=false:=by simp;omega
  have d2':decide (l.length<2)=false:=by simp;omega
  have k0:0<(str l).size:=by rw[hsz];omega
  have k1:1<(str l).size:=by rw[hsz];omega
  obtain⟨e,f,r,hl⟩ : ∃e f r,l=e::f::r:=by
   match l,h2 with
   | e::f::r,_=>exact ⟨e,f,r,rfl⟩
  have hb0:(str l)[0]=e:=by subst hl;rfl
  have hb1:(str l)[1]=f:=by subst hl;rfl
  have HO:=Lh (show Ch.byteO l=Ch.byteO (e::f::r) by rw[hl]);have c0:=ebyte_calls e;have c1:=ebyte_calls f;clear hl
  cases he:Ch.unhex e with
  | none =>
    rw[Ch.hexI_none he] at c0;have HR:=Lh (show Ch.byteO l=none by rw[HO.out];exact Ch.byteO_none (Or.inl he));go_enter Tryz.func103,Tryz.ntmps103;go_wp2_with fail;refine(c0 _).mono ?_;rintro e w1 ⟨rfl,rfl⟩;go_wp2_with fail;refine(c1 _).mono ?_;rintro e w1 ⟨rfl,rfl⟩;go_wp2_with fail
    go_ret2
    exact⟨by rw[HR.out];rfl,rfl⟩
  | some x =>
    rw[Ch.hexI_some he] at c0
    cases hf:Ch.unhex f with
    | none =>
      rw[Ch.hexI_none hf] at c1;have HR:=Lh (show Ch.byteO l=none by rw[HO.out];exact Ch.byteO_none (Or.inr hf));go_enter Tryz.func103,Tryz.ntmps103;go_wp2_with fail;refine(c0 _).mono ?_;rintro e w1 ⟨rfl,rfl⟩;go_wp2_with fail;refine(c1 _).mono ?_;rintro e w1 ⟨rfl,rfl⟩;go_wp2_with fail
      go_ret2
      exact⟨by rw[HR.out];rfl,rfl⟩
    | some y =>
      rw[Ch.hexI_some hf] at c1;have hx:=Ch.unhex_lt _ _ he;have hy:=Ch.unhex_lt _ _ hf;have hor:=or_hex ⟨x,hx⟩ ⟨y,hy⟩;have HR:=Lh (show Ch.byteO l=some (UInt8.ofNat (16*x+y)) by rw[HO.out];exact Ch.byteO_some he hf);go_enter Tryz.func103,Tryz.ntmps103;go_wp2_with fail;refine(c0 _).mono ?_;rintro e w1 ⟨rfl,rfl⟩;go_wp2_with fail;refine(c1 _).mono ?_;rintro e w1 ⟨rfl,rfl⟩;go_wp2_with fail
      go_ret2
      have hu:((UInt8.ofNat (16*x+y)).toNat:Int)=16*(x:Int)+(y:Int):=by
       rw[UInt8.toNat_ofNat',Nat.mod_eq_of_lt (by show _<256;omega)];omega
      refine⟨?_,rfl⟩;rw[HR.out];show _=Ending.returned (.tuple #[.int .u8 ((UInt8.ofNat (16*x+y)).toNat:Int),.bool true]);rw[hu];rfl
 ·have d2:decide ((l.length:Int)<2)=true:=by simp;omega
  have d2':decide (l.length<2)=true:=by simp;omega
  have HR:=Lh (Ch.byteO_short h2);go_enter Tryz.func103,Tryz.ntmps103;go_wp2_with fail
  go_ret2
  exact⟨by rw[HR.out];rfl,rfl⟩
def undoV (o:Option (List UInt8)):Value:=match o with|none => .tuple #[.string ⟨#[]⟩,.bool false]|some t => .tuple #[.string (str t),.bool true]
def lenOf (v:Value):Nat:=match v with | .string s=>s.size|_=>0
theorem map_out {o:Option (List UInt8)} {a b:List UInt8}:(o.map (a ++ ·)).map (b ++ ·)=o.map ((b++a) ++ ·):=by cases o <;> simp
theorem map_put {o:Option (List UInt8)} {c:UInt8} {b:List UInt8}:(o.map (c :: ·)).map (b ++ ·)=o.map ((b++[c]) ++ ·):=by cases o <;> simp
theorem undo_calls (l:List UInt8) (w:World) (hl:l.length≤4194304) (hM:MxT w) :
 Calls Tryz.prog 62 #[.string (str l)] w fun e w'=>e = .returned (undoV (Ch.undo l))∧Below w.heap.size w w':=by
 have H0:=Lh (Lib.fresh_isBuilder 90 5 w);have B0:=Lh ((Below.refl w.heap.size w).alloc (Nat.le_refl _) (.cells #[.pointer none,.slice none 0 0] 90));go_enter Tryz.func62,Tryz.ntmps62;go_wp2_with fail;go_loopw [0] (fun v wr => ∃(out q:List UInt8),out.length+q.length≤4194304∧v = .string (str q)∧Hid (Ch.undo l=(Ch.undo q).map (out ++ ·)∧Below w.heap.size w wr∧Lib.IsBuilder 90 5 w.heap.size w.heap.size (Lib.byteCells out) wr)) (fun v _=>lenOf v);case atStart=>exact ⟨[],l,by simpa using hl,rfl,by cases Ch.undo l <;> rfl,B0.out,H0.out⟩
 case round =>
  obtain⟨out,q,ho,rfl,H⟩:=hrel;have hsz:=str_size q;have hix:=eidx_calls q wr (by omega) (hM.below H.out.2.1);rcases Ch.idx_cases q with ⟨h1,h2⟩|⟨a,q2,hq,h1,h2⟩
  ·rw[h1] at hix;have HE:=Lh (show Ch.undo l=some (out++q) by rw[H.out.1,h2];rfl);clear h1 h2;go_wp2_with fail;refine hix.mono ?_;rintro e w1 ⟨rfl,rfl⟩;go_wp2_with fail;refine(bwrite_calls w.heap.size w.heap.size _ _ _ H.out.2.2 (by rw[Lib.byteCells_length,str_size];omega) H.out.2.1.size).mono ?_;rintro e w3 ⟨rfl,h3,b3⟩;have B3:=Lh (H.out.2.1.trans b3);have H3:=Lh (isb_text h3);clear h3 b3 H;go_wp2_with fail;refine(bstring_calls w.heap.size w.heap.size _ _ H3.out B3.out.size).mono ?_;rintro e w4 ⟨rfl,b4⟩;have B4:=Lh (B3.out.trans b4);clear b4;go_wp2_with fail
   go_ret2
   exact⟨by rw[HE.out];rfl,B4.out⟩
  ·rw[h1] at hix;have hlen:q.length=a.length+(q2.length+2):=by rw[hq];simp
   have hto:=cut_to q (a.length:Int) a.length rfl (by omega);have hfrom:=cut_from q ((a.length:Int)+2) (a.length+2) (by omega) (by omega);rw[show q.take a.length=a by rw[hq];simp] at hto;rw[show q.drop (a.length+2)=q2 by rw[hq,←List.drop_drop];simp] at hfrom;have dn:decide ((a.length:Int)<0)=false:=by simp
   have HX:=Lh (Ch.undo_x q2);have HE:=Lh (show Ch.undo l=(Ch.undo (95::120::q2)).map ((out++a) ++ ·) by rw[H.out.1,h2,map_out]);have HL:=Lh hlen;have hal:a.length≤4194304:=by omega
   have hby:=fun W=>byteOf_calls q2 W (by unfold maxLen;omega);clear h1 h2 hq hlen;go_wp2_with fail;refine hix.mono ?_;rintro e w1 ⟨rfl,rfl⟩;go_wp2_with fail;refine(bwrite_calls w.heap.size w.heap.size _ _ _ H.out.2.2 (by rw[Lib.byteCells_length,str_size];have:=HL.out;omega) H.out.2.1.size).mono ?_;rintro e w3 ⟨rfl,h3,b3⟩;have B3:=Lh (H.out.2.1.trans b3);have H3:=Lh (isb_text h3);clear h3 b3 H
   cases hb:Ch.byteO q2 with
   | none =>
     rw[hb,show byteV none = .tuple #[.int .u8 0,.bool false] from rfl] at hby;have HR:=Lh (show Ch.undo l=none by rw[HE.out,HX.out,hb];rfl);go_wp2_with fail;refine(hby _).mono ?_;rintro e w4 ⟨rfl,rfl⟩;go_wp2_with fail
     go_ret2
     exact⟨by rw[HR.out];rfl,B3.out⟩
   | some c =>
     rw[hb,show byteV (some c) = .tuple #[.int .u8 (c.toNat:Int),.bool true] from rfl] at hby;have h2:=Ch.byteO_drop hb;have HR:=Lh (show Ch.undo l=(Ch.undo (q2.drop 2)).map (((out++a)++[c]) ++ ·) by rw[HE.out,HX.out,hb];exact map_put);have hf2:=cut_from q2 2 2 rfl h2;have HZ:=Lh (show(q2.drop 2).length=q2.length-2 by simp);clear hb HX HE;go_wp2_with fail;refine(hby _).mono ?_;rintro e w4 ⟨rfl,rfl⟩;go_wp2_with fail;refine(bbyte_calls w.heap.size w.heap.size _ _ _ H3.out (by rw[Lib.byteCells_length,List.length_append];have:=HL.out;omega) B3.out.size).mono ?_;rintro e w5 ⟨rfl,h5,b5,_⟩;have B5:=Lh (B3.out.trans b5);have H5:=Lh (isb_byte h5);clear h5 b5 B3 H3;go_wp2_with fail;go_roundw;case rel=>exact ⟨_,q2.drop 2,by rw[HZ.out,List.length_append,List.length_append];have:=HL.out;simp;omega,rfl,HR.out,B5.out,H5.out⟩
     case measure=>have:=HL.out;have:=HZ.out;show(str (q2.drop 2)).size<(str q).size;rw[str_size,str_size];omega
namespace Ch
theorem undo_len : ∀(n:Nat) (l t:List UInt8),l.length≤n→undo l=some t→t.length≤l.length
 | 0,l,t,h,hu=>by
   obtain rfl:l=[]:=List.length_eq_zero_iff.1 (by omega)
   cases hu;simp
 | n+1,[],t,h,hu=>by cases hu;simp
 | n+1,c::r,t,h,hu=>by
   by_cases hx:isUx c r=true
   ·unfold isUx at hx;rw[Bool.and_eq_true] at hx;have h1:c=95:=by simpa using hx.1
    have h2:r.head? = some 120:=by simpa using hx.2
    subst h1
    cases r with
    | nil=>cases h2
    | cons d q =>
      cases h2
      rw[undo_x] at hu
      cases hb:byteO q with
      | none=>rw [hb] at hu;cases hu
      | some c =>
        rw[hb] at hu;simp only[Option.map_eq_some_iff] at hu;obtain⟨t',h1,rfl⟩:=hu;have hl:(q.drop 2).length=q.length-2:=by simp
        simp only[List.length_cons] at h ⊢;have:=undo_len n (q.drop 2) t' (by omega) h1;omega
   ·have hx':isUx c r=false:=by simpa using hx
    rw[undo_keep c r hx',Option.map_eq_some_iff] at hu;obtain⟨t',h1,rfl⟩:=hu;simp only[List.length_cons] at h ⊢;have:=undo_len n r t' (by omega) h1;omega
theorem back_none {p w:Int} {s:List UInt8} (h:undo s=none):back p w s=s:=by unfold back;rw[h]
theorem back_yes {p w:Int} {s t:List UInt8} (h:undo s=some t) (e:esc p w t=s):back p w s=t:=by unfold back;rw[h];exact if_pos e
theorem back_no {p w:Int} {s t:List UInt8} (h:undo s=some t) (e : ¬esc p w t=s):back p w s=s:=by unfold back;rw[h];exact if_neg e
end Ch
theorem back_calls (p s:Int) (l:List UInt8) (w:World) (hl:l.length≤4194304) (hT:ChT w) (hM:MxT w) :
 Calls Tryz.prog 35 #[.int .i64 p,.int .i64 s,.string (str l)] w fun e w'=>e = .returned (.string (str (Ch.back p s l)))∧Below w.heap.size w w':=by
 have hu:=undo_calls l w hl hM
 cases ht:Ch.undo l with
 | none =>
   rw[ht,show undoV none = .tuple #[.string ⟨#[]⟩,.bool false] from rfl] at hu;have HR:=Lh (Ch.back_none (p:=p) (w:=s) ht);go_enter Tryz.func35,Tryz.ntmps35;go_wp2_with fail;refine hu.mono ?_;rintro e w1 ⟨rfl,b1⟩;go_wp2;go_ret;exact⟨by rw[HR.out];rfl,b1⟩
 | some t =>
   rw[ht,show undoV (some t) = .tuple #[.string (str t),.bool true] from rfl] at hu;have htl:=Ch.undo_len _ l t (Nat.le_refl _) ht;have he:=fun W hW=>escape_calls p s t W (by omega) hW;by_cases hq:Ch.esc p s t=l
   ·have HR:=Lh (Ch.back_yes ht hq);rw[hq] at he;clear ht hq;go_enter Tryz.func35,Tryz.ntmps35;go_wp2_with fail;refine hu.mono ?_;rintro e w1 ⟨rfl,b1⟩;have B1:=Lh b1;clear b1;go_wp2_with fail;refine(he _ (hT.below B1.out)).mono ?_;rintro e w2 ⟨rfl,b2⟩;have B2:=Lh (trans9 B1.out b2);clear b2;go_wp2;go_ret;exact⟨by rw[HR.out];rfl,B2.out⟩
   ·have HR:=Lh (Ch.back_no ht hq);have q1:(Ch.esc p s t==l)=false:=beq_eq_false_iff_ne.2 hq;generalize Ch.esc p s t=x at *;clear ht;go_enter Tryz.func35,Tryz.ntmps35;go_wp2_with fail;refine hu.mono ?_;rintro e w1 ⟨rfl,b1⟩;have B1:=Lh b1;clear b1;go_wp2_with fail;refine(he _ (hT.below B1.out)).mono ?_;rintro e w2 ⟨rfl,b2⟩;have B2:=Lh (trans9 B1.out b2);clear b2;go_wp2;go_ret;exact⟨by rw[HR.out];rfl,B2.out⟩
end Go.Proofs.YtbapneipjmpcbaaGreatDoor
