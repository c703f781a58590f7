import Derived.RangeFuncNested
import Derived.RangeFuncBound
import Derived.Lib.Builder
import Derived.Test.YtbapneipjmpcbaaGreatDoorLegI
import Derived.Test.YtbapneipjmpcbaaGreatDoorColB
import Derived.Test.YtbapneipjmpcbaaGreatDoorChW
import Derived.Test.YtbapneipjmpcbaaGreatDoorKRow
import Derived.Test.YtbapneipjmpcbaaGreatDoorGrd
import Derived.Test.YtbapneipjmpcbaaGreatDoorLegX
import Derived.Test.YtbapneipjmpcbaaGreatDoorBatX
set_option maxHeartbeats 16000000
set_option maxRecDepth 100000
set_option linter.unusedVariables false
set_option linter.unusedSimpArgs false
namespace Go.Proofs.YtbapneipjmpcbaaGreatDoor
open Go.RowKit Go.Shelf Dc
attribute [local go_sem] Oper.semAt_some
theorem keepsF_below {W W':World} (B:Nat) (h:Below W.heap.size W W'):KeepsFrom B W W':=⟨h.size,fun k o _ hk _=>by rw[h.block k (Array.getElem?_eq_some_iff.1 hk).1];exact hk⟩
structure IsI (w:World) (B z1 z4:Nat) (o1 o4:Obj) (W:World):Prop where
 size:B≤W.heap.size
 bl:Below w.heap.size w W
 c1:W.heap[z1]? = some o1
 c4:W.heap[z4]? = some o4
variable {w W W':World} {B z1 z4:Nat} {o1 o4:Obj}
theorem IsI.kept {row:Option Nat} (h:IsI w B z1 z4 o1 o4 W) (hz:z1<B∧z4<B∧w.heap.size≤B) (hg:W.grownBy W' row) (hr : ∀r,row=some r→B≤r):IsI w B z1 z4 o1 o4 W':=by
 have hk : ∀k,k<B→W'.heap[k]? = W.heap[k]?:=fun k hk=>hg.block k (Nat.lt_of_lt_of_le hk h.size) (fun e=>by have:=hr k e.symm;omega);exact⟨Nat.le_trans h.size hg.size,h.bl.grown hg (Nat.le_trans hz.2.2 h.size) (fun k e=>by have:=hr k e;omega),by rw[hk z1 hz.1];exact h.c1,by rw[hk z4 hz.2.1];exact h.c4⟩
theorem IsI.below (h:IsI w B z1 z4 o1 o4 W) (hz:z1<B∧z4<B∧w.heap.size≤B) (hb:Below W.heap.size W W'):IsI w B z1 z4 o1 o4 W':=h.kept hz (grown_none hb) (fun r e=>by cases e)
theorem IsI.put {u:Value} {ty:TypeId} (h:IsI w B z1 z4 o1 (.cells #[u] ty (0,0)) W) (hz:w.heap.size≤z4∧z1≠z4) (v:Value):IsI w B z1 z4 o1 (.cells #[v] ty (0,0)) (W.setCell ⟨z4,0,none⟩ v) :=
 ⟨by rw[World.size_setCell];exact h.size,h.bl.setCell (p:=⟨z4,0,none⟩) hz.1 v,by rw[heap_setCell_other _ _ _ _ (by show z1≠z4;exact hz.2)];exact h.c1,set_heap W z4 0 _ _ _ v h.c4⟩
theorem isleg_calls (p:Int) (t:List UInt8) (L:List Fs) (fv:Value) (w:World) (hv:FmRow w fv L) (hT:ChT w) :
 Calls Tryz.prog 14 #[.int .i64 p,batv t fv] w fun e w'=>e = .returned (.bool (Lg.isB p (fms L)))∧Below w.heap.size w w':=by
 have HT:=Lh hT;have HV:=Lh hv;have HS:=Lh (sq_len hv);obtain⟨A,cap,rfl,_⟩:=hv.1;clear hv hT;refine(callsIn_wide (n:=9)).1 ?_;refine callsIn_of_wp_marks Tryz.func14 rfl trivial ?_ rfl;simp only[Tryz.ntmps14,List.size_toArray,List.length_cons,List.length_nil,Nat.reduceAdd,Nat.reduceSub,Array.replicate_succ,Array.replicate_zero,List.push_toArray,List.append_toArray,List.nil_append,List.cons_append]
 gi_wp2_with fail
 obtain⟨e2,e3,e4,s0,B0⟩:=three_new w (.cells #[.int .i64 p] 3) (.cells #[.string (str t),.slice A L.length cap] 24) (.cells #[.bool false] 4);generalize ((w.alloc (.cells #[.int .i64 p] 3)).alloc (.cells #[.string (str t),.slice A L.length cap] 24)).alloc (.cells #[.bool false] 4)=w0 at *;refine⟨trivial,(names_calls Fence.wide _ trivial rfl t A L.length cap w0).mono ?_⟩;rintro e w' ⟨rfl,rfl⟩;have N5:=heap_alloc_new w0 (.cells #[.string (str t),.slice A L.length cap] 24);have s5:=World.size_alloc w0 (.cells #[.string (str t),.slice A L.length cap] 24);have B5:=(Below.refl w0.heap.size w0).alloc (Nat.le_refl _) (.cells #[.string (str t),.slice A L.length cap] 24);rw[s0] at N5 s5;have K5:Below w.heap.size w (w0.alloc (.cells #[.string (str t),.slice A L.length cap] 24)):=B0.trans (B5.mono B0.size);have e2':=(B5.block w.heap.size (by omega)).trans e2;have e4':=(B5.block (w.heap.size+1+1) (by omega)).trans e4;rw[s0]
 gi_wp2_with fail
 generalize w0.alloc (.cells #[.string (str t),.slice A L.length cap] 24)=w5 at *;have hcell5:w5.cell? ⟨w.heap.size+3,1,none⟩=some (.slice A L.length cap):=by rw[cell_of_row w5 _ 1 _ _ _ N5];rfl
 have hzz:w.heap.size<w5.heap.size∧w.heap.size+1+1<w5.heap.size∧w.heap.size≤w5.heap.size:=by omega
 have I5:IsI w w5.heap.size w.heap.size (w.heap.size+1+1) (.cells #[.int .i64 p] 3) (.cells #[.bool false] 4) w5:=⟨Nat.le_refl _,K5,e2',e4'⟩
 have HI5:=Lh I5;refine wpIn_rangeFunc_ownG rfl (by omega) (gf:=68) (lb:=#[.pointer (some ⟨w.heap.size+3,0,none⟩)]) rfl trivial (enters_of Tryz.func68 (by kernel_rfl) rfl)
  (names_stops Fence.wide _ trivial rfl (by omega) (w.heap.size+3) L (.slice A L.length cap) w w5 HV.out K5 (by omega) hcell5) Kn.trans (kn_put hzz.2.2) (Below.refl _ _) (fun _=>rfl)
  (fun pre W=>IsI w w5.heap.size w.heap.size (w.heap.size+1+1) (.cells #[.int .i64 p] 3) (.cells #[.bool false] 4) W ∧ ∀i∈pre,Ch.isName p (Lg.itm (fms L) i).1 (Lg.itm (fms L) i).2=true)
  (fun c pre W=>c=Code.ret∧IsI w w5.heap.size w.heap.size (w.heap.size+1+1) (.cells #[.int .i64 p] 3) (.cells #[.bool false] 4) W ∧ ∃i∈pre,Ch.isName p (Lg.itm (fms L) i).1 (Lg.itm (fms L) i).2=false)
  (fun _ _ _ _ hs hg hr=>⟨hs.1.kept hzz hg (fun r e=>(hr r e).1),hs.2⟩) (fun _ _ _ _ _ hs hg hr=>⟨hs.1,hs.2.1.kept hzz hg (fun r e=>(hr r e).1),hs.2.2⟩) ⟨I5,fun i hi=>by cases hi⟩
  (fun x => {tmps:=#[.int .i64 p,batv t (.slice A L.length cap),.pointer (some ⟨w.heap.size,0,none⟩),.pointer (some ⟨w.heap.size+1,0,none⟩),.pointer (some ⟨w.heap.size+1+1,0,none⟩),.int .i64 (Lg.itm (fms L) x).1,.string (str (Lg.itm (fms L) x).2),
   .agg #[.string (str t),.slice A L.length cap],.func (.func 68) #[] #[.pointer (some ⟨w.heap.size+3,0,none⟩)],.int .i64 (Lg.itm (fms L) x).1,.string (str (Lg.itm (fms L) x).2),undef,undef,undef,undef,undef],defers:=[]}) ?assign ?body ?done ?stop
 case assign =>
  intro l x W K hK
  gi_wp2
  exact hK
 case body =>
  rintro l pre x W ⟨hI,hok⟩ hlt;have hsm:=Lg.itm_small HS.out x;have c1:=hI.c1;have c4:=hI.c4;have k1:W.cell? ⟨w.heap.size,0,none⟩=some (.int .i64 p):=by rw[cell_of_row W _ 0 _ _ _ c1];rfl
  have hcl:=chis_calls p (Lg.itm (fms L) x).1 (Lg.itm (fms L) x).2 W hsm (HT.out.below hI.bl);have HI:=Lh hI;have HO:=Lh hok;have HX:=Lh (show ∃y,y=Lg.itm (fms L) x from⟨_,rfl⟩);clear hI hok c1 c4;obtain⟨y,hy⟩:=HX.out;rw[←hy] at hcl ⊢;have HY:=Lh hy;clear hy HX;obtain⟨y1,y2⟩:=y;simp only at hcl ⊢
  gi_wp2_with fail
  refine⟨trivial,(CallsIn.inRound l (callsIn_wide.2 hcl)).mono ?_⟩;rintro e W1 ⟨rfl,b1⟩;have I1:=HI.out.below hzz b1;have KF:=Lh (keepsF_below w5.heap.size b1);have KN:=Lh (Kn.below (wb:=w) HI.out.bl.size b1);clear hcl k1
  cases hN:Ch.isName p y1 y2 with
  | true =>
    have HI1:=Lh I1;clear I1
    gi_wp2
    refine⟨KF.out,KN.out,HI1.out,fun i hi => ?_⟩;rcases List.mem_append.1 hi with h|h
    ·exact HO.out i h
    ·obtain rfl:=List.mem_singleton.1 h;rw[←HY.out];exact hN
  | false =>
    have k4:W1.cell? ⟨w.heap.size+1+1,0,none⟩=some (.bool false):=by rw[cell_of_row W1 _ 0 _ _ _ I1.c4];rfl
    have f4:W1.frozen? ⟨w.heap.size+1+1,0,none⟩=false:=Lib.frozen_of_heap I1.c4 0;have HI1:=Lh I1;clear I1
    gi_wp2
    have HI2:=HI1.out.put (by omega) (.bool false);refine⟨KF.out.trans ((KeepsOthers.setCell W1 ⟨w.heap.size+1+1,0,none⟩ (.bool false)).from _),rfl,HI2,x,by simp,?_⟩;rw[←HY.out];exact hN
 case done =>
  rintro D ys W hD rfl ⟨hI,hok⟩ hK;have k4:W.cell? ⟨w.heap.size+1+1,0,none⟩=some (.bool false):=by rw[cell_of_row W _ 0 _ _ _ hI.c4];rfl
  have f4:W.frozen? ⟨w.heap.size+1+1,0,none⟩=false:=Lib.frozen_of_heap hI.c4 0;have hr:Lg.isB p (fms L)=true:=Lg.isB_sq.2 fun v hv=>by
   rw[←Lg.itms_all] at hv;obtain⟨i,hi,rfl⟩:=List.mem_map.1 hv;exact hok i hi
  have I2:=hI.put (by omega) (.bool true);have hK2:(W.setCell ⟨w.heap.size+1+1,0,none⟩ (.bool true)).heap[D]? = some (.deferred (some [])):=by rw[heap_setCell_other _ _ _ _ (by show D≠w.heap.size+1+1;omega)];exact hK
  have HI:=Lh I2;clear hI hok I2
  gi_wp2
  generalize W.setCell ⟨w.heap.size+1+1,0,none⟩ (.bool true)=W3 at *;refine⟨by simp,.inl ⟨_,_,rfl,run_takeDeferred hK2,?_⟩⟩;have e63:(W3.putObj D (.deferred none)).heap[w.heap.size+1+1]? = some (.cells #[.bool true] 4 (0,0)):=by rw[World.putObj_heap_other (by omega)];exact HI.out.c4
  have c63:(W3.putObj D (.deferred none)).cell? ⟨w.heap.size+1+1,0,none⟩=some (.bool true):=by rw[cell_of_row _ _ 0 _ _ _ e63];rfl
  refine⟨.bool true,?_,by rw[hr],HI.out.bl.trans (belowK_b (w:=w) (Nat.le_refl _) W3 D _ _ (by omega) hK2 rfl rfl)⟩;simp[results,Tryz.f14,go_sem,c63]
 case stop =>
  rintro D c pre W hD ⟨k,hk,rfl⟩ ⟨rfl,hI,i,hi,hno⟩ hK;have hr:Lg.isB p (fms L)=false:=by
   cases h:Lg.isB p (fms L) with
   | false=>rfl
   | true =>
     have:=Lg.isB_sq.1 h (Lg.itm (fms L) i) (Lg.itms_mem (F:=fms L) hk rfl (List.mem_map.2 ⟨i,hi,rfl⟩));rw[this] at hno;cases hno
  have HI:=Lh hI;clear hI
  gi_wp2
  refine⟨by simp,.inl ⟨_,_,rfl,run_takeDeferred hK,?_⟩⟩;have e63:(W.putObj D (.deferred none)).heap[w.heap.size+1+1]? = some (.cells #[.bool false] 4 (0,0)):=by rw[World.putObj_heap_other (by omega)];exact HI.out.c4
  have c63:(W.putObj D (.deferred none)).cell? ⟨w.heap.size+1+1,0,none⟩=some (.bool false):=by rw[cell_of_row _ _ 0 _ _ _ e63];rfl
  refine⟨.bool false,?_,by rw[hr],HI.out.bl.trans (belowK_b (w:=w) (Nat.le_refl _) W D _ _ (by omega) hK rfl rfl)⟩;simp[results,Tryz.f14,go_sem,c63]
theorem hasLong_calls (t:List UInt8) (L:List Fs) (fv:Value) (w:World) (hv:FmRow w fv L) :
 Calls Tryz.prog 28 #[batv t fv] w fun e w'=>e = .returned (.bool (Lg.longB (fms L)))∧Below w.heap.size w w':=by
 have HV:=Lh hv;have HS:=Lh (sq_len hv);obtain⟨A,cap,rfl,_⟩:=hv.1;clear hv;refine(callsIn_wide (n:=9)).1 ?_;refine callsIn_of_wp_marks Tryz.func28 rfl trivial ?_ rfl;simp only[Tryz.ntmps28,List.size_toArray,List.length_cons,List.length_nil,Nat.reduceAdd,Nat.reduceSub,Array.replicate_succ,Array.replicate_zero,List.push_toArray,List.append_toArray,List.nil_append,List.cons_append]
 gi_wp2_with fail
 obtain⟨e3,e4,B0⟩:=blk2_new w (.cells #[.string (str t),.slice A L.length cap] 24) (.cells #[.bool false] 4);have s0:((w.alloc (.cells #[.string (str t),.slice A L.length cap] 24)).alloc (.cells #[.bool false] 4)).heap.size=w.heap.size+2:=by simp
 generalize (w.alloc (.cells #[.string (str t),.slice A L.length cap] 24)).alloc (.cells #[.bool false] 4)=w0 at *;refine⟨trivial,(names_calls Fence.wide _ trivial rfl t A L.length cap w0).mono ?_⟩;rintro e w' ⟨rfl,rfl⟩;have N5:=heap_alloc_new w0 (.cells #[.string (str t),.slice A L.length cap] 24);have s5:=World.size_alloc w0 (.cells #[.string (str t),.slice A L.length cap] 24);have B5:=(Below.refl w0.heap.size w0).alloc (Nat.le_refl _) (.cells #[.string (str t),.slice A L.length cap] 24);rw[s0] at N5 s5;have K5:Below w.heap.size w (w0.alloc (.cells #[.string (str t),.slice A L.length cap] 24)):=B0.trans (B5.mono B0.size);have e2':=(B5.block w.heap.size (by omega)).trans e3;have e4':=(B5.block (w.heap.size+1) (by omega)).trans e4;rw[s0]
 gi_wp2_with fail
 generalize w0.alloc (.cells #[.string (str t),.slice A L.length cap] 24)=w5 at *;have hcell5:w5.cell? ⟨w.heap.size+2,1,none⟩=some (.slice A L.length cap):=by rw[cell_of_row w5 _ 1 _ _ _ N5];rfl
 have hzz:w.heap.size<w5.heap.size∧w.heap.size+1<w5.heap.size∧w.heap.size≤w5.heap.size:=by omega
 have hbs:w.heap.size+2<w5.heap.size:=by omega
 clear s5;have I5:IsI w w5.heap.size w.heap.size (w.heap.size+1) (.cells #[.string (str t),.slice A L.length cap] 24) (.cells #[.bool false] 4) w5:=⟨Nat.le_refl _,K5,e2',e4'⟩
 have HI5:=Lh I5;refine wpIn_rangeFunc_ownG rfl (by omega) (gf:=68) (lb:=#[.pointer (some ⟨w.heap.size+2,0,none⟩)]) rfl trivial (enters_of Tryz.func68 (by kernel_rfl) rfl)
  (names_stops Fence.wide _ trivial rfl (by omega) (w.heap.size+2) L (.slice A L.length cap) w w5 HV.out K5 (by omega) hcell5) Kn.trans (kn_put hzz.2.2) (Below.refl _ _) (fun _=>rfl)
  (fun pre W=>IsI w w5.heap.size w.heap.size (w.heap.size+1) (.cells #[.string (str t),.slice A L.length cap] 24) (.cells #[.bool false] 4) W ∧ ∀i∈pre,(Lg.itm (fms L) i).2.length≤60)
  (fun c pre W=>c=Code.ret∧IsI w w5.heap.size w.heap.size (w.heap.size+1) (.cells #[.string (str t),.slice A L.length cap] 24) (.cells #[.bool true] 4) W ∧ ∃i∈pre,¬(Lg.itm (fms L) i).2.length≤60)
  (fun _ _ _ _ hs hg hr=>⟨hs.1.kept hzz hg (fun r e=>(hr r e).1),hs.2⟩) (fun _ _ _ _ _ hs hg hr=>⟨hs.1,hs.2.1.kept hzz hg (fun r e=>(hr r e).1),hs.2.2⟩) ⟨I5,fun i hi=>by cases hi⟩
  (fun x => {tmps:=#[batv t (.slice A L.length cap),.pointer (some ⟨w.heap.size,0,none⟩),.pointer (some ⟨w.heap.size+1,0,none⟩),undef,.string (str (Lg.itm (fms L) x).2),
   .agg #[.string (str t),.slice A L.length cap],.func (.func 68) #[] #[.pointer (some ⟨w.heap.size+2,0,none⟩)],.int .i64 (Lg.itm (fms L) x).1,.string (str (Lg.itm (fms L) x).2),undef,undef,undef],defers:=[]}) ?assign ?body ?done ?stop
 case assign =>
  intro l x W K hK
  gi_wp2
  exact hK
 case body =>
  rintro l pre x W ⟨hI,hok⟩ hlt;have hsm:=Lg.itm_small HS.out x;have c4:=hI.c4;have HX:=Lh (show ∃y,y=Lg.itm (fms L) x from⟨_,rfl⟩);have HI:=Lh hI;have HO:=Lh hok;obtain⟨y,hy⟩:=HX.out;rw[←hy] at hsm ⊢;have HY:=Lh hy;clear hy HX hI hok;obtain⟨y1,y2⟩:=y;simp only at hsm ⊢;unfold maxLen at hsm;have hzn:=str_size y2;by_cases hN:(60:Int)<(y2.length:Int)
  ·have dn:decide ((60:Int)<(y2.length:Int))=true:=decide_eq_true hN;have k4:W.cell? ⟨w.heap.size+1,0,none⟩=some (.bool false):=by rw[cell_of_row W _ 0 _ _ _ c4];rfl
   have f4:W.frozen? ⟨w.heap.size+1,0,none⟩=false:=Lib.frozen_of_heap c4 0;clear c4
   gi_wp2
   refine⟨(KeepsOthers.setCell W ⟨w.heap.size+1,0,none⟩ (.bool true)).from _,rfl,HI.out.put (by omega) (.bool true),x,by simp,?_⟩;rw[←HY.out];show ¬y2.length≤60;omega
  ·have dn:decide ((60:Int)<(y2.length:Int))=false:=decide_eq_false hN;clear c4
   gi_wp2
   refine⟨KeepsFrom.refl _ _,Kn.refl _ _,HI.out,fun i hi => ?_⟩;rcases List.mem_append.1 hi with h|h
   ·exact HO.out i h
   ·obtain rfl:=List.mem_singleton.1 h;rw[←HY.out];show y2.length≤60;omega
 case done =>
  rintro D ys W hD rfl ⟨hI,hok⟩ hK;have k4:W.cell? ⟨w.heap.size+1,0,none⟩=some (.bool false):=by rw[cell_of_row W _ 0 _ _ _ hI.c4];rfl
  have f4:W.frozen? ⟨w.heap.size+1,0,none⟩=false:=Lib.frozen_of_heap hI.c4 0;have hr:Lg.longB (fms L)=false:=Lg.long_sq.2 fun v hv=>by
   rw[←Lg.itms_all] at hv;obtain⟨i,hi,rfl⟩:=List.mem_map.1 hv;exact hok i hi
  have I2:=hI.put (by omega) (.bool false);have hK2:(W.setCell ⟨w.heap.size+1,0,none⟩ (.bool false)).heap[D]? = some (.deferred (some [])):=by rw[heap_setCell_other _ _ _ _ (by show D≠w.heap.size+1;omega)];exact hK
  have HI:=Lh I2;clear hI hok I2
  gi_wp2
  generalize W.setCell ⟨w.heap.size+1,0,none⟩ (.bool false)=W3 at *;refine⟨by simp,.inl ⟨_,_,rfl,run_takeDeferred hK2,?_⟩⟩;have e63:(W3.putObj D (.deferred none)).heap[w.heap.size+1]? = some (.cells #[.bool false] 4 (0,0)):=by rw[World.putObj_heap_other (by omega)];exact HI.out.c4
  have c63:(W3.putObj D (.deferred none)).cell? ⟨w.heap.size+1,0,none⟩=some (.bool false):=by rw[cell_of_row _ _ 0 _ _ _ e63];rfl
  refine⟨.bool false,?_,by rw[hr],HI.out.bl.trans (belowK_b (w:=w) (Nat.le_refl _) W3 D _ _ (by omega) hK2 rfl rfl)⟩;simp[results,Tryz.f28,go_sem,c63]
 case stop =>
  rintro D c pre W hD ⟨k,hk,rfl⟩ ⟨rfl,hI,i,hi,hno⟩ hK;have hr:Lg.longB (fms L)=true:=by
   cases h:Lg.longB (fms L) with
   | true=>rfl
   | false=>exact absurd (Lg.long_sq.1 h (Lg.itm (fms L) i) (Lg.itms_mem (F:=fms L) hk rfl (List.mem_map.2 ⟨i,hi,rfl⟩))) hno
  have HI:=Lh hI;clear hI
  gi_wp2
  refine⟨by simp,.inl ⟨_,_,rfl,run_takeDeferred hK,?_⟩⟩;have e63:(W.putObj D (.deferred none)).heap[w.heap.size+1]? = some (.cells #[.bool true] 4 (0,0)):=by rw[World.putObj_heap_other (by omega)];exact HI.out.c4
  have c63:(W.putObj D (.deferred none)).cell? ⟨w.heap.size+1,0,none⟩=some (.bool true):=by rw[cell_of_row _ _ 0 _ _ _ e63];rfl
  refine⟨.bool true,?_,by rw[hr],HI.out.bl.trans (belowK_b (w:=w) (Nat.le_refl _) W D _ _ (by omega) hK rfl rfl)⟩;simp[results,Tryz.f28,go_sem,c63]
end Go.Proofs.YtbapneipjmpcbaaGreatDoor
namespace Go.Proofs.YtbapneipjmpcbaaGreatDoor
namespace Kt
open Go.RowKit Go.WideShapes Go.Deep
section
variable {α:Type} {enc:α→List Value} {k:Nat} {P:Program} {sl el bytes:Nat} {z:Value}
theorem run_append_knew (T:KTy P sl el k bytes z) (hk : ∀x,(enc x).length=k) (w:World) (ty base:Nat) (v:Value) (R:List α) (hown:KOwn enc el k w base v R) (u:Value) (N:List α) (hu:KRow enc k w u N) (h0:0<N.length)
 (h1 : ∀x∈N,∀u∈enc x,u.oneCell'=true) (hn:R.length+N.length≤2000) (hbase:base≤w.heap.size) :
 ∃v' w',(Builtin.append_ #[sl,sl] ty #[v,u]).run P w = .ok v' w'∧KOwn enc el k w' base v' (R++N)∧w.grownBy w' v.ownBlock∧(v'.ownBlock=v.ownBlock∨v'.ownBlock=some w.heap.size):=by
 obtain⟨i0,hi0,hz0,hz1,hz2⟩:=info_parts T.info;obtain⟨A,cap,rfl,hlc,hcm,hnil,hrow⟩:=hu;obtain⟨b,off,rfl,hbs,hc⟩:=hrow h0;have hnews : ∀j u,(N.flatMap enc)[j]? = some u→w.cell? ((⟨b,off,none⟩:Addr).add j)=some u:=KRow.news hk T.pos hc;have hone : ∀u∈N.flatMap enc,u.oneCell'=true:=fun u hu=>by
  obtain⟨x,hx,hxu⟩:=List.mem_flatMap.1 hu;exact h1 x hx u hxu
 obtain⟨v',w',hr,h2,h3,_,h5⟩:=run_append_own_at (P:=P) w base sl ty el i0 _ k bytes T.under hi0 hz0 hz1 hz2 T.cells T.pos v R.length (R.flatMap enc) hown ⟨b,off,none⟩ N.length cap (N.flatMap enc) (kc_len hk N) hnews hone (by unfold maxLen;omega)
  (Nat.le_trans (Nat.mul_le_mul hn T.few) (by omega)) hbase
 refine⟨v',w',hr,?_,h3,h5⟩;unfold KOwn;rw[List.length_append,List.flatMap_append];exact h2
theorem wpList_append_knew (T:KTy P sl el k bytes z) (hk : ∀x,(enc x).length=k) {w:World} {ops:Array Oper} {rest:List Oper} {o:Oper} {a:Act} {Q:Exit→Act→World→Prop} (hgd:o.guard=none) (s x:Operand)
 (ho:o.op = .call {callee := .builtin .append,args:=#[s,x],argTypes:=#[sl,sl]}) (base:Nat) (v:Value) (R:List α) (hs:a.eval s=v) (hown:KOwn enc el k w base v R)
 (u:Value) (N:List α) (hx:a.eval x=u) (hu:KRow enc k w u N) (h0:0<N.length) (h1 : ∀x∈N,∀u∈enc x,u.oneCell'=true) (hn:R.length+N.length≤2000) (hbase:base≤w.heap.size)
 (h : ∀v' w',KOwn enc el k w' base v' (R++N)→w.grownBy w' v.ownBlock→(v'.ownBlock=v.ownBlock∨v'.ownBlock=some w.heap.size)→wpList P ops Q rest (a.put o.dst v') w'):wpList P ops Q (o::rest) a w :=
 wpList_plain hgd fun K hK=>by
  obtain⟨v',w',hr,h2,h3,h5⟩:=run_append_knew T hk w o.type base v R hown u N hu h0 h1 hn hbase;unfold Oper.wp execOp;simp only[ho,resolve,invoke,builtin,Sem.run_bind,Sem.run_pure,Result.andThen_ok,List.map_toArray,List.map_cons,List.map_nil,hs,hx,hr];exact hK _ _ (h v' w' h2 h3 h5)
theorem ofBlock {w X:World} {base:Nat} {v:Value} {L:List α} (h:KOwn enc el k w base v L) (e : ∀b,v.ownBlock=some b→X.heap[b]? = w.heap[b]?):KOwn enc el k X base v L:=by
 obtain⟨hl,h⟩:=h;refine⟨hl,?_⟩;rcases h with h|⟨g,cap,cur,rfl,hg,hc,h2⟩
 ·exact Or.inl h
 ·exact Or.inr ⟨g,cap,cur,rfl,hg,by rw[e g rfl];exact hc,h2⟩
end
def enc (l:List UInt8):List Value:=[.string (str l)]
theorem ty:KTy Tryz.prog 65 9 1 16 (.string ⟨#[]⟩):=⟨Tryz.underlying65,by kernel_rfl,Tryz.sizeOf9,rfl,by decide,by decide⟩
theorem len : ∀x:List UInt8,(enc x).length=1:=fun _=>rfl
theorem one (x:List UInt8) : ∀u∈enc x,u.oneCell'=true:=fun u hu=>by
 obtain rfl:u = .string (str x):=by simpa[enc] using hu
 rfl
abbrev Own (w:World) (base:Nat) (v:Value) (R:List (List UInt8)):Prop:=KOwn enc 9 1 w base v R
theorem new (w:World) (s:List UInt8):KRow enc 1 (w.alloc (.cells #[.string (str s)] 9)) (.slice (some ⟨w.heap.size,0,none⟩) 1 1) [s]:=by
 refine⟨_,1,rfl,Nat.le_refl _,by unfold maxLen;omega,(by rintro ⟨⟩),fun _=>⟨w.heap.size,0,rfl,by simp,fun i x hx j u hu => ?_⟩⟩;have hi:i=0:=by have:=(List.getElem?_eq_some_iff.1 hx).1;simp at this;omega
 subst hi;obtain rfl:s=x:=by simpa using hx
 have hj:j=0:=by have:=(List.getElem?_eq_some_iff.1 hu).1;rw[len] at this;omega
 subst hj;obtain rfl:Value.string (str s)=u:=by simpa[enc] using hu
 simp
theorem cell {w:World} {b off:Nat} {M:List (List UInt8)} (hc : ∀i x,M[i]? = some x → ∀j u,(enc x)[j]? = some u→w.cell? ⟨b,off+i*1+j,none⟩=some u) {i:Nat} {x:List UInt8} (hx:M[i]? = some x):w.cell? ⟨b,off+i,none⟩=some (.string (str x)):=by
 have:=hc i x hx 0 (.string (str x)) rfl;rwa [Nat.mul_one,Nat.add_zero] at this
theorem toStr {w:World} {v:Value} {M:List (List UInt8)} (h:KRow enc 1 w v M) (hM : ∀x∈M,x.length≤maxLen):StrRow w v M.length (fun i=>str (M.getD i [])):=by
 obtain⟨A,cap,rfl,h1,h2,_,h3⟩:=h;refine⟨A,cap,rfl,h1,h2,fun h0 => ?_⟩;obtain⟨b,off,rfl,hlt,hc⟩:=h3 h0;refine⟨b,off,rfl,hlt,fun i hi => ?_⟩;have:=cell hc (List.getElem?_eq_getElem hi);have e:M.getD i []=M[i]:=by rw[List.getD_eq_getElem?_getD,List.getElem?_eq_getElem hi];rfl
 simp only[e];exact⟨this,by rw[str_size];exact hM _ (List.getElem_mem _)⟩
theorem names (M:List (List UInt8)):(List.range M.length).map (fun i=>M.getD i [])=M:=by
 apply List.ext_getElem?;intro i;rw[List.getElem?_map];by_cases h:i<M.length
 ·rw[List.getElem?_range h];simp only[Option.map_some];rw[List.getD_eq_getElem?_getD,List.getElem?_eq_getElem h];rfl
 ·rw[List.getElem?_eq_none (by simp;omega),List.getElem?_eq_none (by omega)];rfl
end Kt
end Go.Proofs.YtbapneipjmpcbaaGreatDoor
namespace Go.Proofs.YtbapneipjmpcbaaGreatDoor
open Go.RowKit Go.Shelf Dc
attribute [local go_sem] Oper.semAt_some
theorem wpListIn_append_kt {α:Type} {enc:α→List Value} {k:Nat} {P:Program} {sl el bytes:Nat} {z:Value} {F:Fence} {n:Nat} (T:KTy P sl el k bytes z) (hk : ∀x,(enc x).length=k) {w:World} {ops:Array Oper} {rest:List Oper} {o:Oper} {a:Act} {Q:Exit→Act→World→Prop} (hgd:o.guard=none) (s x:Operand)
 (ho:o.op = .call {callee := .builtin .append,args:=#[s,x],argTypes:=#[sl,sl]}) (base:Nat) (v:Value) (R:List α) (hs:a.eval s=v) (hown:KOwn enc el k w base v R)
 (u:Value) (N:List α) (hx:a.eval x=u) (hu:KRow enc k w u N) (h0:0<N.length) (h1 : ∀x∈N,∀u∈enc x,u.oneCell'=true) (hn:R.length+N.length≤2000) (hbase:base≤w.heap.size)
 (h : ∀v' w',KOwn enc el k w' base v' (R++N)→w.grownBy w' v.ownBlock→wpListIn F n P ops Q rest (a.put o.dst v') w'):wpListIn F n P ops Q (o::rest) a w :=
 wpListIn_plain hgd fun K hK=>by
  obtain⟨v',w',hr,h2,h3,h5⟩:=Kt.run_append_knew T hk w o.type base v R hown u N hu h0 h1 hn hbase;unfold Oper.wpIn;refine⟨by simp[Oper.about,ho,resolve,Target.leads,Sem.run_pure],?_⟩;rw[Oper.semAt_plain F _ _ (by rw[ho];intro c hc';cases hc')];simp[execOp,ho,resolve,invoke,builtin,hs,hx,hr,Result.andThen];exact hK _ _ (h v' w' h2 h3)
structure NsI (w:World) (B z1 z5:Nat) (o1:Obj) (R:List Lg.Bs) (v:Value) (W:World):Prop where
 size:B≤W.heap.size
 bl:Below w.heap.size w W
 c1:W.heap[z1]? = some o1
 box:Boxed W z5 65 v
 own:Kt.Own W w.heap.size v R
variable {w W W':World} {B z1 z5:Nat} {o1:Obj} {R:List Lg.Bs} {v:Value}
theorem NsI.kept {row:Option Nat} (h:NsI w B z1 z5 o1 R v W) (hz:z1<B∧z5<B∧w.heap.size≤B) (hg:W.grownBy W' row) (hr : ∀r,row=some r→B≤r ∧ ∃o:Obj,W.heap[r]? = some o∧o.isCells=false):NsI w B z1 z5 o1 R v W':=by
 have hk : ∀k,k<B→W'.heap[k]? = W.heap[k]?:=fun k hk=>hg.block k (Nat.lt_of_lt_of_le hk h.size) (fun e=>by have:=(hr k e.symm).1;omega);refine⟨Nat.le_trans h.size hg.size,h.bl.grown hg (Nat.le_trans hz.2.2 h.size) (fun k e=>by have:=(hr k e).1;omega),by rw[hk z1 hz.1];exact h.c1,h.box.kept hg (fun e=>by have:=(hr z5 e.symm).1;omega),?_⟩;refine Kt.ofBlock h.own fun b hb=>hg.block b (own_lt h.own b hb) fun e => ?_;obtain⟨_,o,ho,hc⟩:=hr b e.symm;rcases h.own.2 with ⟨rfl,_⟩|⟨g,cap,cur,rfl,_,hgb,_⟩
 ·cases hb
 ·cases hb
  rw[hgb] at ho;cases ho;cases hc
theorem NsI.slice (h:NsI w B z1 z5 o1 R v W) : ∃a n c,v = .slice a n c:=by
 rcases h.own.2 with ⟨rfl,_⟩|⟨g,cap,cur,rfl,_⟩
 ·exact⟨_,_,_,rfl⟩
 ·exact⟨_,_,_,rfl⟩
theorem kt_slice {w:World} {base:Nat} {v:Value} {R:List Lg.Bs} (h:Kt.Own w base v R) : ∃a n c,v = .slice a n c:=by
 rcases h.2 with ⟨rfl,_⟩|⟨g,cap,cur,rfl,_⟩
 ·exact⟨_,_,_,rfl⟩
 ·exact⟨_,_,_,rfl⟩
theorem NsI.app {N:List Lg.Bs} {v':Value} {w3:World} {tmp:Obj} (h:NsI w B z1 z5 o1 R v W) (hz:w.heap.size≤z5) (h1 : ∃cs fl,o1 = .cells cs 3 fl) (hown':Kt.Own w3 w.heap.size v' N) (hg:(W.alloc tmp).grownBy w3 v.ownBlock) :
 Boxed w3 z5 65 v∧KeepsOthers W (w3.setCell ⟨z5,0,none⟩ v')∧Kn w W (w3.setCell ⟨z5,0,none⟩ v')∧NsI w B z1 z5 o1 N v' (w3.setCell ⟨z5,0,none⟩ v'):=by
 obtain⟨a1,a2,a3,a4,a5⟩:=Boxed.appended h.box (by decide) h.own h.bl.size hz hown' hg;have same : ∀(b:Nat) (cs:Array Value) (ty:TypeId) (fl:Nat×Nat),W.heap[b]? = some (Obj.cells cs ty fl)→ty≠65→ty≠9→(w3.setCell ⟨z5,0,none⟩ v').heap[b]? = W.heap[b]?:=by
  intro b cs ty fl hb n1 n2;have hlt:=(Array.getElem?_eq_some_iff.1 hb).1;have hbox:W.heap[z5]? = _:=h.box;have e1:b≠z5:=fun e=>by
   rw[e,hbox] at hb
   cases hb
   exact n1 rfl
  have e2:some b≠v.ownBlock:=fun e=>by
   rcases h.own.2 with ⟨rfl,_⟩|⟨g,cap,cur,rfl,_,hgb,_⟩
   ·cases e
   ·cases e
    rw[hgb] at hb
    cases hb
    exact n2 rfl
  rw[heap_setCell_other _ _ _ _ (by show b≠z5;exact e1),hg.block b (by simp;omega) e2];exact Below.heap_alloc _ _ _ hlt
 refine⟨a1,a4,⟨a5,a4.size,fun b cs fl hb=>same b cs _ fl hb (by decide) (by decide)⟩,Nat.le_trans h.size a4.size,h.bl.trans a5,?_,a2,a3⟩;obtain⟨cs,fl,rfl⟩:=h1;rw[same z1 cs _ fl h.c1 (by decide) (by decide)];exact h.c1
theorem namesOf_calls (s:Int) (t:List UInt8) (L:List Fs) (fv:Value) (w:World) (hv:FmRow w fv L) (hn:(Lg.sqB (fms L)).length≤1900) :
 Calls Tryz.prog 53 #[.int .i64 s,batv t fv] w fun e w' => ∃v,e = .returned v∧Kt.Own w' w.heap.size v (Lg.ofS s (Lg.sqB (fms L)))∧Below w.heap.size w w':=by
 have HV:=Lh hv;obtain⟨A,cap,rfl,_⟩:=hv.1;clear hv;refine(callsIn_wide (n:=9)).1 ?_;refine callsIn_of_wp_marks Tryz.func53 rfl trivial ?_ rfl;simp only[Tryz.ntmps53,List.size_toArray,List.length_cons,List.length_nil,Nat.reduceAdd,Nat.reduceSub,Array.replicate_succ,Array.replicate_zero,List.push_toArray,List.append_toArray,List.nil_append,List.cons_append]
 gi_wp2_with fail
 obtain⟨e2,e3,e4,s0,B0⟩:=three_new w (.cells #[.int .i64 s] 3) (.cells #[.string (str t),.slice A L.length cap] 24) (.cells #[.slice none 0 0] 65);generalize ((w.alloc (.cells #[.int .i64 s] 3)).alloc (.cells #[.string (str t),.slice A L.length cap] 24)).alloc (.cells #[.slice none 0 0] 65)=w0 at *;refine⟨trivial,(names_calls Fence.wide _ trivial rfl t A L.length cap w0).mono ?_⟩;rintro e w' ⟨rfl,rfl⟩;have N5:=heap_alloc_new w0 (.cells #[.string (str t),.slice A L.length cap] 24);have s5:=World.size_alloc w0 (.cells #[.string (str t),.slice A L.length cap] 24);have B5:=(Below.refl w0.heap.size w0).alloc (Nat.le_refl _) (.cells #[.string (str t),.slice A L.length cap] 24);rw[s0] at N5 s5;have K5:Below w.heap.size w (w0.alloc (.cells #[.string (str t),.slice A L.length cap] 24)):=B0.trans (B5.mono B0.size);have e2':=(B5.block w.heap.size (by omega)).trans e2;have e4':=(B5.block (w.heap.size+1+1) (by omega)).trans e4;rw[s0]
 gi_wp2_with fail
 generalize w0.alloc (.cells #[.string (str t),.slice A L.length cap] 24)=w5 at *;have hcell5:w5.cell? ⟨w.heap.size+3,1,none⟩=some (.slice A L.length cap):=by rw[cell_of_row w5 _ 1 _ _ _ N5];rfl
 have hzz:w.heap.size<w5.heap.size∧w.heap.size+1+1<w5.heap.size∧w.heap.size≤w5.heap.size:=by omega
 have hbs:w.heap.size+3<w5.heap.size:=by omega
 clear s5;have I5:NsI w w5.heap.size w.heap.size (w.heap.size+1+1) (.cells #[.int .i64 s] 3) [] (.slice none 0 0) w5:=⟨Nat.le_refl _,K5,e2',e4',KOwn.nil _ _ _ _ _⟩
 refine wpIn_rangeFunc_ownG rfl (by omega) (gf:=68) (lb:=#[.pointer (some ⟨w.heap.size+3,0,none⟩)]) rfl trivial (enters_of Tryz.func68 (by kernel_rfl) rfl)
  (names_stops Fence.wide _ trivial rfl (by omega) (w.heap.size+3) L (.slice A L.length cap) w w5 HV.out K5 (by omega) hcell5) Kn.trans (kn_put hzz.2.2) (Below.refl _ _) (fun _=>rfl)
  (fun pre W => ∃v,NsI w w5.heap.size w.heap.size (w.heap.size+1+1) (.cells #[.int .i64 s] 3) (Lg.ofS s (Lg.itms (fms L) pre)) v W)
  (fun _ _ _=>False)
  (fun _ _ _ _ hs hg hr=>⟨_,hs.choose_spec.kept hzz hg hr⟩) (fun _ _ _ _ _ hs _ _=>hs) ⟨_,I5⟩
  (fun x => {tmps:=#[.int .i64 s,batv t (.slice A L.length cap),.pointer (some ⟨w.heap.size,0,none⟩),.pointer (some ⟨w.heap.size+1,0,none⟩),.slice none 0 0,.pointer (some ⟨w.heap.size+1+1,0,none⟩),.int .i64 (Lg.itm (fms L) x).1,.string (str (Lg.itm (fms L) x).2),
   .agg #[.string (str t),.slice A L.length cap],.func (.func 68) #[] #[.pointer (some ⟨w.heap.size+3,0,none⟩)],.int .i64 (Lg.itm (fms L) x).1,.string (str (Lg.itm (fms L) x).2),undef,undef,undef,undef,undef,undef,undef,undef],defers:=[]}) ?assign ?body ?done ?stop
 case assign =>
  intro l x W K hK
  gi_wp2
  exact hK
 case stop =>
  rintro D c pre W _ _ h _;exact h.elim
 case body =>
  rintro l pre x W ⟨v,hI⟩ hlt;have hpl:(Lg.ofS s (Lg.itms (fms L) pre)).length≤pre.length:=by
   have:=Lg.ofS_len s (Lg.itms (fms L) pre);unfold Lg.itms at this ⊢;rwa [List.length_map] at this
  have hpl2:(Lg.ofS s (Lg.itms (fms L) pre)).length+1≤2000:=by omega
  have HSN:=Lh (Lg.itms_snoc (F:=fms L) pre x);have k1:W.cell? ⟨w.heap.size,0,none⟩=some (.int .i64 s):=by rw[cell_of_row W _ 0 _ _ _ hI.c1];rfl
  generalize Lg.itms (fms L) pre=pr at *;generalize Lg.itm (fms L) x=y at *;obtain⟨y1,y2⟩:=y;simp only;clear hlt hpl;by_cases hN:y1=s
  ·have dn:decide (y1=s)=true:=decide_eq_true hN;have HR:=Lh (Lg.ofS_snoc_yes (s:=s) (l:=pr) (v:=(y1,y2)) hN);obtain⟨a,n,c,rfl⟩:=hI.slice;have k5:=hI.box.cell;have hnew:=Kt.new W y2;have hown:=own_alloc hI.own (.cells #[.string (str y2)] 9);have hlt1:(Lg.ofS s pr).length+([y2]:List Lg.Bs).length≤2000:=by simpa using hpl2
   have hwb:=Nat.le_trans hI.bl.size (show W.heap.size≤(W.alloc (.cells #[.string (str y2)] 9)).heap.size by simp);have HI:=Lh hI;clear hI
   gi_wp2_with (first
    | (gi_at_builtin;refine wpListIn_append_kt Kt.ty Kt.len (by rfl) _ _ (by rfl) w.heap.size _ _ (by rfl) hown _ [y2] (by rfl) hnew (by simp) (fun x _=>Kt.one x) hlt1 hwb ?_;intro v' w3 hown' hg3;obtain⟨a',n',c',rfl⟩:=kt_slice hown';obtain⟨a1,a4,a5,a6⟩:=HI.out.app (by omega) ⟨_,_,rfl⟩ hown' hg3;have k6:=a1.cell;have f6:=a1.frozen;have HA:=Lh (And.intro a4 (And.intro a5 a6));clear a1 a4 a5 a6 hown' hg3)
    | fail)
   refine⟨HA.out.1.from _,HA.out.2.1,.slice a' n' c',?_⟩;rw[HSN.out,HR.out];exact HA.out.2.2
  ·have dn:decide (y1=s)=false:=decide_eq_false hN;have HR:=Lh (Lg.ofS_snoc_no (s:=s) (l:=pr) (v:=(y1,y2)) hN);have HI:=Lh hI;clear hI
   gi_wp2
   refine⟨KeepsFrom.refl _ _,Kn.refl _ _,v,?_⟩;rw[HSN.out,HR.out];exact HI.out
 case done =>
  rintro D ys W hD rfl ⟨v,hI⟩ hK;rw[Lg.itms_all] at hI;obtain⟨a,n,c,rfl⟩:=hI.slice;have k5:=hI.box.cell;have HI:=Lh hI;clear hI
  gi_wp2
  refine⟨by simp,.inl ⟨_,_,rfl,run_takeDeferred hK,?_⟩⟩;refine⟨.slice a n c,?_,⟨_,rfl,?_,HI.out.bl.trans (belowK_b (w:=w) (Nat.le_refl _) W D _ _ (by omega) hK rfl rfl)⟩⟩
  ·simp[results,Tryz.f53,go_sem]
  ·exact ownsRow_putObj HI.out.own _ hK rfl
end Go.Proofs.YtbapneipjmpcbaaGreatDoor
namespace Go.Proofs.YtbapneipjmpcbaaGreatDoor
open Go.RowKit Go.Sort Dc
attribute [local go_sem ↓] Go.wp_at_zero Go.wp_at_succ
theorem sqP_few : ∀ {P:List Pt},(∀q∈P,q.l.length≤8)→(Lg.sqP P).length≤8*P.length
 | [],_=>Nat.le_refl _
 | q::P,h=>by
   have h1:=sqP_few (P:=P) fun x hx=>h x (List.mem_cons_of_mem _ hx);have h2:=h q List.mem_cons_self;unfold Lg.sqP at h1 ⊢;rw[List.flatMap_cons,List.length_append,List.length_cons];have:(Lg.sqL q.l).length=q.l.length:=by unfold Lg.sqL;rw[List.length_map]
   omega
theorem sqB_few : ∀ {F:List Fp},(∀x∈F,∀q∈x.2,q.l.length≤8)→(Lg.sqB F).length≤F.length+8*nPts F
 | [],_=>Nat.zero_le _
 | x::F,h=>by
   have h1:=sqB_few (F:=F) fun y hy=>h y (List.mem_cons_of_mem _ hy);have h2:=sqP_few (h x List.mem_cons_self);have e:nPts (x::F)=x.2.length+nPts F:=by unfold nPts;rw[List.map_cons,List.sum_cons]
   unfold Lg.sqB at h1 ⊢;rw[List.flatMap_cons,List.length_append,List.length_cons];have:(Lg.sqX x).length=(Lg.sqP x.2).length+1:=rfl;omega
theorem sq_chk {t:List UInt8} {F:List Fp} (h:chk t F=0):(Lg.sqB F).length≤990 ∧ ∀v∈Lg.sqB F,v.2.length≤60:=by
 constructor
 ·have h1:=sqB_few (F:=F) fun x hx q hq=>(Lg.goodL_iff.1 (Lg.ptOk_iff.1 (Lg.chk_pt h hx hq)).2.1).1;have h2:=(chk_zero h).2.1;have h3:=(chk_zero h).2.2;omega
 ·intro v hv;rcases Lg.mem_sqB.1 hv with ⟨_,k⟩|⟨_,k⟩
  ·exact(Lg.nameOk_len (Lg.chk_fn h k)).2
  ·exact(Lg.nameOk_len (Lg.chk_ln h k)).2
theorem kt_txs (M:List Lg.Bs):txs M.length (fun i=>str (M.getD i []))=M:=Kt.names M
theorem coll_at (p q:Int) (v:Value) (M:List Lg.Bs) (base:Nat) (w:World) (hr:Kt.Own w base v M) (hn:M.length≤990) (hs : ∀x∈M,x.length≤60) (hT:ChT w) :
 Calls Tryz.prog 52 #[.int .i64 p,.int .i64 q,v] w fun e w'=>e = .returned (collV (Co.collO (Ch.loss p q) M))∧Below w.heap.size w w':=by
 have h:=lcoll_calls p q v M.length (fun i=>str (M.getD i [])) w (by omega) (Kt.toStr (KOwn.row Kt.len hr) fun x hx=>by have:=hs x hx;unfold maxLen;omega) (fun i hi=>by
  rw[str_size,List.getD_eq_getElem?_getD,List.getElem?_eq_getElem hi];have:=hs _ (List.getElem_mem hi);simp only[Option.getD_some];omega) hT
 rwa [kt_txs] at h
theorem collide_calls (p:Int) (t:List UInt8) (F:List Fs) (v:Value) (w:World) (hv:FmRow w v F) (hc:chk t (fms F)=0) (hT:ChT w) :
 Calls Tryz.prog 25 #[.int .i64 p,batv t v] w fun e w'=>e = .returned (collV (Lg.clB p (fms F)))∧Below w.heap.size w w':=by
 obtain⟨h990,h60⟩:=sq_chk hc;have few : ∀s,(Lg.ofS s (Lg.sqB (fms F))).length≤990:=fun s=>Nat.le_trans (Lg.ofS_len _ _) h990;have small : ∀s,∀x∈Lg.ofS s (Lg.sqB (fms F)),x.length≤60:=fun s x hx=>h60 (s,x) (Lg.mem_ofS.1 hx);have k0:=kp_alloc (kp_alloc (Below.refl w.heap.size w) (.cells #[.string (str t),v] 24)) (.cells #[.string ⟨#[]⟩,.string ⟨#[]⟩] 30);have F0:=(BatAt.new w t v 24).below (kp_alloc (Below.refl (w.alloc (.cells #[.string (str t),v] 24)).heap.size (w.alloc (.cells #[.string (str t),v] 24))) (.cells #[.string ⟨#[]⟩,.string ⟨#[]⟩] 30));have G0:=BatAt.new (w.alloc (.cells #[.string (str t),v] 24)) [] (.string ⟨#[]⟩) 30;rw[show(w.alloc (.cells #[.string (str t),v] 24)).heap.size=w.heap.size+1 by simp] at G0;have e0:=Co.collO_same (Ch.loss p 0) (Lg.ofS_fam (fms F)).1;have e1:=Co.collO_same (Ch.loss p 1) (Lg.ofS_fam (fms F)).2;have hcl:Lg.clB p (fms F)=(Co.collO (Ch.loss p 0) (Lg.ofS 0 (Lg.sqB (fms F)))).or (Co.collO (Ch.loss p 1) (Lg.ofS 1 (Lg.sqB (fms F)))):=by rw[e0,e1];rfl
 obtain⟨A,n,cap,hv1⟩ : ∃A n cap,v = .slice A n cap:=by obtain⟨A,cap,he,_⟩:=hv.1;exact⟨A,_,cap,he⟩
 subst hv1;have HN:=Lh (fun s X (h:Below w.heap.size w X)=>namesOf_calls s t F _ X (hv.below h) (by omega));have HC:=Lh (fun s q X u (b:Nat) (h:Below w.heap.size w X) (o:Kt.Own X b u (Lg.ofS s (Lg.sqB (fms F))))=>coll_at p q u _ b X o (few s) (small s) (hT.below h));have K0:=Lh k0;have HF:=Lh (And.intro F0 G0);clear e0 e1 few small hv hc hT k0 F0 G0 h60;go_enter Tryz.func25,Tryz.ntmps25;go_wp2_with fail;refine(HN.out 0 _ K0.out).mono ?_;rintro e w1 ⟨v1,rfl,o1,b1⟩;have B1:=Lh (trans9 K0.out b1);have HF1:=Lh (And.intro (HF.out.1.below b1) (HF.out.2.below b1));have call1:=Lh (HC.out 0 0 _ _ _ B1.out o1);clear o1 b1 K0 HF;generalize Co.collO (Ch.loss p 0) (Lg.ofS 0 (Lg.sqB (fms F)))=O1 at *;go_wp2_with fail;refine call1.out.mono ?_;rintro e w2 ⟨rfl,b2⟩;have B2:=Lh (trans9 B1.out b2);have HF2:=Lh (And.intro (HF1.out.1.below b2) (HF1.out.2.below b2));clear b2 call1 B1 HF1
 cases O1 with
 | some c =>
   obtain⟨cA,cB⟩:=c;simp only[collV];obtain⟨y0,y1,yf,yl⟩:=HF2.out.2;go_wp2;refine bodyPost_ret (v := .tuple #[.agg #[.string (str cA),.string (str cB)],.bool true]) (by simp[results,Tryz.results25,go_sem,y0,y1,yl]) rfl ⟨by rw[hcl];rfl,?_⟩
   repeat(first|exact B2.out|apply kp_alloc|refine Below.setCell ?_ (by show w.heap.size≤w.heap.size+1;omega) _)
 | none =>
   simp only[collV];obtain⟨x0,x1,xf,xl⟩:=HF2.out.1;go_wp2_with fail;refine(HN.out 1 _ (kp_alloc B2.out _)).mono ?_;rintro e w3 ⟨v3,rfl,o3,b3⟩;have ka:=kp_alloc (Below.refl w2.heap.size w2) (.cells #[.string ⟨#[]⟩,.string ⟨#[]⟩] 30);have B3:=Lh (trans9 (kp_alloc B2.out _) b3);have G3:=Lh ((HF2.out.2.below ka).below b3);have call2:=Lh (HC.out 1 1 _ _ _ B3.out o3);clear o3 b3 B2 ka x0 x1 xf xl HF2;generalize Co.collO (Ch.loss p 1) (Lg.ofS 1 (Lg.sqB (fms F)))=O2 at *;go_wp2_with fail;refine call2.out.mono ?_;rintro e w4 ⟨rfl,b4⟩;have B4:=Lh (trans9 B3.out b4);obtain⟨y0,y1,yf,yl⟩:=G3.out.below b4;clear b4 call2 B3 G3
   cases O2 with
   | none =>
     simp only[collV];go_wp2;refine bodyPost_ret (v := .tuple #[.agg #[.string ⟨#[]⟩,.string ⟨#[]⟩],.bool false]) (by simp[results,Tryz.results25,go_sem,y0,y1,yl]) rfl ⟨by rw[hcl];rfl,?_⟩
     repeat(first|exact B4.out|apply kp_alloc|refine Below.setCell ?_ (by show w.heap.size≤w.heap.size+1;omega) _)
   | some c =>
     obtain⟨cA,cB⟩:=c;simp only[collV];go_wp2;refine bodyPost_ret (v := .tuple #[.agg #[.string (str cA),.string (str cB)],.bool true]) (by simp[results,Tryz.results25,go_sem,y0,y1,yl]) rfl ⟨by rw[hcl];rfl,?_⟩
     repeat(first|exact B4.out|apply kp_alloc|refine Below.setCell ?_ (by show w.heap.size≤w.heap.size+1;omega) _)
theorem argOk_is (p m:Int) (t:List UInt8) (F:List Fp):Lg.argOk p m t F=(decide (1≤p)&&decide (p≤4)&&(decide (m=0)||decide (m=1))&&decide (chk t F=0)):=by
 unfold Lg.argOk
 cases decide (chk t F=0) <;> cases decide (1≤p) <;> cases decide (p≤4) <;> cases decide (m=0) <;> cases decide (m=1) <;> rfl
theorem lfit_calls (p m:Int) (t:List UInt8) (F:List Fs) (v:Value) (w:World) (hv:FmRow w v F) (hf:FmFew F) (ht:t.length≤maxLen) (hS:ShPl w) :
 Calls Tryz.prog 23 #[.int .i64 p,.int .i64 m,batv t v] w fun e w'=>e = .returned (.bool (Lg.argOk p m t (fms F)))∧Below w.heap.size w w':=by
 have k0:=kp_alloc (Below.refl w.heap.size w) (.cells #[.string (str t),v] 24);have hck:=Lh (bcheck_calls t F v _ (hv.below k0) hf ht ⟨sh_below hS.1 k0,hS.2.below k0⟩);obtain⟨A,n,cap,hv1⟩ : ∃A n cap,v = .slice A n cap:=by obtain⟨A,cap,he,_⟩:=hv.1;exact⟨A,_,cap,he⟩
 subst hv1;have K0:=Lh k0;have HA:=Lh (argOk_is p m t (fms F));clear hv hf ht hS k0;by_cases h1:1≤p
 ·have d1:decide ((1:Int)≤p)=true:=decide_eq_true h1;by_cases h2:p≤4
  ·have d2:decide (p≤4)=true:=decide_eq_true h2;by_cases h3:m=0
   ·have d3:decide (m=0)=true:=decide_eq_true h3;have b3:(m==0)=true:=by simpa using h3
    go_enter Tryz.func23,Tryz.ntmps23;go_wp2_with fail;refine hck.out.mono ?_;rintro e w1 ⟨rfl,b1⟩;have B1:=Lh (trans9 K0.out b1);clear b1 hck;generalize chk t (fms F)=z at *;by_cases hz:z=0
    ·have dz:decide (z=0)=true:=decide_eq_true hz;have bz:(z==0)=true:=by simpa using hz
     go_wp2;go_ret;exact⟨by rw[HA.out,d1,d2,d3,dz];rfl,B1.out⟩
    ·have dz:decide (z=0)=false:=decide_eq_false hz;have bz:(z==0)=false:=by simpa using hz
     go_wp2;go_ret;exact⟨by rw[HA.out,d1,d2,d3,dz];rfl,B1.out⟩
   ·have d3:decide (m=0)=false:=decide_eq_false h3;have b3:(m==0)=false:=by simpa using h3
    by_cases h4:m=1
    ·have d4:decide (m=1)=true:=decide_eq_true h4;have b4:(m==1)=true:=by simpa using h4
     go_enter Tryz.func23,Tryz.ntmps23;go_wp2_with fail;refine hck.out.mono ?_;rintro e w1 ⟨rfl,b1⟩;have B1:=Lh (trans9 K0.out b1);clear b1 hck;generalize chk t (fms F)=z at *;by_cases hz:z=0
     ·have dz:decide (z=0)=true:=decide_eq_true hz;have bz:(z==0)=true:=by simpa using hz
      go_wp2;go_ret;exact⟨by rw[HA.out,d1,d2,d3,d4,dz];rfl,B1.out⟩
     ·have dz:decide (z=0)=false:=decide_eq_false hz;have bz:(z==0)=false:=by simpa using hz
      go_wp2;go_ret;exact⟨by rw[HA.out,d1,d2,d3,d4,dz];rfl,B1.out⟩
    ·have d4:decide (m=1)=false:=decide_eq_false h4;have b4:(m==1)=false:=by simpa using h4
     clear hck;go_enter Tryz.func23,Tryz.ntmps23;go_wp2;go_ret;exact⟨by rw[HA.out,d1,d2,d3,d4];rfl,K0.out⟩
  ·have d2:decide (p≤4)=false:=decide_eq_false h2;clear hck;go_enter Tryz.func23,Tryz.ntmps23;go_wp2;go_ret;exact⟨by rw[HA.out,d1,d2];rfl,K0.out⟩
 ·have d1:decide ((1:Int)≤p)=false:=decide_eq_false h1;clear hck;go_enter Tryz.func23,Tryz.ntmps23;go_wp2;go_ret;exact⟨by rw[HA.out,d1];rfl,K0.out⟩
end Go.Proofs.YtbapneipjmpcbaaGreatDoor
