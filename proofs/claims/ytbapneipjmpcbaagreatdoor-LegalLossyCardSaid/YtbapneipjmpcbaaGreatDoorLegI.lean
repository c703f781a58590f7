import Derived.Test.YtbapneipjmpcbaaGreatDoorLegP
import Derived.RangeFuncBox
import Derived.RangeFuncLeaves
import Derived.RangeFuncWrites
import Derived.RangeFuncCalls
import Derived.Shelf.Abstract
import Derived.WalkKit
import Derived.OwnWalkIn
import Derived.TacticsInMore
import Derived.LoopNIn
import Derived.LoopIn
import Derived.Shelf.RegionOpen
import Derived.RegionIn
import Derived.Sort.CutIn
import Derived.Lib.Hide
import Derived.Test.YtbapneipjmpcbaaGreatDoorBatP
set_option maxHeartbeats 16000000
set_option maxRecDepth 100000
set_option linter.unusedVariables false
set_option linter.unusedSimpArgs false
namespace Go.Proofs.YtbapneipjmpcbaaGreatDoor
open Dc
namespace Lg
theorem fm_get {α β:Type} {f:α→List β} : ∀ {l:List α} {i:Nat} {x:α},l[i]? = some x → ∀ {k:Nat} {y:β},(f x)[k]? = some y→(l.flatMap f)[((l.take i).flatMap f).length+k]? = some y
 | a::l,0,x,h,k,y,hk=>by
   obtain rfl:a=x:=by simpa using h
   have hlt:=(List.getElem?_eq_some_iff.1 hk).1;rw[List.flatMap_cons,List.take_zero,List.flatMap_nil,List.length_nil,Nat.zero_add,List.getElem?_append_left hlt];exact hk
 | a::l,i+1,x,h,k,y,hk=>by
   have:=fm_get (l:=l) (i:=i) (x:=x) (by simpa using h) hk;rw[List.flatMap_cons,List.take_succ_cons,List.flatMap_cons,List.length_append,Nat.add_assoc,List.getElem?_append_right (by omega),Nat.add_sub_cancel_left];exact this
theorem fm_len {α β:Type} {f:α→List β} {l:List α} {i:Nat} {x:α} (h:l[i]? = some x):((l.take (i+1)).flatMap f).length=((l.take i).flatMap f).length+(f x).length:=by
 obtain⟨hk,rfl⟩:=List.getElem?_eq_some_iff.1 h;rw[List.take_succ_eq_append_getElem hk,List.flatMap_append,List.length_append];simp
def sqL (l:List Lb):List (Int×Bs):=l.map fun x=>(1,x.1)
def sqP (P:List Pt):List (Int×Bs):=P.flatMap fun p=>sqL p.l
def sqX (x:Fp):List (Int×Bs):=(0,x.1.n)::sqP x.2
def sqB (F:List Fp):List (Int×Bs):=F.flatMap sqX
def qF (F:List Fp) (i:Nat):Nat:=(sqB (F.take i)).length
def qP (P:List Pt) (j:Nat):Nat:=(sqP (P.take j)).length
def itm (F:List Fp) (k:Nat):Int×Bs:=(sqB F).getD k (0,[])
variable {F:List Fp} {i j k:Nat} {x:Fp} {q:Pt} {y:Lb}
theorem qF_succ (h:F[i]? = some x):qF F (i+1)=qF F i+1+(sqP x.2).length:=by
 unfold qF sqB;rw[fm_len h];unfold sqX;rw[List.length_cons];omega
theorem qP_succ {P:List Pt} (h:P[j]? = some q):qP P (j+1)=qP P j+q.l.length:=by
 unfold qP sqP;rw[fm_len h];unfold sqL;rw[List.length_map]
theorem qF_full (h:F.length≤i):qF F i=(sqB F).length:=by unfold qF;rw[List.take_of_length_le h]
theorem qP_full {P:List Pt} (h:P.length≤j):qP P j=(sqP P).length:=by unfold qP;rw[List.take_of_length_le h]
theorem itm_of {v:Int×Bs} (h:(sqB F)[k]? = some v):k<(sqB F).length∧itm F k=v:=by
 refine⟨(List.getElem?_eq_some_iff.1 h).1,?_⟩;unfold itm;rw[List.getD_eq_getElem?_getD,h];rfl
theorem itm_fam (h:F[i]? = some x):qF F i<(sqB F).length∧itm F (qF F i)=(0,x.1.n):=by
 have:=fm_get (f:=sqX) h (k:=0) (y:=(0,x.1.n)) rfl;rw[Nat.add_zero] at this;exact itm_of this
theorem itm_lab (h:F[i]? = some x) (hj:x.2[j]? = some q) (hk:q.l[k]? = some y):qF F i+1+qP x.2 j+k<(sqB F).length∧itm F (qF F i+1+qP x.2 j+k)=(1,y.1):=by
 have h1:(sqL q.l)[k]? = some (1,y.1):=by unfold sqL;rw[List.getElem?_map,hk];rfl
 have h2:=fm_get (f:=fun p:Pt=>sqL p.l) hj h1;have h3:(sqX x)[1+(qP x.2 j+k)]? = some (1,y.1):=by
  unfold sqX;rw[Nat.add_comm 1,List.getElem?_cons_succ];exact h2
 have h4:=fm_get (f:=sqX) h h3;rw[←Nat.add_assoc,←Nat.add_assoc] at h4;exact itm_of h4
def itms (F:List Fp) (pre:List Nat):List (Int×Bs):=pre.map (itm F)
theorem itms_snoc (pre:List Nat) (x:Nat):itms F (pre++[x])=itms F pre++[itm F x]:=by unfold itms;rw[List.map_append];rfl
theorem itms_all:itms F (List.range (sqB F).length)=sqB F:=by
 unfold itms itm;apply List.ext_getElem?;intro i;rw[List.getElem?_map];by_cases h:i<(sqB F).length
 ·rw[List.getElem?_range h];simp only[Option.map_some];rw[List.getD_eq_getElem?_getD,List.getElem?_eq_getElem h];rfl
 ·rw[List.getElem?_eq_none (by simp;omega),List.getElem?_eq_none (by omega)];rfl
theorem itms_mem {pre:List Nat} {v:Int×Bs} (hk:k≤(sqB F).length) (hp:pre=List.range k) (h:v∈itms F pre):v∈sqB F:=by
 subst hp;unfold itms at h;obtain⟨n,hn,rfl⟩:=List.mem_map.1 h;have hn:=List.mem_range.1 hn;unfold itm;rw[List.getD_eq_getElem?_getD,List.getElem?_eq_getElem (show n<(sqB F).length by omega)];exact List.getElem_mem _
theorem itm_small {n:Nat} (hs : ∀v∈sqB F,v.2.length≤n) (k:Nat):(itm F k).2.length≤n:=by
 unfold itm;rw[List.getD_eq_getElem?_getD];by_cases h:k<(sqB F).length
 ·rw[List.getElem?_eq_getElem h];exact hs _ (List.getElem_mem _)
 ·rw[List.getElem?_eq_none (by omega)];exact Nat.zero_le _
theorem mem_sqB {v:Int×Bs}:v∈sqB F↔(v.1=0∧v.2∈famN F)∨(v.1=1∧v.2∈labN F):=by
 obtain⟨a,b⟩:=v;unfold sqB sqX sqP sqL;rw[mem_famN,mem_labN];simp only[List.mem_flatMap,List.mem_cons,List.mem_map,Prod.mk.injEq];constructor
 ·rintro ⟨x,hx,(⟨rfl,rfl⟩|⟨p,hp,y,hy,rfl,rfl⟩)⟩
  ·exact Or.inl ⟨rfl,x,hx,rfl⟩
  ·exact Or.inr ⟨rfl,x,hx,p,hp,mem_labL.2 ⟨y,hy,rfl⟩⟩
 ·rintro (⟨rfl,x,hx,rfl⟩|⟨rfl,x,hx,p,hp,hl⟩)
  ·exact⟨x,hx,Or.inl ⟨rfl,rfl⟩⟩
  ·obtain⟨y,hy,rfl⟩:=mem_labL.1 hl;exact⟨x,hx,Or.inr ⟨p,hp,y,hy,rfl,rfl⟩⟩
def ofS (s:Int) (l:List (Int×Bs)):List Bs:=(l.filter fun v=>decide (v.1=s)).map (·.2)
theorem ofS_snoc_yes {s:Int} {l:List (Int×Bs)} {v:Int×Bs} (h:v.1=s):ofS s (l++[v])=ofS s l++[v.2]:=by
 unfold ofS;rw[List.filter_append,List.map_append];simp[h]
theorem ofS_snoc_no {s:Int} {l:List (Int×Bs)} {v:Int×Bs} (h : ¬v.1=s):ofS s (l++[v])=ofS s l:=by
 unfold ofS;rw[List.filter_append,List.map_append];simp[h]
theorem mem_ofS {s:Int} {l:List (Int×Bs)} {n:Bs}:n∈ofS s l↔(s,n)∈l:=by
 unfold ofS;rw[List.mem_map];constructor
 ·rintro ⟨⟨a,b⟩,h,rfl⟩;rw[List.mem_filter] at h;obtain⟨h1,h2⟩:=h;obtain rfl:a=s:=of_decide_eq_true h2;exact h1
 ·intro h;exact⟨(s,n),List.mem_filter.2 ⟨h,by simp⟩,rfl⟩
theorem ofS_len (s:Int) (l:List (Int×Bs)):(ofS s l).length≤l.length:=by
 unfold ofS;rw[List.length_map];exact List.length_filter_le _ _
theorem ofS_fam : ∀F:List Fp,(∀n,n∈ofS 0 (sqB F)↔n∈famN F) ∧ ∀n,n∈ofS 1 (sqB F)↔n∈labN F:=fun F =>
 ⟨fun n=>by rw[mem_ofS,mem_sqB];simp,fun n=>by rw[mem_ofS,mem_sqB];simp⟩
theorem isB_sq {p:Int}:isB p F=true ↔ ∀v∈sqB F,Ch.isName p v.1 v.2=true:=by
 rw[isB_iff];constructor
 ·rintro ⟨h1,h2⟩ ⟨a,b⟩ hv;rcases mem_sqB.1 hv with ⟨rfl,h⟩|⟨rfl,h⟩
  ·exact h1 b h
  ·exact h2 b h
 ·intro h;exact⟨fun n hn=>h (0,n) (mem_sqB.2 (Or.inl ⟨rfl,hn⟩)),fun n hn=>h (1,n) (mem_sqB.2 (Or.inr ⟨rfl,hn⟩))⟩
theorem long_sq:longB F=false ↔ ∀v∈sqB F,v.2.length≤60:=by
 rw[long_iff];constructor
 ·rintro ⟨h1,h2⟩ ⟨a,b⟩ hv;rcases mem_sqB.1 hv with ⟨rfl,h⟩|⟨rfl,h⟩
  ·exact h1 b h
  ·exact h2 b h
 ·intro h;exact⟨fun n hn=>h (0,n) (mem_sqB.2 (Or.inl ⟨rfl,hn⟩)),fun n hn=>h (1,n) (mem_sqB.2 (Or.inr ⟨rfl,hn⟩))⟩
end Lg
end Go.Proofs.YtbapneipjmpcbaaGreatDoor
namespace Go.Proofs.YtbapneipjmpcbaaGreatDoor
open Go.RowKit Go.Shelf Dc
attribute [local go_sem] Oper.semAt_some
structure Kn (wb W W':World):Prop where
 bl:Below wb.heap.size W W'
 sz:W.heap.size≤W'.heap.size
 fam : ∀(b:Nat) (cs:Array Value) (fl:Nat×Nat),W.heap[b]? = some (Obj.cells cs 51 fl)→W'.heap[b]? = W.heap[b]?
theorem Kn.refl (wb W:World):Kn wb W W:=⟨Below.refl _ _,Nat.le_refl _,fun _ _ _ _=>rfl⟩
theorem Kn.trans {wb A B C:World} (h:Kn wb A B) (k:Kn wb B C):Kn wb A C :=
 ⟨h.bl.trans k.bl,Nat.le_trans h.sz k.sz,fun b cs fl hb=>by rw[k.fam b cs fl ((h.fam b cs fl hb).trans hb),h.fam b cs fl hb]⟩
theorem Kn.below {wb A B:World} (hn:wb.heap.size≤A.heap.size) (h:Below A.heap.size A B):Kn wb A B :=
 ⟨h.mono hn,h.size,fun b cs fl hb=>h.block b (Array.getElem?_eq_some_iff.1 hb).1⟩
theorem kn_put {wb:World} {n:Nat} (hn:wb.heap.size≤n) : ∀(W:World) (l:Nat) (o o':Obj),n≤l→W.heap[l]? = some o→o.isCells=false→o.isWalk=false→Kn wb W (W.putObj l o') :=
 fun W l o o' hl ho hc hw=>⟨(Below.refl _ W).grown (grownBy_putObj' W l o') (by have:=(Array.getElem?_eq_some_iff.1 ho).1;omega) (fun k e=>by cases e;omega),by simp[World.putObj],fun b cs fl hb=>World.putObj_heap_other (fun e=>by
  subst e;rw[hb] at ho
  cases ho
  cases hc)⟩
theorem grown_none {A B:World} (h:Below A.heap.size A B):A.grownBy B none:=⟨h.os,h.tape,h.output,h.size,fun k hk _=>h.block k hk⟩
theorem range_snoc (k:Nat):List.range k++[k]=List.range (k+1):=(List.range_succ).symm
theorem names_in (F:Fence) (n:Nat) (h7:F.fn 68) (hro:F.round=none) (hn:1≤n) (l Bs:Nat) (L:List Fs) (fv:Value) (wb:World) (hv:FmRow wb fv L) (J Jx:List Nat→World→Prop) (W:World)
 (hB:Below wb.heap.size wb W) (ha:AbidesFrom W.heap.size J)
 (hY : ∀pre (x:Nat) W1,J pre W1→pre.length<(Lg.sqB (fms L)).length→YieldAt F (n-1) Tryz.prog l #[.int .i64 (Lg.itm (fms L) x).1,.string (str (Lg.itm (fms L) x).2)] W1 fun e W' =>
  (e = .returned (.bool true)∧J (pre++[x]) W'∧Kn wb W1 W')∨(e = .returned (.bool false)∧Jx (pre++[x]) W'))
 (hc1:W.cell? ⟨Bs,1,none⟩=some fv) (h0:J [] W) :
 CallsIn F n Tryz.prog 68 #[.func (.yield l) #[] #[],.pointer (some ⟨Bs,0,none⟩)] W fun e W'=>(∃v,e = .returned v) ∧
  ((∃ys,ys=List.range (Lg.sqB (fms L)).length∧J ys W')∨(∃pre,(∃k,k≤(Lg.sqB (fms L)).length∧pre=List.range k)∧Jx pre W')):=by
 have HA:=Lh (fun pre (A B:World) (hj:J pre A) (hb:Below A.heap.size A B)=>ha pre A B none hj (grown_none hb) (fun r e=>by cases e));have HP:=Lh hv.2;obtain⟨A,cap,rfl,hlc,hcm,hnil,hrow⟩:=hv.1;unfold maxLen at hcm;have HR:=Lh hrow;clear hnil hv hrow ha;refine callsIn_of_wp Tryz.func68 rfl h7 ?_ hro;simp only[Tryz.ntmps68,List.size_toArray,List.length_cons,List.length_nil,Nat.reduceAdd,Nat.reduceSub,Array.replicate_succ,Array.replicate_zero,List.push_toArray,List.append_toArray,List.nil_append,List.cons_append];have HYY:=Lh hY;clear hY
 gi_wp2
 gi_loopw [12] (fun v wr => ∃i:Nat,i≤L.length∧v = .int .i64 (i:Nat)∧Hid (J (List.range (Lg.qF (fms L) i)) wr)∧Hid (Below wb.heap.size wb wr)) (fun v _=>L.length-(intOf v).toNat)
 case atStart=>exact ⟨0,Nat.zero_le _,rfl,Lh h0,Lh hB⟩
 case round =>
  obtain⟨i,hi,rfl,HJ,HB⟩:=hrel;by_cases hil:i<L.length
  ·obtain⟨b,off,rfl,hbs,hcc⟩:=HR.out (by omega);obtain⟨x,hx,hxp⟩:=fs_get hil;have hmx:=List.mem_of_getElem? hx;have hxi:=HP.out x hmx;obtain⟨c0,c1,c2,c3,c4⟩:=fr_cells hcc hx;obtain⟨A1,cap1,hx1,hlc1,hcm1,_,hrow1⟩:=hxi.1.1;unfold maxLen at hcm1;have HR1:=Lh hrow1;have HP1:=Lh hxi.1.2;have HF:=Lh (Lg.itm_fam hxp);have HS:=Lh (Lg.qF_succ hxp);have HL:=Lh (fun j k (q:Pt) (y:Lb) (h1:(fm x).2[j]? = some q) (h2:q.l[k]? = some y)=>Lg.itm_lab hxp h1 h2);obtain⟨⟨xn,xk,xu,xh⟩,xv,P⟩:=x;simp only at hx1 hlc1 hcm1 c0 c1 c2 c3 c4 HR1 HP1 HF HS HL;subst hx1;have r0:=(HB.out.cell (p:=⟨b,off+i*5,none⟩) hbs).trans c0;have r1:=(HB.out.cell (p:=⟨b,off+i*5+1,none⟩) hbs).trans c1;have r2:=(HB.out.cell (p:=⟨b,off+i*5+2,none⟩) hbs).trans c2;have r3:=(HB.out.cell (p:=⟨b,off+i*5+3,none⟩) hbs).trans c3;have r4:=(HB.out.cell (p:=⟨b,off+i*5+4,none⟩) hbs).trans c4;clear hcc c0 c1 c2 c3 c4 hx hxp hmx hxi hrow1;have hy:=HYY.out _ (Lg.qF (fms L) i) _ (HA.out _ _ _ HJ.out (kp_alloc (Below.refl wr.heap.size wr) (.cells #[.string (str xn),.int .i64 xk,.string (str xu),.string (str xh),.slice A1 P.length cap1] 51))) (by rw[List.length_range];exact HF.out.1);rw[HF.out.2] at hy;simp only at hy;rw[range_snoc] at hy;have N2:=heap_alloc_new wr (.cells #[.string (str xn),.int .i64 xk,.string (str xu),.string (str xh),.slice A1 P.length cap1] 51);have HB2:=Lh (trans9 HB.out (kp_alloc (Below.refl wr.heap.size wr) (.cells #[.string (str xn),.int .i64 xk,.string (str xu),.string (str xh),.slice A1 P.length cap1] 51)))
   gi_upto_region 3 with (fail)
   generalize wr.alloc (.cells #[.string (str xn),.int .i64 xk,.string (str xu),.string (str xh),.slice A1 P.length cap1] 51)=w2 at *;generalize wr.heap.size=c at *;obtain⟨fn,tmps,assign,body,hyr,hR⟩:=hy;have q0:w2.cell? ⟨c,0,none⟩=some (.string (str xn)):=by rw[cell_of_row w2 c 0 _ _ _ N2];rfl
   have HN2:=Lh N2;clear r0 r1 r2 r3 r4 N2
   gi_wp2
   refine hR.mono ?_;rintro e w3 (⟨rfl,hJ3,hk3⟩|⟨rfl,hJx⟩);rotate_left
   ·clear q0
    gi_wp2
    refine bodyPost_ret (results_none rfl _ _ _) rfl ?_;exact⟨⟨_,rfl⟩,.inr ⟨_,⟨_,HF.out.1,rfl⟩,hJx⟩⟩
   have N3:=(hk3.fam c _ _ HN2.out).trans HN2.out;have q4:w3.cell? ⟨c,4,none⟩=some (.slice A1 P.length cap1):=by rw[cell_of_row w3 c 4 _ _ _ N3];rfl
   have HJ3:=Lh hJ3;have HB3:=Lh (HB2.out.trans hk3.bl);clear q0 hyr hR hJ3 hk3 N3 HN2
   gi_upto_region 5 with (fail)
   gi_loopw [25] (fun v wz => ∃j:Nat,j≤P.length∧v = .int .i64 (j:Nat)∧Hid (J (List.range (Lg.qF (fms L) i+1+Lg.qP (pts P) j)) wz)∧Hid (Below wb.heap.size wb wz)) (fun v _=>P.length-(intOf v).toNat)
   case atStart=>exact ⟨0,Nat.zero_le _,rfl,HJ3,HB3⟩
   case round =>
    clear HJ3 HB3;obtain⟨j,hj,rfl,HJ3,HB3⟩:=hrel;by_cases hjl:j<P.length
    ·obtain⟨b1,off1,rfl,hbs1,hc1⟩:=HR1.out (by omega);obtain⟨y,hy,hyp⟩:=ps_get hjl;have hyi:=HP1.out y (List.mem_of_getElem? hy);obtain⟨e0,e1,e2,e3,e4,e5,e6,e7,e8⟩:=pr_cells hc1 hy;obtain⟨A2,cap2,hy1,hlc2,hcm2,_,hrow2⟩:=hyi.1;unfold maxLen at hcm2;have HR2:=Lh hrow2;have HS2:=Lh (Lg.qP_succ hyp);have HL2:=Lh (fun k z h=>HL.out j k y.2 z hyp h);have hR1 : ∀o u,wb.cell? ⟨b1,o,none⟩=some u→wr.cell? ⟨b1,o,none⟩=some u:=fun o u hu=>(HB3.out.cell (p:=⟨b1,o,none⟩) hbs1).trans hu;have s0:=hR1 _ _ e0;have s1:=hR1 _ _ e1;have s2:=hR1 _ _ e2;have s3:=hR1 _ _ e3;have s4:=hR1 _ _ e4;have s5:=hR1 _ _ e5;have s6:=hR1 _ _ e6;have s7:=hR1 _ _ e7;have s8:=hR1 _ _ e8;obtain⟨yv,⟨ls,ro,inf,bm,bs,mm,ss,td,ti⟩⟩:=y;simp only at hy1 hlc2 s0 s1 s2 s3 s4 s5 s6 s7 s8 HR2 HS2 HL2;subst hy1;clear hc1 e0 e1 e2 e3 e4 e5 e6 e7 e8 hR1 hy hyp hyi hrow2;have ka:=kp_alloc (Below.refl wr.heap.size wr) (.cells (ptc (.slice A2 ls.length cap2) ⟨ls,ro,inf,bm,bs,mm,ss,td,ti⟩) 56);have HJ4:=Lh (HA.out _ _ _ HJ3.out ka);have HB4:=Lh (trans9 HB3.out ka);clear ka HJ3 HB3
     gi_upto_region 8 with (fail)
     clear s0 s1 s2 s3 s4 s5 s6 s7 s8
     gi_loopw [32] (fun v wy => ∃k:Nat,k≤ls.length∧v = .int .i64 (k:Nat)∧Hid (J (List.range (Lg.qF (fms L) i+1+Lg.qP (pts P) j+k)) wy)∧Hid (Below wb.heap.size wb wy)) (fun v _=>ls.length-(intOf v).toNat)
     case atStart=>exact ⟨0,Nat.zero_le _,rfl,HJ4,HB4⟩
     case round =>
      clear HJ4 HB4;obtain⟨k,hk,rfl,HJ4,HB4⟩:=hrel;by_cases hkl:k<ls.length
      ·obtain⟨b2,off2,rfl,hbs2,hc2⟩:=HR2.out (by omega);obtain⟨g0,g1⟩:=hc2 k (lbAt ls k) (at_get hkl);have g0:=(HB4.out.cell (p:=⟨b2,off2+k*2,none⟩) hbs2).trans g0;have g1:=(HB4.out.cell (p:=⟨b2,off2+k*2+1,none⟩) hbs2).trans g1;have HF2:=Lh (HL2.out k _ (at_get hkl));generalize lbAt ls k=X at *;obtain⟨X1,X2⟩:=X;simp only at g0 g1 HF2;have ka:=kp_alloc (Below.refl wr.heap.size wr) (.cells #[.string (str X1),.string (str X2)] 58);have hy:=HYY.out _ (Lg.qF (fms L) i+1+Lg.qP (pts P) j+k) _ (HA.out _ _ _ HJ4.out ka) (by rw[List.length_range];exact HF2.out.1);rw[HF2.out.2] at hy;simp only at hy;rw[range_snoc] at hy;have N2:=heap_alloc_new wr (.cells #[.string (str X1),.string (str X2)] 58);have HB5:=Lh (trans9 HB4.out ka);clear hc2 ka HB4 HJ4
       gi_upto_region 10 with (fail)
       generalize wr.alloc (.cells #[.string (str X1),.string (str X2)] 58)=w2 at *;generalize wr.heap.size=c at *;obtain⟨fn,tmps,assign,body,hyr,hR⟩:=hy;have q0:w2.cell? ⟨c,0,none⟩=some (.string (str X1)):=by rw[cell_of_row w2 c 0 _ _ _ N2];rfl
       clear g0 g1 N2
       gi_wp2
       refine hR.mono ?_;rintro e w3 (⟨rfl,hJ6,hk6⟩|⟨rfl,hJx⟩)
       ·have HJ6:=Lh hJ6;have HB6:=Lh (HB5.out.trans hk6.bl);clear q0 hyr hR hJ6 hk6
        gi_wp2
        go_roundw;case rel=>exact ⟨k+1,hkl,by go_num,HJ6,HB6⟩
        case measure=>simp [intOf];omega
       ·clear q0
        gi_wp2
        refine bodyPost_ret (results_none rfl _ _ _) rfl ?_;exact⟨⟨_,rfl⟩,.inr ⟨_,⟨_,HF2.out.1,rfl⟩,hJx⟩⟩
      ·obtain rfl:k=ls.length:=by omega
       have HJ6:Hid (J (List.range (Lg.qF (fms L) i+1+Lg.qP (pts P) (j+1))) wr):=Lh (by rw[HS2.out,←Nat.add_assoc];exact HJ4.out);clear HJ4
       gi_wp2
       go_roundw;case rel=>exact ⟨j+1,hjl,by go_num,HJ6,HB4⟩
       case measure=>simp [intOf];omega
    ·obtain rfl:j=P.length:=by omega
     have HJ6:Hid (J (List.range (Lg.qF (fms L) (i+1))) wr):=Lh (by
      rw[HS.out];have:=HJ3.out;rwa [Lg.qP_full (show(pts P).length≤P.length by simp[pts])] at this)
     clear HJ3
     gi_wp2
     go_roundw;case rel=>exact ⟨i+1,hil,by go_num,HJ6,HB3⟩
     case measure=>simp [intOf];omega
  ·obtain rfl:i=L.length:=by omega
   have HJ6:Hid (J (List.range (Lg.sqB (fms L)).length) wr):=Lh (by
    have:=HJ.out;rwa [Lg.qF_full (show(fms L).length≤L.length by simp[fms])] at this)
   clear HJ
   gi_wp2
   go_end0
   exact⟨⟨_,rfl⟩,.inl ⟨_,rfl,HJ6.out⟩⟩
theorem names_calls (F:Fence) (n:Nat) (h5:F.fn 38) (hro:F.round=none) (t:List UInt8) (a:Option Addr) (len cap:Nat) (w:World) :
 CallsIn F n Tryz.prog 38 #[batv t (.slice a len cap)] w fun e w'=>e = .returned (.func (.func 68) #[] #[.pointer (some ⟨w.heap.size,0,none⟩)])∧w'=w.alloc (.cells #[.string (str t),.slice a len cap] 24):=by
 refine callsIn_of_wp Tryz.func38 rfl h5 ?_ hro;simp only[Tryz.ntmps38,List.size_toArray,List.length_cons,List.length_nil,Nat.reduceAdd,Nat.reduceSub,Array.replicate_succ,Array.replicate_zero,List.push_toArray,List.append_toArray,List.nil_append,List.cons_append]
 gi_wp2
 go_ret;exact⟨rfl,rfl⟩
theorem names_stops (F:Fence) (n:Nat) (h7:F.fn 68) (hro:F.round=none) (hn:1≤n) (Bs:Nat) (L:List Fs) (fv:Value) (wb w:World) (hv:FmRow wb fv L) (hB:Below wb.heap.size wb w) (hBs:Bs<w.heap.size)
 (hc1:w.cell? ⟨Bs,1,none⟩=some fv) :
 SeqStopsK F n Tryz.prog 68 #[.pointer (some ⟨Bs,0,none⟩)] (fun x:Nat=>#[Value.int .i64 (Lg.itm (fms L) x).1,Value.string (str (Lg.itm (fms L) x).2)]) (Kn wb) (fun ys=>ys=List.range (Lg.sqB (fms L)).length)
  (fun pre => ∃k,k≤(Lg.sqB (fms L)).length∧pre=List.range k) (Lg.sqB (fms L)).length w:=fun l J Jx W hW ha _ hY h0 =>
 names_in F n h7 hro hn l Bs L fv wb hv J Jx W (hB.trans (hW.mono hB.size)) ha hY ((hW.cell (p:=⟨Bs,1,none⟩) hBs).trans hc1) h0
theorem sq_len {w:World} {fv:Value} {L:List Fs} (hv:FmRow w fv L) : ∀v∈Lg.sqB (fms L),v.2.length≤maxLen:=by
 intro v hm;rcases Lg.mem_sqB.1 hm with ⟨_,h⟩|⟨_,h⟩
 ·obtain⟨x,hx,e⟩:=Lg.mem_famN.1 h;obtain⟨y,hy,rfl⟩:=List.mem_map.1 hx;rw[e];exact(hv.2 y hy).2.ln
 ·obtain⟨x,hx,q,hq,hl⟩:=Lg.mem_labN.1 h;obtain⟨y,hy,rfl⟩:=List.mem_map.1 hx;obtain⟨z,hz,rfl⟩:=List.mem_map.1 hq;obtain⟨u,hu,e⟩:=Lg.mem_labL.1 hl;rw[e];exact(((hv.2 y hy).1.2 z hz).2.fit u hu).1
end Go.Proofs.YtbapneipjmpcbaaGreatDoor
