import Derived.RangeFuncNested
import Derived.RangeFuncBound
import Derived.RangeFuncCalls
import Derived.Shelf.RegionOpen
import Derived.Lib.Builder
import Derived.RegionIn
import Derived.Sort.CutIn
import Derived.Test.YtbapneipjmpcbaaGreatDoorColA
import Derived.Test.YtbapneipjmpcbaaGreatDoorChW
import Derived.Test.YtbapneipjmpcbaaGreatDoorGrd
import Derived.Laws.OwnMore
import Derived.Deep.WholeRow
import Derived.Lib.SliceRun
import Derived.Laws.StructEq
set_option maxHeartbeats 16000000
set_option maxRecDepth 100000
set_option linter.unusedVariables false
set_option linter.unusedSimpArgs false
namespace Go.Proofs.YtbapneipjmpcbaaGreatDoor
open Go.RowKit Go.Shelf
attribute [local go_sem] Oper.semAt_some
def collV:Option (Co.Bs×Co.Bs)→Value
 | none => .tuple #[.agg #[.string ⟨#[]⟩,.string ⟨#[]⟩],.bool false]
 | some c => .tuple #[.agg #[.string (str c.1),.string (str c.2)],.bool true]
def pA:Option (Co.Bs×Co.Bs)→Co.Bs
 | none=>[]
 | some c=>c.1
def pB:Option (Co.Bs×Co.Bs)→Co.Bs
 | none=>[]
 | some c=>c.2
theorem collV_is (o:Option (Co.Bs×Co.Bs)):collV o = .tuple #[.agg #[.string (str (pA o)),.string (str (pB o))],.bool o.isSome]:=by cases o <;> rfl
theorem srow_keep {w w':World} {v:Value} {n:Nat} {es:Nat→ByteArray} (h:StrRow w v n es) (hb:Below w.heap.size w w'):StrRow w' v n es:=by
 obtain⟨a,cap,rfl,h1,h2,h3⟩:=h;refine⟨a,cap,rfl,h1,h2,fun h0 => ?_⟩;obtain⟨b,off,rfl,hlt,hc⟩:=h3 h0;exact⟨b,off,rfl,Nat.lt_of_lt_of_le hlt hb.size,fun i hi=>⟨(hb.cell (p:=⟨b,off+i,none⟩) hlt).trans (hc i hi).1,(hc i hi).2⟩⟩
theorem trow_slice {w:World} {base:Nat} {v:Value} {L:List Co.Bs} (h:TRow w base v L) : ∃a c,v = .slice a L.length c:=by
 rcases h.2 with ⟨rfl,h0⟩|⟨g,cap,cur,rfl,_⟩
 ·exact⟨none,0,by rw[h0]⟩
 ·exact⟨_,_,rfl⟩
theorem three_new (w:World) (o1 o2 o3:Obj):(((w.alloc o1).alloc o2).alloc o3).heap[w.heap.size]? = some o1∧(((w.alloc o1).alloc o2).alloc o3).heap[w.heap.size+1]? = some o2∧(((w.alloc o1).alloc o2).alloc o3).heap[w.heap.size+1+1]? = some o3 ∧
 (((w.alloc o1).alloc o2).alloc o3).heap.size=w.heap.size+3∧Below w.heap.size w (((w.alloc o1).alloc o2).alloc o3):=by
 have h1:=heap_alloc_new w o1;have h2:=heap_alloc_new (w.alloc o1) o2;have h3:=heap_alloc_new ((w.alloc o1).alloc o2) o3;rw[World.size_alloc] at h2;rw[World.size_alloc,World.size_alloc] at h3;refine⟨?_,?_,h3,by simp,(((Below.refl _ w).alloc (Nat.le_refl _) _).alloc (by simp) _).alloc (by simp;omega) _⟩
 ·rw[Below.heap_alloc _ _ _ (by simp;omega),Below.heap_alloc _ _ _ (by simp)];exact h1
 ·rw[Below.heap_alloc _ _ _ (by simp)];exact h2
theorem four_new (w:World) (o1 o2 o3 o4:Obj):((((w.alloc o1).alloc o2).alloc o3).alloc o4).heap[w.heap.size]? = some o1∧((((w.alloc o1).alloc o2).alloc o3).alloc o4).heap[w.heap.size+1]? = some o2∧((((w.alloc o1).alloc o2).alloc o3).alloc o4).heap[w.heap.size+1+1]? = some o3 ∧
 ((((w.alloc o1).alloc o2).alloc o3).alloc o4).heap[w.heap.size+1+1+1]? = some o4∧((((w.alloc o1).alloc o2).alloc o3).alloc o4).heap.size=w.heap.size+1+1+1+1∧Below w.heap.size w ((((w.alloc o1).alloc o2).alloc o3).alloc o4):=by
 obtain⟨h1,h2,h3,h4,h5⟩:=three_new w o1 o2 o3;have h6:=heap_alloc_new (((w.alloc o1).alloc o2).alloc o3) o4;rw[h4] at h6;refine⟨?_,?_,?_,h6,by simp,h5.alloc (by rw[h4];omega) _⟩
 ·rw[Below.heap_alloc _ _ _ (by rw[h4];omega)];exact h1
 ·rw[Below.heap_alloc _ _ _ (by rw[h4];omega)];exact h2
 ·rw[Below.heap_alloc _ _ _ (by rw[h4];omega)];exact h3
theorem trow_keep {W W':World} {base:Nat} {v:Value} {S:List Co.Bs} (h:TRow W base v S) (hk : ∀g,v.ownBlock=some g→W'.heap[g]? = W.heap[g]?):TRow W' base v S:=by
 obtain⟨hl,h⟩:=h;refine⟨hl,?_⟩;rcases h with h|⟨g,cap,cur,rfl,hg,hc,h2⟩
 ·exact Or.inl h
 ·exact Or.inr ⟨g,cap,cur,rfl,hg,by rw[hk g rfl];exact hc,h2⟩
theorem trow_brow {W:World} {base:Nat} {v:Value} {S:List Co.Bs} (b8:Nat) (h:TRow W base v S) (hlt : ∀g,v.ownBlock=some g→g<b8) : ∃b,b≤b8∧BRow b W v S.length (fun j=>str (S.getD j [])):=by
 rcases h.2 with ⟨rfl,h0⟩|⟨g,cap,cur,rfl,hg,hc,h2⟩
 ·exact⟨b8,Nat.le_refl _,Or.inl ⟨rfl,h0⟩⟩
 ·refine⟨g,Nat.le_of_lt (hlt g rfl),Or.inr ⟨cap,rfl,fun j hj => ?_⟩⟩;have:=h.cells (g:=g) rfl j (encStr (S.getD j [])) (by simp[List.getD_eq_getElem?_getD,hj]);rw[Addr.add_lit,Nat.zero_add] at this;exact this
structure CI (w W0:World) (B z:Nat) (o:Option (Co.Bs×Co.Bs)) (k:Nat) (D:DataW Unit) (W:World):Prop where
 size:B≤W.heap.size
 same : ∀k,k<B→k≠z→k≠z+1→k≠z+1+1→W.heap[k]? = W0.heap[k]?
 c9:W.heap[z]? = some (.cells #[.string (str (pA o)),.string (str (pB o))] 30 (0,0))
 c10:W.heap[z+1]? = some (.cells #[.bool o.isSome] 4 (0,0))
 m:W.ownsMap Tryz.prog 9 (plainElem (H:=Unit) Tryz.prog 3) (z+1+1) k D
 bl:Below w.heap.size w W
variable {w W0 W W':World} {B z:Nat} {o:Option (Co.Bs×Co.Bs)} {k:Nat} {D:DataW Unit}
theorem CI.kept {row:Option Nat} (h:CI w W0 B z o k D W) (hz:z+1+1<B) (hw:w.heap.size≤B) (hg:W.grownBy W' row) (hr : ∀r,row=some r→B≤r):CI w W0 B z o k D W':=by
 have hk : ∀k,k<B→W'.heap[k]? = W.heap[k]?:=fun k hk=>hg.block k (Nat.lt_of_lt_of_le hk h.size) (fun e=>by have:=hr k e.symm;omega);exact⟨Nat.le_trans h.size hg.size,fun k a b c d=>(hk k a).trans (h.same k a b c d),by rw[hk z (by omega)];exact h.c9,by rw[hk (z+1) (by omega)];exact h.c10,
  h.m.kept hg (fun e=>by have:=hr _ e.symm;omega),h.bl.grown hg (Nat.le_trans hw h.size) (fun k e=>by have:=hr k e;omega)⟩
theorem CI.below (h:CI w W0 B z o k D W) (hz:z+1+1<B) (hw:w.heap.size≤B) (hb:Below W.heap.size W W'):CI w W0 B z o k D W' :=
 h.kept hz hw (row:=none) ⟨hb.os,hb.tape,hb.output,hb.size,fun k hk _=>hb.block k hk⟩ (fun r e=>by cases e)
theorem CI.own {f:Co.Bs→Co.Bs} {S:List Co.Bs} (ix:Nat→Nat) (hz:z+1+1<B) (hw:w.heap.size≤B):OwnFrom B (fun(pre:List Nat) W=>CI w W0 B z (Co.found f S (pre.map ix)) (pre.map ix).length (Co.mapD f S (pre.map ix)) W) :=
 fun s A B' row hs hg hr=>hs.kept hz hw hg (fun r e=>(hr r e).1)
theorem CI.kq {x y:Nat} {o':Option (Co.Bs×Co.Bs)} {k':Nat} {D':DataW Unit} (h:CI w W0 B z o k D W) (h':CI w W0 B z o' k' D' W') (hx:x<B∧x≠z∧x≠z+1∧x≠z+1+1) (hy:y<B∧y≠z∧y≠z+1∧y≠z+1+1):Kq x y W W' :=
 ⟨(h'.same x hx.1 hx.2.1 hx.2.2.1 hx.2.2.2).trans (h.same x hx.1 hx.2.1 hx.2.2.1 hx.2.2.2).symm,(h'.same y hy.1 hy.2.1 hy.2.2.1 hy.2.2.2).trans (h.same y hy.1 hy.2.1 hy.2.2.1 hy.2.2.2).symm⟩
theorem CI.put (h:CI w W0 B z o k D W) (hz:z+1+1<B) (hw:w.heap.size≤z) (a b:Co.Bs):CI w W0 B z (some (a,b)) k D (((W.setCell ⟨z,0,none⟩ (.string (str a))).setCell ⟨z,1,none⟩ (.string (str b))).setCell ⟨z+1,0,none⟩ (.bool true)):=by
 have e9:=set_heap _ z 1 _ _ _ (.string (str b)) (set_heap W z 0 _ _ _ (.string (str a)) h.c9);have e10:=set_heap _ (z+1) 0 _ _ _ (.bool true) (((heap_setCell_other (W.setCell ⟨z,0,none⟩ (.string (str a))) ⟨z,1,none⟩ (z+1) (.string (str b)) (by show z+1≠z;omega)).trans (heap_setCell_other W ⟨z,0,none⟩ (z+1) (.string (str a)) (by show z+1≠z;omega))).trans h.c10);have ho : ∀k,k≠z→k≠z+1→(((W.setCell ⟨z,0,none⟩ (.string (str a))).setCell ⟨z,1,none⟩ (.string (str b))).setCell ⟨z+1,0,none⟩ (.bool true)).heap[k]? = W.heap[k]?:=fun k h1 h2=>by
  rw[heap_setCell_other _ _ _ _ (by show k≠z+1;exact h2),heap_setCell_other _ _ _ _ (by show k≠z;exact h1),heap_setCell_other _ _ _ _ (by show k≠z;exact h1)]
 refine⟨by simp;exact h.size,fun k a b c d=>(ho k b c).trans (h.same k a b c d),?_,?_,?_,((h.bl.setCell hw _).setCell hw _).setCell (show w.heap.size≤z+1 by omega) _⟩
 ·rw[heap_setCell_other _ _ _ _ (by show z≠z+1;omega)];exact e9
 ·exact e10
 ·obtain⟨es,ck,hb,r⟩:=h.m;exact⟨es,ck,by rw[ho (z+1+1) (by omega) (by omega)];exact hb,r⟩
theorem CI.upd {D':DataW Unit} {k':Nat} (h:CI w W0 B z o k D W) (hz:z+1+1<B) (hw:w.heap.size≤z) (hg:W.grownBy W' (some (z+1+1))) (hm:W'.ownsMap Tryz.prog 9 (plainElem (H:=Unit) Tryz.prog 3) (z+1+1) k' D'):CI w W0 B z o k' D' W':=by
 have hk : ∀k,k<B→k≠z+1+1→W'.heap[k]? = W.heap[k]?:=fun k hk hn=>hg.block k (Nat.lt_of_lt_of_le hk h.size) (fun e=>hn (by cases e;rfl));exact⟨Nat.le_trans h.size hg.size,fun k a b c d=>(hk k a d).trans (h.same k a b c d),by rw[hk z (by omega) (by omega)];exact h.c9,by rw[hk (z+1) (by omega) (by omega)];exact h.c10,hm,
  h.bl.grown hg (by have:=h.size;omega) (fun k e=>by cases e;omega)⟩
theorem keeps_below {W W':World} (B:Nat) (h:Below W.heap.size W W'):KeepsFrom B W W':=⟨h.size,fun k o _ hk _=>by rw[h.block k (Array.getElem?_eq_some_iff.1 hk).1];exact hk⟩
theorem lcoll_calls (p q:Int) (nv:Value) (n:Nat) (es:Nat→ByteArray) (w:World) (hn:n≤10000) (hr:StrRow w nv n es) (hs : ∀i,i<n→(es i).size≤4194304) (hT:ChT w) :
 Calls Tryz.prog 52 #[.int .i64 p,.int .i64 q,nv] w fun e w'=>e = .returned (collV (Co.collO (Ch.loss p q) (txs n es)))∧Below w.heap.size w w':=by
 have hmm := @run_makeMap Tryz.prog;have HT:=Lh hT;have HS:=Lh hs;have HR:=Lh hr;clear hT hr hs;refine(callsIn_wide (n:=9)).1 ?_;refine callsIn_of_wp_marks Tryz.func52 rfl trivial ?_ rfl;simp only[Tryz.ntmps52,List.size_toArray,List.length_cons,List.length_nil,Nat.reduceAdd,Nat.reduceSub,Array.replicate_succ,Array.replicate_zero,List.push_toArray,List.append_toArray,List.nil_append,List.cons_append]
 gi_wp2_with fail
 obtain⟨e3,e4,e6,s0,B0⟩:=three_new w (.cells #[.int .i64 p] 3) (.cells #[.int .i64 q] 3) (.cells #[.string ⟨#[]⟩,.string ⟨#[]⟩] 30);have B0:=Lh B0;generalize ((w.alloc (.cells #[.int .i64 p] 3)).alloc (.cells #[.int .i64 q] 3)).alloc (.cells #[.string ⟨#[]⟩,.string ⟨#[]⟩] 30)=w0 at *;have E:=Lh (And.intro e3 (And.intro e4 e6));have S0:=Lh s0;clear e3 e4 e6 s0;have hcl:=sclone_calls nv n es w0 (by omega) (srow_keep HR.out B0.out);refine⟨trivial,(callsIn_wide.2 hcl).mono ?_⟩;rintro e w1 ⟨v,rfl,t1,b1⟩;have hL:=txs_len n es;have HE:=Lh (show ∀x∈txs n es,x.length≤4194304 from fun x hx=>by
  unfold txs at hx;obtain⟨i,hi,rfl⟩:=List.mem_map.1 hx;have:=HS.out i (by simpa using hi);rw[Lib.size_eq] at this;exact this)
 generalize hLt:txs n es=L at *;have HLt:=Lh hLt;clear hLt;obtain⟨a,c,rfl⟩:=trow_slice t1;have HL:=Lh hL;have hlt:=own_lt t1;have hge:=own_ge t1;have T2:=trow_keep (W':=w1.alloc (.cells #[.slice a L.length c] 65)) t1 (fun g hg=>Below.heap_alloc _ _ _ (hlt g hg));have N2:=heap_alloc_new w1 (.cells #[.slice a L.length c] 65);have B2:=kb_alloc b1 (Nat.le_refl _) (.cells #[.slice a L.length c] 65);have Z2:=World.size_alloc w1 (.cells #[.slice a L.length c] 65);have hso:=ssort_calls (.slice a L.length c) L w0.heap.size (w1.alloc (.cells #[.slice a L.length c] 65)) (by omega) T2;have hge1:=b1.size;rw[hL] at hso T2 N2 B2 Z2 hlt hge ⊢;clear t1 b1 hcl hL;have HT2:=Lh T2;have HN2:=Lh N2;have HB2:=Lh B2;have HZ:=Lh (And.intro hge1 Z2);have Hlt:=Lh (And.intro hlt hge);clear T2 N2 B2 Z2 hlt hge hge1
 gi_wp2_with fail
 refine⟨trivial,(callsIn_wide.2 hso).mono ?_⟩;rintro e w3 ⟨rfl,T3,g3⟩;clear hso;generalize w1.alloc (.cells #[.slice a n c] 65)=w2 at *;generalize w1.heap.size=b8 at *;have hno8 : ∀k,(Value.slice a n c).ownBlock=some k→k<b8:=Hlt.out.1;have N3:w3.heap[b8]? = some (.cells #[.slice a n c] 65 (0,0)):=by
  rw[g3.block b8 (by have:=HZ.out.2;omega) (fun e=>by have:=hno8 b8 e.symm;omega)];exact HN2.out
 have B3:=HB2.out.grown g3 (by have:=HZ.out;omega) Hlt.out.2;have Z3:b8<w3.heap.size:=(Array.getElem?_eq_some_iff.1 N3).1;have c3:=cell_of_row w3 b8 0 _ _ _ N3;have f3:w3.frozen? ⟨b8,0,none⟩=false:=Lib.frozen_of_heap N3 0;have hl3:(sorted L).length=n:=by rw[←HL.out];exact List.length_mergeSort L
 have hco:=scompact_calls (.slice a n c) (sorted L) w0.heap.size w3 (by omega) (by unfold TRow;rw[hl3];unfold TRow at T3;rw[hl3] at T3;exact T3);rw[hl3] at hco;have HN3:=Lh N3;have HB3:=Lh B3;clear T3 g3 N3 B3;have HZ3:=Lh Z3;clear Z3;have hc3:w3.cell? ⟨b8,0,none⟩=some (.slice a n c):=by rw[c3];rfl
 clear c3
 gi_wp2_with fail
 refine⟨trivial,(callsIn_wide.2 hco).mono ?_⟩;rintro e w4 ⟨v',rfl,T4,g4,ho4⟩;clear hco hc3 f3;have hS:Lib.compactUpTo (sorted L).toArray n=Co.once L:=by unfold Co.once;rw[HL.out]
 rw[hS] at T4;clear hS;have HB:=Lh (Co.back_once (Ch.loss p q) L);have HM:=Lh (show ∀x∈Co.once L,x.length≤4194304 from fun x hx=>HE.out x ((Co.once_mem L x).1 hx));have hm:(Co.once L).length≤n:=by
  have:=compact_len (sorted L).toArray L.length;rw[HL.out] at this;have e:Co.once L=Lib.compactUpTo (sorted L).toArray n:=by unfold Co.once;rw[HL.out]
  rw[e];exact this
 generalize Co.once L=S at *;obtain⟨a',c',rfl⟩:=trow_slice T4;have HmS:=Lh (show ∃m,S.length=m∧m≤n from⟨_,rfl,hm⟩);clear hm;obtain⟨m,hm,hmn⟩:=HmS.out;have hno8' : ∀k,(Value.slice a' S.length c').ownBlock=some k→k<b8:=fun k hk=>hno8 k (by rw[←ho4];exact hk);have N4:w4.heap[b8]? = some (.cells #[.slice a n c] 65 (0,0)):=by
  rw[g4.block b8 HZ3.out (fun e=>by have:=hno8 b8 e.symm;omega)];exact HN3.out
 have B4:=HB3.out.grown g4 (by have:=HB3.out.size;omega) Hlt.out.2;have hz4:b8<w4.heap.size:=(Array.getElem?_eq_some_iff.1 N4).1;have c4:w4.cell? ⟨b8,0,none⟩=some (.slice a n c):=by rw[cell_of_row w4 b8 0 _ _ _ N4];rfl
 have f4:w4.frozen? ⟨b8,0,none⟩=false:=Lib.frozen_of_heap N4 0;have N5:=set_heap w4 b8 0 _ _ _ (.slice a' S.length c') N4;have T5:=trow_keep (W':=w4.setCell ⟨b8,0,none⟩ (.slice a' S.length c')) T4 (fun g hg=>heap_setCell_other _ _ _ _ (by have:=hno8' g hg;show g≠b8;omega));obtain⟨b,hb8,hbrow⟩:=trow_brow b8 T5 hno8';have B5:=B4.setCell (p:=⟨b8,0,none⟩) (show w0.heap.size≤b8 by have:=HZ.out;have:=HB2.out.size;omega) (.slice a' S.length c');rw[hm] at hbrow N5 B5;have hm':=Lh hm;rw[hm];clear hm T5 T4 N4 B4 g4;have HN5:=Lh N5;have HB5:=Lh B5;have HR5:=Lh hbrow;clear N5 B5 hbrow hno8 hno8' HT2 HN2 HB2 HN3 HB3
 gi_upto_region 6 with (fail)
 have hfn:=four_new (w4.setCell ⟨b8,0,none⟩ (.slice a' m c')) (.cells #[.string ⟨#[]⟩,.string ⟨#[]⟩] 30) (.cells #[.bool false] 4) (.map #[] 0) (.cells #[.map (some (w4.heap.size+1+1))] 129);have hmade:=World.ownsMap_made (((w4.setCell ⟨b8,0,none⟩ (.slice a' m c')).alloc (.cells #[.string ⟨#[]⟩,.string ⟨#[]⟩] 30)).alloc (.cells #[.bool false] 4)) Tryz.prog 9 (plainElem (H:=Unit) Tryz.prog 3);have hmade:=hmade.alloc (.cells #[.map (some (w4.heap.size+1+1))] 129);rw[World.size_alloc,World.size_alloc,World.size_setCell] at hmade;rw[World.size_setCell] at hfn;have hB5:=HB5.out;have hR5:=HR5.out;have hN5:=HN5.out;have hz5:=World.size_setCell w4 ⟨b8,0,none⟩ (.slice a' m c');clear HB5 HR5 HN5 c4 f4;generalize w4.setCell ⟨b8,0,none⟩ (.slice a' m c')=w5 at *;generalize w4.heap.size=z at *;obtain⟨n9,n10,nm,n11,s6,B56⟩:=hfn;generalize (((w5.alloc (.cells #[.string ⟨#[]⟩,.string ⟨#[]⟩] 30)).alloc (.cells #[.bool false] 4)).alloc (.map #[] 0)).alloc (.cells #[.map (some (z+1+1))] 129)=w6 at *;have N6:w6.heap[b8]? = some (.cells #[.slice a' m c'] 65 (0,0)):=by rw[B56.block b8 hz4];exact hN5
 have R6:BRow b w6 (.slice a' m c') m (fun j=>str (S.getD j [])):=by
  rw[←hz5] at B56;exact hR5.below B56 (by omega)
 have Z0:w0.heap.size≤b8:=by have:=HZ.out;omega
 have B6:Below w.heap.size w w6:=B0.out.trans ((hB5.trans (B56.mono (by omega))).mono (by have:=S0.out;omega));have B06:Below w0.heap.size w0 w6:=hB5.trans (B56.mono (by omega));have c6:w6.cell? ⟨b8,0,none⟩=some (.slice a' m c'):=by rw[cell_of_row w6 b8 0 _ _ _ N6];rfl
 have H6:=Lh (And.intro n9 (And.intro n10 (And.intro nm n11)));have HN6:=Lh N6;have HR6:=Lh R6;have HB6:=Lh (And.intro B6 B06);have Hm6:=Lh hmade;clear n9 n10 nm n11 N6 R6 B6 B06 hmade hB5 hR5 hN5 B56 hz5
 gi_wp2_with (refine⟨trivial,?_⟩;gi_at_call 90;refine(backward_in Fence.wide _ trivial rfl _ _ _ _).mono ?_;rintro e w' ⟨rfl,rfl⟩)
 have N7:=heap_alloc_new w6 (.cells #[.slice a' m c'] 65);have s7:=World.size_alloc w6 (.cells #[.slice a' m c'] 65);have B7:=(Below.refl w6.heap.size w6).alloc (Nat.le_refl _) (.cells #[.slice a' m c'] 65);have m7:=Hm6.out.alloc (.cells #[.slice a' m c'] 65);generalize w6.alloc (.cells #[.slice a' m c'] 65)=w7 at *;rw[s6] at N7 s7;have hcell7:w7.cell? ⟨z+1+1+1+1,0,none⟩=some (.slice a' m c'):=by rw[cell_of_row w7 _ 0 _ _ _ N7];rfl
 have R7:=HR6.out.below B7 (by omega);have hCI:CI w w7 w7.heap.size z (Co.found (Ch.loss p q) S []) 0 (Co.mapD (Ch.loss p q) S []) w7:=⟨Nat.le_refl _,fun _ _ _ _ _=>rfl,by rw[B7.block z (by omega)];exact H6.out.1,by rw[B7.block (z+1) (by omega)];exact H6.out.2.1,m7,HB6.out.1.trans (B7.mono HB6.out.1.size)⟩
 have hwB:w.heap.size≤w7.heap.size:=Nat.le_trans HB6.out.1.size B7.size;refine wpIn_rangeFunc_ownG rfl (by omega) (gf:=120) (lb:=#[.pointer (some ⟨z+1+1+1+1,0,none⟩)]) rfl trivial (enters_of Tryz.func120 (by kernel_rfl) rfl)
  (backward_stops Fence.wide _ trivial rfl (by omega) (z+1+1+1+1) b (.slice a' m c') m (fun j=>str (S.getD j [])) (by omega) w7 (by omega) (by omega) hcell7 R7) Kq.trans (kq_put (by omega) (by omega)) (Below.refl _ _) (fun _=>rfl)
  (fun pre W=>CI w w7 w7.heap.size z (Co.found (Ch.loss p q) S (pre.map (fun x=>min x (m-1)))) (pre.map (fun x=>min x (m-1))).length (Co.mapD (Ch.loss p q) S (pre.map (fun x=>min x (m-1)))) W) (fun _ _ _=>False) (CI.own _ (by omega) hwB) (fun _ _ _ _ _ hs _ _=>hs) hCI
  (fun x => {tmps:=#[.int .i64 p,.int .i64 q,nv,.pointer (some ⟨w.heap.size,0,none⟩),.pointer (some ⟨w.heap.size+1,0,none⟩),undef,.pointer (some ⟨w.heap.size+1+1,0,none⟩),.bool false,.pointer (some ⟨b8,0,none⟩),.pointer (some ⟨z,0,none⟩),.pointer (some ⟨z+1,0,none⟩),.pointer (some ⟨z+1+1+1,0,none⟩),
   .int .i64 ((min x (m-1):Nat):Int),.string (str (S.getD (min x (m-1)) [])),undef,undef,undef,nv,.slice a n c,.slice a n c,.tuple #[],.slice a n c,.slice a' m c',.agg #[.string ⟨#[]⟩,.string ⟨#[]⟩],.map (some (z+1+1)),.slice a' m c',.func (.func 120) #[] #[.pointer (some ⟨z+1+1+1+1,0,none⟩)],
   .int .i64 ((min x (m-1):Nat):Int),.string (str (S.getD (min x (m-1)) [])),undef,undef,undef,undef,undef,undef,undef,undef,undef,undef,undef,undef,undef,undef,undef,undef,undef,undef,undef,undef,undef,undef],defers:=[]}) ?assign ?body ?done ?stop
 case assign =>
  intro l x W K hK
  gi_wp2
  exact hK
 case stop =>
  rintro D c pre W _ _ h _;exact h.elim
 case body =>
  rintro l pre x W hI hlt;have hi:min x (m-1)<m:=by omega
  obtain⟨pr,hpr⟩ : ∃pr,pre.map (fun x=>min x (m-1))=pr:=⟨_,rfl⟩
  have HP:=Lh (show(pre++[x]).map (fun x=>min x (m-1))=pr++[min x (m-1)] by rw[←hpr];simp);have hpl:pr.length<m:=by rw[←hpr];simpa using hlt
  have hpj : ∀j∈pr,j<m:=fun j hj=>by
   rw[←hpr] at hj;obtain⟨y,_,rfl⟩:=List.mem_map.1 hj;omega
  have HPl:=Lh (And.intro hpl hpj);rw[hpr] at hI;obtain rfl:a'=some ⟨b,0,none⟩:=by
   rcases R7 with ⟨_,e⟩|⟨cap,e,_⟩
   ·omega
   ·injection e
  have hrow : ∀j,j<m→w7.cell? ⟨b,j,none⟩=some (.string (str (S.getD j []))):=by
   rcases R7 with ⟨e,_⟩|⟨cap,e,hc⟩
   ·cases e
   ·exact hc
  have Hrow:=Lh hrow;dsimp only;clear hlt hpr hpl hpj hrow;generalize min x (m-1)=i at *;generalize hS:S.getD i []=s at *;have Hs:=Lh hS;have hsl:s.length≤4194304:=by
   rw[←hS,List.getD_eq_getElem?_getD,List.getElem?_eq_getElem (show i<S.length by rw[hm'.out];exact hi)];exact HM.out _ (List.getElem_mem _)
  clear hS;have HI:=Lh hI;have hw78:w0.heap.size≤w7.heap.size:=by omega
  have hwz:w.heap.size≤z:=by have:=S0.out;omega
  have B07:Below w0.heap.size w0 w7:=HB6.out.2.trans (B7.mono HB6.out.2.size);have e3:W.heap[w.heap.size]? = some (.cells #[.int .i64 p] 3 (0,0)):=by
   have:=S0.out;rw[hI.same w.heap.size (by omega) (by omega) (by omega) (by omega),B07.block w.heap.size (by omega)];exact E.out.1
  have e4:W.heap[w.heap.size+1]? = some (.cells #[.int .i64 q] 3 (0,0)):=by
   have:=S0.out;rw[hI.same (w.heap.size+1) (by omega) (by omega) (by omega) (by omega),B07.block (w.heap.size+1) (by omega)];exact E.out.2.1
  have k3:W.cell? ⟨w.heap.size,0,none⟩=some (.int .i64 p):=by rw[cell_of_row W _ 0 _ _ _ e3];rfl
  have k4:W.cell? ⟨w.heap.size+1,0,none⟩=some (.int .i64 q):=by rw[cell_of_row W _ 0 _ _ _ e4];rfl
  have hnm:=lname_calls p q s W (by unfold maxLen;omega) (HT.out.below hI.bl);have htl:=Ch.loss_len p q s;have Ht:=Lh (show ∃t,Ch.loss p q s=t from⟨_,rfl⟩);clear hI e3 e4;obtain⟨t,ht⟩:=Ht.out;rw[ht] at hnm htl;have HT':=Lh ht;clear ht Ht
  gi_wp2_with fail
  refine⟨trivial,(CallsIn.inRound l (callsIn_wide.2 hnm)).mono ?_⟩;rintro e W1 ⟨rfl,b1⟩;clear hnm k3 k4;have I1:=HI.out.below (by omega) hwB b1;have KF:=Lh (keeps_below w7.heap.size b1);clear b1;have k8:W1.cell? ⟨b8,0,none⟩=some (.slice (some ⟨b,0,none⟩) m c'):=by
   have e8:W1.heap[b8]? = some (.cells #[.slice (some ⟨b,0,none⟩) m c'] 65 (0,0)):=by
    rw[I1.same b8 (by omega) (by omega) (by omega) (by omega),B7.block b8 (by omega)];exact HN6.out
   rw[cell_of_row W1 _ 0 _ _ _ e8];rfl
  have k11:W1.cell? ⟨z+1+1+1,0,none⟩=some (.map (some (z+1+1))):=by
   have e11:W1.heap[z+1+1+1]? = some (.cells #[.map (some (z+1+1))] 129 (0,0)):=by
    rw[I1.same (z+1+1+1) (by omega) (by omega) (by omega) (by omega),B7.block (z+1+1+1) (by omega)];exact H6.out.2.2.2
   rw[cell_of_row W1 _ 0 _ _ _ e11];rfl
  have f90:W1.frozen? ⟨z,0,none⟩=false:=Lib.frozen_of_heap I1.c9 0;have f91:W1.frozen? ⟨z,1,none⟩=false:=Lib.frozen_of_heap I1.c9 1;have k90:W1.cell? ⟨z,0,none⟩=some (.string (str (pA (Co.found (Ch.loss p q) S pr)))):=by rw[cell_of_row W1 _ 0 _ _ _ I1.c9];rfl
  have k91:W1.cell? ⟨z,1,none⟩=some (.string (str (pB (Co.found (Ch.loss p q) S pr)))):=by rw[cell_of_row W1 _ 1 _ _ _ I1.c9];rfl
  have f10:W1.frozen? ⟨z+1,0,none⟩=false:=Lib.frozen_of_heap I1.c10 0;have k10:W1.cell? ⟨z+1,0,none⟩=some (.bool (Co.found (Ch.loss p q) S pr).isSome):=by rw[cell_of_row W1 _ 0 _ _ _ I1.c10];rfl
  have Hrow1:=Lh (show ∀j,j<m→W1.cell? ⟨b,j,none⟩=some (.string (str (S.getD j []))) from fun j hj=>by
   rw[←Hrow.out j hj];exact World.cell?_of_block (w:=w7) (I1.same b (by omega) (by omega) (by omega) (by omega)))
  have HD:=Lh (Co.mapD_has' (H:=Unit) (Ch.loss p q) S t pr);have hkey:keyOf Tryz.prog 9 (.string (str t))=some (.string t):=by
   have:=Go.WideMaps.keyOf_string_mk (P:=Tryz.prog) Tryz.underlying9 (s:=str t) (by rw[str_size];unfold maxLen;omega);exact this
  have hwf:(Lit.int .i64 (i:Int)).wf=true:=WalkArith.wf_i64 (by omega);have HI1:=Lh I1;have HF:=Lh (Co.found_snoc (Ch.loss p q) S pr i);have HMp:=Lh (Co.mapD_snoc (H:=Unit) (Ch.loss p q) S pr i);clear I1
  cases hf:Co.lastIx (Ch.loss p q) S pr t with
  | none =>
    have hhas:Maps.has (Co.mapD (H:=Unit) (Ch.loss p q) S pr) (.string t)=false:=by rw[HD.out.1,hf];rfl
    have HO:=Lh (show Co.found (Ch.loss p q) S (pr++[i])=Co.found (Ch.loss p q) S pr by rw[HF.out,Hs.out,HT'.out,hf]);clear hf
    gi_upto_region 13 with (first
     | (gi_at_lookup;refine wpListIn_lookup_own_ok_int _ rfl _ _ 129 rfl 9 3 .i64 (Maps.string_keyed Tryz.underlying9) Tryz.underlying129 Tryz.underlying3 (Tryz.zeroValue3 _) (z+1+1) pr.length _ rfl HI1.out.m _ _ rfl hkey ?_;intro cc hat hwc;rw[hhas])
     | fail)
    obtain⟨W2,hW2⟩ : ∃W2,W1=W2:=⟨_,rfl⟩
    have HI2:=HI1;have KF2:=KF;rw[hW2] at HI2 KF2 ⊢;clear k8 k11 k90 k91 k10 f90 f91 f10 Hrow1 HI1 KF hW2;have hgo:CI w w7 w7.heap.size z (Co.found (Ch.loss p q) S (pr++[i])) pr.length (Co.mapD (Ch.loss p q) S pr) W2:=by rw[HO.out];exact HI2.out
    have k11:W2.cell? ⟨z+1+1+1,0,none⟩=some (.map (some (z+1+1))):=by
     have e11:W2.heap[z+1+1+1]? = some (.cells #[.map (some (z+1+1))] 129 (0,0)):=by
      rw[hgo.same (z+1+1+1) (by omega) (by omega) (by omega) (by omega),B7.block (z+1+1+1) (by omega)];exact H6.out.2.2.2
     rw[cell_of_row W2 _ 0 _ _ _ e11];rfl
    have HG:=Lh hgo;clear hgo
    gi_wp2_with (first
     | (gi_at_mapUpdate;refine wpListIn_mapUpdate_own _ rfl _ _ _ 129 rfl 9 3 (Maps.string_keyed Tryz.underlying9) Tryz.underlying129 _ (z+1+1) pr.length _ rfl HG.out.m (by have:=HPl.out.1;unfold maxLen;omega) _ _ _ rfl rfl hkey _ [] (plainElem_int Tryz.underlying3 hwf) ?_;intro w8 hown8 hgrow8)
     | fail)
    have I8:CI w w7 w7.heap.size z (Co.found (Ch.loss p q) S ((pre++[x]).map (fun x=>min x (m-1)))) ((pre++[x]).map (fun x=>min x (m-1))).length (Co.mapD (Ch.loss p q) S ((pre++[x]).map (fun x=>min x (m-1)))) w8:=by
     rw[HP.out,HMp.out,Hs.out,HT'.out,List.length_append];exact HG.out.upd (by omega) hwz hgrow8 hown8
    exact⟨KF2.out.trans (KeepsFrom.of_grownBy hgrow8 (fun j e=>by cases e;omega)),HI.out.kq I8 ⟨by omega,by omega,by omega,by omega⟩ ⟨by omega,by omega,by omega,by omega⟩,I8⟩
  | some j =>
    have hhas:Maps.has (Co.mapD (H:=Unit) (Ch.loss p q) S pr) (.string t)=true:=by rw[HD.out.1,hf];rfl
    have hjm:j<m:=Co.lastIx_lt hf HPl.out.2;have Hat:=Lh (HD.out.2 j hf);have HO:=Lh (show Co.found (Ch.loss p q) S (pr++[i])=some (s,S.getD j []) by rw[HF.out,Hs.out,HT'.out,hf]);have krow:=Hrow1.out j hjm;have hji:(j:Int)<(m:Int):=by omega
    clear hf;generalize S.getD j []=u at *
    gi_upto_region 13 with (first
     | (gi_at_lookup;refine wpListIn_lookup_own_ok_int _ rfl _ _ 129 rfl 9 3 .i64 (Maps.string_keyed Tryz.underlying9) Tryz.underlying129 Tryz.underlying3 (Tryz.zeroValue3 _) (z+1+1) pr.length _ rfl HI1.out.m _ _ rfl hkey ?_;intro cc hat hwc;rw[hhas];obtain rfl:(j:Int)=cc:=(by have e:=(Hat.out _).symm.trans hat;injection e with e;injection e);clear hat hwc)
     | fail)
    have HI2:=Lh (HI1.out.put (by omega) hwz s u);have KF2:=Lh (((KF.out.trans ((KeepsOthers.setCell W1 ⟨z,0,none⟩ (.string (str s))).from _)).trans ((KeepsOthers.setCell _ ⟨z,1,none⟩ (.string (str u))).from _)).trans ((KeepsOthers.setCell _ ⟨z+1,0,none⟩ (.bool true)).from _));generalize ((W1.setCell ⟨z,0,none⟩ (.string (str s))).setCell ⟨z,1,none⟩ (.string (str u))).setCell ⟨z+1,0,none⟩ (.bool true)=W2 at *;clear k8 k11 k90 k91 k10 f90 f91 f10 Hrow1 HI1 KF krow;have hgo:CI w w7 w7.heap.size z (Co.found (Ch.loss p q) S (pr++[i])) pr.length (Co.mapD (Ch.loss p q) S pr) W2:=by rw[HO.out];exact HI2.out
    have k11:W2.cell? ⟨z+1+1+1,0,none⟩=some (.map (some (z+1+1))):=by
     have e11:W2.heap[z+1+1+1]? = some (.cells #[.map (some (z+1+1))] 129 (0,0)):=by
      rw[hgo.same (z+1+1+1) (by omega) (by omega) (by omega) (by omega),B7.block (z+1+1+1) (by omega)];exact H6.out.2.2.2
     rw[cell_of_row W2 _ 0 _ _ _ e11];rfl
    have HG:=Lh hgo;clear hgo
    gi_wp2_with (first
     | (gi_at_mapUpdate;refine wpListIn_mapUpdate_own _ rfl _ _ _ 129 rfl 9 3 (Maps.string_keyed Tryz.underlying9) Tryz.underlying129 _ (z+1+1) pr.length _ rfl HG.out.m (by have:=HPl.out.1;unfold maxLen;omega) _ _ _ rfl rfl hkey _ [] (plainElem_int Tryz.underlying3 hwf) ?_;intro w8 hown8 hgrow8)
     | fail)
    have I8:CI w w7 w7.heap.size z (Co.found (Ch.loss p q) S ((pre++[x]).map (fun x=>min x (m-1)))) ((pre++[x]).map (fun x=>min x (m-1))).length (Co.mapD (Ch.loss p q) S ((pre++[x]).map (fun x=>min x (m-1)))) w8:=by
     rw[HP.out,HMp.out,Hs.out,HT'.out,List.length_append];exact HG.out.upd (by omega) hwz hgrow8 hown8
    exact⟨KF2.out.trans (KeepsFrom.of_grownBy hgrow8 (fun j e=>by cases e;omega)),HI.out.kq I8 ⟨by omega,by omega,by omega,by omega⟩ ⟨by omega,by omega,by omega,by omega⟩,I8⟩
 case done =>
  rintro D ys W hD rfl hI hK;have eY:(upto (fun j=>m-1-j) m).map (fun x=>min x (m-1))=Co.down m:=by
   unfold upto Co.down;rw[List.map_map];apply List.map_congr_left;intro j hj;show min (m-1-j) (m-1)=m-1-j;omega
  rw[eY] at hI;have HO:=Lh (show Co.found (Ch.loss p q) S (Co.down m)=Co.collO (Ch.loss p q) (txs n es) by rw[←hm'.out,Co.found_down,HB.out,HLt.out]);have I1:CI w w7 w7.heap.size z (Co.collO (Ch.loss p q) (txs n es)) (Co.down m).length (Co.mapD (Ch.loss p q) S (Co.down m)) W:=by rw[←HO.out];exact hI
  clear hI eY HO;generalize ho:Co.collO (Ch.loss p q) (txs n es)=o at *;have HOo:=Lh ho;clear ho;have B07:Below w0.heap.size w0 w7:=HB6.out.2.trans (B7.mono HB6.out.2.size);have e6:W.heap[w.heap.size+1+1]? = some (.cells #[.string ⟨#[]⟩,.string ⟨#[]⟩] 30 (0,0)):=by
   have:=S0.out;rw[I1.same (w.heap.size+1+1) (by omega) (by omega) (by omega) (by omega),B07.block (w.heap.size+1+1) (by omega)];exact E.out.2.2
  have k60:W.cell? ⟨w.heap.size+1+1,0,none⟩=some (.string ⟨#[]⟩):=by rw[cell_of_row W _ 0 _ _ _ e6];rfl
  have k61:W.cell? ⟨w.heap.size+1+1,1,none⟩=some (.string ⟨#[]⟩):=by rw[cell_of_row W _ 1 _ _ _ e6];rfl
  have f60:W.frozen? ⟨w.heap.size+1+1,0,none⟩=false:=Lib.frozen_of_heap e6 0;have f61:W.frozen? ⟨w.heap.size+1+1,1,none⟩=false:=Lib.frozen_of_heap e6 1;have k90:W.cell? ⟨z,0,none⟩=some (.string (str (pA o))):=by rw[cell_of_row W _ 0 _ _ _ I1.c9];rfl
  have k91:W.cell? ⟨z,1,none⟩=some (.string (str (pB o))):=by rw[cell_of_row W _ 1 _ _ _ I1.c9];rfl
  have k10:W.cell? ⟨z+1,0,none⟩=some (.bool o.isSome):=by rw[cell_of_row W _ 0 _ _ _ I1.c10];rfl
  have HI:=Lh I1;clear I1
  gi_wp2
  have hwz:w.heap.size+1+1<z:=by have:=S0.out;omega
  have HE6:=Lh e6;clear e6;have hw6:w.heap.size≤w.heap.size+1+1:=by omega
  generalize w.heap.size+1+1=b6 at *;have n1 : ¬z=b6:=by omega
  have n2 : ¬z+1=b6:=by omega
  have n3 : ¬b6=z:=by omega
  have n4 : ¬b6=z+1:=by omega
  gi_region
  gi_wp2
  have e61:=set_heap _ b6 1 _ _ _ (.string (str (pB o))) (set_heap W b6 0 _ _ _ (.string (str (pA o))) HE6.out);have hK':((W.setCell ⟨b6,0,none⟩ (.string (str (pA o)))).setCell ⟨b6,1,none⟩ (.string (str (pB o)))).drew.heap[D]? = some (.deferred (some [])):=by
   show((W.setCell ⟨b6,0,none⟩ (.string (str (pA o)))).setCell ⟨b6,1,none⟩ (.string (str (pB o)))).heap[D]? = _;rw[heap_setCell_other _ _ _ _ (by show D≠b6;omega),heap_setCell_other _ _ _ _ (by show D≠b6;omega)];exact hK
  have e62:((W.setCell ⟨b6,0,none⟩ (.string (str (pA o)))).setCell ⟨b6,1,none⟩ (.string (str (pB o)))).drew.heap[b6]? = some (.cells #[.string (str (pA o)),.string (str (pB o))] 30 (0,0)):=e61;have BL:Below w.heap.size w ((W.setCell ⟨b6,0,none⟩ (.string (str (pA o)))).setCell ⟨b6,1,none⟩ (.string (str (pB o)))).drew:=((HI.out.bl.setCell (p:=⟨b6,0,none⟩) (show w.heap.size≤b6 by omega) _).setCell (p:=⟨b6,1,none⟩) (show w.heap.size≤b6 by omega) _).drew;generalize ((W.setCell ⟨b6,0,none⟩ (.string (str (pA o)))).setCell ⟨b6,1,none⟩ (.string (str (pB o)))).drew=W3 at *;refine⟨by simp,.inl ⟨_,_,rfl,run_takeDeferred hK',?_⟩⟩;have e63:(W3.putObj D (.deferred none)).heap[b6]? = some (.cells #[.string (str (pA o)),.string (str (pB o))] 30 (0,0)):=by rw[World.putObj_heap_other (by omega)];exact e62
  have c63:(W3.putObj D (.deferred none)).cell? ⟨b6,0,none⟩=some (.string (str (pA o))):=by rw[cell_of_row _ _ 0 _ _ _ e63];rfl
  have c64:(W3.putObj D (.deferred none)).cell? ⟨b6,1,none⟩=some (.string (str (pB o))):=by rw[cell_of_row _ _ 1 _ _ _ e63];rfl
  rw[HOo.out,collV_is];refine⟨.tuple #[.agg #[.string (str (pA o)),.string (str (pB o))],.bool o.isSome],?_,rfl,BL.trans (belowK_b (w:=w) (Nat.le_refl _) W3 D _ _ (by omega) hK' rfl rfl)⟩;simp[results,Tryz.f52,go_sem,c63,c64]
end Go.Proofs.YtbapneipjmpcbaaGreatDoor
namespace Go.Proofs.YtbapneipjmpcbaaGreatDoor
open Go.RowKit
structure TxAt (w:World) (b n:Nat) (es:Nat→ByteArray):Prop where
 heap : ∃cs,w.heap[b]? = some (.cells cs 9 (0,0))∧cs.size=n ∧ ∀i,i<n→cs[i]? = some (.string (es i))
theorem TxAt.lt {w:World} {b n:Nat} {es:Nat→ByteArray} (h:TxAt w b n es):b<w.heap.size:=by
 obtain⟨cs,h1,_⟩:=h.heap;exact(Array.getElem?_eq_some_iff.1 h1).1
theorem TxAt.cell {w:World} {b n:Nat} {es:Nat→ByteArray} (h:TxAt w b n es) (i:Nat) (hi:i<n):w.cell? ⟨b,i,none⟩=some (.string (es i)):=by
 obtain⟨cs,h1,_,h3⟩:=h.heap;rw[Lib.cell_of_heap h1];exact h3 i hi
theorem TxAt.free {w:World} {b n:Nat} {es:Nat→ByteArray} (h:TxAt w b n es) (i:Nat):w.frozen? ⟨b,i,none⟩=false:=by
 obtain⟨cs,h1,_⟩:=h.heap;exact Lib.frozen_of_heap h1 i
theorem TxAt.set {w:World} {b n:Nat} {es:Nat→ByteArray} (h:TxAt w b n es) (k:Nat) (x:ByteArray):TxAt (w.setCell ⟨b,k,none⟩ (.string x)) b n (fun i=>if i=k then x else es i):=by
 obtain⟨cs,h1,h2,h3⟩:=h.heap;refine⟨cs.setIfInBounds k (.string x),heap_setCell_same w b k _ _ _ h1,by simp[h2],fun i hi => ?_⟩;rw[Array.getElem?_setIfInBounds];by_cases e:k=i
 ·subst e;simp[h2,hi]
 ·rw[if_neg e,if_neg (fun q=>e q.symm)];exact h3 i hi
theorem TxAt.below {w w':World} {b n:Nat} {es:Nat→ByteArray} (h:TxAt w b n es) (hb:Below w.heap.size w w'):TxAt w' b n es:=by
 obtain⟨cs,h1,h2⟩:=h.heap;exact⟨cs,by rw[hb.block b h.lt];exact h1,h2⟩
theorem TxAt.ext {w:World} {b n:Nat} {es es':Nat→ByteArray} (h:TxAt w b n es) (e : ∀i,i<n→es i=es' i):TxAt w b n es':=by
 obtain⟨cs,h1,h2,h3⟩:=h.heap;exact⟨cs,h1,h2,fun i hi=>by rw[h3 i hi,e i hi]⟩
theorem TxAt.new (w:World) (n:Nat):TxAt (w.alloc (.cells (madeCells #[.string ⟨#[]⟩] n) 9)) w.heap.size n (fun _=>⟨#[]⟩) :=
 ⟨_,heap_alloc_new w _,by rw[←Array.length_toList,toList_madeCells_one];simp,fun i hi=>by rw[←Array.getElem?_toList,toList_madeCells_one];simp[hi]⟩
theorem TxAt.row {w:World} {b n:Nat} {es:Nat→ByteArray} (h:TxAt w b n es) (hn:n≤maxLen) (hs : ∀i,i<n→(es i).size≤maxLen):StrRow w (.slice (some ⟨b,0,none⟩) n n) n es :=
 ⟨_,_,rfl,Nat.le_refl _,hn,fun _=>⟨b,0,rfl,h.lt,fun i hi=>⟨by rw[Nat.zero_add];exact h.cell i hi,hs i hi⟩⟩⟩
def txl (l:List Co.Bs) (i:Nat):ByteArray:=str (l.getD i [])
theorem tx_row (w:World) (b:Nat) (l:List Co.Bs) (cs:Array Value) (hcs:cs=(l.map fun x=>Value.string (str x)).toArray) (hl:l.length≤maxLen) (hs : ∀x∈l,x.length≤maxLen) (hb:w.heap[b]? = some (.cells cs 9 (0,0))) :
 StrRow w (.slice (some ⟨b,0,none⟩) l.length l.length) l.length (txl l):=by
 refine⟨_,_,rfl,Nat.le_refl _,hl,fun _=>⟨b,0,rfl,(Array.getElem?_eq_some_iff.1 hb).1,fun i hi => ?_⟩⟩;rw[cell_of_row w b (0+i) _ _ _ hb,hcs];unfold txl;refine⟨by simp[List.getD_eq_getElem?_getD,hi],?_⟩;rw[str_size,List.getD_eq_getElem?_getD,List.getElem?_eq_getElem hi];exact hs _ (List.getElem_mem _)
theorem blk2_new (w:World) (o1 o2:Obj):((w.alloc o1).alloc o2).heap[w.heap.size]? = some o1∧((w.alloc o1).alloc o2).heap[w.heap.size+1]? = some o2∧Below w.heap.size w ((w.alloc o1).alloc o2):=by
 have h1:=heap_alloc_new w o1;have h2:=heap_alloc_new (w.alloc o1) o2;rw[World.size_alloc] at h2;exact⟨by rw[Below.heap_alloc _ _ _ (by simp)];exact h1,h2,((Below.refl _ w).alloc (Nat.le_refl _) _).alloc (by simp) _⟩
theorem equalc_self (x y:ByteArray) (w:World):(Op.equalIn 10000 30 (.agg #[.string x,.string y]) (.agg #[.string x,.string y])).run Tryz.prog w = .ok true w:=by go_simp
theorem eqlc_self (x y:ByteArray) (w:World):(binOp .eql 30 (.agg #[.string x,.string y]) (.agg #[.string x,.string y])).run Tryz.prog w = .ok (.bool true) w:=by
 rw[run_eql_struct,equalc_self];rfl
theorem neqc_self (x y:ByteArray) (w:World):(binOp .neq 30 (.agg #[.string x,.string y]) (.agg #[.string x,.string y])).run Tryz.prog w = .ok (.bool false) w:=by
 rw[run_neq_struct,equalc_self];rfl
namespace Ch
end Ch
end Go.Proofs.YtbapneipjmpcbaaGreatDoor
