import Derived.Test.YtbapneipjmpcbaaGreatDoorRlgA
import Derived.Test.YtbapneipjmpcbaaGreatDoorRlbE
import Derived.Test.YtbapneipjmpcbaaGreatDoorEscW
set_option maxHeartbeats 16000000
set_option maxRecDepth 100000
set_option linter.unusedVariables false
set_option linter.unusedSimpArgs false
namespace Go.Proofs.YtbapneipjmpcbaaGreatDoor
namespace Rn
open Go.RowKit Go.Sort Dc
theorem owns_block {w X:World} {base el k n:Nat} {v:Value} {xs:List Value} (h:w.ownsRow base el k v n xs) (e : ∀b,v.ownBlock=some b→X.heap[b]? = w.heap[b]?):X.ownsRow base el k v n xs:=by
 obtain⟨hl,h⟩:=h;refine⟨hl,?_⟩;rcases h with h|⟨g,cap,cur,rfl,hg,hc,h2⟩
 ·exact Or.inl h
 ·exact Or.inr ⟨g,cap,cur,rfl,hg,by rw[e g rfl];exact hc,h2⟩
def encL (x:Lb):List Value:=[.string (str x.1),.string (str x.2)]
theorem encL_len (x:Lb):(encL x).length=2:=rfl
theorem encL_one (x:Lb) : ∀u∈encL x,u.oneCell'=true:=by
 intro u hu;unfold encL at hu;simp only[List.mem_cons,List.not_mem_nil,or_false] at hu;rcases hu with rfl|rfl <;> rfl
theorem lb_flat : ∀l:List Lb,l.flatMap encL=lbCells l
 | []=>rfl
 | x::l=>by rw[List.flatMap_cons,lb_flat l];rfl
theorem lbTy:KTy Tryz.prog 52 58 2 32 (.agg #[.string ⟨#[]⟩,.string ⟨#[]⟩]) :=
 ⟨Tryz.underlying52,by kernel_rfl,Tryz.sizeOf58,rfl,by omega,by omega⟩
abbrev LOwn (w:World) (base:Nat) (v:Value) (l:List Lb):Prop:=KOwn encL 58 2 w base v l
theorem LOwn.lb {w:World} {base:Nat} {v:Value} {l:List Lb} (h:LOwn w base v l):LbOwn w base v l:=by
 have h2:=h;unfold LOwn KOwn at h2;rw[lb_flat] at h2;exact h2
theorem new_lb (w:World) (x:Lb):KRow encL 2 (w.alloc (.cells #[.string (str x.1),.string (str x.2)] 58)) (.slice (some ⟨w.heap.size,0,none⟩) 1 1) [x]:=by
 refine⟨_,1,rfl,Nat.le_refl _,by unfold maxLen;omega,(by rintro ⟨⟩),fun _=>⟨w.heap.size,0,rfl,by simp,fun i y hy j u hu => ?_⟩⟩;have hi:i=0:=by have:=(List.getElem?_eq_some_iff.1 hy).1;simp at this;omega
 subst hi;obtain rfl:x=y:=by simpa using hy
 unfold encL at hu
 match j,hu with
 | 0,hu=>obtain rfl:=Option.some.inj hu;simp
 | 1,hu=>obtain rfl:=Option.some.inj hu;simp
def LbOff (w:World) (E:Nat→Prop) (v:Value) (l:List Lb):Prop := ∀X:World,(∀b,b<w.heap.size → ¬E b→X.heap[b]? = w.heap[b]?)→w.heap.size≤X.heap.size→LbRow X v l
theorem LbOff.row {w:World} {E:Nat→Prop} {v:Value} {l:List Lb} (h:LbOff w E v l):LbRow w v l:=h w (fun _ _ _=>rfl) (Nat.le_refl _)
theorem LbOff.move {w w':World} {E E':Nat→Prop} {v:Value} {l:List Lb} (h:LbOff w E v l) (h1 : ∀b,b<w.heap.size → ¬E b→w'.heap[b]? = w.heap[b]?) (h2:w.heap.size≤w'.heap.size) (hE : ∀b,b<w.heap.size→E' b→E b):LbOff w' E' v l :=
 fun X k1 k2=>h X (fun b hb he=>(k1 b (Nat.lt_of_lt_of_le hb h2) (fun e=>he (hE b hb e))).trans (h1 b hb he)) (Nat.le_trans h2 k2)
theorem LbOff.of {w:World} {base:Nat} {E:Nat→Prop} {v:Value} {l:List Lb} (h:LbOwn w base v l) (hE : ∀b,E b→b<base):LbOff w E v l :=
 fun X k1 k2=>LbOwn.row (owns_block h fun b hb=>k1 b (own_lt h b hb) (fun e=>by have:=hE b e;have:=own_ge h b hb;omega))
structure Pg (z:Nat) (wr:World) (v:Value) (P:List Ps):Prop where
 own:PtOwn wr (z+1) v P
 lab : ∀y∈P,PtIn y.2∧LbOff wr (fun b=>b≤z∨v.ownBlock=some b) y.1 y.2.l
theorem Pg.nil (z:Nat) (wr:World):Pg z wr (.slice none 0 0) []:=⟨KOwn.nil _ _ _ _ _,fun y hy=>by cases hy⟩
theorem Pg.move {z:Nat} {wr w':World} {v:Value} {P:List Ps} (h:Pg z wr v P) (h1 : ∀b,b<wr.heap.size→z<b→w'.heap[b]? = wr.heap[b]?) (h2:wr.heap.size≤w'.heap.size):Pg z w' v P :=
 ⟨Kt.ofBlock h.own fun b hb=>h1 b (own_lt h.own b hb) (by have:=own_ge h.own b hb;omega),fun y hy=>⟨(h.lab y hy).1,(h.lab y hy).2.move (fun b hb he=>h1 b hb (by
  rcases Nat.lt_or_ge z b with k|k
  ·exact k
  ·exact absurd (Or.inl k) he)) h2 (fun _ _ e=>e)⟩⟩
theorem Pg.below {z:Nat} {wr w':World} {v:Value} {P:List Ps} (h:Pg z wr v P) (hb:Below wr.heap.size wr w'):Pg z w' v P:=h.move (fun b hlt _=>hb.block b hlt) hb.size
theorem Pg.add {z:Nat} {wr w5:World} {v v5:Value} {P:List Ps} {y:Ps} (h:Pg z wr v P) (o5:PtOwn w5 (z+1) v5 (P++[y])) (g:wr.grownBy w5 v.ownBlock) (p:v5.ownBlock=v.ownBlock∨v5.ownBlock=some wr.heap.size)
 (hy:PtIn y.2) (hl:LbOff wr (fun b=>b≤z∨v.ownBlock=some b) y.1 y.2.l):Pg z w5 v5 (P++[y]):=by
 have mv : ∀u l,LbOff wr (fun b=>b≤z∨v.ownBlock=some b) u l→LbOff w5 (fun b=>b≤z∨v5.ownBlock=some b) u l:=fun u l k =>
  k.move (fun b hb he=>g.block b hb (fun e=>he (Or.inr e.symm))) g.size (fun b hb e=>by
   rcases e with e|e
   ·exact Or.inl e
   ·rcases p with p|p
    ·exact Or.inr (by rw[←p];exact e)
    ·rw[p] at e;have:=Option.some.inj e;omega)
 refine⟨o5,fun x hx => ?_⟩;rcases List.mem_append.1 hx with k|k
 ·exact⟨(h.lab x k).1,mv _ _ (h.lab x k).2⟩
 ·obtain rfl:=List.mem_singleton.1 k;exact⟨hy,mv _ _ hl⟩
theorem Pg.row {z:Nat} {wr:World} {v:Value} {P:List Ps} (h:Pg z wr v P):PtRow wr v P:=⟨KOwn.row encP_len h.own,fun y hy=>⟨(h.lab y hy).2.row,(h.lab y hy).1⟩⟩
theorem Pg.keep {z:Nat} {wr:World} {v:Value} {P:List Ps} (h:Pg z wr v P):PtKeep wr (z+1) v P:=fun X k1 k2=>(h.move (fun b hb hz=>k1 b hb hz) k2).row
theorem fam_block {w X:World} {b:Nat} {h:Hd} {v:Value} (k:FamAt w b h v) (e:X.heap[b]? = w.heap[b]?) (hz:w.heap.size≤X.heap.size):FamAt X b h v :=
 ⟨(World.cell?_of_block (a:=⟨b,0,none⟩) e).trans k.c0,(World.cell?_of_block (a:=⟨b,1,none⟩) e).trans k.c1,(World.cell?_of_block (a:=⟨b,2,none⟩) e).trans k.c2,(World.cell?_of_block (a:=⟨b,3,none⟩) e).trans k.c3,(World.cell?_of_block (a:=⟨b,4,none⟩) e).trans k.c4,
   fun o=>(World.frozen?_of_block (a:=⟨b,o,none⟩) e).trans (k.fr o),Nat.lt_of_lt_of_le k.lt hz⟩
theorem fam_set0 {w:World} {b:Nat} {h:Hd} {v:Value} (k:FamAt w b h v) (n:List UInt8):FamAt (w.setCell ⟨b,0,none⟩ (.string (str n))) b ⟨n,h.k,h.u,h.h⟩ v:=by
 have h0:=k.c0;have h1:=k.c1;have h2:=k.c2;have h3:=k.c3;have h4:=k.c4;exact⟨by simp[go_sem,h0],by simp[go_sem,h1],by simp[go_sem,h2],by simp[go_sem,h3],by simp[go_sem,h4],fun o=>by simpa using k.fr o,by simpa[World.setCell] using k.lt⟩
theorem pt_set0 {w:World} {b:Nat} {lv u:Value} {p:Pt} (l:List Lb) (k:PtAt w b lv p):PtAt (w.setCell ⟨b,0,none⟩ u) b u (Lg.Pt.with p l):=by
 obtain⟨h0,h1,h2,h3,h4,h5,h6,h7,h8,hf,hl⟩:=k;exact⟨by simp[go_sem,h0],by simp[go_sem,h1,Lg.Pt.with],by simp[go_sem,h2,Lg.Pt.with],by simp[go_sem,h3,Lg.Pt.with],by simp[go_sem,h4,Lg.Pt.with],by simp[go_sem,h5,Lg.Pt.with],by simp[go_sem,h6,Lg.Pt.with],by simp[go_sem,h7,Lg.Pt.with],by simp[go_sem,h8,Lg.Pt.with],fun o=>by simpa using hf o,by simpa[World.setCell] using hl⟩
theorem pre_add {z zj:Nat} {wz w9:World} {v4 v'':Value} {P:List Ps} {o:Obj} (hP:Pg z wz v4 P) (hb:Below wz.heap.size wz w9) (hzj:zj=wz.heap.size):PtOwn ((w9.setCell ⟨zj,0,none⟩ v'').alloc o) (z+1) v4 P :=
 own_alloc (Kt.ofBlock (hP.own.below hb) fun b hbk=>Below.heap_setCell _ _ _ _ (by have:=own_lt hP.own b hbk;show b≠zj;omega)) o
theorem end_add {z zj base:Nat} {wz w9 w5:World} {hd:Hd} {v4 v5 v'':Value} {P:List Ps} {l'':List Lb} {p':Pt} {o:Obj} (hF:FamAt wz z hd v4) (hP:Pg z wz v4 P) (hb:Below wz.heap.size wz w9) (hzj:zj=wz.heap.size)
 (hl:LbOwn w9 base v'' l'') (hbase:zj<base) (hp:PtIn p') (hpl:p'.l=l'')
 (o5:PtOwn w5 (z+1) v5 (P++[(v'',p')])) (g:((w9.setCell ⟨zj,0,none⟩ v'').alloc o).grownBy w5 v4.ownBlock) (p:v5.ownBlock=v4.ownBlock∨v5.ownBlock=some ((w9.setCell ⟨zj,0,none⟩ v'').alloc o).heap.size) :
 FamAt w5 z hd v4∧FamAt (w5.setCell ⟨z,4,none⟩ v5) z hd v5∧Pg z (w5.setCell ⟨z,4,none⟩ v5) v5 (P++[(v'',p')])∧Below z wz (w5.setCell ⟨z,4,none⟩ v5):=by
 have hzl:=hF.lt;have hs:=hb.size;have hz9:((w9.setCell ⟨zj,0,none⟩ v'').alloc o).heap.size=w9.heap.size+1:=by simp[World.setCell]
 have hblk : ∀b,b<w9.heap.size→b≠zj→((w9.setCell ⟨zj,0,none⟩ v'').alloc o).heap[b]? = w9.heap[b]?:=fun b hb1 hne=>by
  have h1:=(kp_alloc (Below.refl (w9.setCell ⟨zj,0,none⟩ v'').heap.size (w9.setCell ⟨zj,0,none⟩ v'')) o).block b (by simpa[World.setCell] using hb1);rw[h1];exact Below.heap_setCell _ _ _ _ hne
 have hgs:=g.size;have e5:w5.heap[z]? = wz.heap[z]?:=by
  rw[g.block z (by omega) (fun e=>by have:=own_ge hP.own z e.symm;omega),hblk z (by omega) (by omega),hb.block z hzl]
 have F5:=fam_block hF e5 (by omega);have P11:Pg z ((w9.setCell ⟨zj,0,none⟩ v'').alloc o) v4 P:=hP.move (fun b hb1 _=>by rw[hblk b (by omega) (by omega),hb.block b hb1]) (by omega);have L11:LbOff ((w9.setCell ⟨zj,0,none⟩ v'').alloc o) (fun b=>b≤z∨v4.ownBlock=some b) v'' l'':=by
  have hE : ∀b,(b≤z∨v4.ownBlock=some b)→b<base:=fun b e=>by
   rcases e with e|e
   ·omega
   ·have:=own_lt hP.own b e;omega
  exact LbOff.of (owns_block hl fun b hbk=>hblk b (own_lt hl b hbk) (by have:=own_ge hl b hbk;omega)) hE
 have P5:=P11.add o5 g p hp (by rw[hpl];exact L11);refine⟨F5,F5.set4,P5.move (fun b hb1 hz=>Below.heap_setCell _ _ _ _ (by show b≠z;omega)) (by simp[World.setCell]),?_⟩;have ho:=hb.os;have ht:=hb.tape;have hu:=hb.output;refine⟨g.os.trans ho,g.tape.trans ht,g.output.trans hu,by simp[World.setCell];omega,fun b hbz => ?_⟩;rw[Below.heap_setCell _ _ _ _ (by show b≠z;omega),g.block b (by omega) (fun e=>by have:=own_ge hP.own b e.symm;omega),hblk b (by omega) (by omega),hb.block b (by omega)]
structure Og (W0 wr:World) (v:Value) (R:List Fs):Prop where
 own:FmOwn wr W0.heap.size v R
 pts : ∀x∈R,HdIn x.hd∧POff wr (fun b=>v.ownBlock=some b∨b<W0.heap.size) x.v x.L
 bel:Below W0.heap.size W0 wr
theorem Og.nil (W0:World):Og W0 W0 (.slice none 0 0) []:=⟨KOwn.nil _ _ _ _ _,fun y hy=>by (cases hy),Below.refl _ _⟩
theorem Og.below {W0 wr w':World} {v:Value} {R:List Fs} (h:Og W0 wr v R) (hb:Below wr.heap.size wr w'):Og W0 w' v R :=
 ⟨h.own.below hb,fun x hx=>⟨(h.pts x hx).1,(h.pts x hx).2.below hb⟩,kb_call h.bel (Nat.le_refl _) hb⟩
theorem Og.row {W0 wr:World} {v:Value} {R:List Fs} (h:Og W0 wr v R):FmRow wr v R:=⟨KOwn.row encF_len h.own,fun x hx=>⟨(h.pts x hx).2.row,(h.pts x hx).1⟩⟩
theorem Og.eo {W0 wr:World} {v:Value} {R:List Fs} (h:Og W0 wr v R):FmEO wr (fun b=>b<W0.heap.size) v R:=fun X h1 h2 =>
 ⟨KOwn.row encF_len (Kt.ofBlock h.own fun b hb=>h1 b (own_lt h.own b hb) (fun e=>by have:=own_ge h.own b hb;omega)),fun x hx=>⟨(h.pts x hx).2 X (fun b hb he=>h1 b hb fun e=>he (Or.inr e)) h2,(h.pts x hx).1⟩⟩
theorem Og.add {W0 wr w5:World} {v v5:Value} {R:List Fs} {x:Fs} (h:Og W0 wr v R) (o5:FmOwn w5 W0.heap.size v5 (R++[x])) (g:wr.grownBy w5 v.ownBlock) (p:v5.ownBlock=v.ownBlock∨v5.ownBlock=some wr.heap.size)
 (hx:HdIn x.hd) (hp:POff wr (fun b=>v.ownBlock=some b∨b<W0.heap.size) x.v x.L):Og W0 w5 v5 (R++[x]):=by
 have mv : ∀u L,POff wr (fun b=>v.ownBlock=some b∨b<W0.heap.size) u L→POff w5 (fun b=>v5.ownBlock=some b∨b<W0.heap.size) u L:=fun u L k =>
  k.move (fun b hb he=>g.block b hb (fun e=>he (Or.inl e.symm))) g.size (fun b hb e=>by
   rcases e with e|e
   ·rcases p with p|p
    ·exact Or.inl (by rw[←p];exact e)
    ·rw[p] at e;have:=Option.some.inj e;omega
   ·exact Or.inr e)
 refine⟨o5,fun y hy => ?_,Below.grown h.bel g h.bel.size (fun q hq=>own_ge h.own q hq)⟩;rcases List.mem_append.1 hy with k|k
 ·exact⟨(h.pts y k).1,mv _ _ (h.pts y k).2⟩
 ·obtain rfl:=List.mem_singleton.1 k;exact⟨hx,mv _ _ hp⟩
theorem escN_le (p w:Int) : ∀(l:List UInt8) (prev:Option UInt8),Ch.escN p w prev l≤l.length
 | [],_=>Nat.le_refl _
 | c::r,prev=>by
   have:=escN_le p w r (some c);unfold Ch.escN;rw[List.length_cons];split <;> omega
theorem nm_len {p m w:Int} {l:List UInt8} (h:l.length≤60):(Lg.nmF p m w l).length≤1000:=by
 unfold Lg.nmF;split
 ·rw[Ch.loss_len];omega
 ·have h1:=Ch.escL_len p w l none;have h2:=escN_le p w l none;show(Ch.escL p w none l).length≤1000;omega
theorem ptin_ren {g:Lg.Nm} {q:Pt} (h:PtIn q) (hs : ∀z∈q.l,z.1.length≤60) (hg : ∀l:List UInt8,l.length≤60→(g l).length≤1000):PtIn (Lg.renP g q) :=
 ⟨h.bm1,h.bm2,h.m1,h.m2,h.t1,h.t2,fun x hx=>by
  have h1:=(Lg.srtK_perm _).mem_iff.1 (show x∈Lg.srtK (Lg.renL g q.l) from hx);unfold Lg.renL at h1;obtain⟨y,hy,rfl⟩:=List.mem_map.1 h1;have h2:=hg y.1 (hs y hy);exact⟨by show(g y.1).length≤maxLen;unfold maxLen;omega,(h.fit y hy).2⟩⟩
theorem pts_snoc {g:Lg.Nm} {P:List Ps} {L:List Ps} {j:Nat} {q:Pt} {v:Value} (h:pts P=((pts L).take j).map (Lg.renP g)) (hq:(pts L)[j]? = some q):pts (P++[((v,Lg.renP g q):Ps)])=((pts L).take (j+1)).map (Lg.renP g):=by
 obtain⟨hk,rfl⟩:=List.getElem?_eq_some_iff.1 hq;rw[List.take_succ_eq_append_getElem hk,List.map_append,←h];simp[pts]
theorem fms_snoc {f g:Lg.Nm} {R:List Fs} {F:List Fs} {i:Nat} {x:Fp} {y:Fs} (h:fms R=Lg.renB f g ((fms F).take i)) (hx:(fms F)[i]? = some x) (hy:fm y=Lg.renF f g x):fms (R++[y])=Lg.renB f g ((fms F).take (i+1)):=by
 obtain⟨hk,rfl⟩:=List.getElem?_eq_some_iff.1 hx;rw[List.take_succ_eq_append_getElem hk];unfold Lg.renB at h ⊢;rw[List.map_append,←h,List.map_singleton,←hy];simp[fms]
end Rn
end Go.Proofs.YtbapneipjmpcbaaGreatDoor
namespace Go.Proofs.YtbapneipjmpcbaaGreatDoor
open Go.RowKit Go.Sort Dc
attribute [local go_sem ↓] Go.wp_at_zero Go.wp_at_succ
theorem Rn.back_len {p w:Int} {l:List UInt8} (h:l.length≤60):(Ch.back p w l).length≤1000:=by
 unfold Ch.back
 cases hu:Ch.undo l with
 | none=>show l.length≤1000;omega
 | some t =>
   have:=Ch.undo_len l.length l t (Nat.le_refl _) hu;show(if Ch.esc p w t=l then t else l).length≤1000;split <;> omega
theorem rren_calls (p m:Int) (t:List UInt8) (F:List Fs) (v:Value) (w:World) (hv:FmRow w v F) (hc:chk t (fms F)=0) :
 Calls Tryz.prog 31 #[.int .i64 p,.int .i64 m,.bool false,batv t v] w fun e w' => ∃v' M,e = .returned v'∧FmEO w' (fun b=>b<w.heap.size) v' M∧fms M=Lg.renB (Lg.nmF p m 0) (Lg.nmF p m 1) (fms F)∧Below w.heap.size w w':=by
 have k0:=kp_alloc (Below.refl w.heap.size w) (.cells #[.string (str t),v] 24);have F0:=BatAt.new w t v 24;have HP:=Lh hv.2;obtain⟨A,cap,rfl,hlc,hcm,hnil,hrow⟩:=hv.1;unfold maxLen at hcm;have HR:=Lh hrow;have HC:=Lh hc;have hF30:F.length≤30:=by have:=(chk_zero hc).2.1;rwa [List.length_map] at this
 have HNP:Hid (nPts (fms F)≤120):=Lh (chk_zero hc).2.2;have K0:=Lh k0;have HF0:=Lh F0;clear hnil hv hrow k0 F0 hc;go_enter Tryz.func31,Tryz.ntmps31;go_upto_region 1 with fail;generalize hW0:w.alloc (.cells #[.string (str t),.slice A F.length cap] 24)=W0 at *;clear hW0;obtain⟨b0,hb0⟩ : ∃b0,b0=w.heap.size:=⟨_,rfl⟩
 have HK:=Lh (fun X (h:Below W0.heap.size W0 X)=>show Below w.heap.size w X from trans9 K0.out h);rw[←hb0] at HF0 ⊢;clear hb0;go_wp2_with fail;go_loopw [9,10] (fun v9 s wr => ∃(i:Nat) (p9:Value) (R:List Fs),p9=v9∧i≤F.length∧s = .int .i64 (i:Nat)∧Hid (Rn.Og W0 wr p9 R)∧Hid (fms R=Lg.renB (Lg.nmF p m 0) (Lg.nmF p m 1) ((fms F).take i))) (fun _ s _=>F.length-(intOf s).toNat);case atStart=>exact ⟨0,_,[],rfl,Nat.zero_le _,rfl,Lh (Rn.Og.nil W0),Lh rfl⟩
 case round =>
  obtain⟨i,p9,R,rfl,hi,rfl,HOg,HRn⟩:=hrel;obtain⟨x0,x1,xf,xl⟩:=HF0.out.below HOg.out.bel;by_cases hil:i<F.length
  ·obtain⟨b,off,rfl,hbs,hcc⟩:=HR.out (by omega);obtain⟨x,hx,hxp⟩:=fs_get hil;have hmx:=List.mem_of_getElem? hx;have hxi:=HP.out x hmx;obtain⟨c0,c1,c2,c3,c4⟩:=fr_cells hcc hx;obtain⟨A1,cap1,hx1,hlc1,hcm1,_,hrow1⟩:=hxi.1.1;unfold maxLen at hcm1;have HR1:=Lh hrow1;have HP1:=Lh hxi.1.2;have HHd:=Lh hxi.2;have h8 : ∀y∈x.L,y.2.l.length≤8 ∧ ∀z∈y.2.l,z.1.length≤60:=fun y hy=>by
    have hg:=Lg.goodL_iff.1 (Lg.ptOk_iff.1 (Lg.chk_pt HC.out (List.mem_of_getElem? hxp) (List.mem_map_of_mem hy))).2.1;exact⟨hg.1,fun z hz=>(Lg.nameOk_len (hg.2.1 z hz).1).2⟩
   have H8:=Lh h8;have hn60:x.hd.n.length≤60:=(Lg.nameOk_len (Lg.chk_fn HC.out (Lg.mem_famN.2 ⟨fm x,List.mem_of_getElem? hxp,rfl⟩))).2;have hL120:x.L.length≤120:=by
    have h1:=nPts_take hxp;have h2:nPts (fms F)=nPts ((fms F).take (i+1))+nPts ((fms F).drop (i+1)):=by
     conv=>lhs;rw[←List.take_append_drop (i+1) (fms F)]
     unfold nPts;rw[List.map_append,List.sum_append]
    have h3:(fm x).2.length=x.L.length:=by simp[pts]
    have:=HNP.out;omega
   have HXP:=Lh hxp;have ka:=kp_alloc (Below.refl wr.heap.size wr) (.cells #[.string (str x.hd.n),.int .i64 x.hd.k,.string (str x.hd.u),.string (str x.hd.h),.slice none 0 0] 51);have hnc:=Lh (rnm_calls p m 0 x.hd.n (wr.alloc (.cells #[.string (str x.hd.n),.int .i64 x.hd.k,.string (str x.hd.u),.string (str x.hd.h),.slice none 0 0] 51)) (by omega));have FA:=FamAt.new wr x.hd (.slice none 0 0) 51;have hN:(Lg.nmF p m 0 x.hd.n).length≤1000:=Rn.nm_len hn60;obtain⟨⟨xn,xk,xu,xh⟩,xv,L⟩:=x;simp only at hx1 hlc1 hcm1 c0 c1 c2 c3 c4 HR1 HP1 H8 hL120 hnc HHd ka hN;subst hx1;have HC4:=Lh (fun X (h:Below W0.heap.size W0 X)=>((HK.out _ h).cell (p:=⟨b,off+i*5+4,none⟩) hbs).trans c4);have hR0 : ∀o u,w.cell? ⟨b,o,none⟩=some u→wr.cell? ⟨b,o,none⟩=some u:=fun o u hu=>((HK.out _ HOg.out.bel).cell (p:=⟨b,o,none⟩) hbs).trans hu;have r0:=hR0 _ _ c0;have r1:=hR0 _ _ c1;have r2:=hR0 _ _ c2;have r3:=hR0 _ _ c3;have KA:=Lh ka;have HFA:=Lh FA;have hN2:=Lh hN;clear hcc c0 c1 c2 c3 c4 hR0 hx hxp hmx hxi hrow1 h8 hn60 ka FA hN;go_wp2_with fail;refine hnc.out.mono ?_;rintro e w2 ⟨rfl,b2⟩;have HW:=Lh (trans9 KA.out b2);have HF2:=Lh (Rn.fam_set0 (HFA.out.below b2) (Lg.nmF p m 0 xn));obtain⟨q0,q1,q2,q3,q4,qf,ql⟩:=HFA.out.below b2;dsimp only at q0 q1 q2 q3 q4;clear b2 hnc KA HFA r0 r1 r2 r3 x0 x1 xf xl;go_upto_region 9 with fail;clear q0 q1 q2 q3 q4 qf ql;obtain⟨W3,hW3⟩ : ∃W,W=w2.setCell ⟨wr.heap.size,0,none⟩ (.string (str (Lg.nmF p m 0 xn))):=⟨_,rfl⟩
   rw[←hW3] at HF2 ⊢;have HB3:Hid (Below wr.heap.size wr W3):=Lh (by rw[hW3];exact HW.out.setCell (Nat.le_refl _) _);clear hW3 HW;have HOl:=Lh (HOg.out.bel);obtain⟨z,hz⟩ : ∃z,z=wr.heap.size:=⟨_,rfl⟩
   have HZ:=Lh hz;rw[←hz] at HF2 HB3 ⊢;have HKz:=Lh (fun X (h:Below z wr X)=>show Below W0.heap.size W0 X from HOg.out.bel.trans (h.mono (by rw[hz];exact HOg.out.bel.size)));clear hz;go_wp2_with fail;generalize wr=wo at *;go_loopw [12] (fun s wz => ∃(j:Nat) (v4:Value) (P:List Ps),j≤L.length∧s = .int .i64 (j:Nat)∧Hid (FamAt wz z ⟨Lg.nmF p m 0 xn,xk,xu,xh⟩ v4)∧Hid (Rn.Pg z wz v4 P)∧Hid (pts P=((pts L).take j).map (Lg.renP (Lg.nmF p m 1)))∧Hid (Below z wo wz)) (fun s _=>L.length-(intOf s).toNat);case atStart=>exact ⟨0,_,[],Nat.zero_le _,rfl,HF2,Lh (Rn.Pg.nil _ _),Lh rfl,HB3⟩
   case round =>
    clear HF2 HB3;obtain⟨j,v4,P,hj,rfl,HF2,HPg,HPn,HB3⟩:=hrel;obtain⟨x0,x1,xf,xl⟩:=HF0.out.below (HKz.out _ HB3.out);have r4:=HC4.out _ (HKz.out _ HB3.out);by_cases hjl:j<L.length
    ·obtain⟨b1,off1,rfl,hbs1,hc1⟩:=HR1.out (by omega);obtain⟨y,hy,hyp⟩:=ps_get hjl;have hmy:=List.mem_of_getElem? hy;have hyi:=HP1.out y hmy;obtain⟨e0,e1,e2,e3,e4,e5,e6,e7,e8⟩:=pr_cells hc1 hy;have hy8:=(H8.out y hmy).1;have hyn:=Lh (H8.out y hmy).2;obtain⟨A2,cap2,hy1,hlc2,hcm2,_,hrow2⟩:=hyi.1;unfold maxLen at hcm2;have HR2:=Lh hrow2;have HPI:=Lh hyi.2;have HPX:Hid ((pts L)[j]? = some y.2):=Lh hyp;have hR1 : ∀o u,w.cell? ⟨b1,o,none⟩=some u→wr.cell? ⟨b1,o,none⟩=some u:=fun o u hu=>((HK.out _ (HKz.out _ HB3.out)).cell (p:=⟨b1,o,none⟩) hbs1).trans hu;have s0:=hR1 _ _ e0;have s1:=hR1 _ _ e1;have s2:=hR1 _ _ e2;have s3:=hR1 _ _ e3;have s4:=hR1 _ _ e4;have s5:=hR1 _ _ e5;have s6:=hR1 _ _ e6;have s7:=hR1 _ _ e7;have s8:=hR1 _ _ e8;have ka:=kp_alloc (Below.refl wr.heap.size wr) (.cells (ptc y.1 y.2) 56);have PA:=PtAt.new wr y.1 y.2 56;obtain⟨yv,⟨ls,ro,inf,bm,bs,mm,ss,td,ti⟩⟩:=y;simp only at hy1 hlc2 hy8 hyn s0 s1 s2 s3 s4 s5 s6 s7 s8 ka PA HR2 HPI HPX;subst hy1;have KA:=Lh ka;have HPA:=Lh PA;clear hc1 e0 e1 e2 e3 e4 e5 e6 e7 e8 hR1 hy hyp hmy hyi hrow2 ka PA;go_upto_region 13 with fail;obtain⟨W4,hW4⟩ : ∃W,W=wr.alloc (.cells #[.slice A2 ls.length cap2,.int .i64 ro,.bool inf,.int .i64 bm,.int .i64 bs,.int .i64 mm,.int .i64 ss,.bool td,.int .i64 ti] 56):=⟨_,rfl⟩
     have HP4:Hid (PtAt W4 wr.heap.size (.slice A2 ls.length cap2) ⟨ls,ro,inf,bm,bs,mm,ss,td,ti⟩):=Lh (by rw[hW4];exact HPA.out);have HB4:Hid (Below wr.heap.size wr W4):=Lh (by rw[hW4];exact KA.out);have HS4:Hid (W4.heap.size=wr.heap.size+1):=Lh (by rw[hW4];simp);rw[←hW4];clear hW4 KA HPA s0 s1 s2 s3 s4 s5 s6 s7 s8 r4 x0 x1 xf xl;obtain⟨zj,hzj⟩ : ∃zj,zj=wr.heap.size:=⟨_,rfl⟩
     have HZJ:=Lh hzj;have hzw:Hid (z≤wr.heap.size):=Lh (Nat.le_of_lt HF2.out.lt);rw[←hzj] at HP4 ⊢;clear hzj;have HKj:=Lh (fun X (h:Below W4.heap.size W4 X)=>show Below w.heap.size w X from HK.out _ (HKz.out _ (HB3.out.trans ((trans9 HB4.out h).mono hzw.out))));have hfit:Hid (Fit ls):=Lh HPI.out.fit;go_wp2_with fail;generalize wr=wz at *;go_loopw [14,15] (fun v14 s wy => ∃(k:Nat) (u14:Value),u14=v14∧k≤ls.length∧s = .int .i64 (k:Nat)∧Hid (Rn.LOwn wy W4.heap.size u14 (Lg.renL (Lg.nmF p m 1) (ls.take k)))∧Hid (Below W4.heap.size W4 wy)) (fun _ s _=>ls.length-(intOf s).toNat);case atStart=>exact ⟨0,_,rfl,Nat.zero_le _,rfl,Lh (KOwn.nil _ _ _ _ _),Lh (Below.refl _ _)⟩
     case round =>
      obtain⟨k,u14,rfl,hk,rfl,HLO,HBy⟩:=hrel;obtain⟨y0,y1,y2,y3,y4,y5,y6,y7,y8,yf,yl⟩:=HP4.out.below HBy.out;dsimp only at y0 y1 y2 y3 y4 y5 y6 y7 y8;by_cases hkl:k<ls.length
      ·obtain⟨b2,off2,rfl,hbs2,hc2⟩:=HR2.out (by omega);obtain⟨g0,g1⟩:=hc2 k (lbAt ls k) (at_get hkl);have g0:=((HKj.out _ HBy.out).cell (p:=⟨b2,off2+k*2,none⟩) hbs2).trans g0;have g1:=((HKj.out _ HBy.out).cell (p:=⟨b2,off2+k*2+1,none⟩) hbs2).trans g1;have hX60:=hyn.out (lbAt ls k) (at_mem hkl);have hren:Lg.renL (Lg.nmF p m 1) (ls.take (k+1))=Lg.renL (Lg.nmF p m 1) (ls.take k)++[(Lg.nmF p m 1 (lbAt ls k).1,(lbAt ls k).2)]:=by
        rw[List.take_succ_eq_append_getElem hkl,←lbAt_of hkl];unfold Lg.renL;rw[List.map_append];rfl
       generalize lbAt ls k=X at *;obtain⟨X1,X2⟩:=X;simp only at g0 g1 hX60 hren;have HRe:=Lh hren;have ka:=kp_alloc (Below.refl wr.heap.size wr) (.cells #[.string (str X1),.string (str X2)] 58);have LA:=BatAt.new wr X1 (.string (str X2)) 58;have hnc:=Lh (rnm_calls p m 1 X1 (wr.alloc (.cells #[.string (str X1),.string (str X2)] 58)) (by omega));clear hc2 hren hX60;go_wp2_with fail;refine hnc.out.mono ?_;rintro e w6 ⟨rfl,b6⟩;have HB6:=Lh ((trans9 ka b6).setCell (p:=⟨wr.heap.size,0,none⟩) (Nat.le_refl _) (.string (str (Lg.nmF p m 1 X1))));obtain⟨q0,q1,qf,ql⟩:=LA.below b6;have hlt1:(Lg.renL (Lg.nmF p m 1) (ls.take k)).length+([(Lg.nmF p m 1 X1,X2)]:List Lb).length≤2000:=by unfold Lg.renL;simp;omega
       have HLn:=Lh hlt1;have ho:=Lh (own_alloc (HLO.out.below HB6.out) (.cells #[.string (str (Lg.nmF p m 1 X1)),.string (str X2)] 58));have hw0:=Rn.new_lb (w6.setCell ⟨wr.heap.size,0,none⟩ (.string (str (Lg.nmF p m 1 X1)))) (Lg.nmF p m 1 X1,X2);rw[show(w6.setCell ⟨wr.heap.size,0,none⟩ (.string (str (Lg.nmF p m 1 X1)))).heap.size=w6.heap.size by simp[World.setCell]] at hw0;have hw:=Lh hw0;clear hw0;have HBA:=Lh (kp_alloc (trans9 HBy.out HB6.out) (.cells #[.string (str (Lg.nmF p m 1 X1)),.string (str X2)] 58));clear b6 ka LA hnc hlt1 g0 g1 y1 y2 y3 y4 y5 y6 y7 y8 yf yl;go_wp2_with (at_builtin;refine wpList_append_krow Rn.lbTy Rn.encL_len (by rfl) _ _ (by rfl) W4.heap.size _ (Lg.renL (Lg.nmF p m 1) (ls.take k)) (by rfl) ho.out _ [(Lg.nmF p m 1 X1,X2)] (by rfl) hw.out (fun x hx=>Rn.encL_one x) HLn.out HBA.out.size ?_;intro v5 w5 o5 g5)
       have HO5:Hid (Rn.LOwn w5 W4.heap.size v5 (Lg.renL (Lg.nmF p m 1) (ls.take (k+1)))):=Lh (by rw[HRe.out];exact o5);have HB5:=Lh (Below.grown HBA.out g5 HBA.out.size (fun q hq=>own_ge ho.out q hq));clear o5 g5 q0 q1 qf ql;go_roundw;case rel=>exact ⟨k+1,_,rfl,hkl,by go_num,HO5,HB5⟩
       case measure=>simp [intOf];omega
      ·have hek:ls.take k=ls:=List.take_of_length_le (by omega);have HLA:Hid (Rn.LOwn wr W4.heap.size u14 (Lg.renL (Lg.nmF p m 1) ls)):=Lh (by have:=HLO.out;rwa [hek] at this);have hso:=Lh (rsort_own (Lg.renL (Lg.nmF p m 1) ls) u14 wr (LbOwn.row HLA.out.lb) (by unfold Lg.renL;simp;omega));clear hek HLO y1 y2 y3 y4 y5 y6 y7 y8 yf yl;go_wp2_with fail;refine hso.out.mono ?_;rintro e w9 ⟨v9,rfl,b9,o9⟩
       cases hS:srt (Lg.renL (Lg.nmF p m 1) ls) with
       | none =>
         rw[hS] at o9;simp only[Option.isSome];have HSK:Hid (Lg.srtK (Lg.renL (Lg.nmF p m 1) ls)=Lg.renL (Lg.nmF p m 1) ls):=Lh (by unfold Lg.srtK;rw[hS];rfl);clear o9 hS;obtain⟨A9,n9,cap9,hu9⟩ : ∃A n cap,u14 = .slice A n cap:=by obtain⟨A,cap,h,_⟩:=LbOwn.row HLA.out.lb;exact⟨_,_,_,h⟩
         subst hu9;have HL9:Hid (LbOwn w9 W4.heap.size (.slice A9 n9 cap9) (Lg.srtK (Lg.renL (Lg.nmF p m 1) ls))):=Lh (by rw[HSK.out];exact Rn.owns_block HLA.out.lb (fun b hb=>b9.block b (own_lt HLA.out.lb b hb)));have hzb:zj<W4.heap.size:=by have h1:=HS4.out;have h2:=HZJ.out;have h3:=HBy.out.size;omega
         have HPIR:Hid (PtIn (Lg.renP (Lg.nmF p m 1) ⟨ls,ro,inf,bm,bs,mm,ss,td,ti⟩)):=Lh (Rn.ptin_ren HPI.out hyn.out (fun l hl=>Rn.nm_len hl));have hb9:=Lh (trans9 (trans9 HB4.out HBy.out) b9);obtain⟨y0,y1,y2,y3,y4,y5,y6,y7,y8,yf,yl⟩:=(HP4.out.below HBy.out).below b9;obtain⟨f0,f1,f2,f3,f4,ff,fl⟩:=HF2.out.below hb9.out;dsimp only at y0 y1 y2 y3 y4 y5 y6 y7 y8 f0 f1 f2 f3 f4;have hne : ¬z=zj:=by have h1:=HF2.out.lt;have h2:=HZJ.out;omega
         have hne2 : ¬zj=z:=fun e=>hne e.symm;have hPl:P.length≤120:=by
          have h1:=congrArg List.length HPn.out;simp only[pts,List.length_map,List.length_take] at h1;omega
         have hlt1:P.length+([(((.slice A9 n9 cap9),⟨Lg.srtK (Lg.renL (Lg.nmF p m 1) ls),ro,inf,bm,bs,mm,ss,td,ti⟩):Ps)]).length≤2000:=by simp;omega
         have HLn:=Lh hlt1;have hone:=Lh (encP_one (w:=w9) (x:=(((.slice A9 n9 cap9),⟨Lg.srtK (Lg.renL (Lg.nmF p m 1) ls),ro,inf,bm,bs,mm,ss,td,ti⟩):Ps)) ⟨LbOwn.row HL9.out,HPIR.out⟩);have ho:=Lh (Rn.pre_add (zj:=zj) (v'':=(.slice A9 n9 cap9)) (o := .cells #[(.slice A9 n9 cap9),.int .i64 ro,.bool inf,.int .i64 bm,.int .i64 bs,.int .i64 mm,.int .i64 ss,.bool td,.int .i64 ti] 56) HPg.out hb9.out HZJ.out);have hw0:=new_pt (w9.setCell ⟨zj,0,none⟩ (.slice A9 n9 cap9)) (.slice A9 n9 cap9) ⟨Lg.srtK (Lg.renL (Lg.nmF p m 1) ls),ro,inf,bm,bs,mm,ss,td,ti⟩;rw[show(w9.setCell ⟨zj,0,none⟩ (.slice A9 n9 cap9)).heap.size=w9.heap.size by simp[World.setCell]] at hw0;have hw:=Lh hw0;have hsz:Hid (z+1≤((w9.setCell ⟨zj,0,none⟩ (.slice A9 n9 cap9)).alloc (.cells #[(.slice A9 n9 cap9),.int .i64 ro,.bool inf,.int .i64 bm,.int .i64 bs,.int .i64 mm,.int .i64 ss,.bool td,.int .i64 ti] 56)).heap.size):=Lh (by simp[World.setCell];omega);have HZB:=Lh hzb;clear hw0 hlt1 hPl b9 hzb;go_wp2_with (at_builtin;refine Kt.wpList_append_knew ptTy encP_len (by rfl) _ _ (by rfl) (z+1) _ P (by rfl) ho.out _ [(((.slice A9 n9 cap9),⟨Lg.srtK (Lg.renL (Lg.nmF p m 1) ls),ro,inf,bm,bs,mm,ss,td,ti⟩):Ps)] (by rfl) hw.out (by simp) (fun x hx=>by rw[List.mem_singleton.1 hx];exact hone.out) HLn.out hsz.out ?_;intro v5 w5 o5 g5 p5;obtain⟨A5,cap5,hv5,_⟩:=KOwn.row encP_len o5;simp only[List.length_append,List.length_cons,List.length_nil,Nat.zero_add] at hv5;subst hv5;obtain⟨F5,FE0,PE0,BE0⟩:=Rn.end_add HF2.out HPg.out hb9.out HZJ.out HL9.out HZB.out HPIR.out rfl o5 g5 p5;have HFE:=Lh FE0;have HPE:=Lh PE0;have HBE:=Lh (HB3.out.trans BE0);clear FE0 PE0 BE0 o5 g5 p5;obtain⟨t0,t1,t2,t3,t4,tf,tl⟩:=F5;dsimp only at t0 t1 t2 t3 t4)
         have HPS:=Lh (Rn.pts_snoc (v:=(.slice A9 n9 cap9)) HPn.out HPX.out);clear t0 t1 t2 t3 t4 tf tl;go_roundw;case rel=>exact ⟨j+1,_,_,hjl,by go_num,HFE,HPE,HPS,HBE⟩
         case measure=>simp [intOf];omega
       | some d =>
         rw[hS] at o9;simp only[Option.isSome];have HO9:=Lh o9;have HSK:Hid (Lg.srtK (Lg.renL (Lg.nmF p m 1) ls)=d):=Lh (by unfold Lg.srtK;rw[hS];rfl);clear o9 hS;obtain⟨A9,n9,cap9,hu9⟩ : ∃A n cap,v9 = .slice A n cap:=by obtain⟨A,cap,h,_⟩:=LbOwn.row HO9.out;exact⟨_,_,_,h⟩
         subst hu9;have HL9:Hid (LbOwn w9 wr.heap.size (.slice A9 n9 cap9) (Lg.srtK (Lg.renL (Lg.nmF p m 1) ls))):=Lh (by rw[HSK.out];exact HO9.out);have hzb:zj<wr.heap.size:=by have h1:=HS4.out;have h2:=HZJ.out;have h3:=HBy.out.size;omega
         have HPIR:Hid (PtIn (Lg.renP (Lg.nmF p m 1) ⟨ls,ro,inf,bm,bs,mm,ss,td,ti⟩)):=Lh (Rn.ptin_ren HPI.out hyn.out (fun l hl=>Rn.nm_len hl));have hb9:=Lh (trans9 (trans9 HB4.out HBy.out) b9);obtain⟨y0,y1,y2,y3,y4,y5,y6,y7,y8,yf,yl⟩:=(HP4.out.below HBy.out).below b9;obtain⟨f0,f1,f2,f3,f4,ff,fl⟩:=HF2.out.below hb9.out;dsimp only at y0 y1 y2 y3 y4 y5 y6 y7 y8 f0 f1 f2 f3 f4;have hne : ¬z=zj:=by have h1:=HF2.out.lt;have h2:=HZJ.out;omega
         have hne2 : ¬zj=z:=fun e=>hne e.symm;have hPl:P.length≤120:=by
          have h1:=congrArg List.length HPn.out;simp only[pts,List.length_map,List.length_take] at h1;omega
         have hlt1:P.length+([(((.slice A9 n9 cap9),⟨Lg.srtK (Lg.renL (Lg.nmF p m 1) ls),ro,inf,bm,bs,mm,ss,td,ti⟩):Ps)]).length≤2000:=by simp;omega
         have HLn:=Lh hlt1;have hone:=Lh (encP_one (w:=w9) (x:=(((.slice A9 n9 cap9),⟨Lg.srtK (Lg.renL (Lg.nmF p m 1) ls),ro,inf,bm,bs,mm,ss,td,ti⟩):Ps)) ⟨LbOwn.row HL9.out,HPIR.out⟩);have ho:=Lh (Rn.pre_add (zj:=zj) (v'':=(.slice A9 n9 cap9)) (o := .cells #[(.slice A9 n9 cap9),.int .i64 ro,.bool inf,.int .i64 bm,.int .i64 bs,.int .i64 mm,.int .i64 ss,.bool td,.int .i64 ti] 56) HPg.out hb9.out HZJ.out);have hw0:=new_pt (w9.setCell ⟨zj,0,none⟩ (.slice A9 n9 cap9)) (.slice A9 n9 cap9) ⟨Lg.srtK (Lg.renL (Lg.nmF p m 1) ls),ro,inf,bm,bs,mm,ss,td,ti⟩;rw[show(w9.setCell ⟨zj,0,none⟩ (.slice A9 n9 cap9)).heap.size=w9.heap.size by simp[World.setCell]] at hw0;have hw:=Lh hw0;have hsz:Hid (z+1≤((w9.setCell ⟨zj,0,none⟩ (.slice A9 n9 cap9)).alloc (.cells #[(.slice A9 n9 cap9),.int .i64 ro,.bool inf,.int .i64 bm,.int .i64 bs,.int .i64 mm,.int .i64 ss,.bool td,.int .i64 ti] 56)).heap.size):=Lh (by simp[World.setCell];omega);have HZB:=Lh hzb;clear hw0 hlt1 hPl b9 hzb;go_wp2_with (at_builtin;refine Kt.wpList_append_knew ptTy encP_len (by rfl) _ _ (by rfl) (z+1) _ P (by rfl) ho.out _ [(((.slice A9 n9 cap9),⟨Lg.srtK (Lg.renL (Lg.nmF p m 1) ls),ro,inf,bm,bs,mm,ss,td,ti⟩):Ps)] (by rfl) hw.out (by simp) (fun x hx=>by rw[List.mem_singleton.1 hx];exact hone.out) HLn.out hsz.out ?_;intro v5 w5 o5 g5 p5;obtain⟨A5,cap5,hv5,_⟩:=KOwn.row encP_len o5;simp only[List.length_append,List.length_cons,List.length_nil,Nat.zero_add] at hv5;subst hv5;obtain⟨F5,FE0,PE0,BE0⟩:=Rn.end_add HF2.out HPg.out hb9.out HZJ.out HL9.out HZB.out HPIR.out rfl o5 g5 p5;have HFE:=Lh FE0;have HPE:=Lh PE0;have HBE:=Lh (HB3.out.trans BE0);clear FE0 PE0 BE0 o5 g5 p5;obtain⟨t0,t1,t2,t3,t4,tf,tl⟩:=F5;dsimp only at t0 t1 t2 t3 t4)
         have HPS:=Lh (Rn.pts_snoc (v:=(.slice A9 n9 cap9)) HPn.out HPX.out);clear t0 t1 t2 t3 t4 tf tl;go_roundw;case rel=>exact ⟨j+1,_,_,hjl,by go_num,HFE,HPE,HPS,HBE⟩
         case measure=>simp [intOf];omega
    ·obtain⟨A4,cap4,hv4,_⟩:=HPg.out.row.1;subst hv4;have HOr:=Lh (HOg.out.below (by have:=HB3.out;rwa [HZ.out] at this));have hek:(pts L).take j=pts L:=List.take_of_length_le (by simp[pts];omega);have HPF:Hid (fm (⟨⟨Lg.nmF p m 0 xn,xk,xu,xh⟩,.slice A4 P.length cap4,P⟩:Fs)=Lg.renF (Lg.nmF p m 0) (Lg.nmF p m 1) (fm ⟨⟨xn,xk,xu,xh⟩,.slice A1 L.length cap1,L⟩)):=Lh (by
      have h:=HPn.out;rw[hek] at h;show(_,pts P)=(_,(pts L).map (Lg.renP (Lg.nmF p m 1)))
      rw[h])
     have HHN:Hid (HdIn ⟨Lg.nmF p m 0 xn,xk,xu,xh⟩):=Lh ⟨by have:=hN2.out;show(Lg.nmF p m 0 xn).length≤maxLen;unfold maxLen;omega,HHd.out.lu,HHd.out.lh,HHd.out.k1,HHd.out.k2⟩;have HPO:Hid (POff wr (fun b=>p9.ownBlock=some b∨b<W0.heap.size) (.slice A4 P.length cap4) P):=Lh (HPg.out.keep.off (fun b e=>by
      have h2:=HZ.out;rcases e with e|e
      ·have h1:=own_lt HOg.out.own b e;omega
      ·have h1:=HOg.out.bel.size;omega))
     have hone:=Lh (encF_one (w:=wr) (x:=(⟨⟨Lg.nmF p m 0 xn,xk,xu,xh⟩,.slice A4 P.length cap4,P⟩:Fs)) ⟨HPg.out.row,HHN.out⟩);have ka:=kp_alloc (Below.refl wr.heap.size wr) (.cells #[.string (str (Lg.nmF p m 0 xn)),.int .i64 xk,.string (str xu),.string (str xh),.slice A4 P.length cap4] 51);have HOa:=Lh (HOr.out.below ka);have HPO2:=Lh (HPO.out.below ka);have hw:=Lh (new_fs wr (⟨⟨Lg.nmF p m 0 xn,xk,xu,xh⟩,.slice A4 P.length cap4,P⟩:Fs)).row;have hRl:R.length≤30:=by
      have h1:=congrArg List.length HRn.out;unfold Lg.renB at h1;simp only[fms,List.length_map,List.length_take] at h1;omega
     have hlt1:Hid (R.length+([(⟨⟨Lg.nmF p m 0 xn,xk,xu,xh⟩,.slice A4 P.length cap4,P⟩:Fs)]).length≤2000):=Lh (by simp;omega);have hsz:=Lh HOa.out.bel.size;obtain⟨f0,f1,f2,f3,f4,ff,fl⟩:=HF2.out;dsimp only at f0 f1 f2 f3 f4;clear ka hek;go_wp2_with (at_builtin;refine Kt.wpList_append_knew fmTy encF_len (by rfl) _ _ (by rfl) W0.heap.size _ R (by rfl) HOa.out.own _ [(⟨⟨Lg.nmF p m 0 xn,xk,xu,xh⟩,.slice A4 P.length cap4,P⟩:Fs)] (by rfl) hw.out (by simp) (fun x hx=>by rw[List.mem_singleton.1 hx];exact hone.out) hlt1.out hsz.out ?_;intro v5 w5 o5 g5 p5;have HO5:=Lh (HOa.out.add o5 g5 p5 HHN.out HPO2.out);clear o5 g5 p5)
     have HS5:=Lh (Rn.fms_snoc HRn.out HXP.out HPF.out);go_roundw;case rel=>exact ⟨i+1,_,_,rfl,hil,by go_num,HO5,HS5⟩
     case measure=>simp [intOf];omega
  ·have hfull:(fms F).take i=fms F:=List.take_of_length_le (by simp[fms];omega);have HRF:Hid (fms R=Lg.renB (Lg.nmF p m 0) (Lg.nmF p m 1) (fms F)):=Lh (by have:=HRn.out;rwa [hfull] at this);clear hfull HRn;go_wp2;go_ret;exact⟨_,R,rfl,HOg.out.eo.fewer (fun b hb=>Nat.lt_of_lt_of_le hb (HK.out W0 (Below.refl _ _)).size),HRF.out,HK.out _ HOg.out.bel⟩
theorem rrenb_calls (p m:Int) (t:List UInt8) (F:List Fs) (v:Value) (w:World) (hv:FmRow w v F) (hc:chk t (fms F)=0) :
 Calls Tryz.prog 31 #[.int .i64 p,.int .i64 m,.bool true,batv t v] w fun e w' => ∃v' M,e = .returned v'∧FmEO w' (fun b=>b<w.heap.size) v' M∧fms M=Lg.renB (Ch.back p 0) (Ch.back p 1) (fms F)∧Below w.heap.size w w':=by
 have k0:=kp_alloc (Below.refl w.heap.size w) (.cells #[.string (str t),v] 24);have F0:=BatAt.new w t v 24;have HP:=Lh hv.2;obtain⟨A,cap,rfl,hlc,hcm,hnil,hrow⟩:=hv.1;unfold maxLen at hcm;have HR:=Lh hrow;have HC:=Lh hc;have hF30:F.length≤30:=by have:=(chk_zero hc).2.1;rwa [List.length_map] at this
 have HNP:Hid (nPts (fms F)≤120):=Lh (chk_zero hc).2.2;have K0:=Lh k0;have HF0:=Lh F0;clear hnil hv hrow k0 F0 hc;go_enter Tryz.func31,Tryz.ntmps31;go_upto_region 1 with fail;generalize hW0:w.alloc (.cells #[.string (str t),.slice A F.length cap] 24)=W0 at *;clear hW0;obtain⟨b0,hb0⟩ : ∃b0,b0=w.heap.size:=⟨_,rfl⟩
 have HK:=Lh (fun X (h:Below W0.heap.size W0 X)=>show Below w.heap.size w X from trans9 K0.out h);rw[←hb0] at HF0 ⊢;clear hb0;go_wp2_with fail;go_loopw [9,10] (fun v9 s wr => ∃(i:Nat) (p9:Value) (R:List Fs),p9=v9∧i≤F.length∧s = .int .i64 (i:Nat)∧Hid (Rn.Og W0 wr p9 R)∧Hid (fms R=Lg.renB (Ch.back p 0) (Ch.back p 1) ((fms F).take i))) (fun _ s _=>F.length-(intOf s).toNat);case atStart=>exact ⟨0,_,[],rfl,Nat.zero_le _,rfl,Lh (Rn.Og.nil W0),Lh rfl⟩
 case round =>
  obtain⟨i,p9,R,rfl,hi,rfl,HOg,HRn⟩:=hrel;obtain⟨x0,x1,xf,xl⟩:=HF0.out.below HOg.out.bel;by_cases hil:i<F.length
  ·obtain⟨b,off,rfl,hbs,hcc⟩:=HR.out (by omega);obtain⟨x,hx,hxp⟩:=fs_get hil;have hmx:=List.mem_of_getElem? hx;have hxi:=HP.out x hmx;obtain⟨c0,c1,c2,c3,c4⟩:=fr_cells hcc hx;obtain⟨A1,cap1,hx1,hlc1,hcm1,_,hrow1⟩:=hxi.1.1;unfold maxLen at hcm1;have HR1:=Lh hrow1;have HP1:=Lh hxi.1.2;have HHd:=Lh hxi.2;have h8 : ∀y∈x.L,y.2.l.length≤8 ∧ ∀z∈y.2.l,z.1.length≤60:=fun y hy=>by
    have hg:=Lg.goodL_iff.1 (Lg.ptOk_iff.1 (Lg.chk_pt HC.out (List.mem_of_getElem? hxp) (List.mem_map_of_mem hy))).2.1;exact⟨hg.1,fun z hz=>(Lg.nameOk_len (hg.2.1 z hz).1).2⟩
   have H8:=Lh h8;have hn60:x.hd.n.length≤60:=(Lg.nameOk_len (Lg.chk_fn HC.out (Lg.mem_famN.2 ⟨fm x,List.mem_of_getElem? hxp,rfl⟩))).2;have hL120:x.L.length≤120:=by
    have h1:=nPts_take hxp;have h2:nPts (fms F)=nPts ((fms F).take (i+1))+nPts ((fms F).drop (i+1)):=by
     conv=>lhs;rw[←List.take_append_drop (i+1) (fms F)]
     unfold nPts;rw[List.map_append,List.sum_append]
    have h3:(fm x).2.length=x.L.length:=by simp[pts]
    have:=HNP.out;omega
   have HXP:=Lh hxp;have ka:=kp_alloc (Below.refl wr.heap.size wr) (.cells #[.string (str x.hd.n),.int .i64 x.hd.k,.string (str x.hd.u),.string (str x.hd.h),.slice none 0 0] 51);have hnc:=Lh (rback_calls p 0 x.hd.n (wr.alloc (.cells #[.string (str x.hd.n),.int .i64 x.hd.k,.string (str x.hd.u),.string (str x.hd.h),.slice none 0 0] 51)) (by omega));have FA:=FamAt.new wr x.hd (.slice none 0 0) 51;have hN:(Ch.back p 0 x.hd.n).length≤1000:=Rn.back_len hn60;obtain⟨⟨xn,xk,xu,xh⟩,xv,L⟩:=x;simp only at hx1 hlc1 hcm1 c0 c1 c2 c3 c4 HR1 HP1 H8 hL120 hnc HHd ka hN;subst hx1;have HC4:=Lh (fun X (h:Below W0.heap.size W0 X)=>((HK.out _ h).cell (p:=⟨b,off+i*5+4,none⟩) hbs).trans c4);have hR0 : ∀o u,w.cell? ⟨b,o,none⟩=some u→wr.cell? ⟨b,o,none⟩=some u:=fun o u hu=>((HK.out _ HOg.out.bel).cell (p:=⟨b,o,none⟩) hbs).trans hu;have r0:=hR0 _ _ c0;have r1:=hR0 _ _ c1;have r2:=hR0 _ _ c2;have r3:=hR0 _ _ c3;have KA:=Lh ka;have HFA:=Lh FA;have hN2:=Lh hN;clear hcc c0 c1 c2 c3 c4 hR0 hx hxp hmx hxi hrow1 h8 hn60 ka FA hN;go_wp2_with fail;refine hnc.out.mono ?_;rintro e w2 ⟨rfl,b2⟩;have HW:=Lh (trans9 KA.out b2);have HF2:=Lh (Rn.fam_set0 (HFA.out.below b2) (Ch.back p 0 xn));obtain⟨q0,q1,q2,q3,q4,qf,ql⟩:=HFA.out.below b2;dsimp only at q0 q1 q2 q3 q4;clear b2 hnc KA HFA r0 r1 r2 r3 x0 x1 xf xl;go_upto_region 9 with fail;clear q0 q1 q2 q3 q4 qf ql;obtain⟨W3,hW3⟩ : ∃W,W=w2.setCell ⟨wr.heap.size,0,none⟩ (.string (str (Ch.back p 0 xn))):=⟨_,rfl⟩
   rw[←hW3] at HF2 ⊢;have HB3:Hid (Below wr.heap.size wr W3):=Lh (by rw[hW3];exact HW.out.setCell (Nat.le_refl _) _);clear hW3 HW;have HOl:=Lh (HOg.out.bel);obtain⟨z,hz⟩ : ∃z,z=wr.heap.size:=⟨_,rfl⟩
   have HZ:=Lh hz;rw[←hz] at HF2 HB3 ⊢;have HKz:=Lh (fun X (h:Below z wr X)=>show Below W0.heap.size W0 X from HOg.out.bel.trans (h.mono (by rw[hz];exact HOg.out.bel.size)));clear hz;go_wp2_with fail;generalize wr=wo at *;go_loopw [12] (fun s wz => ∃(j:Nat) (v4:Value) (P:List Ps),j≤L.length∧s = .int .i64 (j:Nat)∧Hid (FamAt wz z ⟨Ch.back p 0 xn,xk,xu,xh⟩ v4)∧Hid (Rn.Pg z wz v4 P)∧Hid (pts P=((pts L).take j).map (Lg.renP (Ch.back p 1)))∧Hid (Below z wo wz)) (fun s _=>L.length-(intOf s).toNat);case atStart=>exact ⟨0,_,[],Nat.zero_le _,rfl,HF2,Lh (Rn.Pg.nil _ _),Lh rfl,HB3⟩
   case round =>
    clear HF2 HB3;obtain⟨j,v4,P,hj,rfl,HF2,HPg,HPn,HB3⟩:=hrel;obtain⟨x0,x1,xf,xl⟩:=HF0.out.below (HKz.out _ HB3.out);have r4:=HC4.out _ (HKz.out _ HB3.out);by_cases hjl:j<L.length
    ·obtain⟨b1,off1,rfl,hbs1,hc1⟩:=HR1.out (by omega);obtain⟨y,hy,hyp⟩:=ps_get hjl;have hmy:=List.mem_of_getElem? hy;have hyi:=HP1.out y hmy;obtain⟨e0,e1,e2,e3,e4,e5,e6,e7,e8⟩:=pr_cells hc1 hy;have hy8:=(H8.out y hmy).1;have hyn:=Lh (H8.out y hmy).2;obtain⟨A2,cap2,hy1,hlc2,hcm2,_,hrow2⟩:=hyi.1;unfold maxLen at hcm2;have HR2:=Lh hrow2;have HPI:=Lh hyi.2;have HPX:Hid ((pts L)[j]? = some y.2):=Lh hyp;have hR1 : ∀o u,w.cell? ⟨b1,o,none⟩=some u→wr.cell? ⟨b1,o,none⟩=some u:=fun o u hu=>((HK.out _ (HKz.out _ HB3.out)).cell (p:=⟨b1,o,none⟩) hbs1).trans hu;have s0:=hR1 _ _ e0;have s1:=hR1 _ _ e1;have s2:=hR1 _ _ e2;have s3:=hR1 _ _ e3;have s4:=hR1 _ _ e4;have s5:=hR1 _ _ e5;have s6:=hR1 _ _ e6;have s7:=hR1 _ _ e7;have s8:=hR1 _ _ e8;have ka:=kp_alloc (Below.refl wr.heap.size wr) (.cells (ptc y.1 y.2) 56);have PA:=PtAt.new wr y.1 y.2 56;obtain⟨yv,⟨ls,ro,inf,bm,bs,mm,ss,td,ti⟩⟩:=y;simp only at hy1 hlc2 hy8 hyn s0 s1 s2 s3 s4 s5 s6 s7 s8 ka PA HR2 HPI HPX;subst hy1;have KA:=Lh ka;have HPA:=Lh PA;clear hc1 e0 e1 e2 e3 e4 e5 e6 e7 e8 hR1 hy hyp hmy hyi hrow2 ka PA;go_upto_region 13 with fail;obtain⟨W4,hW4⟩ : ∃W,W=wr.alloc (.cells #[.slice A2 ls.length cap2,.int .i64 ro,.bool inf,.int .i64 bm,.int .i64 bs,.int .i64 mm,.int .i64 ss,.bool td,.int .i64 ti] 56):=⟨_,rfl⟩
     have HP4:Hid (PtAt W4 wr.heap.size (.slice A2 ls.length cap2) ⟨ls,ro,inf,bm,bs,mm,ss,td,ti⟩):=Lh (by rw[hW4];exact HPA.out);have HB4:Hid (Below wr.heap.size wr W4):=Lh (by rw[hW4];exact KA.out);have HS4:Hid (W4.heap.size=wr.heap.size+1):=Lh (by rw[hW4];simp);rw[←hW4];clear hW4 KA HPA s0 s1 s2 s3 s4 s5 s6 s7 s8 r4 x0 x1 xf xl;obtain⟨zj,hzj⟩ : ∃zj,zj=wr.heap.size:=⟨_,rfl⟩
     have HZJ:=Lh hzj;have hzw:Hid (z≤wr.heap.size):=Lh (Nat.le_of_lt HF2.out.lt);rw[←hzj] at HP4 ⊢;clear hzj;have HKj:=Lh (fun X (h:Below W4.heap.size W4 X)=>show Below w.heap.size w X from HK.out _ (HKz.out _ (HB3.out.trans ((trans9 HB4.out h).mono hzw.out))));have hfit:Hid (Fit ls):=Lh HPI.out.fit;go_wp2_with fail;generalize wr=wz at *;go_loopw [14,15] (fun v14 s wy => ∃(k:Nat) (u14:Value),u14=v14∧k≤ls.length∧s = .int .i64 (k:Nat)∧Hid (Rn.LOwn wy W4.heap.size u14 (Lg.renL (Ch.back p 1) (ls.take k)))∧Hid (Below W4.heap.size W4 wy)) (fun _ s _=>ls.length-(intOf s).toNat);case atStart=>exact ⟨0,_,rfl,Nat.zero_le _,rfl,Lh (KOwn.nil _ _ _ _ _),Lh (Below.refl _ _)⟩
     case round =>
      obtain⟨k,u14,rfl,hk,rfl,HLO,HBy⟩:=hrel;obtain⟨y0,y1,y2,y3,y4,y5,y6,y7,y8,yf,yl⟩:=HP4.out.below HBy.out;dsimp only at y0 y1 y2 y3 y4 y5 y6 y7 y8;by_cases hkl:k<ls.length
      ·obtain⟨b2,off2,rfl,hbs2,hc2⟩:=HR2.out (by omega);obtain⟨g0,g1⟩:=hc2 k (lbAt ls k) (at_get hkl);have g0:=((HKj.out _ HBy.out).cell (p:=⟨b2,off2+k*2,none⟩) hbs2).trans g0;have g1:=((HKj.out _ HBy.out).cell (p:=⟨b2,off2+k*2+1,none⟩) hbs2).trans g1;have hX60:=hyn.out (lbAt ls k) (at_mem hkl);have hren:Lg.renL (Ch.back p 1) (ls.take (k+1))=Lg.renL (Ch.back p 1) (ls.take k)++[(Ch.back p 1 (lbAt ls k).1,(lbAt ls k).2)]:=by
        rw[List.take_succ_eq_append_getElem hkl,←lbAt_of hkl];unfold Lg.renL;rw[List.map_append];rfl
       generalize lbAt ls k=X at *;obtain⟨X1,X2⟩:=X;simp only at g0 g1 hX60 hren;have HRe:=Lh hren;have ka:=kp_alloc (Below.refl wr.heap.size wr) (.cells #[.string (str X1),.string (str X2)] 58);have LA:=BatAt.new wr X1 (.string (str X2)) 58;have hnc:=Lh (rback_calls p 1 X1 (wr.alloc (.cells #[.string (str X1),.string (str X2)] 58)) (by omega));clear hc2 hren hX60;go_wp2_with fail;refine hnc.out.mono ?_;rintro e w6 ⟨rfl,b6⟩;have HB6:=Lh ((trans9 ka b6).setCell (p:=⟨wr.heap.size,0,none⟩) (Nat.le_refl _) (.string (str (Ch.back p 1 X1))));obtain⟨q0,q1,qf,ql⟩:=LA.below b6;have hlt1:(Lg.renL (Ch.back p 1) (ls.take k)).length+([(Ch.back p 1 X1,X2)]:List Lb).length≤2000:=by unfold Lg.renL;simp;omega
       have HLn:=Lh hlt1;have ho:=Lh (own_alloc (HLO.out.below HB6.out) (.cells #[.string (str (Ch.back p 1 X1)),.string (str X2)] 58));have hw0:=Rn.new_lb (w6.setCell ⟨wr.heap.size,0,none⟩ (.string (str (Ch.back p 1 X1)))) (Ch.back p 1 X1,X2);rw[show(w6.setCell ⟨wr.heap.size,0,none⟩ (.string (str (Ch.back p 1 X1)))).heap.size=w6.heap.size by simp[World.setCell]] at hw0;have hw:=Lh hw0;clear hw0;have HBA:=Lh (kp_alloc (trans9 HBy.out HB6.out) (.cells #[.string (str (Ch.back p 1 X1)),.string (str X2)] 58));clear b6 ka LA hnc hlt1 g0 g1 y1 y2 y3 y4 y5 y6 y7 y8 yf yl;go_wp2_with (at_builtin;refine wpList_append_krow Rn.lbTy Rn.encL_len (by rfl) _ _ (by rfl) W4.heap.size _ (Lg.renL (Ch.back p 1) (ls.take k)) (by rfl) ho.out _ [(Ch.back p 1 X1,X2)] (by rfl) hw.out (fun x hx=>Rn.encL_one x) HLn.out HBA.out.size ?_;intro v5 w5 o5 g5)
       have HO5:Hid (Rn.LOwn w5 W4.heap.size v5 (Lg.renL (Ch.back p 1) (ls.take (k+1)))):=Lh (by rw[HRe.out];exact o5);have HB5:=Lh (Below.grown HBA.out g5 HBA.out.size (fun q hq=>own_ge ho.out q hq));clear o5 g5 q0 q1 qf ql;go_roundw;case rel=>exact ⟨k+1,_,rfl,hkl,by go_num,HO5,HB5⟩
       case measure=>simp [intOf];omega
      ·have hek:ls.take k=ls:=List.take_of_length_le (by omega);have HLA:Hid (Rn.LOwn wr W4.heap.size u14 (Lg.renL (Ch.back p 1) ls)):=Lh (by have:=HLO.out;rwa [hek] at this);have hso:=Lh (rsort_own (Lg.renL (Ch.back p 1) ls) u14 wr (LbOwn.row HLA.out.lb) (by unfold Lg.renL;simp;omega));clear hek HLO y1 y2 y3 y4 y5 y6 y7 y8 yf yl;go_wp2_with fail;refine hso.out.mono ?_;rintro e w9 ⟨v9,rfl,b9,o9⟩
       cases hS:srt (Lg.renL (Ch.back p 1) ls) with
       | none =>
         rw[hS] at o9;simp only[Option.isSome];have HSK:Hid (Lg.srtK (Lg.renL (Ch.back p 1) ls)=Lg.renL (Ch.back p 1) ls):=Lh (by unfold Lg.srtK;rw[hS];rfl);clear o9 hS;obtain⟨A9,n9,cap9,hu9⟩ : ∃A n cap,u14 = .slice A n cap:=by obtain⟨A,cap,h,_⟩:=LbOwn.row HLA.out.lb;exact⟨_,_,_,h⟩
         subst hu9;have HL9:Hid (LbOwn w9 W4.heap.size (.slice A9 n9 cap9) (Lg.srtK (Lg.renL (Ch.back p 1) ls))):=Lh (by rw[HSK.out];exact Rn.owns_block HLA.out.lb (fun b hb=>b9.block b (own_lt HLA.out.lb b hb)));have hzb:zj<W4.heap.size:=by have h1:=HS4.out;have h2:=HZJ.out;have h3:=HBy.out.size;omega
         have HPIR:Hid (PtIn (Lg.renP (Ch.back p 1) ⟨ls,ro,inf,bm,bs,mm,ss,td,ti⟩)):=Lh (Rn.ptin_ren HPI.out hyn.out (fun l hl=>Rn.back_len hl));have hb9:=Lh (trans9 (trans9 HB4.out HBy.out) b9);obtain⟨y0,y1,y2,y3,y4,y5,y6,y7,y8,yf,yl⟩:=(HP4.out.below HBy.out).below b9;obtain⟨f0,f1,f2,f3,f4,ff,fl⟩:=HF2.out.below hb9.out;dsimp only at y0 y1 y2 y3 y4 y5 y6 y7 y8 f0 f1 f2 f3 f4;have hne : ¬z=zj:=by have h1:=HF2.out.lt;have h2:=HZJ.out;omega
         have hne2 : ¬zj=z:=fun e=>hne e.symm;have hPl:P.length≤120:=by
          have h1:=congrArg List.length HPn.out;simp only[pts,List.length_map,List.length_take] at h1;omega
         have hlt1:P.length+([(((.slice A9 n9 cap9),⟨Lg.srtK (Lg.renL (Ch.back p 1) ls),ro,inf,bm,bs,mm,ss,td,ti⟩):Ps)]).length≤2000:=by simp;omega
         have HLn:=Lh hlt1;have hone:=Lh (encP_one (w:=w9) (x:=(((.slice A9 n9 cap9),⟨Lg.srtK (Lg.renL (Ch.back p 1) ls),ro,inf,bm,bs,mm,ss,td,ti⟩):Ps)) ⟨LbOwn.row HL9.out,HPIR.out⟩);have ho:=Lh (Rn.pre_add (zj:=zj) (v'':=(.slice A9 n9 cap9)) (o := .cells #[(.slice A9 n9 cap9),.int .i64 ro,.bool inf,.int .i64 bm,.int .i64 bs,.int .i64 mm,.int .i64 ss,.bool td,.int .i64 ti] 56) HPg.out hb9.out HZJ.out);have hw0:=new_pt (w9.setCell ⟨zj,0,none⟩ (.slice A9 n9 cap9)) (.slice A9 n9 cap9) ⟨Lg.srtK (Lg.renL (Ch.back p 1) ls),ro,inf,bm,bs,mm,ss,td,ti⟩;rw[show(w9.setCell ⟨zj,0,none⟩ (.slice A9 n9 cap9)).heap.size=w9.heap.size by simp[World.setCell]] at hw0;have hw:=Lh hw0;have hsz:Hid (z+1≤((w9.setCell ⟨zj,0,none⟩ (.slice A9 n9 cap9)).alloc (.cells #[(.slice A9 n9 cap9),.int .i64 ro,.bool inf,.int .i64 bm,.int .i64 bs,.int .i64 mm,.int .i64 ss,.bool td,.int .i64 ti] 56)).heap.size):=Lh (by simp[World.setCell];omega);have HZB:=Lh hzb;clear hw0 hlt1 hPl b9 hzb;go_wp2_with (at_builtin;refine Kt.wpList_append_knew ptTy encP_len (by rfl) _ _ (by rfl) (z+1) _ P (by rfl) ho.out _ [(((.slice A9 n9 cap9),⟨Lg.srtK (Lg.renL (Ch.back p 1) ls),ro,inf,bm,bs,mm,ss,td,ti⟩):Ps)] (by rfl) hw.out (by simp) (fun x hx=>by rw[List.mem_singleton.1 hx];exact hone.out) HLn.out hsz.out ?_;intro v5 w5 o5 g5 p5;obtain⟨A5,cap5,hv5,_⟩:=KOwn.row encP_len o5;simp only[List.length_append,List.length_cons,List.length_nil,Nat.zero_add] at hv5;subst hv5;obtain⟨F5,FE0,PE0,BE0⟩:=Rn.end_add HF2.out HPg.out hb9.out HZJ.out HL9.out HZB.out HPIR.out rfl o5 g5 p5;have HFE:=Lh FE0;have HPE:=Lh PE0;have HBE:=Lh (HB3.out.trans BE0);clear FE0 PE0 BE0 o5 g5 p5;obtain⟨t0,t1,t2,t3,t4,tf,tl⟩:=F5;dsimp only at t0 t1 t2 t3 t4)
         have HPS:=Lh (Rn.pts_snoc (v:=(.slice A9 n9 cap9)) HPn.out HPX.out);clear t0 t1 t2 t3 t4 tf tl;go_roundw;case rel=>exact ⟨j+1,_,_,hjl,by go_num,HFE,HPE,HPS,HBE⟩
         case measure=>simp [intOf];omega
       | some d =>
         rw[hS] at o9;simp only[Option.isSome];have HO9:=Lh o9;have HSK:Hid (Lg.srtK (Lg.renL (Ch.back p 1) ls)=d):=Lh (by unfold Lg.srtK;rw[hS];rfl);clear o9 hS;obtain⟨A9,n9,cap9,hu9⟩ : ∃A n cap,v9 = .slice A n cap:=by obtain⟨A,cap,h,_⟩:=LbOwn.row HO9.out;exact⟨_,_,_,h⟩
         subst hu9;have HL9:Hid (LbOwn w9 wr.heap.size (.slice A9 n9 cap9) (Lg.srtK (Lg.renL (Ch.back p 1) ls))):=Lh (by rw[HSK.out];exact HO9.out);have hzb:zj<wr.heap.size:=by have h1:=HS4.out;have h2:=HZJ.out;have h3:=HBy.out.size;omega
         have HPIR:Hid (PtIn (Lg.renP (Ch.back p 1) ⟨ls,ro,inf,bm,bs,mm,ss,td,ti⟩)):=Lh (Rn.ptin_ren HPI.out hyn.out (fun l hl=>Rn.back_len hl));have hb9:=Lh (trans9 (trans9 HB4.out HBy.out) b9);obtain⟨y0,y1,y2,y3,y4,y5,y6,y7,y8,yf,yl⟩:=(HP4.out.below HBy.out).below b9;obtain⟨f0,f1,f2,f3,f4,ff,fl⟩:=HF2.out.below hb9.out;dsimp only at y0 y1 y2 y3 y4 y5 y6 y7 y8 f0 f1 f2 f3 f4;have hne : ¬z=zj:=by have h1:=HF2.out.lt;have h2:=HZJ.out;omega
         have hne2 : ¬zj=z:=fun e=>hne e.symm;have hPl:P.length≤120:=by
          have h1:=congrArg List.length HPn.out;simp only[pts,List.length_map,List.length_take] at h1;omega
         have hlt1:P.length+([(((.slice A9 n9 cap9),⟨Lg.srtK (Lg.renL (Ch.back p 1) ls),ro,inf,bm,bs,mm,ss,td,ti⟩):Ps)]).length≤2000:=by simp;omega
         have HLn:=Lh hlt1;have hone:=Lh (encP_one (w:=w9) (x:=(((.slice A9 n9 cap9),⟨Lg.srtK (Lg.renL (Ch.back p 1) ls),ro,inf,bm,bs,mm,ss,td,ti⟩):Ps)) ⟨LbOwn.row HL9.out,HPIR.out⟩);have ho:=Lh (Rn.pre_add (zj:=zj) (v'':=(.slice A9 n9 cap9)) (o := .cells #[(.slice A9 n9 cap9),.int .i64 ro,.bool inf,.int .i64 bm,.int .i64 bs,.int .i64 mm,.int .i64 ss,.bool td,.int .i64 ti] 56) HPg.out hb9.out HZJ.out);have hw0:=new_pt (w9.setCell ⟨zj,0,none⟩ (.slice A9 n9 cap9)) (.slice A9 n9 cap9) ⟨Lg.srtK (Lg.renL (Ch.back p 1) ls),ro,inf,bm,bs,mm,ss,td,ti⟩;rw[show(w9.setCell ⟨zj,0,none⟩ (.slice A9 n9 cap9)).heap.size=w9.heap.size by simp[World.setCell]] at hw0;have hw:=Lh hw0;have hsz:Hid (z+1≤((w9.setCell ⟨zj,0,none⟩ (.slice A9 n9 cap9)).alloc (.cells #[(.slice A9 n9 cap9),.int .i64 ro,.bool inf,.int .i64 bm,.int .i64 bs,.int .i64 mm,.int .i64 ss,.bool td,.int .i64 ti] 56)).heap.size):=Lh (by simp[World.setCell];omega);have HZB:=Lh hzb;clear hw0 hlt1 hPl b9 hzb;go_wp2_with (at_builtin;refine Kt.wpList_append_knew ptTy encP_len (by rfl) _ _ (by rfl) (z+1) _ P (by rfl) ho.out _ [(((.slice A9 n9 cap9),⟨Lg.srtK (Lg.renL (Ch.back p 1) ls),ro,inf,bm,bs,mm,ss,td,ti⟩):Ps)] (by rfl) hw.out (by simp) (fun x hx=>by rw[List.mem_singleton.1 hx];exact hone.out) HLn.out hsz.out ?_;intro v5 w5 o5 g5 p5;obtain⟨A5,cap5,hv5,_⟩:=KOwn.row encP_len o5;simp only[List.length_append,List.length_cons,List.length_nil,Nat.zero_add] at hv5;subst hv5;obtain⟨F5,FE0,PE0,BE0⟩:=Rn.end_add HF2.out HPg.out hb9.out HZJ.out HL9.out HZB.out HPIR.out rfl o5 g5 p5;have HFE:=Lh FE0;have HPE:=Lh PE0;have HBE:=Lh (HB3.out.trans BE0);clear FE0 PE0 BE0 o5 g5 p5;obtain⟨t0,t1,t2,t3,t4,tf,tl⟩:=F5;dsimp only at t0 t1 t2 t3 t4)
         have HPS:=Lh (Rn.pts_snoc (v:=(.slice A9 n9 cap9)) HPn.out HPX.out);clear t0 t1 t2 t3 t4 tf tl;go_roundw;case rel=>exact ⟨j+1,_,_,hjl,by go_num,HFE,HPE,HPS,HBE⟩
         case measure=>simp [intOf];omega
    ·obtain⟨A4,cap4,hv4,_⟩:=HPg.out.row.1;subst hv4;have HOr:=Lh (HOg.out.below (by have:=HB3.out;rwa [HZ.out] at this));have hek:(pts L).take j=pts L:=List.take_of_length_le (by simp[pts];omega);have HPF:Hid (fm (⟨⟨Ch.back p 0 xn,xk,xu,xh⟩,.slice A4 P.length cap4,P⟩:Fs)=Lg.renF (Ch.back p 0) (Ch.back p 1) (fm ⟨⟨xn,xk,xu,xh⟩,.slice A1 L.length cap1,L⟩)):=Lh (by
      have h:=HPn.out;rw[hek] at h;show(_,pts P)=(_,(pts L).map (Lg.renP (Ch.back p 1)))
      rw[h])
     have HHN:Hid (HdIn ⟨Ch.back p 0 xn,xk,xu,xh⟩):=Lh ⟨by have:=hN2.out;show(Ch.back p 0 xn).length≤maxLen;unfold maxLen;omega,HHd.out.lu,HHd.out.lh,HHd.out.k1,HHd.out.k2⟩;have HPO:Hid (POff wr (fun b=>p9.ownBlock=some b∨b<W0.heap.size) (.slice A4 P.length cap4) P):=Lh (HPg.out.keep.off (fun b e=>by
      have h2:=HZ.out;rcases e with e|e
      ·have h1:=own_lt HOg.out.own b e;omega
      ·have h1:=HOg.out.bel.size;omega))
     have hone:=Lh (encF_one (w:=wr) (x:=(⟨⟨Ch.back p 0 xn,xk,xu,xh⟩,.slice A4 P.length cap4,P⟩:Fs)) ⟨HPg.out.row,HHN.out⟩);have ka:=kp_alloc (Below.refl wr.heap.size wr) (.cells #[.string (str (Ch.back p 0 xn)),.int .i64 xk,.string (str xu),.string (str xh),.slice A4 P.length cap4] 51);have HOa:=Lh (HOr.out.below ka);have HPO2:=Lh (HPO.out.below ka);have hw:=Lh (new_fs wr (⟨⟨Ch.back p 0 xn,xk,xu,xh⟩,.slice A4 P.length cap4,P⟩:Fs)).row;have hRl:R.length≤30:=by
      have h1:=congrArg List.length HRn.out;unfold Lg.renB at h1;simp only[fms,List.length_map,List.length_take] at h1;omega
     have hlt1:Hid (R.length+([(⟨⟨Ch.back p 0 xn,xk,xu,xh⟩,.slice A4 P.length cap4,P⟩:Fs)]).length≤2000):=Lh (by simp;omega);have hsz:=Lh HOa.out.bel.size;obtain⟨f0,f1,f2,f3,f4,ff,fl⟩:=HF2.out;dsimp only at f0 f1 f2 f3 f4;clear ka hek;go_wp2_with (at_builtin;refine Kt.wpList_append_knew fmTy encF_len (by rfl) _ _ (by rfl) W0.heap.size _ R (by rfl) HOa.out.own _ [(⟨⟨Ch.back p 0 xn,xk,xu,xh⟩,.slice A4 P.length cap4,P⟩:Fs)] (by rfl) hw.out (by simp) (fun x hx=>by rw[List.mem_singleton.1 hx];exact hone.out) hlt1.out hsz.out ?_;intro v5 w5 o5 g5 p5;have HO5:=Lh (HOa.out.add o5 g5 p5 HHN.out HPO2.out);clear o5 g5 p5)
     have HS5:=Lh (Rn.fms_snoc HRn.out HXP.out HPF.out);go_roundw;case rel=>exact ⟨i+1,_,_,rfl,hil,by go_num,HO5,HS5⟩
     case measure=>simp [intOf];omega
  ·have hfull:(fms F).take i=fms F:=List.take_of_length_le (by simp[fms];omega);have HRF:Hid (fms R=Lg.renB (Ch.back p 0) (Ch.back p 1) (fms F)):=Lh (by have:=HRn.out;rwa [hfull] at this);clear hfull HRn;go_wp2;go_ret;exact⟨_,R,rfl,HOg.out.eo.fewer (fun b hb=>Nat.lt_of_lt_of_le hb (HK.out W0 (Below.refl _ _)).size),HRF.out,HK.out _ HOg.out.bel⟩
end Go.Proofs.YtbapneipjmpcbaaGreatDoor
