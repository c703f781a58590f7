import Derived.Test.YtbapneipjmpcbaaGreatDoorBatX
import Derived.Test.YtbapneipjmpcbaaGreatDoorLegP
set_option maxHeartbeats 16000000
set_option maxRecDepth 100000
set_option linter.unusedVariables false
set_option linter.unusedSimpArgs false
namespace Go.Proofs.YtbapneipjmpcbaaGreatDoor
open Go.RowKit Dc
structure Chi (lo hi:Nat) (w w':World):Prop where
 os:w'.os=w.os
 tape:w'.tape=w.tape
 output:w'.output=w.output
 size:w.heap.size≤w'.heap.size
 block : ∀b,b<w.heap.size→(b<lo∨hi≤b)→w'.heap[b]? = w.heap[b]?
theorem Chi.refl (lo hi:Nat) (w:World):Chi lo hi w w:=⟨rfl,rfl,rfl,Nat.le_refl _,fun _ _ _=>rfl⟩
theorem Chi.trans {lo hi:Nat} {a b c:World} (h:Chi lo hi a b) (k:Chi lo hi b c):Chi lo hi a c :=
 ⟨k.os.trans h.os,k.tape.trans h.tape,k.output.trans h.output,Nat.le_trans h.size k.size,fun i hi2 hn=>(k.block i (Nat.lt_of_lt_of_le hi2 h.size) hn).trans (h.block i hi2 hn)⟩
theorem Chi.below {lo hi:Nat} {a b:World} (h:Below a.heap.size a b):Chi lo hi a b:=⟨h.os,h.tape,h.output,h.size,fun i hi2 _=>h.block i hi2⟩
theorem Chi.set {lo hi:Nat} {w:World} {a:Addr} (h:lo≤a.block∧a.block<hi) (u:Value):Chi lo hi w (w.setCell a u) :=
 ⟨rfl,rfl,rfl,by simp[World.setCell],fun b _ hne=>Below.heap_setCell _ _ _ _ (by omega)⟩
theorem Chi.mono {lo hi lo' hi':Nat} {a b:World} (h:Chi lo hi a b) (h1:lo'≤lo) (h2:hi≤hi'):Chi lo' hi' a b:=⟨h.os,h.tape,h.output,h.size,fun i hi2 hn=>h.block i hi2 (by omega)⟩
theorem Chi.bel {z lo hi:Nat} {w a b:World} (h:Below z w a) (k:Chi lo hi a b) (hz:z≤lo) (ha:z≤a.heap.size):Below z w b :=
 ⟨k.os.trans h.os,k.tape.trans h.tape,k.output.trans h.output,Nat.le_trans h.size k.size,fun i hi2=>(k.block i (by omega) (Or.inl (by omega))).trans (h.block i hi2)⟩
theorem Chi.cell {lo hi:Nat} {a b:World} (h:Chi lo hi a b) {p:Addr} (hp:p.block<a.heap.size) (hn:p.block<lo∨hi≤p.block):b.cell? p=a.cell? p:=World.cell?_of_block (h.block _ hp hn)
theorem Chi.frozen {lo hi:Nat} {a b:World} (h:Chi lo hi a b) {p:Addr} (hp:p.block<a.heap.size) (hn:p.block<lo∨hi≤p.block):b.frozen? p=a.frozen? p:=World.frozen?_of_block (h.block _ hp hn)
theorem Chi.own {lo hi:Nat} {w w':World} {base e size n:Nat} {v:Value} {xs:List Value} (k:Chi lo hi w w') (h:w.ownsRow base e size v n xs) (hc : ∀g,v.ownBlock=some g→g<lo∨hi≤g):w'.ownsRow base e size v n xs:=by
 have hlt:=own_lt h;obtain⟨hl,h⟩:=h;refine⟨hl,?_⟩;rcases h with h|⟨g,cap,cur,rfl,hg,hcc,h2⟩
 ·exact Or.inl h
 ·exact Or.inr ⟨g,cap,cur,rfl,hg,by rw[k.block g (hlt g rfl) (hc g rfl)];exact hcc,h2⟩
theorem Chi.lb {lo hi a b:Nat} {w w':World} {v:Value} {l:List Lb} (k:Chi lo hi w w') (h:LbIn w a b v l) (hc:b≤lo∨hi≤a):LbIn w' a b v l :=
 ⟨k.own h.own fun g hg=>by have h1:=own_ge h.own g hg;have h2:=h.top g hg;omega,h.top⟩
theorem Chi.pt {lo hi a b:Nat} {w w':World} {v:Value} {L:List Ps} (k:Chi lo hi w w') (h:PtDeep w a b v L) (hc:b≤lo∨hi≤a):PtDeep w' a b v L:=by
 obtain⟨bd,h1,h2,h3,h4,h5⟩:=h.lab;have a3:=h1 0 L.length (Nat.zero_le _);refine⟨k.own h.own fun g hg => ?_,h.le,h.inn,bd,h1,h2,h3,h4,fun j y hy=>k.lb (h5 j y hy) ?_⟩
 ·have a1:=own_ge h.own g hg;have a2:=h3 g hg;omega
 ·have hj:=(List.getElem?_eq_some_iff.1 hy).1;have a1:=h1 0 j (Nat.zero_le _);have a2:=h1 (j+1) L.length hj;omega
def Sep (S:Nat→Prop) (P:World→Prop) (w:World):Prop := ∀X:World,(∀b,b<w.heap.size→S b→X.heap[b]? = w.heap[b]?)→w.heap.size≤X.heap.size→P X
theorem Sep.here {S:Nat→Prop} {P:World→Prop} {w:World} (h:Sep S P w):P w:=h w (fun _ _ _=>rfl) (Nat.le_refl _)
theorem Sep.chi {S:Nat→Prop} {P:World→Prop} {w w':World} {lo hi:Nat} (h:Sep S P w) (k:Chi lo hi w w') (hc : ∀b,S b→b<lo∨hi≤b):Sep S P w':=fun X h1 h2 =>
 h X (fun b hb hs=>(h1 b (Nat.lt_of_lt_of_le hb k.size) hs).trans (k.block b hb (hc b hs))) (Nat.le_trans k.size h2)
theorem lb_sep {S:Nat→Prop} {w:World} {v:Value} {l:List Lb} (h:LbRow w v l) (hs : ∀g,v.ownBlock=some g→S g):Sep S (fun X=>LbRow X v l) w:=fun X h1 h2=>by
 obtain⟨A,cap,rfl,a1,a2,a3,a4⟩:=h;refine⟨A,cap,rfl,a1,a2,a3,fun h0 => ?_⟩;obtain⟨b,off,rfl,hlt,hc⟩:=a4 h0;have e:=h1 b hlt (hs b rfl);exact⟨b,off,rfl,Nat.lt_of_lt_of_le hlt h2,fun i p hp=>⟨(World.cell?_of_block (a:=⟨b,_,none⟩) e).trans (hc i p hp).1,(World.cell?_of_block (a:=⟨b,_,none⟩) e).trans (hc i p hp).2⟩⟩
structure RP (W:World) (lo hi H p cap j:Nat) (bd:Nat→Nat) (k:Lg.Nm) (P0 P:List Ps):Prop where
 len:P.length=P0.length
 own:PtOwn W lo (.slice (some ⟨p,0,none⟩) P.length cap) P
 done : ∀i y,i<j→P[i]? = some y → ∃y0,P0[i]? = some y0∧y.2=Lg.renP k y0.2∧PtIn y.2∧Sep (fun b=>H≤b) (fun X=>LbRow X y.1 y.2.l) W
 todo : ∀i,j≤i→P[i]? = P0[i]?
 deep : ∀i y,j≤i→P0[i]? = some y→LbIn W (bd i) (bd (i+1)) y.1 y.2.l
structure RPk (lo hi H p:Nat) (bd:Nat→Nat) (P0:List Ps):Prop where
 rise:Rise bd
 lb:lo≤bd 0
 pl:lo≤p
 pb:p<bd 0
 hb:bd P0.length≤hi
 Hb:hi≤H
 inn : ∀x∈P0,PtIn x.2
variable {W W2:World} {lo hi H p cap j:Nat} {bd:Nat→Nat} {k:Lg.Nm} {P0 P:List Ps}
theorem RP.free (h:RP W lo hi H p cap j bd k P0 P):p<W.heap.size ∧ ∀o,W.frozen? ⟨p,o,none⟩=false:=by
 obtain⟨_,h⟩:=h.own;rcases h with ⟨h,_⟩|⟨g',cap',cur,he,hb,hg,hn,hm,hs,ht⟩
 ·cases h
 ·cases he
  exact⟨(Array.getElem?_eq_some_iff.1 hg).1,fun o=>by unfold World.frozen?;simp only;rw[hg];simp⟩
theorem RP.cell (h:RP W lo hi H p cap j bd k P0 P) {y:Ps} (hy:P0[j]? = some y):W.cell? ⟨p,j*9,none⟩=some y.1:=by
 have hj:=(List.getElem?_eq_some_iff.1 hy).1;obtain⟨A,cap',he,_,_,_,hr⟩:=KOwn.row encP_len h.own
 cases he
 obtain⟨b,off,he2,_,hc⟩:=hr (by rw[h.len];omega)
 cases he2
 have:=(pr_cells hc (show P[j]? = some y by rw[h.todo j (Nat.le_refl _)];exact hy)).1;simpa using this
theorem RP.step (K:RPk lo hi H p bd P0) (h:RP W lo hi H p cap j bd k P0 P) {y:Ps} {sv:Value} (hy:P0[j]? = some y) (hc:Chi (bd j) (bd (j+1)) W W2) (hs:LbRow W2 sv (Lg.renP k y.2).l) (ho : ∀g,sv.ownBlock=some g→H≤g) (hpi:PtIn (Lg.renP k y.2)) :
 RP (W2.setCell ⟨p,j*9,none⟩ sv) lo hi H p cap (j+1) bd k P0 (P.set j (sv,Lg.renP k y.2)):=by
 have hj:=(List.getElem?_eq_some_iff.1 hy).1;have hP:P[j]? = some y:=by rw[h.todo j (Nat.le_refl _)];exact hy
 have b0:=K.rise 0 j (Nat.zero_le _);have b1:=K.rise (j+1) P0.length hj;have b2:=K.rise 0 P0.length (Nat.zero_le _);have k1:=K.pb;have k2:=K.hb;have k3:=K.Hb;have hset:Chi p (p+1) W2 (W2.setCell ⟨p,j*9,none⟩ sv):=Chi.set (a:=⟨p,j*9,none⟩) ⟨Nat.le_refl _,Nat.lt_succ_self _⟩ _;refine⟨by rw[List.length_set];exact h.len,?_,?_,?_,?_⟩
 ·have o1:PtOwn W2 lo (.slice (some ⟨p,0,none⟩) P.length cap) P:=hc.own h.own fun g hg=>by cases hg;exact Or.inl (show p<bd j by omega)
  have:=KOwn.set (j:=0) (y:=(sv,Lg.renP k y.2)) (u:=sv) encP_len o1 hP (by omega) rfl;simpa using this
 ·intro i z hi hz;rw[List.getElem?_set] at hz;split at hz
  ·rename_i e;subst e;split at hz
   ·obtain rfl:=Option.some.inj hz;exact⟨y,hy,rfl,hpi,(lb_sep (S:=fun b=>H≤b) hs ho).chi hset fun b (hb:H≤b)=>by omega⟩
   ·cases hz
  ·obtain⟨y0,e1,e2,e0,e3⟩:=h.done i z (by omega) hz;exact⟨y0,e1,e2,e0,(e3.chi hc fun b (hb:H≤b)=>by omega).chi hset fun b (hb:H≤b)=>by omega⟩
 ·intro i hi;rw[List.getElem?_set,if_neg (by omega)];exact h.todo i (by omega)
 ·intro i z hi hz;have c0:=K.rise (j+1) i hi;have c1:=K.rise 0 i (Nat.zero_le _);have:=h.deep i z (by omega) hz;exact hset.lb (hc.lb this (Or.inr (by omega))) (Or.inr (by omega))
theorem RP.end (K:RPk lo hi H p bd P0) (h:RP W lo hi H p cap P0.length bd k P0 P):pts P=(pts P0).map (Lg.renP k)∧Sep (fun b=>(lo≤b∧b<hi)∨H≤b) (fun X=>PtRow X (.slice (some ⟨p,0,none⟩) P0.length cap) P) W:=by
 have hl:=h.len;have at' : ∀(i:Nat) (y:Ps),P[i]? = some y → ∃y0,P0[i]? = some y0∧y.2=Lg.renP k y0.2∧PtIn y.2∧Sep (fun b=>H≤b) (fun X=>LbRow X y.1 y.2.l) W:=fun i y hy=>h.done i y (by rw[←hl];exact(List.getElem?_eq_some_iff.1 hy).1) hy;constructor
 ·apply List.ext_getElem?;intro i;unfold pts;rw[List.getElem?_map,List.getElem?_map,List.getElem?_map]
  cases hy:P[i]? with
  | none=>rw [List.getElem?_eq_none (by rw[←hl];exact List.getElem?_eq_none_iff.1 hy)];rfl
  | some y =>
    obtain⟨y0,e1,e2,_,_⟩:=at' i y hy;rw[e1];show some y.2=some (Lg.renP k y0.2);rw[e2]
 ·intro X h1 h2;have hp:=h.free.1;have b0:=K.rise 0 P0.length (Nat.zero_le _);have k1:=K.pb;have k2:=K.hb;have k3:=K.pl;have e:=h1 p hp (Or.inl ⟨k3,by omega⟩);have oX:PtOwn X lo (.slice (some ⟨p,0,none⟩) P.length cap) P:=by
   obtain⟨ha,hb⟩:=h.own;refine⟨ha,?_⟩;rcases hb with hb|⟨g,cap',cur,he,hg,hcc,h3⟩
   ·exact Or.inl hb
   ·cases he
    exact Or.inr ⟨p,cap,cur,rfl,hg,by rw[e];exact hcc,h3⟩
  have hr:=KOwn.row encP_len oX;rw[hl] at hr;refine⟨hr,fun y hy => ?_⟩;obtain⟨i,hi,rfl⟩:=List.getElem_of_mem hy;obtain⟨y0,e1,e2,e0,e3⟩:=at' i _ (List.getElem?_eq_getElem hi);exact⟨e3 X (fun b hb hs=>h1 b hb (Or.inr hs)) h2,e0⟩
structure RF (w W:World) (t:List UInt8) (g cap H A0 i:Nat) (bd:Nat→Nat) (f k:Lg.Nm) (M0 M:List Fs):Prop where
 len:M.length=M0.length
 own:FmOwn W w.heap.size (.slice (some ⟨g,0,none⟩) M.length cap) M
 done : ∀a y,a<i→M[a]? = some y → ∃x0,M0[a]? = some x0∧fm y=Lg.renF f k (fm x0)∧HdIn y.hd∧Sep (fun b=>(bd a≤b∧b<bd (a+1))∨H≤b) (fun X=>PtRow X y.v y.L) W
 todo : ∀a,i≤a→M[a]? = M0[a]?
 deep : ∀a x,i≤a→M0[a]? = some x→PtDeep W (bd a) (bd (a+1)) x.v x.L
 bel:Below w.heap.size w W
 hz:H≤W.heap.size
 all:BatAt W A0 t (.slice (some ⟨g,0,none⟩) M0.length cap)
structure RFk (w:World) (g H A0:Nat) (bd:Nat→Nat) (M0:List Fs):Prop where
 rise:Rise bd
 gb:g<bd 0
 gw:w.heap.size≤g
 Ab:bd M0.length≤A0
 Hb:A0<H
variable {w:World} {t:List UInt8} {g A0 i:Nat} {f:Lg.Nm} {M0 M:List Fs}
theorem RF.free (h:RF w W t g cap H A0 i bd f k M0 M):g<W.heap.size ∧ ∀o,W.frozen? ⟨g,o,none⟩=false:=by
 obtain⟨_,h⟩:=h.own;rcases h with ⟨h,_⟩|⟨g',cap',cur,he,hb,hg,hn,hm,hs,ht⟩
 ·cases h
 ·cases he
  exact⟨(Array.getElem?_eq_some_iff.1 hg).1,fun o=>by unfold World.frozen?;simp only;rw[hg];simp⟩
theorem RF.cell (h:RF w W t g cap H A0 i bd f k M0 M) {x:Fs} (hx:M0[i]? = some x) :
 W.cell? ⟨g,i*5,none⟩=some (.string (str x.hd.n))∧W.cell? ⟨g,i*5+1,none⟩=some (.int .i64 x.hd.k)∧W.cell? ⟨g,i*5+2,none⟩=some (.string (str x.hd.u)) ∧
 W.cell? ⟨g,i*5+3,none⟩=some (.string (str x.hd.h))∧W.cell? ⟨g,i*5+4,none⟩=some x.v:=by
 have hi:=(List.getElem?_eq_some_iff.1 hx).1;obtain⟨A,cap',he,_,_,_,hr⟩:=KOwn.row encF_len h.own
 cases he
 obtain⟨b,off,he2,_,hc⟩:=hr (by rw[h.len];omega)
 cases he2
 have:=fr_cells hc (show M[i]? = some x by rw[h.todo i (Nat.le_refl _)];exact hx);simpa using this
theorem BatAt.chi {w w':World} {b lo hi:Nat} {t:List UInt8} {v:Value} (h:BatAt w b t v) (k:Chi lo hi w w') (hn:b<lo∨hi≤b):BatAt w' b t v :=
 ⟨(k.cell (p:=⟨b,0,none⟩) h.lt hn).trans h.c0,(k.cell (p:=⟨b,1,none⟩) h.lt hn).trans h.c1,fun o=>(k.frozen (p:=⟨b,o,none⟩) h.lt hn).trans (h.fr o),Nat.lt_of_lt_of_le h.lt k.size⟩
theorem RF.step (K:RFk w g H A0 bd M0) (h:RF w W t g cap H A0 i bd f k M0 M) {x:Fs} {Wr:World} {P:List Ps} (hx:M0[i]? = some x) (hb:Below W.heap.size W Wr)
 (hc:Chi (bd i) (bd (i+1)) (Wr.setCell ⟨g,i*5,none⟩ (.string (str (f x.hd.n)))) W2) (hin:HdIn ⟨f x.hd.n,x.hd.k,x.hd.u,x.hd.h⟩) (hp:pts P=(pts x.L).map (Lg.renP k))
 (hs:Sep (fun b=>(bd i≤b∧b<bd (i+1))∨H≤b) (fun X=>PtRow X x.v P) W2) :
 RF w W2 t g cap H A0 (i+1) bd f k M0 (M.set i ⟨⟨f x.hd.n,x.hd.k,x.hd.u,x.hd.h⟩,x.v,P⟩):=by
 have hi:=(List.getElem?_eq_some_iff.1 hx).1;have hM:M[i]? = some x:=by rw[h.todo i (Nat.le_refl _)];exact hx
 have b0:=K.rise 0 i (Nat.zero_le _);have b1:=K.rise (i+1) M0.length hi;have b2:=K.rise 0 M0.length (Nat.zero_le _);have k1:=K.gb;have k2:=K.Ab;have k3:=K.Hb;have k4:=K.gw;have hset:Chi g (g+1) Wr (Wr.setCell ⟨g,i*5,none⟩ (.string (str (f x.hd.n)))):=Chi.set (a:=⟨g,i*5,none⟩) ⟨Nat.le_refl _,Nat.lt_succ_self _⟩ _;have hbel:Chi 0 0 W Wr:=Chi.below hb;have hsz:Wr.heap.size≤W2.heap.size:=Nat.le_trans hset.size hc.size;refine⟨by rw[List.length_set];exact h.len,?_,?_,?_,?_,?_,Nat.le_trans h.hz (Nat.le_trans hb.size hsz),?_⟩
 ·have o1:FmOwn Wr w.heap.size (.slice (some ⟨g,0,none⟩) M.length cap) M:=h.own.below hb;have o2:=KOwn.set (j:=0) (y:=(⟨⟨f x.hd.n,x.hd.k,x.hd.u,x.hd.h⟩,x.v,P⟩:Fs)) (u := .string (str (f x.hd.n))) encF_len o1 hM (by omega) rfl;rw[Nat.add_zero] at o2;exact hc.own o2 fun b hb=>by cases hb;exact Or.inl (show g<bd i by omega)
 ·intro a z ha hz;rw[List.getElem?_set] at hz;split at hz
  ·rename_i e;subst e;split at hz
   ·obtain rfl:=Option.some.inj hz;refine⟨x,hx,?_,hin,hs⟩;show((⟨f x.hd.n,x.hd.k,x.hd.u,x.hd.h⟩:Hd),pts P)=(⟨f x.hd.n,x.hd.k,x.hd.u,x.hd.h⟩,(pts x.L).map (Lg.renP k))
    rw[hp]
   ·cases hz
  ·obtain⟨x0,e1,e2,e3,e4⟩:=h.done a z (by omega) hz;have c0:=K.rise 0 a (Nat.zero_le _);have c1:=K.rise (a+1) i (by omega);refine⟨x0,e1,e2,e3,((e4.chi hbel fun b _=>by omega).chi hset fun b (hb:(bd a≤b∧b<bd (a+1))∨H≤b)=>by omega).chi hc fun b (hb:(bd a≤b∧b<bd (a+1))∨H≤b)=>by omega⟩
 ·intro a ha;rw[List.getElem?_set,if_neg (by omega)];exact h.todo a (by omega)
 ·intro a z ha hz;have c0:=K.rise (i+1) a ha;have c1:=K.rise 0 a (Nat.zero_le _);have:=h.deep a z (by omega) hz;exact hc.pt (hset.pt (hbel.pt this (Or.inr (by omega))) (Or.inr (by omega))) (Or.inr (by omega))
 ·have h1:Below w.heap.size w Wr:=kb_call h.bel (Nat.le_refl _) hb;exact hc.bel (h1.setCell (p:=⟨g,i*5,none⟩) k4 _) (by omega) (by have:=h1.size;have:=hset.size;omega)
 ·have c1:=K.rise 0 M0.length (Nat.zero_le _);exact((h.all.chi hbel (by omega)).chi hset (by omega)).chi hc (by omega)
theorem RF.end (K:RFk w g H A0 bd M0) (h:RF w W t g cap H A0 M0.length bd f k M0 M):fms M=Lg.renB f k (fms M0)∧FmRow W (.slice (some ⟨g,0,none⟩) M0.length cap) M:=by
 have hl:=h.len;have at':=fun (a:Nat) (y:Fs) (hy:M[a]? = some y)=>h.done a y (by rw[←hl];exact(List.getElem?_eq_some_iff.1 hy).1) hy;constructor
 ·apply List.ext_getElem?;intro a;unfold fms Lg.renB;rw[List.getElem?_map,List.getElem?_map,List.getElem?_map]
  cases hy:M[a]? with
  | none=>rw [List.getElem?_eq_none (by rw[←hl];exact List.getElem?_eq_none_iff.1 hy)];rfl
  | some y =>
    obtain⟨y0,e1,e2,_⟩:=at' a y hy;rw[e1];show some (fm y)=some (Lg.renF f k (fm y0));rw[e2]
 ·have hr:=KOwn.row encF_len h.own;rw[hl] at hr;refine⟨hr,fun y hy => ?_⟩;obtain⟨a,ha,rfl⟩:=List.getElem_of_mem hy;obtain⟨x0,e1,e2,e3,e4⟩:=at' a _ (List.getElem?_eq_getElem ha);exact⟨e4.here,e3⟩
theorem pts_le {x:Fp} : ∀ {l:List Fp},x∈l→x.2.length≤nPts l
 | [],h=>by cases h
 | a::l,h=>by
   have e:nPts (a::l)=a.2.length+nPts l:=by unfold nPts;rw[List.map_cons,List.sum_cons]
   rcases List.mem_cons.1 h with rfl|h
   ·omega
   ·have:=pts_le h;omega
theorem few_of_chk {t:List UInt8} {F:List Fs} (h:chk t (fms F)=0):FmFew F:=FpFew.rows ⟨by have:=(chk_zero h).2.1;omega,fun x hx=>by
 have h1:=pts_le hx;have h2:=(chk_zero h).2.2;omega,fun x hx q hq=>by
 have:=(Lg.goodL_iff.1 (Lg.ptOk_iff.1 (Lg.chk_pt h hx hq)).2.1).1;omega⟩
def lbMix (k:Lg.Nm) (l:List Lb) (i:Nat):List Lb:=Lg.renL k (l.take i)++l.drop i
theorem lbMix_full (k:Lg.Nm) {l:List Lb} {i:Nat} (h:l.length≤i):lbMix k l i=Lg.renL k l:=by
 unfold lbMix;rw[List.take_of_length_le h,List.drop_of_length_le h,List.append_nil]
theorem lbMix_len (k:Lg.Nm) (l:List Lb) (i:Nat):(lbMix k l i).length=l.length:=by
 unfold lbMix Lg.renL;rw[List.length_append,List.length_map,List.length_take,List.length_drop];omega
theorem lbMix_at (k:Lg.Nm) {l:List Lb} {i:Nat} {x:Lb} (h:l[i]? = some x):(lbMix k l i)[i]? = some x:=by
 have hi:=(List.getElem?_eq_some_iff.1 h).1;unfold lbMix Lg.renL;rw[List.getElem?_append_right (by rw[List.length_map,List.length_take];omega),List.length_map,List.length_take,List.getElem?_drop,show i+(i-min i l.length)=i by omega,h]
theorem lbMix_set (k:Lg.Nm) {l:List Lb} {i:Nat} {x:Lb} (h:l[i]? = some x):(lbMix k l i).set i (k x.1,x.2)=lbMix k l (i+1):=by
 obtain⟨hi,rfl⟩:=List.getElem?_eq_some_iff.1 h;unfold lbMix Lg.renL;have e1:((l.take i).map fun x=>(k x.1,x.2)).length=i:=by rw[List.length_map,List.length_take];omega
 rw[List.set_append_right _ _ (by omega),e1,Nat.sub_self,List.drop_eq_getElem_cons hi,List.set_cons_zero,List.take_succ_eq_append_getElem hi,List.map_append,List.append_assoc];rfl
theorem lbCells_flat : ∀l:List Lb,lbCells l=l.flatMap encL
 | []=>rfl
 | x::l=>by rw[List.flatMap_cons,←lbCells_flat l];rfl
theorem LbIn.set {w:World} {lo hi g cap:Nat} {l:List Lb} {i:Nat} {x:Lb} {s:List UInt8} (h:LbIn w lo hi (.slice (some ⟨g,0,none⟩) l.length cap) l) (hx:l[i]? = some x) :
 LbIn (w.setCell ⟨g,i*2,none⟩ (.string (str s))) lo hi (.slice (some ⟨g,0,none⟩) l.length cap) (l.set i (s,x.2)):=by
 refine⟨?_,fun b hb=>h.top b hb⟩;have h1:KOwn encL 58 2 w lo (.slice (some ⟨g,0,none⟩) l.length cap) l:=by
  have:=h.own;unfold LbOwn at this;rw[lbCells_flat] at this;exact this
 have h2:=KOwn.set (j:=0) (y:=(s,x.2)) (u := .string (str s)) (show ∀x,(encL x).length=2 from fun _=>rfl) h1 hx (by omega) rfl;rw[Nat.add_zero] at h2;unfold LbOwn;rw[lbCells_flat];unfold KOwn at h2;rw[List.length_set] at h2 ⊢;exact h2
theorem LbIn.cell {w:World} {lo hi g cap:Nat} {l:List Lb} {i:Nat} {x:Lb} (h:LbIn w lo hi (.slice (some ⟨g,0,none⟩) l.length cap) l) (hx:l[i]? = some x) :
 lo≤g∧g<hi∧g<w.heap.size∧(∀o,w.frozen? ⟨g,o,none⟩=false)∧w.cell? ⟨g,i*2,none⟩=some (.string (str x.1))∧w.cell? ⟨g,i*2+1,none⟩=some (.string (str x.2)):=by
 have hi:=(List.getElem?_eq_some_iff.1 hx).1;obtain⟨A,cap',he,_,_,_,hr⟩:=LbOwn.row h.own
 cases he
 obtain⟨b,off,he2,hlt,hc⟩:=hr (by omega)
 cases he2
 have:=hc i x hx;refine⟨own_ge h.own g rfl,h.top g rfl,hlt,?_,by simpa using this.1,by simpa using this.2⟩;obtain⟨_,h⟩:=h.own;rcases h with ⟨h,_⟩|⟨g',cap',cur,he,hb,hg,hn,hm,hs,ht⟩
 ·cases h
 ·cases he
  exact fun o=>by unfold World.frozen?;simp only;rw[hg];simp
theorem LbIn.setN {w:World} {lo hi g cap n:Nat} {l:List Lb} {i:Nat} {x:Lb} {s:List UInt8} (h:LbIn w lo hi (.slice (some ⟨g,0,none⟩) n cap) l) (hn:l.length=n) (hx:l[i]? = some x) :
 LbIn (w.setCell ⟨g,i*2,none⟩ (.string (str s))) lo hi (.slice (some ⟨g,0,none⟩) n cap) (l.set i (s,x.2)):=by subst hn;exact LbIn.set h hx
theorem LbIn.cellN {w:World} {lo hi g cap n:Nat} {l:List Lb} {i:Nat} {x:Lb} (h:LbIn w lo hi (.slice (some ⟨g,0,none⟩) n cap) l) (hn:l.length=n) (hx:l[i]? = some x) :
 lo≤g∧g<hi∧g<w.heap.size∧(∀o,w.frozen? ⟨g,o,none⟩=false)∧w.cell? ⟨g,i*2,none⟩=some (.string (str x.1))∧w.cell? ⟨g,i*2+1,none⟩=some (.string (str x.2)):=by subst hn;exact LbIn.cell h hx
theorem ptIn_ren {k:Lg.Nm} {q:Pt} (h:PtIn q) (hl : ∀x∈q.l,(k x.1).length≤maxLen):PtIn (Lg.renP k q):=by
 refine⟨h.bm1,h.bm2,h.m1,h.m2,h.t1,h.t2,fun x hx => ?_⟩;rw[Lg.renP_l] at hx;have:=(Lg.srtK_perm _).mem_iff.1 hx;unfold Lg.renL at this;obtain⟨y,hy,rfl⟩:=List.mem_map.1 this;exact⟨hl y hy,(h.fit y hy).2⟩
def Onn (S:World→Prop) (x:World):Prop:=S x
def curC (x:World) (a:Addr):Value:=(x.cell? a).getD undef
theorem lbMix_next (k:Lg.Nm) {l:List Lb} {i:Nat} {x:Lb} (h:l[i]? = some x):(lbMix k l (i+1))[i]? = some (k x.1,x.2):=by
 rw[←lbMix_set k h,List.getElem?_set,if_pos rfl,if_pos (by rw[lbMix_len];exact(List.getElem?_eq_some_iff.1 h).1)]
theorem lbMix_again (k:Lg.Nm) {l:List Lb} {i:Nat} {x:Lb} (h:l[i]? = some x):(lbMix k l (i+1)).set i (k x.1,x.2)=lbMix k l (i+1):=set_self (lbMix_next k h)
structure SM (w5:World) (lo hi lb cap n m:Nat) (k:Lg.Nm) (l:List Lb) (x:World):Prop where
 chi:Chi lb (lb+1) w5 x
 lab:LbIn x lo hi (.slice (some ⟨lb,0,none⟩) n cap) (lbMix k l m)∨LbIn x lo hi (.slice (some ⟨lb,0,none⟩) n cap) (lbMix k l (m+1))
section
variable {w5 x y:World} {lo hi lb cap n m:Nat} {k:Lg.Nm} {l:List Lb}
theorem SM.below (h:SM w5 lo hi lb cap n m k l x) (hb:Below x.heap.size x y):SM w5 lo hi lb cap n m k l y :=
 ⟨h.chi.trans (Chi.below hb),h.lab.elim (fun a=>Or.inl (a.below hb)) fun a=>Or.inr (a.below hb)⟩
theorem SM.drew (h:SM w5 lo hi lb cap n m k l x):SM w5 lo hi lb cap n m k l x.drew:=h.below ⟨rfl,rfl,rfl,Nat.le_refl _,fun _ _=>rfl⟩
theorem SM.cell {X:Lb} (h:SM w5 lo hi lb cap n m k l x) (hn:l.length=n) (hX:l[m]? = some X):x.cell? ⟨lb,m*2,none⟩=some (curC x ⟨lb,m*2,none⟩)∧x.frozen? ⟨lb,m*2,none⟩=false:=by
 unfold curC;rcases h.lab with h|h
 ·obtain⟨_,_,_,a4,a5,_⟩:=h.cellN ((lbMix_len _ _ _).trans hn) (lbMix_at k hX);exact⟨by rw[a5];rfl,a4 _⟩
 ·obtain⟨_,_,_,a4,a5,_⟩:=h.cellN ((lbMix_len _ _ _).trans hn) (lbMix_next k hX);exact⟨by rw[a5];rfl,a4 _⟩
theorem SM.put {X:Lb} (h:SM w5 lo hi lb cap n m k l x) (hn:l.length=n) (hX:l[m]? = some X):LbIn (x.setCell ⟨lb,m*2,none⟩ (.string (str (k X.1)))) lo hi (.slice (some ⟨lb,0,none⟩) n cap) (lbMix k l (m+1)):=by
 rcases h.lab with h|h
 ·have:=h.setN (s:=k X.1) ((lbMix_len _ _ _).trans hn) (lbMix_at k hX);rwa [lbMix_set k hX] at this
 ·have:=h.setN (s:=k X.1) ((lbMix_len _ _ _).trans hn) (lbMix_next k hX);rwa [show((k X.1,X.2).2:List UInt8)=X.2 from rfl,lbMix_again k hX] at this
theorem SM.store {X:Lb} (h:SM w5 lo hi lb cap n m k l x) (hn:l.length=n) (hX:l[m]? = some X):SM w5 lo hi lb cap n m k l (x.setCell ⟨lb,m*2,none⟩ (.string (str (k X.1)))) :=
 ⟨h.chi.trans (Chi.set (a:=⟨lb,m*2,none⟩) ⟨Nat.le_refl _,Nat.lt_succ_self _⟩ _),Or.inr (h.put hn hX)⟩
end
end Go.Proofs.YtbapneipjmpcbaaGreatDoor
namespace Go.Proofs.YtbapneipjmpcbaaGreatDoor
open Go.RowKit Go.Sort Go.Shelf Dc
attribute [local go_sem ↓] Go.wp_at_zero Go.wp_at_succ
structure SorX (w wr:World) (g cap k:Nat) (F M:List Fs):Prop where
 len:M.length=F.length
 same : ∀i,(fms M)[i]? = ((fms F)[i]?).map fun z=>if i<k then Lg.srtG z else z
 all : ∀i z,i<k→(fms F)[i]? = some z→(psrt z.2).isSome=true
 own:FmOwn wr w.heap.size (.slice (some ⟨g,0,none⟩) M.length cap) M
 far : ∀i x,i<k→M[i]? = some x→FsFar wr g x
 old : ∀i,k≤i→M[i]? = F[i]?
 bel:Below w.heap.size w wr
theorem SorX.cell {w wr:World} {g cap k:Nat} {F M:List Fs} (h:SorX w wr g cap k F M) {x:Fs} (hk:k<F.length) (hx:F[k]? = some x) :
 wr.cell? ⟨g,k*5,none⟩=some (.string (str x.hd.n))∧wr.cell? ⟨g,k*5+1,none⟩=some (.int .i64 x.hd.k)∧wr.cell? ⟨g,k*5+2,none⟩=some (.string (str x.hd.u)) ∧
 wr.cell? ⟨g,k*5+3,none⟩=some (.string (str x.hd.h))∧wr.cell? ⟨g,k*5+4,none⟩=some x.v:=by
 obtain⟨A,cap',he,_,_,_,hr⟩:=KOwn.row encF_len h.own
 cases he
 obtain⟨b,off,he2,_,hc⟩:=hr (by rw[h.len];omega)
 cases he2
 have:=fr_cells hc (show M[k]? = some x by rw[h.old k (Nat.le_refl _)];exact hx);simpa using this
theorem SorX.free {w wr:World} {g cap k:Nat} {F M:List Fs} (h:SorX w wr g cap k F M):g<wr.heap.size∧w.heap.size≤g ∧ ∀o,wr.frozen? ⟨g,o,none⟩=false:=by
 obtain⟨_,h⟩:=h.own;rcases h with ⟨h,_⟩|⟨g',cap',cur,he,hb,hg,hn,hm,hs,ht⟩
 ·cases h
 ·cases he
  exact⟨(Array.getElem?_eq_some_iff.1 hg).1,hb,fun o=>by unfold World.frozen?;simp only;rw[hg];simp⟩
theorem SorX.step {w wr w2:World} {g cap k:Nat} {F M:List Fs} {x:Fs} {lv:Value} {L':List Ps} (h:SorX w wr g cap k F M) (hk:k<F.length) (hx:F[k]? = some x) (hin:HdIn x.hd) (hb:Below wr.heap.size wr w2) (hl:PtKeep w2 wr.heap.size lv L') (hp:psrt (pts x.L)=some (pts L')) :
 SorX w (((((w2.setCell ⟨g,k*5,none⟩ (.string (str x.hd.n))).setCell ⟨g,k*5+1,none⟩ (.int .i64 x.hd.k)).setCell ⟨g,k*5+2,none⟩ (.string (str x.hd.u))).setCell ⟨g,k*5+3,none⟩ (.string (str x.hd.h))).setCell ⟨g,k*5+4,none⟩ lv) g cap (k+1) F (M.set k ⟨x.hd,lv,L'⟩):=by
 obtain⟨hg,hwg,_⟩:=h.free;have hM:M[k]? = some x:=by rw[h.old k (Nat.le_refl _)];exact hx
 have hbel:Below w.heap.size w w2:=kb_call h.bel (Nat.le_refl _) hb;have o0:=KOwn.set (j:=0) (y:=x) (u := .string (str x.hd.n)) encF_len (h.own.below hb) hM (by omega) rfl;rw[set_self hM] at o0;have o1:=KOwn.set (j:=1) (y:=x) (u := .int .i64 x.hd.k) encF_len o0 hM (by omega) rfl;rw[set_self hM] at o1;have o2:=KOwn.set (j:=2) (y:=x) (u := .string (str x.hd.u)) encF_len o1 hM (by omega) rfl;rw[set_self hM] at o2;have o3:=KOwn.set (j:=3) (y:=x) (u := .string (str x.hd.h)) encF_len o2 hM (by omega) rfl;rw[set_self hM] at o3;have o4:=KOwn.set (j:=4) (y:=⟨x.hd,lv,L'⟩) (u:=lv) encF_len o3 hM (by omega) rfl;refine⟨by rw[List.length_set];exact h.len,?_,?_,by simpa using o4,?_,?_,((((hbel.setCell hwg _).setCell hwg _).setCell hwg _).setCell hwg _).setCell hwg _⟩
 ·intro i;have hxk:(fms F)[k]? = some (fm x):=by simp[fms,hx]
  by_cases e:i=k
  ·subst e;rw[hxk];show _=some (if i<i+1 then Lg.srtG (fm x) else fm x);rw[if_pos (by omega),show Lg.srtG (fm x)=(x.hd,pts L') from Lg.srtG_is hp];unfold fms;rw[List.getElem?_map,List.getElem?_set,if_pos rfl,if_pos (List.getElem?_eq_some_iff.1 hM).1];rfl
  ·have h1:=h.same i;have h2:(fms (M.set k ⟨x.hd,lv,L'⟩))[i]? = (fms M)[i]?:=by
    unfold fms;rw[List.getElem?_map,List.getElem?_map,List.getElem?_set,if_neg (by omega)]
   rw[h2,h1];congr 1;funext z;by_cases e2:i<k
   ·rw[if_pos e2,if_pos (by omega)]
   ·rw[if_neg e2,if_neg (by omega)]
 ·intro i z hi hz;by_cases e:i=k
  ·subst e;have hxk:(fms F)[i]? = some (fm x):=by simp[fms,hx]
   rw[hxk] at hz;obtain rfl:=Option.some.inj hz;show(psrt (pts x.L)).isSome=true;rw[hp];rfl
  ·exact h.all i z (by omega) hz
 ·intro i y hi hy;rw[List.getElem?_set] at hy;split at hy
  ·rename_i hik;split at hy
   ·obtain rfl:=Option.some.inj hy;refine⟨?_,hin⟩;exact(((((hl.mono (base':=g+1) (by omega)).setOld (by omega)).setOld (by omega)).setOld (by omega)).setOld (by omega)).setOld (by omega)
   ·cases hy
  ·have:=h.far i y (by omega) hy;exact⟨(((((this.1.below hb).setOld (by omega)).setOld (by omega)).setOld (by omega)).setOld (by omega)).setOld (by omega),this.2⟩
 ·intro i hi;rw[List.getElem?_set,if_neg (by omega)];exact h.old i (by omega)
theorem SorX.below {w wr X:World} {g cap k:Nat} {F M:List Fs} (h:SorX w wr g cap k F M) (hb:Below wr.heap.size wr X):SorX w X g cap k F M :=
 ⟨h.len,h.same,h.all,h.own.below hb,fun i x hi hx=>⟨(h.far i x hi hx).1.below hb,(h.far i x hi hx).2⟩,h.old,kb_call h.bel (Nat.le_refl _) hb⟩
theorem SorX.alloc {w wr:World} {g cap k:Nat} {F M:List Fs} (h:SorX w wr g cap k F M) (o:Obj):SorX w (wr.alloc o) g cap k F M:=h.below (kp_alloc (Below.refl _ _) o)
theorem SorX.done {w wr:World} {g cap:Nat} {F M:List Fs} (h:SorX w wr g cap F.length F M):FmMine wr w.heap.size (.slice (some ⟨g,0,none⟩) F.length cap) M:=by
 refine⟨by have k:=h.own;rw[h.len] at k;exact k,fun g' hg' x hx => ?_⟩
 cases hg'
 obtain⟨i,hi,rfl⟩:=List.getElem_of_mem hx;exact h.far i _ (by rw[←h.len];exact hi) (List.getElem?_eq_getElem hi)
theorem SorX.end {w wr:World} {g cap:Nat} {F M:List Fs} (h:SorX w wr g cap F.length F M):fms M=(fms F).map Lg.srtG ∧ ∀x∈fms F,(psrt x.2).isSome=true:=by
 constructor
 ·apply List.ext_getElem?;intro i;have e0:((fms F).map Lg.srtG)[i]? = ((fms F)[i]?).map Lg.srtG:=List.getElem?_map ..;rw[h.same i,e0]
  cases hx:(fms F)[i]? with
  | none=>rfl
  | some z =>
    have hi:i<F.length:=by have:=(List.getElem?_eq_some_iff.1 hx).1;simpa[fms] using this
    show some (if i<F.length then Lg.srtG z else z)=some (Lg.srtG z);rw[if_pos hi]
 ·intro x hx;obtain⟨i,hi,rfl⟩:=List.getElem_of_mem hx;exact h.all i _ (by simpa[fms] using hi) (List.getElem?_eq_getElem hi)
def BSortedP (z:Nat) (l:List Fp) (e:Ending) (w':World):Prop :=
 (∃v' M,e = .returned (.tuple #[v',.bool true])∧FmMine w' z v' M∧fms M=l.map Lg.srtG ∧ ∀x∈l,(psrt x.2).isSome=true)∨(Lg.srtB l=none∧e = .returned (.tuple #[.slice none 0 0,.bool false]))
theorem bsortedany_calls (F:List Fs) (v:Value) (w:World) (hv:FmRow w v F) (hf:FmFew F) :
 Calls Tryz.prog 94 #[v] w fun e w'=>BSortedP w.heap.size (fms F) e w'∧Below w.heap.size w w':=by
 have hcl:=Lh (fclone_calls F v w hv hf.n);have hin:=hv.2;have hn:=hf.n;clear hv;go_enter Tryz.func94,Tryz.ntmps94;go_wp2_with fail;refine hcl.out.mono ?_;rintro e w1 ⟨v1,rfl,b1,own⟩;have own2:=own;rcases own2.2 with ⟨rfl,h0⟩|⟨g,cap,cur,rfl,hg,_⟩
 ·obtain rfl:F=[]:=List.eq_nil_of_length_eq_zero h0;have B1:=Lh b1;clear own own2 b1 hin hf hn;go_wp2;refine wp_loop_rounds 1 ?_;rw[rounds_succ];go_wp2;refine bodyPost_ret (v := .tuple #[.slice none 0 0,.bool true]) (by simp[results,Tryz.results94,go_sem]) rfl ?_;exact⟨Or.inl ⟨_,[],rfl,FmMine.nil _ _,rfl,fun x hx=>by cases hx⟩,B1.out⟩
 ·have hcop:SorX w w1 g cap 0 F F:=⟨rfl,fun i=>by cases(fms F)[i]? <;> simp,fun i z hi=>absurd hi (by omega),own,fun i x hi=>absurd hi (by omega),fun i _=>rfl,b1⟩
  have HC:=Lh hcop;have HI:=Lh hin;have HF:=Lh hf;clear own own2 b1 hin hf hg hcop;go_wp2_with fail;go_loopw [13] (fun v wr => ∃k:Nat,k≤F.length∧v = .int .i64 (k:Nat) ∧ ∃M,SorX w wr g cap k F M) (fun v _=>F.length-(intOf v).toNat);case atStart=>exact ⟨0,Nat.zero_le _,rfl,F,HC.out⟩
  case round =>
   obtain⟨k,hk,rfl,M,hc⟩:=hrel;by_cases hkl:k<F.length
   ·obtain⟨x,hx,_⟩:=fs_get hkl;obtain⟨c0,c1,c2,c3,c4⟩:=hc.cell hkl hx;obtain⟨hgl,hwg,hfr⟩:=hc.free;have hm:=List.mem_of_getElem? hx;have hix:=HI.out x hm;have kf:=kp_alloc (Below.refl wr.heap.size wr) (.cells (famc x.hd x.v) 51);have hsr:=Lh (fsort_any x.hd x.L x.v _ ((hix.1.below hc.bel).below kf) (HF.out.p x hm) (HF.out.l x hm));have hno:=Lh (fun h:psrt (pts x.L)=none=>Lg.srtB_no (F:=fms F) (x:=fm x) (List.mem_of_getElem? (show(fms F)[k]? = some (fm x) by simp[fms,hx])) h);have HBL:=Lh hc.bel;have hst:=Lh (fun w2 lv L' hb hl hp=>hc.step (w2:=w2) (lv:=lv) (L':=L') hkl hx hix.2 hb hl hp);have hz:(wr.alloc (.cells (famc x.hd x.v) 51)).heap.size=wr.heap.size+1:=by simp
    have HZ:=Lh hz;have KF:=Lh kf;obtain⟨A1,n1,cap1,hx1⟩ : ∃A1 n1 cap1,x.v = .slice A1 n1 cap1:=by obtain⟨A,cap,he,_⟩:=hix.1.1;exact⟨A,_,cap,he⟩
    obtain⟨⟨n,kk,u,h⟩,xv,L⟩:=x;simp only at hx1;subst hx1;simp only at c0 c1 c2 c3 c4;clear hc hm hx hix hz kf
    cases hps:psrt (pts L) with
    | none =>
      have hn2:=Lh (hno.out hps);rw[hps] at hsr;have KX:=Lh (trans9 HBL.out KF.out);clear hst hno hps HBL;simp only[hdO,Option.isSome] at hsr;go_wp2_with fail;refine hsr.out.mono ?_;rintro e w2 ⟨⟨A2,n2,cap2,M2,rfl,keep,hp⟩,b2⟩;have KB:=Lh (trans9 KX.out b2);clear keep hp b2 hsr HZ KF KX;simp only[hd0];go_wp2;refine bodyPost_ret (v := .tuple #[.slice none 0 0,.bool false]) (by simp[results,Tryz.results94,go_sem]) rfl ⟨Or.inr ⟨hn2.out,rfl⟩,?_⟩
      repeat(first|exact KB.out|apply kp_alloc)
    | some d =>
      have hpd:=Lh hps;rw[hps] at hsr;clear hno hps HBL;simp only[hdO,Option.isSome,Option.getD] at hsr;go_wp2_with fail;refine hsr.out.mono ?_;rintro e w2 ⟨⟨A2,n2,cap2,M2,rfl,keep,hp⟩,b2⟩;have hp:=hpd.out.trans (congrArg some hp.symm);rw[HZ.out] at keep;have B2:=trans9 KF.out b2;have hgl2:g<w2.heap.size:=Nat.lt_of_lt_of_le hgl B2.size;have d0:=(B2.cell (p:=⟨g,k*5,none⟩) hgl).trans c0;have d1:=(B2.cell (p:=⟨g,k*5+1,none⟩) hgl).trans c1;have d2:=(B2.cell (p:=⟨g,k*5+2,none⟩) hgl).trans c2;have d3:=(B2.cell (p:=⟨g,k*5+3,none⟩) hgl).trans c3;have d4:=(B2.cell (p:=⟨g,k*5+4,none⟩) hgl).trans c4;have g0:w2.frozen? ⟨g,k*5,none⟩=false:=(B2.frozen (p:=⟨g,k*5,none⟩) hgl).trans (hfr _);have g1:w2.frozen? ⟨g,k*5+1,none⟩=false:=(B2.frozen (p:=⟨g,k*5+1,none⟩) hgl).trans (hfr _);have g2:w2.frozen? ⟨g,k*5+2,none⟩=false:=(B2.frozen (p:=⟨g,k*5+2,none⟩) hgl).trans (hfr _);have g3:w2.frozen? ⟨g,k*5+3,none⟩=false:=(B2.frozen (p:=⟨g,k*5+3,none⟩) hgl).trans (hfr _);have g4:w2.frozen? ⟨g,k*5+4,none⟩=false:=(B2.frozen (p:=⟨g,k*5+4,none⟩) hgl).trans (hfr _);have hfin:=Lh ((hst.out w2 (.slice A2 n2 cap2) M2 B2 (keep.mono (by omega)) hp).alloc (.cells #[.string (str n),.int .i64 kk,.string (str u),.string (str h),.slice A2 n2 cap2] 51));clear b2 B2 keep hp hst hsr c0 c1 c2 c3 c4 hfr HZ KF;go_wp2_with fail;go_roundw;case rel=>exact ⟨k+1,hkl,by go_num,_,hfin.out⟩
      case measure=>simp [intOf];omega
   ·have hkn:k=F.length:=by omega
    subst hkn;have hd:=Lh hc.done;go_wp2;refine bodyPost_ret (v := .tuple #[.slice (some ⟨g,0,none⟩) F.length cap,.bool true]) (by simp[results,Tryz.results94,go_sem]) rfl ?_;exact⟨Or.inl ⟨_,M,rfl,hd.out,hc.end.1,hc.end.2⟩,hc.bel⟩
theorem fewG {l:List Fp} (h:FpFew l) (ha : ∀x∈l,(psrt x.2).isSome=true):FpFew (l.map Lg.srtG):=by
 have key : ∀x∈l,((Lg.srtG x).2).Perm x.2:=fun x hx=>by
  obtain⟨d,hd⟩:=Option.isSome_iff_exists.1 (ha x hx);rw[show Lg.srtG x=(x.1,d) from Lg.srtG_is hd];exact(psrt_some hd).1
 refine⟨by rw[List.length_map];exact h.n,fun y hy => ?_,fun y hy q hq => ?_⟩
 ·obtain⟨x,hx,rfl⟩:=List.mem_map.1 hy;rw[(key x hx).length_eq];exact h.p x hx
 ·obtain⟨x,hx,rfl⟩:=List.mem_map.1 hy;exact h.l x hx q ((key x hx).mem_iff.1 hq)
theorem bsortany_calls (t:List UInt8) (F:List Fs) (v:Value) (w:World) (hv:FmRow w v F) (hf:FmFew F) :
 Calls Tryz.prog 55 #[batv t v] w fun e w'=>BSortP w.heap.size t (Lg.srtB (fms F)) e w'∧Below w.heap.size w w':=by
 have k0:=kp_alloc (kp_alloc (Below.refl w.heap.size w) (.cells #[.string (str t),v] 24)) (.cells #[.string ⟨#[]⟩,.slice none 0 0] 24);have F0:=(BatAt.new w t v 24).below (kp_alloc (Below.refl (w.alloc (.cells #[.string (str t),v] 24)).heap.size (w.alloc (.cells #[.string (str t),v] 24))) (.cells #[.string ⟨#[]⟩,.slice none 0 0] 24));have G0:=BatAt.new (w.alloc (.cells #[.string (str t),v] 24)) [] (.slice none 0 0) 24;rw[show(w.alloc (.cells #[.string (str t),v] 24)).heap.size=w.heap.size+1 by simp] at G0;have hcp:=Lh (bsortedany_calls F v _ (hv.below k0) hf);have hz0:((w.alloc (.cells #[.string (str t),v] 24)).alloc (.cells #[.string ⟨#[]⟩,.slice none 0 0] 24)).heap.size=w.heap.size+2:=by simp
 have HZ0:=Lh hz0;obtain⟨A,n,cap,hv1⟩ : ∃A n cap,v = .slice A n cap:=by obtain⟨A,cap,he,_⟩:=hv.1;exact⟨A,_,cap,he⟩
 subst hv1;have K0:=Lh k0;have HF:=Lh F0;have HG:=Lh G0;have HN:=Lh hf;clear F0 G0 k0 hv hf hz0;go_enter Tryz.func55,Tryz.ntmps55;go_wp2_with fail;refine hcp.out.mono ?_;rintro e w1 ⟨⟨v1,M,rfl,mine,hsame,hall⟩|⟨hno,rfl⟩,b1⟩;rotate_left
 ·have hr:=Lh hno;have G1:=HG.out.below b1;have B3:=Lh (trans9 K0.out b1);obtain⟨y0,y1,yf,yl⟩:=G1;clear b1 hcp HZ0 hno HF HG;go_wp2;refine bodyPost_ret (v := .tuple #[.agg #[.string ⟨#[]⟩,.slice none 0 0],.bool false]) (by simp[results,Tryz.results55,go_sem,y0,y1]) rfl ⟨BSortP.no hr.out rfl,?_⟩
  repeat(first|exact B3.out|refine Below.setCell ?_ (by show w.heap.size≤w.heap.size+1;omega) _)
 have mine:FmMine w1 (w.heap.size+2) v1 M:=by have h:=mine;rw[HZ0.out] at h;exact h
 have F1:=HF.out.below b1;have G1:=HG.out.below b1;have B1:=Lh (trans9 K0.out b1);obtain⟨A1,n1,cap1,hv1⟩ : ∃A1 n1 cap1,v1 = .slice A1 n1 cap1:=by obtain⟨A1,cap1,he,_⟩:=mine.row.1;exact⟨A1,_,cap1,he⟩
 have hlt2:=G1.lt;have hMF:FmFew M:=FpFew.rows (by rw[hsame];exact fewG HN.out.plain hall);have hst:=Lh (fsortf_any M v1 _ _ mine hMF.n);have HFG:=Lh (And.intro F1 G1);have HS:=Lh hsame;have HALL:=Lh hall;have HMF:=Lh hMF;clear b1 mine hcp HZ0 hMF hsame hall F1 G1 HF HG;subst hv1;go_wp2_with fail;refine hst.out.mono ?_;rintro e w2 ⟨rfl,D,hperm,hsd,hbel,hkeep⟩;have HSD:Hid ((fms D).Pairwise fun p q => ¬cmpF q p<0):=Lh (by simpa using hsd);have b2:=hbel (w.heap.size+2) (Nat.le_refl _) hlt2;have F2:=HFG.out.1.belowB b2 (by omega);have G2:=HFG.out.2.belowB b2 (by omega);have B2:=Lh (B1.out.trans (b2.mono (by omega)));have hpt:(fms D).Perm ((fms F).map Lg.srtG):=by
  have h1:(fms D).Perm (fms M):=hperm.map _;rw[HS.out] at h1;exact h1
 have hDF:FmFew D:=FpFew.rows ((fewG HN.out.plain HALL.out).perm hpt);have has:=Lh (bascend_calls D _ w2 hkeep.row hDF.n);have HFG2:=Lh (And.intro F2 G2);have HK:=Lh hkeep;have hyes:=Lh (fun h:StrictT cmpF (fms D)=>(Lg.srtB_yes HALL.out).trans (gsrt_is tp_cmpF hpt h));have hnot:=Lh (fun h : ¬StrictT cmpF (fms D)=>(Lg.srtB_yes HALL.out).trans (gsrt_no tp_cmpF (l:=(fms F).map Lg.srtG) (fun hn=>h (strictT_of tp_cmpF (HSD.out) ((ndT_perm tp_cmpF hpt).2 hn)))));clear hperm hsd hbel hkeep hpt hDF F2 G2 b2 hst HFG;by_cases hC:StrictT cmpF (fms D)
 ·rw[decide_eq_true hC] at has;have hr:=Lh (hyes.out hC);clear hyes hnot hC;go_wp2_with fail;refine has.out.mono ?_;rintro e w3 ⟨rfl,b3⟩;have F3:=HFG2.out.1.below b3;have G3:=HFG2.out.2.below b3;have HK3:=Lh (HK.out.below b3);have B3:=Lh (trans9 B2.out b3);obtain⟨x0,x1,xf,xl⟩:=F3;obtain⟨y0,y1,yf,yl⟩:=G3;clear b3 has HK HFG2;go_wp2;refine bodyPost_ret (v := .tuple #[.agg #[.string (str t),.slice A1 n1 cap1],.bool true]) (by simp[results,Tryz.results55,go_sem,y0,y1]) rfl ⟨BSortP.yes hr.out rfl ?_,?_⟩
  ·exact((HK3.out.setOld (by omega)).setOld (by omega)).mono (by omega)
  ·exact(B3.out.setCell (by show w.heap.size≤w.heap.size+1;omega) _).setCell (by show w.heap.size≤w.heap.size+1;omega) _
 ·rw[decide_eq_false hC] at has;have hr:=Lh (hnot.out hC);clear hyes hnot hC;go_wp2_with fail;refine has.out.mono ?_;rintro e w3 ⟨rfl,b3⟩;have F3:=HFG2.out.1.below b3;have G3:=HFG2.out.2.below b3;have B3:=Lh (trans9 B2.out b3);obtain⟨x0,x1,xf,xl⟩:=F3;obtain⟨y0,y1,yf,yl⟩:=G3;clear b3 has HK HFG2;go_wp2;refine bodyPost_ret (v := .tuple #[.agg #[.string ⟨#[]⟩,.slice none 0 0],.bool false]) (by simp[results,Tryz.results55,go_sem,y0,y1]) rfl ⟨BSortP.no hr.out rfl,?_⟩;exact(B3.out.setCell (by show w.heap.size≤w.heap.size+1;omega) _).setCell (by show w.heap.size≤w.heap.size+1;omega) _
end Go.Proofs.YtbapneipjmpcbaaGreatDoor
