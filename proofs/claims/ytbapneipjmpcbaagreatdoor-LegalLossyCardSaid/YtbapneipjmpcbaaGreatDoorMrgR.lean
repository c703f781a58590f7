import Derived.Test.YtbapneipjmpcbaaGreatDoorMrgWXY
import Derived.Test.YtbapneipjmpcbaaGreatDoorRfC
import Derived.Deep.RegionHeld3
set_option maxRecDepth 100000
set_option linter.unusedVariables false
set_option linter.unusedSimpArgs false
namespace Go.Proofs.YtbapneipjmpcbaaGreatDoor
open Go.RowKit Go.Sort Dc
attribute [local go_sem ↓] Go.wp_at_zero Go.wp_at_succ
def Nine (w:World) (b o:Nat) (lv:Value) (p:Pt):Prop :=
 w.cell? ⟨b,o,none⟩=some lv∧w.cell? ⟨b,o+1,none⟩=some (.int .i64 p.ro)∧w.cell? ⟨b,o+2,none⟩=some (.bool p.inf)∧w.cell? ⟨b,o+3,none⟩=some (.int .i64 p.bm)∧w.cell? ⟨b,o+4,none⟩=some (.int .i64 p.bs)∧w.cell? ⟨b,o+5,none⟩=some (.int .i64 p.m)∧w.cell? ⟨b,o+6,none⟩=some (.int .i64 p.s)∧w.cell? ⟨b,o+7,none⟩=some (.bool p.td)∧w.cell? ⟨b,o+8,none⟩=some (.int .i64 p.ti)
theorem Nine.below {w w':World} {b o:Nat} {lv:Value} {p:Pt} (h:Nine w b o lv p) (hb:Below w.heap.size w w') (hlt:b<w.heap.size):Nine w' b o lv p:=by
 obtain⟨y0,y1,y2,y3,y4,y5,y6,y7,y8⟩:=h;exact⟨(hb.cell (p:=⟨b,o,none⟩) hlt).trans y0,(hb.cell (p:=⟨b,o+1,none⟩) hlt).trans y1,(hb.cell (p:=⟨b,o+2,none⟩) hlt).trans y2,(hb.cell (p:=⟨b,o+3,none⟩) hlt).trans y3,(hb.cell (p:=⟨b,o+4,none⟩) hlt).trans y4,(hb.cell (p:=⟨b,o+5,none⟩) hlt).trans y5,(hb.cell (p:=⟨b,o+6,none⟩) hlt).trans y6,(hb.cell (p:=⟨b,o+7,none⟩) hlt).trans y7,(hb.cell (p:=⟨b,o+8,none⟩) hlt).trans y8⟩
theorem nd_take {α:Type} {f:α→α→Int} {l:List α} (h:NdT f l) {k:Nat} {p q:α} (hk:l[k]? = some p) (hq:q∈l.take k):f q p≠0:=by
 obtain⟨j,hj,e⟩:=List.mem_iff_getElem.1 hq;rw[List.length_take] at hj;obtain⟨hkl,rfl⟩:=List.getElem?_eq_some_iff.1 hk;rw[←e,List.getElem_take];unfold NdT at h;rw[List.pairwise_iff_getElem] at h;exact h j k (by omega) hkl (by omega)
theorem perm_ins {α:Type} {R l:List α} {x:α} {k:Nat} (m:Nat) (hp:R.Perm (l.take k)) (hx:l[k]? = some x):(R.take m++[x]++R.drop m).Perm (l.take (k+1)):=by
 obtain⟨hk,rfl⟩:=List.getElem?_eq_some_iff.1 hx;rw[List.take_succ_eq_append_getElem hk];have h1:(R.take m++[l[k]]++R.drop m).Perm (R++[l[k]]):=by
  rw[List.append_assoc];have h2:(R.take m++([l[k]]++R.drop m)).Perm (R.take m++(R.drop m++[l[k]])):=(List.perm_append_comm).append_left _;rwa [←List.append_assoc,←List.append_assoc,List.take_append_drop,List.append_assoc] at h2
 exact h1.trans (hp.append_right _)
theorem strict_ins {α:Type} {f:α→α→Int} {g:α→α→α} (hf:TP f) (hg : ∀x y,f x y=0→f (g x y) y=0) {R:List α} {y:α} {m:Nat} (hs:StrictT f R) (hm:m≤R.length) (lo : ∀j x,j<m→R[j]? = some x→f x y<0) (hi : ∀j x,m≤j→R[j]? = some x→0<f x y):StrictT f (R.take m++[y]++R.drop m):=by
 have h:=ins_strict hf hg y hs;rw[ins_no (g:=g) hf hs hm lo hi] at h;simpa using h
theorem pts_at {R:List Ps} {j:Nat} {q:Pt} (h:(pts R)[j]? = some q) : ∃r,R[j]? = some r∧r.2=q:=by
 simp only[pts,List.getElem?_map] at h
 cases e:R[j]? with
 | none=>rw [e] at h;cases h
 | some r=>rw [e] at h;exact⟨r,rfl,by simpa using h⟩
theorem strictP_ins {R:List Ps} {x:Ps} {m:Nat} (hs:StrictP (pts R)) (hm:m≤R.length) (lo : ∀j r,j<m→R[j]? = some r→cmpP r.2 x.2<0) (hi : ∀j r,m≤j→R[j]? = some r→0<cmpP r.2 x.2):StrictP (pts (R.take m++[x]++R.drop m)):=by
 have h:=strict_ins tp_cmpP snd_hg (R:=pts R) (y:=x.2) (m:=m) hs (by simpa[pts] using hm) (fun j q hj hq=>by obtain⟨r,hr,rfl⟩:=pts_at hq;exact lo j r hj hr) (fun j q hj hq=>by obtain⟨r,hr,rfl⟩:=pts_at hq;exact hi j r hj hr);simpa[pts,List.map_take,List.map_drop] using h
theorem lo_all {α:Type} {f:α→α→Int} (hf:TP f) {R:List α} (hs:StrictT f R) {y x:α} {j:Nat} (hj:R[j]? = some x) (h:f x y<0) : ∀i z,i<j+1→R[i]? = some z→f z y<0:=fun i z hi hz=>by
 by_cases e:i=j
 ·subst e;rw[hj] at hz;obtain rfl:=Option.some.inj hz;exact h
 ·obtain⟨h1,rfl⟩:=List.getElem?_eq_some_iff.1 hj;obtain⟨h2,rfl⟩:=List.getElem?_eq_some_iff.1 hz;unfold StrictT at hs;rw[List.pairwise_iff_getElem] at hs;have k:=hs i j h2 h1 (by omega);have a:=hf.le R[i] R[j] y;have b:=hf.neg R[i] y;have c:=hf.le y R[i] R[j];have d:=hf.neg R[j] y;have e2:=hf.neg R[i] R[j];by_cases q:f R[i] y<0
  ·exact q
  ·have:=c (by omega) (by omega);omega
theorem loP_all {R:List Ps} (hs:StrictP (pts R)) {p:Pt} {r:Ps} {j:Nat} (hj:R[j]? = some r) (h:cmpP r.2 p<0) : ∀i z,i<j+1→R[i]? = some z→cmpP z.2 p<0:=fun i z hi hz =>
 lo_all tp_cmpP hs (x:=r.2) (y:=p) (j:=j) (by simp[pts,hj]) h i z.2 hi (by simp[pts,hz])
theorem POff.own {w w':World} {E:Nat→Prop} {v v':Value} {L M:List Ps} (h:POff w E v L) (hE : ∀b,E b→b<w.heap.size) (hb:Below w.heap.size w w') (own:PtOwn w' w.heap.size v' M) (hM : ∀x∈M,x∈L):POff w' E v' M:=fun X k1 k2=>by
 have hX:=h X (fun b hb2 he=>(k1 b (Nat.lt_of_lt_of_le hb2 hb.size) he).trans (hb.block b hb2)) (Nat.le_trans hb.size k2);exact⟨KOwn.row encP_len (own.ofBlock fun b hq=>k1 b (own_lt own b hq) (fun e=>by have:=hE b e;have:=own_ge own b hq;omega)),fun x hx=>hX.2 x (hM x hx)⟩
abbrev FsOff (w:World) (E:Nat→Prop) (x:Fs):Prop:=HdIn x.hd∧POff w E x.v x.L
theorem FsOff.fsin {w:World} {E:Nat→Prop} {x:Fs} (h:FsOff w E x):FsIn w x:=⟨h.2.row,h.1⟩
theorem FsOff.below {w w':World} {E:Nat→Prop} {x:Fs} (h:FsOff w E x) (hb:Below w.heap.size w w'):FsOff w' E x:=⟨h.1,h.2.below hb⟩
theorem strictF_ins {R:List Fs} {x:Fs} {m:Nat} (hs:StrictT cmpF (fms R)) (hm:m≤R.length) (lo : ∀j r,j<m→R[j]? = some r→cmpF (fm r) (fm x)<0) (hi : ∀j r,m≤j→R[j]? = some r→0<cmpF (fm r) (fm x)):StrictT cmpF (fms (R.take m++[x]++R.drop m)):=by
 have hat : ∀(j:Nat) (q:Fp),(fms R)[j]? = some q → ∃r,R[j]? = some r∧fm r=q:=fun j q h=>by
  simp only[fms,List.getElem?_map] at h
  cases e:R[j]? with
  | none=>rw [e] at h;cases h
  | some r=>rw [e] at h;exact⟨r,rfl,by simpa using h⟩
 have h:=strict_ins tp_cmpF put_hg (R:=fms R) (y:=fm x) (m:=m) hs (by simpa[fms] using hm) (fun j q hj hq=>by obtain⟨r,hr,rfl⟩:=hat j q hq;exact lo j r hj hr) (fun j q hj hq=>by obtain⟨r,hr,rfl⟩:=hat j q hq;exact hi j r hj hr);simpa[fms,List.map_take,List.map_drop] using h
theorem loF_all {R:List Fs} (hs:StrictT cmpF (fms R)) {p r:Fs} {j:Nat} (hj:R[j]? = some r) (h:cmpF (fm r) (fm p)<0) : ∀i z,i<j+1→R[i]? = some z→cmpF (fm z) (fm p)<0:=fun i z hi hz =>
 lo_all tp_cmpF hs (x:=fm r) (y:=fm p) (j:=j) (by simp[fms,hj]) h i (fm z) hi (by simp[fms,hz])
end Go.Proofs.YtbapneipjmpcbaaGreatDoor
