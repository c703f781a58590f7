import Derived.Test.YtbapneipjmpcbaaGreatDoorBatP
import Derived.Test.YtbapneipjmpcbaaGreatDoorFamY
import Derived.Test.YtbapneipjmpcbaaGreatDoorPdW
set_option maxHeartbeats 16000000
set_option maxRecDepth 100000
set_option linter.unusedVariables false
set_option linter.unusedSimpArgs false
namespace Go.Proofs.YtbapneipjmpcbaaGreatDoor
open Go.RowKit Go.Sort Dc
attribute [local go_sem ↓] Go.wp_at_zero Go.wp_at_succ
theorem Sor.below {w wr X:World} {g cap k:Nat} {F M:List Fs} (h:Sor w wr g cap k F M) (hb:Below wr.heap.size wr X):Sor w X g cap k F M :=
 ⟨h.len,h.same,h.own.below hb,fun i x hi hx=>⟨(h.far i x hi hx).1.below hb,(h.far i x hi hx).2⟩,h.old,kb_call h.bel (Nat.le_refl _) hb⟩
theorem Sor.alloc {w wr:World} {g cap k:Nat} {F M:List Fs} (h:Sor w wr g cap k F M) (o:Obj):Sor w (wr.alloc o) g cap k F M:=h.below (kp_alloc (Below.refl _ _) o)
theorem Sor.done {w wr:World} {g cap:Nat} {F M:List Fs} (h:Sor w wr g cap F.length F M):FmMine wr w.heap.size (.slice (some ⟨g,0,none⟩) F.length cap) M:=by
 refine⟨by have k:=h.own;rw[h.len] at k;exact k,fun g' hg' x hx => ?_⟩
 cases hg'
 obtain⟨i,hi,rfl⟩:=List.getElem_of_mem hx;exact h.far i _ (by rw[←h.len];exact hi) (List.getElem?_eq_getElem hi)
end Go.Proofs.YtbapneipjmpcbaaGreatDoor
namespace Go.Proofs.YtbapneipjmpcbaaGreatDoor
open Go.RowKit Go.Sort Go.Shelf Dc
attribute [local go_sem ↓] Go.wp_at_zero Go.wp_at_succ
theorem FsFar.other {w X:World} {g:Nat} {x:Fs} (h:FsFar w g x) (ho : ∀b,b<w.heap.size→b≠g→X.heap[b]? = w.heap[b]?) (hz:w.heap.size≤X.heap.size):FsFar X g x :=
 ⟨fun Y h1 h2=>h.1 Y (fun b hlt hg=>(h1 b (Nat.lt_of_lt_of_le hlt hz) hg).trans (ho b hlt (by omega))) (Nat.le_trans hz h2),h.2⟩
theorem fsortf_calls (M:List Fs) (g cap base:Nat) (w:World) (hm:FmMine w base (.slice (some ⟨g,0,none⟩) M.length cap) M) (hn:M.length≤1000) :
 Calls Tryz.prog 95 #[.slice (some ⟨g,0,none⟩) M.length cap,.func (.func 96) #[] #[]] w fun e w' =>
  e = .returned (.tuple #[]) ∧ ∃D:List Fs,D.Perm M∧((fms D).Pairwise fun p q => ¬cmpF q p<0)∧(∀B,B≤g→B≤w.heap.size→Below B w w')∧FmKeep w' g (.slice (some ⟨g,0,none⟩) M.length cap) D:=by
 have hall : ∀x∈M,FsFar w g x:=hm.far g rfl;obtain⟨m,hmM⟩:=sub_list M hall
 letI:Inhabited {x:Fs // FsFar w g x}:=⟨⟨⟨hd0,.slice none 0 0,[]⟩,⟨fun X _ _=>PtRow.nil X,⟨by decide,by decide,by decide,by decide,by decide⟩⟩⟩⟩
 have hlen:m.length=M.length:=by rw[←hmM];simp
 have hcells:m.flatMap (fun x=>encF x.1)=M.flatMap encF:=by rw[←hmM,List.flatMap_map]
 have hown:KOwn (fun x : {x:Fs // FsFar w g x}=>encF x.1) 51 5 w base (.slice (some ⟨g,0,none⟩) m.length cap) m:=by
  unfold KOwn;rw[hcells,hlen];exact hm.own
 have eg : ∀args w,(callFunc 96 args).run Tryz.prog w = .ok (.enter 96 args) w:=enters_of Tryz.func96 (by kernel_rfl) rfl;have hs:=ksort sortFm Tryz.isAgg51 Tryz.sizeOf51 (enc:=fun x : {x:Fs // FsFar w g x}=>encF x.1) (k:=5) (fun _=>rfl) (by omega) (fun x v hv=>encF_one (w:=w) ⟨x.2.1.row,x.2.2⟩ v hv)
  (fun x y=>cmpF (fm x.1) (fm y.1)) (swo_tp (tp_cmpF.comap fun x : {x:Fs // FsFar w g x}=>fm x.1)) 96 eg 51 g cap base m w hown (by omega)
  (fun X ho hz x y=>fbyname_calls x.1 y.1 X)
 rw[hlen] at hs;change Calls Tryz.prog 95 _ _ _ at hs;refine hs.mono ?_;rintro e w' ⟨rfl,D,hp,hsd,hbel,hoth,hrow⟩;have hz:w.heap.size≤w'.heap.size:=(hbel 0 (Nat.zero_le _) (Nat.zero_le _)).size;refine⟨rfl,D.map (·.1),by rw[←hmM];exact hp.map _,?_,hbel,?_⟩
 ·unfold fms;rw[List.map_map,List.pairwise_map];exact hsd
 ·intro X h1 h2;refine⟨?_,fun x hx => ?_⟩
  ·obtain⟨A,cap',he,hl1,hl2,h3,h4⟩:=hrow;refine⟨A,cap',by rw[List.length_map];exact he,by rw[List.length_map];exact hl1,hl2,h3,fun h0 => ?_⟩;obtain⟨b,off,hA,hb,hc⟩:=h4 (by simpa using h0);have hbg:g=b:=by
    simp only[Value.slice.injEq] at he;rw[←he.1] at hA;simpa using congrArg (fun o=>o.map Addr.block) hA
   refine⟨b,off,hA,Nat.lt_of_lt_of_le hb h2,fun i x hx j u hu => ?_⟩;rw[List.getElem?_map] at hx;have e:=h1 b hb (by omega)
   cases hd:D[i]? with
   | none=>rw [hd] at hx;cases hx
   | some y =>
     rw[hd] at hx;obtain rfl:=Option.some.inj hx;exact(World.cell?_of_block (a:=⟨b,off+i*5+j,none⟩) e).trans (hc i y hd j u hu)
  ·obtain⟨y,_,rfl⟩:=List.mem_map.1 hx;have hf:=y.2.other hoth hz;exact⟨hf.1 X (fun b hlt hg=>h1 b hlt (by omega)) h2,hf.2⟩
theorem fsortf_none (w:World) (fv:Value) :
 Calls Tryz.prog 95 #[.slice none 0 0,fv] w fun e w'=>e = .returned (.tuple #[])∧w'=w :=
 AnyF.slices_SortFunc_none sortFm none 0 fv w
theorem fsortf_any (M:List Fs) (v:Value) (base:Nat) (w:World) (hm:FmMine w base v M) (hn:M.length≤1000) :
 Calls Tryz.prog 95 #[v,.func (.func 96) #[] #[]] w fun e w' =>
  e = .returned (.tuple #[]) ∧ ∃D:List Fs,D.Perm M∧((fms D).Pairwise fun p q => ¬cmpF q p<0)∧(∀B,B≤base→B≤w.heap.size→Below B w w')∧FmKeep w' base v D:=by
 rcases hm.own.2 with ⟨rfl,h0⟩|⟨g,cap,cur,rfl,hg,_⟩
 ·obtain rfl:=List.eq_nil_of_length_eq_zero h0;refine(fsortf_none w _).mono ?_;rintro e w' ⟨rfl,rfl⟩;exact⟨rfl,[],List.Perm.refl _,List.Pairwise.nil,fun B _ _=>Below.refl _ _,FmKeep.nil _ _⟩
 ·refine(fsortf_calls M g cap base w hm hn).mono ?_;rintro e w' ⟨rfl,D,hp,hs,hb,hf⟩;exact⟨rfl,D,hp,hs,fun B h1 h2=>hb B (by omega) h2,hf.mono hg⟩
theorem bascend_calls (L:List Fs) (v:Value) (w:World) (hv:FmRow w v L) (hn:L.length≤1000) :
 Calls Tryz.prog 65 #[v] w fun e w'=>e = .returned (.bool (decide (StrictT cmpF (fms L))))∧Below w.heap.size w w':=by
 have HP:=Lh hv.2;obtain⟨A,cap,rfl,hlc,hcm,hnil,hrow⟩:=hv.1;unfold maxLen at hcm;have HR:=Lh hrow;clear hrow hnil hv;go_enter Tryz.func65,Tryz.ntmps65;go_wp2_with fail;go_loopw [3] (fun v wr => ∃j:Nat,v = .int .i64 ((j:Int)+1)∧j≤L.length∧Hid (∀m p q,m<j→(fms L)[m]? = some p→(fms L)[m+1]? = some q→cmpF p q<0)∧Below w.heap.size w wr) (fun v _=>L.length+1-(intOf v).toNat);case atStart=>exact ⟨0,rfl,Nat.zero_le _,fun m p q hm=>absurd hm (by omega),Below.refl _ _⟩
 case round =>
  obtain⟨j,rfl,hj,H,hb⟩:=hrel;by_cases hjl:j+1<L.length
  ·obtain⟨b,off,rfl,hbs,hc⟩:=HR.out (by omega);obtain⟨x,hx,hxp⟩:=fs_get (show j<L.length by omega);obtain⟨y,hy,hyp⟩:=fs_get hjl;have hix:=HP.out x (List.mem_of_getElem? hx);have hiy:=HP.out y (List.mem_of_getElem? hy);obtain⟨c0,c1,c2,c3,c4⟩:=fr_cells hc hx;obtain⟨e0,e1,e2,e3,e4⟩:=fr_cells hc hy;have hcp:=Lh (fun W=>fbyname_calls x y W);have hno:=Lh (fun h=>strictT_no (f:=cmpF) (l:=fms L) (i:=j) hxp hyp h);have hnx:=Lh (fun(h:cmpF (fm x) (fm y)<0)=>show ∀m p q,m<j+1→(fms L)[m]? = some p→(fms L)[m+1]? = some q→cmpF p q<0 from fun m p q hm h1 h2=>by
    by_cases em:m=j
    ·subst em;rw[hxp] at h1;rw[hyp] at h2;obtain rfl:=Option.some.inj h1;obtain rfl:=Option.some.inj h2;exact h
    ·exact H.out m p q (by omega) h1 h2)
   rw[show cmpF (fm x) (fm y)=cb x.hd.n y.hd.n from rfl] at hno hnx;obtain⟨A1,n1,cap1,hx1⟩ : ∃A1 n1 cap1,x.v = .slice A1 n1 cap1:=by obtain⟨_,_,h,_⟩:=hix.1.1;exact⟨_,_,_,h⟩
   obtain⟨A2,n2,cap2,hy1⟩ : ∃A1 n1 cap1,y.v = .slice A1 n1 cap1:=by obtain⟨_,_,h,_⟩:=hiy.1.1;exact⟨_,_,_,h⟩
   have hw1:IntKind.i64.wrap (j:Int)=(j:Int):=IntWalk.i64_in _ (by omega);have hw2:IntKind.i64.wrap ((j:Int)+1)=(j:Int)+1:=IntWalk.i64_in _ (by omega);have hw3:(j:Int)+1-1=(j:Int):=by omega
   have hj0:(0:Int)≤(j:Int):=by omega
   have hj1:(j:Int)<(L.length:Int):=by omega
   have hj2:(j:Int)+1<(L.length:Int):=by omega
   have hj3:j<L.length:=by omega
   have hj4:(0:Int)≤(j:Int)+1:=by omega
   obtain⟨⟨xn,xk,xu,xh⟩,xv,xL⟩:=x;obtain⟨⟨yn,yk,yu,yh⟩,yv,yL⟩:=y;simp only at hx1 hy1;subst hx1 hy1;have hR : ∀o u,w.cell? ⟨b,o,none⟩=some u → ∀z,Below w.heap.size w z→z.cell? ⟨b,o,none⟩=some u:=fun o u hu z hz=>(hz.cell (p:=⟨b,o,none⟩) hbs).trans hu;simp only at c0 c1 c2 c3 c4 e0 e1 e2 e3 e4 hno hnx hcp;have r0:=hR _ _ c0;have r1:=hR _ _ c1;have r2:=hR _ _ c2;have r3:=hR _ _ c3;have r4:=hR _ _ c4;have s0:=hR _ _ e0;have s1:=hR _ _ e1;have s2':=hR _ _ e2;have s3:=hR _ _ e3;have s4:=hR _ _ e4;have HB:=Lh hb;clear hc c0 c1 c2 c3 c4 e0 e1 e2 e3 e4 hR hx hy hxp hyp hix hiy hbs;generalize cb _ _=C at *;by_cases hC:C<0
   ·have dC:decide ((0:Int)≤C)=false:=by simp;omega
    have hr:=Lh (hnx.out hC);clear hno hnx hC;go_wp2_with fail
    go_region_held3 (fun z=>Below w.heap.size w z)
     (((repeat' first|assumption|exact Below.refl _ _|exact Nat.le_refl _|apply kp_alloc|apply kp_set|apply Below.drew|omega);done))
     ((first
       | (go_at_call 96;refine(hcp.out _).mono ?_;rintro e w3 ⟨rfl,b3⟩;have k3:Below w.heap.size w w3:=kd9 b3)))
    all_goals
     go_wp2_with fail;go_roundw;case rel=>exact ⟨j+1,by go_num,by omega,hr.out,k3⟩
     case measure=>simp [intOf];omega
   ·have dC:decide ((0:Int)≤C)=true:=by simp;omega
    have hr:=Lh (decide_eq_false (hno.out hC));clear hno hnx hC;go_wp2_with fail
    go_region_held3 (fun z=>Below w.heap.size w z)
     (((repeat' first|assumption|exact Below.refl _ _|exact Nat.le_refl _|apply kp_alloc|apply kp_set|apply Below.drew|omega);done))
     ((first
       | (go_at_call 96;refine(hcp.out _).mono ?_;rintro e w3 ⟨rfl,b3⟩;have k3:Below w.heap.size w w3:=kd9 b3)))
    all_goals
     go_wp2_with fail;go_ret;exact⟨by rw[hr.out];rfl,k3⟩
  ·have hlen:(fms L).length=L.length:=by simp[fms]
   have hs:=Lh (decide_eq_true (strictT_adj tp_cmpF (l:=fms L) (fun i p q h1 h2=>by
    have:=(List.getElem?_eq_some_iff.1 h2).1;exact H.out i p q (by omega) h1 h2)))
   clear H hlen;go_wp2;go_ret;exact⟨by rw[hs.out];rfl,hb⟩
end Go.Proofs.YtbapneipjmpcbaaGreatDoor
namespace Go.Proofs.YtbapneipjmpcbaaGreatDoor
open Go.RowKit Dc
attribute [local go_sem ↓] Go.wp_at_zero Go.wp_at_succ
theorem bfit_calls (F:List Fs) (v:Value) (w:World) (hv:FmRow w v F) (hf:FmFew F) (hT:ShPl w) :
 Calls Tryz.prog 64 #[v] w fun e w'=>e = .returned (.bool ((fms F).all fun x=>famOk x.1 x.2))∧Below w.heap.size w w':=by
 have HP:=Lh hv.2;have hn:=hf.n;obtain⟨A,cap,rfl,hlc,hcm,hnil,hrow⟩:=hv.1;unfold maxLen at hcm;have HR:=Lh hrow;have HT:=Lh hT;have HF:=Lh hf;clear hrow hnil hv hT hf;go_enter Tryz.func64,Tryz.ntmps64;go_wp2_with fail;go_loopw [7] (fun v wr => ∃k:Nat,k≤F.length∧v = .int .i64 (k:Nat)∧Hid (∀m p,m<k→(fms F)[m]? = some p→famOk p.1 p.2=true)∧Below w.heap.size w wr) (fun v _=>F.length-(intOf v).toNat);case atStart=>exact ⟨0,Nat.zero_le _,rfl,fun m p hm=>absurd hm (by omega),Below.refl _ _⟩
 case round =>
  obtain⟨k,hk,rfl,H,hb⟩:=hrel;by_cases hkl:k<F.length
  ·obtain⟨b,off,rfl,hbs,hc⟩:=HR.out (by omega);obtain⟨x,hx,hxp⟩:=fs_get hkl;have hm:=List.mem_of_getElem? hx;have hix:=HP.out x hm;obtain⟨c0,c1,c2,c3,c4⟩:=fr_cells hc hx;have hcp:=Lh (fun W (hW:Below w.heap.size w W)=>fgood_calls x.hd x.L x.v W (hix.1.below hW) (HF.out.p x hm) hix.2 (shpl_below HT.out hW));have hno:=Lh (fun(h:famOk x.hd (pts x.L)=false)=>show ((fms F).all fun x=>famOk x.1 x.2)=false from List.all_eq_false.2 ⟨fm x,List.mem_of_getElem? hxp,by rw[show famOk (fm x).1 (fm x).2=famOk x.hd (pts x.L) from rfl,h];decide⟩);have hnx:=Lh (fun(h:famOk x.hd (pts x.L)=true)=>show ∀m p,m<k+1→(fms F)[m]? = some p→famOk p.1 p.2=true from fun m p hm h1=>by
    by_cases em:m=k
    ·subst em;rw[hxp] at h1;obtain rfl:=Option.some.inj h1;exact h
    ·exact H.out m p (by omega) h1)
   obtain⟨A1,n1,cap1,hx1⟩ : ∃A1 n1 cap1,x.v = .slice A1 n1 cap1:=by obtain⟨_,_,h,_⟩:=hix.1.1;exact⟨_,_,_,h⟩
   obtain⟨⟨xn,xk,xu,xh⟩,xv,xL⟩:=x;simp only at hx1;subst hx1;have hR : ∀o u,w.cell? ⟨b,o,none⟩=some u→wr.cell? ⟨b,o,none⟩=some u:=fun o u hu=>(hb.cell (p:=⟨b,o,none⟩) hbs).trans hu;simp only at c0 c1 c2 c3 c4 hcp hno hnx;have r0:=hR _ _ c0;have r1:=hR _ _ c1;have r2:=hR _ _ c2;have r3:=hR _ _ c3;have r4:=hR _ _ c4;have hk1:=Lh (kp_alloc hb (.cells #[.string (str xn),.int .i64 xk,.string (str xu),.string (str xh),.slice A1 n1 cap1] 51));generalize famOk _ _=C at *;clear hc c0 c1 c2 c3 c4 hR hx hxp hix hbs hb hm
   cases C with
   | true =>
     have hr:=Lh (hnx.out rfl);clear hno hnx;go_wp2_with fail;refine(hcp.out _ hk1.out).mono ?_;rintro e w1 ⟨rfl,b1⟩;have kB:=trans9 hk1.out b1;clear b1;go_wp2_with fail;go_roundw;case rel=>exact ⟨k+1,hkl,by go_num,hr.out,kB⟩
     case measure=>simp [intOf];omega
   | false =>
     have hr:=Lh (hno.out rfl);clear hno hnx;go_wp2_with fail;refine(hcp.out _ hk1.out).mono ?_;rintro e w1 ⟨rfl,b1⟩;have kB:=trans9 hk1.out b1;clear b1;go_wp2_with fail;go_ret;exact⟨by rw[hr.out];rfl,kB⟩
  ·have hlen:(fms F).length=F.length:=by simp[fms]
   have hs:=Lh (show((fms F).all fun x=>famOk x.1 x.2)=true from List.all_eq_true.2 (fun p hp=>by
    obtain⟨i,hi,rfl⟩:=List.getElem_of_mem hp;exact H.out i _ (by omega) (List.getElem?_eq_getElem hi)))
   clear H hlen;go_wp2;go_ret;exact⟨by rw[hs.out];rfl,hb⟩
structure BatAt (w:World) (b:Nat) (t:List UInt8) (v:Value):Prop where
 c0:w.cell? ⟨b,0,none⟩=some (.string (str t))
 c1:w.cell? ⟨b,1,none⟩=some v
 fr : ∀o,w.frozen? ⟨b,o,none⟩=false
 lt:b<w.heap.size
theorem BatAt.below {w w':World} {b:Nat} {t:List UInt8} {v:Value} (k:BatAt w b t v) (hb:Below w.heap.size w w'):BatAt w' b t v :=
 ⟨(hb.cell k.lt).trans k.c0,(hb.cell k.lt).trans k.c1,fun o=>(hb.frozen (p:=⟨b,o,none⟩) k.lt).trans (k.fr o),Nat.lt_of_lt_of_le k.lt hb.size⟩
theorem BatAt.new (w:World) (t:List UInt8) (v:Value) (ty:TypeId):BatAt (w.alloc (.cells #[.string (str t),v] ty)) w.heap.size t v :=
 ⟨by simp,by simp,fun o=>by simp,by simp⟩
theorem BatAt.belowB {w w':World} {b B:Nat} {t:List UInt8} {v:Value} (k:BatAt w b t v) (hb:Below B w w') (hlt:b<B):BatAt w' b t v:=by
 have e:=hb.block b hlt;exact⟨(World.cell?_of_block (a:=⟨b,0,none⟩) e).trans k.c0,(World.cell?_of_block (a:=⟨b,1,none⟩) e).trans k.c1,fun o=>(World.frozen?_of_block (a:=⟨b,o,none⟩) e).trans (k.fr o),Nat.lt_of_lt_of_le k.lt hb.size⟩
theorem chk_19 {t:List UInt8} {l:List Fp} (h:batOk t l=false):chk t l=19:=by unfold chk;rw[h];rfl
theorem chk_14 {t:List UInt8} {l:List Fp} (h:batOk t l=true) (h2:30<l.length∨120<nPts l):chk t l=14:=by unfold chk;rw[if_pos h,if_pos h2]
theorem bcheck_calls (t:List UInt8) (F:List Fs) (v:Value) (w:World) (hv:FmRow w v F) (hf:FmFew F) (ht:t.length≤maxLen) (hT:ShPl w) :
 Calls Tryz.prog 36 #[batv t v] w fun e w'=>e = .returned (.int .i64 (chk t (fms F)))∧Below w.heap.size w w':=by
 have k0:=kp_alloc (Below.refl w.heap.size w) (.cells #[.string (str t),v] 24);have F0:=BatAt.new w t v 24;have hN:=Lh (fun W=>ten_calls t W ht);have hF:=Lh (fun W (hW:Below w.heap.size w W)=>bfit_calls F v W (hv.below hW) hf (shpl_below hT hW));have hA:=Lh (fun W (hW:Below w.heap.size w W)=>bascend_calls F v W (hv.below hW) hf.n);have hP:=Lh (fun W (hW:Below w.heap.size w W)=>bpoints_calls t F v W (hv.below hW) hf);obtain⟨X,hX⟩ : ∃X,X=chk t (fms F):=⟨_,rfl⟩
 rw[←hX];have hlen:(fms F).length=F.length:=by simp[fms]
 have hbo:batOk t (fms F)=(tenOk t&&(fms F).all (fun x=>famOk x.1 x.2)&&decide (StrictT cmpF (fms F))):=rfl;have e19:=Lh (fun h=>hX.trans (chk_19 h));have e14:=Lh (fun h h2=>hX.trans (chk_14 h h2));have e0:=Lh (fun h h2 h3=>hX.trans (chk_is h h2 h3));rw[hbo,hlen] at e14 e0;rw[hbo] at e19;clear hX hbo hlen;generalize tenOk t=b1 at *;generalize ((fms F).all fun x=>famOk x.1 x.2)=b2 at *;generalize decide (StrictT cmpF (fms F))=b3 at *;generalize nPts (fms F)=np at *;obtain⟨A,cap,hv1⟩ : ∃A cap,v = .slice A F.length cap:=by obtain⟨A,cap,h,_⟩:=hv.1;exact⟨A,cap,h⟩
 subst hv1;generalize F.length=len at *;have K0:=Lh k0;have HF0:=Lh F0;clear hv hT hf k0 F0 ht;go_enter Tryz.func36,Tryz.ntmps36;go_wp2_with fail;refine(hN.out _).mono ?_;rintro e w99 ⟨rfl,rfl⟩
 cases b1 with
 | false =>
   go_wp2;go_ret;exact⟨by rw[e19.out (by first|rfl|trivial|simp)];rfl,K0.out⟩
 | true =>
   go_wp2_with fail;refine(hF.out _ K0.out).mono ?_;rintro e w2 ⟨rfl,c2⟩;have K2:=Lh (trans9 K0.out c2);have HF2:=Lh (HF0.out.below c2);obtain⟨x20,x21,_,_⟩:=HF2.out;clear c2
   cases b2 with
   | false =>
     go_wp2;go_ret;exact⟨by rw[e19.out (by first|rfl|trivial|simp)];rfl,K2.out⟩
   | true =>
     go_wp2_with fail;refine(hA.out _ K2.out).mono ?_;rintro e w3 ⟨rfl,c3⟩;have K3:=Lh (trans9 K2.out c3);have HF3:=Lh (HF2.out.below c3);clear x20 x21;obtain⟨x30,x31,_,_⟩:=HF3.out;clear c3
     cases b3 with
     | false =>
       go_wp2;go_ret;exact⟨by rw[e19.out (by first|rfl|trivial|simp)];rfl,K3.out⟩
     | true =>
       by_cases h30:(30:Int)<(len:Int)
       ·have d30:decide ((30:Int)<(len:Int))=true:=decide_eq_true h30;have d30':decide (30<len)=true:=by simp;omega
        have hr:=Lh (e14.out (by first|rfl|trivial|simp) (Or.inl (by omega)));clear h30;go_wp2;go_ret;exact⟨by rw[hr.out];rfl,K3.out⟩
       ·have d30:decide ((30:Int)<(len:Int))=false:=decide_eq_false h30;have d30':decide (30<len)=false:=by simp;omega
        have h30n:len≤30:=by omega
        clear h30;have H30:=Lh h30n;clear h30n;go_wp2_with fail;refine(hP.out _ K3.out).mono ?_;rintro e w4 ⟨rfl,c4⟩;have K4:=Lh (trans9 K3.out c4);have HF4:=Lh (HF3.out.below c4);clear x30 x31;obtain⟨x40,x41,_,_⟩:=HF4.out;clear c4;by_cases h120:(120:Int)<(np:Int)
        ·have d120:decide ((120:Int)<(np:Int))=true:=decide_eq_true h120;have d120':decide (120<np)=true:=by simp;omega
         have hr:=Lh (e14.out (by first|rfl|trivial|simp) (Or.inr (by omega)));clear h120;go_wp2;go_ret;exact⟨by rw[hr.out];rfl,K4.out⟩
        ·have d120:decide ((120:Int)<(np:Int))=false:=decide_eq_false h120;have d120':decide (120<np)=false:=by simp;omega
         have hr:=Lh (e0.out (by first|rfl|trivial|simp) H30.out (by omega));clear h120;go_wp2;go_ret;exact⟨by rw[hr.out];rfl,K4.out⟩
end Go.Proofs.YtbapneipjmpcbaaGreatDoor
namespace Go.Proofs.YtbapneipjmpcbaaGreatDoor
open Go.RowKit Go.Sort Go.Shelf Dc
attribute [local go_sem ↓] Go.wp_at_zero Go.wp_at_succ
theorem BatAt.setOther {w:World} {b c i:Nat} {t:List UInt8} {v u:Value} (k:BatAt w b t v) (hne:b≠c):BatAt (w.setCell ⟨c,i,none⟩ u) b t v:=by
 have e:(w.setCell ⟨c,i,none⟩ u).heap[b]? = w.heap[b]?:=Below.heap_setCell _ _ _ _ hne;exact⟨(World.cell?_of_block (a:=⟨b,0,none⟩) e).trans k.c0,(World.cell?_of_block (a:=⟨b,1,none⟩) e).trans k.c1,fun o=>(World.frozen?_of_block (a:=⟨b,o,none⟩) e).trans (k.fr o),by simpa[World.setCell] using k.lt⟩
def tO (o:Option (List Fp)) (t:List UInt8):List UInt8:=match o with|some _=>t|none=>[]
def BSortP (z:Nat) (t:List UInt8) (o:Option (List Fp)) (e:Ending) (w':World):Prop :=
 ∃A n cap M,e = .returned (.tuple #[batv (tO o t) (.slice A n cap),.bool o.isSome])∧FmKeep w' z (.slice A n cap) M∧fms M=o.getD []
theorem BSortP.yes {z:Nat} {t:List UInt8} {o:Option (List Fp)} {e:Ending} {w':World} {M:List Fs} {v:Value} (h1:o=some (fms M)) (h2:e = .returned (.tuple #[batv t v,.bool true])) (h3:FmKeep w' z v M):BSortP z t o e w':=by
 obtain⟨A,cap,rfl,_⟩:=h3.row.1;subst h1;exact⟨A,_,cap,M,h2,h3,rfl⟩
theorem BSortP.no {z:Nat} {t:List UInt8} {o:Option (List Fp)} {e:Ending} {w':World} (h1:o=none) (h2:e = .returned (.tuple #[batv [] (.slice none 0 0),.bool false])):BSortP z t o e w':=by
 subst h1;exact⟨none,0,0,[],h2,FmKeep.nil _ _,rfl⟩
end Go.Proofs.YtbapneipjmpcbaaGreatDoor
namespace Go.Proofs.YtbapneipjmpcbaaGreatDoor
open Go.RowKit Go.Sort Dc
attribute [local go_sem ↓] Go.wp_at_zero Go.wp_at_succ
theorem PtMine.keep {w:World} {base:Nat} {v:Value} {L:List Ps} (h:PtMine w base v L):PtKeep w base v L:=fun X h1 h2=>by
 have hm:PtMine X base v L:=by
  refine⟨⟨h.own.1,?_⟩,fun g hg x hx=>(h.far g hg x hx).other (fun b hb hgb=>h1 b hb (by have:=own_ge h.own g hg;omega)) h2,h.inn⟩;rcases h.own.2 with k|⟨g,cap,cur,rfl,hg,hc,k⟩
  ·exact Or.inl k
  ·exact Or.inr ⟨g,cap,cur,rfl,hg,by rw[h1 g (Array.getElem?_eq_some_iff.1 hc).1 hg];exact hc,k⟩
 exact hm.row
theorem FmMine.keep {w:World} {base:Nat} {v:Value} {F:List Fs} (h:FmMine w base v F):FmKeep w base v F:=fun X h1 h2=>by
 have hm:FmMine X base v F:=by
  refine⟨⟨h.own.1,?_⟩,fun g hg x hx=>⟨fun Y k1 k2=>(h.far g hg x hx).1 Y (fun b hb hgb=>(k1 b (Nat.lt_of_lt_of_le hb h2) hgb).trans (h1 b hb (by have:=own_ge h.own g hg;omega))) (Nat.le_trans h2 k2),(h.far g hg x hx).2⟩⟩;rcases h.own.2 with k|⟨g,cap,cur,rfl,hg,hc,k⟩
  ·exact Or.inl k
  ·exact Or.inr ⟨g,cap,cur,rfl,hg,by rw[h1 g (Array.getElem?_eq_some_iff.1 hc).1 hg];exact hc,k⟩
 exact hm.row
theorem Cop.done {w wr:World} {g cap:Nat} {L M:List Ps} (h:Cop w wr g cap L.length L M) (hin : ∀x∈L,PtIn x.2):PtMine wr w.heap.size (.slice (some ⟨g,0,none⟩) L.length cap) M:=by
 refine⟨by have k:=h.own;rw[h.len] at k;exact k,fun g' hg' x hx => ?_,fun x hx => ?_⟩
 ·cases hg'
  obtain⟨i,hi,rfl⟩:=List.getElem_of_mem hx;exact h.far i _ (by rw[←h.len];exact hi) (List.getElem?_eq_getElem hi)
 ·have:x.2∈pts L:=by rw[←h.same];exact List.mem_map_of_mem hx
  obtain⟨y,hy,he⟩:=List.mem_map.1 this;rw[←he];exact hin y hy
theorem Sor.step1 {w wr w2:World} {g cap k:Nat} {F M:List Fs} {x:Fs} {lv:Value} {L':List Ps} (h:Sor w wr g cap k F M) (hk:k<F.length) (hx:F[k]? = some x) (hin:HdIn x.hd) (hb:Below wr.heap.size wr w2) (hl:PtKeep w2 wr.heap.size lv L') (hp:pts L'=pts x.L) :
 Sor w (w2.setCell ⟨g,k*5+4,none⟩ lv) g cap (k+1) F (M.set k ⟨x.hd,lv,L'⟩):=by
 obtain⟨hg,hwg,_⟩:=h.free;have hM:M[k]? = some x:=by rw[h.old k (Nat.le_refl _)];exact hx
 have hbel:Below w.heap.size w w2:=kb_call h.bel (Nat.le_refl _) hb;have o4:=KOwn.set (j:=4) (y:=⟨x.hd,lv,L'⟩) (u:=lv) encF_len (h.own.below hb) hM (by omega) rfl;refine⟨by rw[List.length_set];exact h.len,?_,by simpa using o4,?_,?_,hbel.setCell hwg _⟩
 ·rw[←h.same];apply List.ext_getElem?;intro i;unfold fms;rw[List.getElem?_map,List.getElem?_map,List.getElem?_set];split
  ·rename_i hik;subst hik;rw[if_pos (List.getElem?_eq_some_iff.1 hM).1,hM];simp only[Option.map_some,fm,hp]
  ·rfl
 ·intro i y hi hy;rw[List.getElem?_set] at hy;split at hy
  ·rename_i hik;split at hy
   ·obtain rfl:=Option.some.inj hy;exact⟨(hl.mono (base':=g+1) (by omega)).setOld (by omega),hin⟩
   ·cases hy
  ·have:=h.far i y (by omega) hy;exact⟨(this.1.below hb).setOld (by omega),this.2⟩
 ·intro i hi;rw[List.getElem?_set,if_neg (by omega)];exact h.old i (by omega)
theorem bcopied_calls (F:List Fs) (v:Value) (w:World) (hv:FmRow w v F) (hf:FmFew F) :
 Calls Tryz.prog 61 #[v] w fun e w' => ∃v' M,e = .returned v'∧Below w.heap.size w w'∧FmMine w' w.heap.size v' M∧fms M=fms F:=by
 have hcl:=Lh (fclone_calls F v w hv hf.n);have hin:=hv.2;have hn:=hf.n;clear hv;go_enter Tryz.func61,Tryz.ntmps61;go_wp2_with fail;refine hcl.out.mono ?_;rintro e w1 ⟨v1,rfl,b1,own⟩;have own2:=own;rcases own2.2 with ⟨rfl,h0⟩|⟨g,cap,cur,rfl,hg,_⟩
 ·obtain rfl:F=[]:=List.eq_nil_of_length_eq_zero h0;have B1:=Lh b1;clear own own2 b1 hin hf hn;go_wp2;refine wp_loop_rounds 1 ?_;rw[rounds_succ];go_wp2;go_ret;exact⟨_,[],rfl,B1.out,FmMine.nil _ _,rfl⟩
 ·have hcop:Sor w w1 g cap 0 F F:=⟨rfl,rfl,own,fun i x hi=>absurd hi (by omega),fun i _=>rfl,b1⟩
  have HC:=Lh hcop;have HI:=Lh hin;have HF:=Lh hf;clear own own2 b1 hin hf hg hcop;go_wp2_with fail;go_loopw [11] (fun v wr => ∃k:Nat,k≤F.length∧v = .int .i64 (k:Nat) ∧ ∃M,Sor w wr g cap k F M) (fun v _=>F.length-(intOf v).toNat);case atStart=>exact ⟨0,Nat.zero_le _,rfl,F,HC.out⟩
  case round =>
   obtain⟨k,hk,rfl,M,hc⟩:=hrel;by_cases hkl:k<F.length
   ·obtain⟨x,hx,_⟩:=fs_get hkl;obtain⟨_,_,_,_,c4⟩:=hc.cell hkl hx;obtain⟨hgl,hwg,hfr⟩:=hc.free;have hm:=List.mem_of_getElem? hx;have hix:=HI.out x hm;have hpin:=Lh (fun y hy=>(hix.1.2 y hy).2);have hrow:=Lh (hix.1.2);have hcp:=Lh (pclone_calls x.L x.v wr (hix.1.below hc.bel) (HF.out.p x hm));have hpl:=HF.out.p x hm;have hll:=Lh (HF.out.l x hm);have hst:=Lh (fun w2 lv L' hb hl hp=>hc.step1 (w2:=w2) (lv:=lv) (L':=L') hkl hx hix.2 hb hl hp);have HCB:=Lh hc.bel;obtain⟨A1,n1,cap1,hx1⟩ : ∃A1 n1 cap1,x.v = .slice A1 n1 cap1:=by obtain⟨A,cap,he,_⟩:=hix.1.1;exact⟨A,_,cap,he⟩
    obtain⟨⟨n,kk,u,h⟩,xv,L⟩:=x;simp only at hx1;subst hx1;simp only at c4 hpl;have F4:=hfr (k*5+4);clear hc hm hx hix hfr;go_wp2_with fail;refine hcp.out.mono ?_;rintro e w2 ⟨v2,rfl,b2,own⟩;have hgl2:g<w2.heap.size:=Nat.lt_of_lt_of_le hgl b2.size;have own2:=own;rcases own2.2 with ⟨rfl,h0⟩|⟨g2,cap2,cur2,rfl,hg2,_⟩
    ·obtain rfl:L=[]:=List.eq_nil_of_length_eq_zero h0;have d4:=(b2.cell (p:=⟨g,k*5+4,none⟩) hgl).trans c4;have e4:w2.frozen? ⟨g,k*5+4,none⟩=false:=(b2.frozen (p:=⟨g,k*5+4,none⟩) hgl).trans F4;have hfin:=Lh (hst.out w2 (.slice none 0 0) [] b2 (PtMine.nil _ _).keep rfl);clear b2 own own2 hst hcp c4 F4 hpin hrow hll;go_wp2;refine wp_loop_rounds 1 ?_;rw[rounds_succ];go_wp2_with fail;go_roundw;case rel=>exact ⟨k+1,hkl,by go_num,_,hfin.out⟩
     case measure=>simp [intOf];omega
    ·have hc2:Cop wr w2 g2 cap2 0 L L:=⟨rfl,rfl,own,fun i x hi=>absurd hi (by omega),fun i _=>rfl,b2⟩
     have HC2:=Lh hc2;clear own own2 b2 hc2 hcp;go_wp2_with fail;go_loopw [22] (fun v wz => ∃k:Nat,k≤L.length∧v = .int .i64 (k:Nat) ∧ ∃M,Cop wr wz g2 cap2 k L M) (fun v _=>L.length-(intOf v).toNat);case atStart=>exact ⟨0,Nat.zero_le _,rfl,L,HC2.out⟩
     case round =>
      obtain⟨j,hj,rfl,M2,hc⟩:=hrel;by_cases hjl:j<L.length
      ·obtain⟨y,hy,_⟩:=ps_get hjl;have c0:=hc.cell hjl hy;obtain⟨hgl3,hwg3,hfr⟩:=hc.free;have hm:=List.mem_of_getElem? hy;have hlb:=Lh (clone_calls y.2.l y.1 _ (((hrow.out y hm).1.below HCB.out).below hc.bel) (hll.out y hm));have hst2:=Lh (fun w2 lv hb hl=>hc.step (w2:=w2) (lv:=lv) hjl hy hb hl);clear hc hm;generalize y.1=lv0 at *;generalize y.2.l=ll at *;clear hy;go_wp2_with fail;refine hlb.out.mono ?_;rintro e w3 ⟨lv,rfl,b3,hown⟩;have hgl4:g2<w3.heap.size:=Nat.lt_of_lt_of_le hgl3 b3.size;have c2:=(b3.cell (p:=⟨g2,j*9,none⟩) hgl3).trans c0;have f2:w3.frozen? ⟨g2,j*9,none⟩=false:=(b3.frozen (p:=⟨g2,j*9,none⟩) hgl3).trans (hfr _);have hfin:=Lh (hst2.out w3 lv b3 hown);obtain⟨A2,cap3,rfl,_⟩:=LbOwn.row hown;clear b3 hown hst2 hlb c0 hfr;go_wp2_with fail;go_roundw;case rel=>exact ⟨j+1,hjl,by go_num,_,hfin.out⟩
       case measure=>simp [intOf];omega
      ·obtain rfl:j=L.length:=by omega
       have hdn:=hc.done hpin.out;have b3:=hc.bel;have d4:=(b3.cell (p:=⟨g,k*5+4,none⟩) hgl).trans c4;have e4:=(b3.frozen (p:=⟨g,k*5+4,none⟩) hgl).trans F4;have hgl4:=Nat.lt_of_lt_of_le hgl b3.size;have hfin:=Lh (hst.out _ (.slice (some ⟨g2,0,none⟩) L.length cap2) M2 b3 hdn.keep hc.same);clear hc hdn b3 hst c4 F4;go_wp2;go_roundw;case rel=>exact ⟨k+1,hkl,by go_num,_,hfin.out⟩
       case measure=>simp [intOf];omega
   ·have hkn:k=F.length:=by omega
    subst hkn;have hd:=Lh hc.done;go_wp2;go_ret;exact⟨_,M,rfl,hc.bel,hd.out,hc.same⟩
theorem stamp_calls (t s:List UInt8) (F:List Fs) (v:Value) (w:World) (hv:FmRow w v F) (hf:FmFew F) :
 Calls Tryz.prog 34 #[batv t v,.string (str s)] w fun e w'=>(∃A n cap M,e = .returned (batv s (.slice A n cap))∧FmKeep w' w.heap.size (.slice A n cap) M∧fms M=fms F)∧Below w.heap.size w w':=by
 have k0:=kp_alloc (kp_alloc (Below.refl w.heap.size w) (.cells #[.string (str t),v] 24)) (.cells #[.string ⟨#[]⟩,.slice none 0 0] 24);have G0:=BatAt.new (w.alloc (.cells #[.string (str t),v] 24)) [] (.slice none 0 0) 24;rw[show(w.alloc (.cells #[.string (str t),v] 24)).heap.size=w.heap.size+1 by simp] at G0;have hcp:=Lh (bcopied_calls F v _ (hv.below k0) hf);have hz0:((w.alloc (.cells #[.string (str t),v] 24)).alloc (.cells #[.string ⟨#[]⟩,.slice none 0 0] 24)).heap.size=w.heap.size+2:=by simp
 have HZ0:=Lh hz0;obtain⟨A,n,cap,hv1⟩ : ∃A n cap,v = .slice A n cap:=by obtain⟨A,cap,he,_⟩:=hv.1;exact⟨A,_,cap,he⟩
 subst hv1;have K0:=Lh k0;have HG:=Lh G0;clear G0 k0 hv hf hz0;go_enter Tryz.func34,Tryz.ntmps34;go_wp2_with fail;refine hcp.out.mono ?_;rintro e w1 ⟨v1,M,rfl,b1,mine,hsame⟩;have keep:FmKeep w1 (w.heap.size+2) v1 M:=by have h:=mine.keep;rw[HZ0.out] at h;exact h
 obtain⟨y0,y1,yf,yl⟩:=HG.out.below b1;have B1:=Lh (trans9 K0.out b1);have HK:=Lh keep;have HS:=Lh hsame;obtain⟨A1,n1,cap1,hv1⟩ : ∃A1 n1 cap1,v1 = .slice A1 n1 cap1:=by obtain⟨A1,cap1,he,_⟩:=keep.row.1;exact⟨A1,_,cap1,he⟩
 subst hv1;clear b1 mine hsame keep hcp HZ0;go_wp2;refine bodyPost_ret (v := .agg #[.string (str s),.slice A1 n1 cap1]) (by simp[results,Tryz.results34,go_sem,y0,y1]) rfl ⟨⟨A1,n1,cap1,M,rfl,?_,HS.out⟩,?_⟩
 ·exact((HK.out.setOld (by omega)).setOld (by omega)).mono (by omega)
 ·exact(B1.out.setCell (by show w.heap.size≤w.heap.size+1;omega) _).setCell (by show w.heap.size≤w.heap.size+1;omega) _
def Chg (c:Nat) (w w':World):Prop:=w.heap.size≤w'.heap.size ∧ ∀b,b<w.heap.size→b≠c→w'.heap[b]? = w.heap[b]?
theorem Chg.below {c:Nat} {w w':World} (h:Below w.heap.size w w'):Chg c w w':=⟨h.size,fun b hb _=>h.block b hb⟩
theorem Chg.set (c i:Nat) (w:World) (u:Value):Chg c w (w.setCell ⟨c,i,none⟩ u):=⟨by simp[World.setCell],fun b _ hne=>Below.heap_setCell _ _ _ _ (by show b≠c;exact hne)⟩
theorem Chg.trans {c:Nat} {w w' w2:World} (h:Chg c w w') (k:Chg c w' w2):Chg c w w2:=⟨Nat.le_trans h.1 k.1,fun b hb hne=>(k.2 b (Nat.lt_of_lt_of_le hb h.1) hne).trans (h.2 b hb hne)⟩
theorem ownsRow_chg {w w':World} {c base e size n:Nat} {v:Value} {xs:List Value} (h:w.ownsRow base e size v n xs) (k:Chg c w w') (hc:v.ownBlock≠some c):w'.ownsRow base e size v n xs:=by
 have hlt:=own_lt h;obtain⟨hl,h⟩:=h;refine⟨hl,?_⟩;rcases h with h|⟨g,cap,cur,rfl,hg,hcc,h2⟩
 ·exact Or.inl h
 ·exact Or.inr ⟨g,cap,cur,rfl,hg,by rw[k.2 g (hlt g rfl) (fun e=>hc (by rw[←e];rfl))];exact hcc,h2⟩
theorem lbOwn_mono {w:World} {base base':Nat} {v:Value} {l:List Lb} (h:LbOwn w base v l) (hb:base'≤base):LbOwn w base' v l:=by
 obtain⟨hl,h⟩:=h;refine⟨hl,?_⟩;rcases h with h|⟨g,cap,cur,rfl,hg,h2⟩
 ·exact Or.inl h
 ·exact Or.inr ⟨g,cap,cur,rfl,by omega,h2⟩
structure LbIn (w:World) (lo hi:Nat) (v:Value) (l:List Lb):Prop where
 own:LbOwn w lo v l
 top : ∀g,v.ownBlock=some g→g<hi
theorem LbIn.chg {w w':World} {c lo hi:Nat} {v:Value} {l:List Lb} (h:LbIn w lo hi v l) (k:Chg c w w') (hc:c<lo∨hi≤c):LbIn w' lo hi v l :=
 ⟨ownsRow_chg h.own k fun e=>by have:=own_ge h.own c e;have:=h.top c e;omega,h.top⟩
theorem LbIn.below {w w':World} {lo hi:Nat} {v:Value} {l:List Lb} (h:LbIn w lo hi v l) (hb:Below w.heap.size w w'):LbIn w' lo hi v l:=⟨own_below h.own hb,h.top⟩
def Rise (bd:Nat→Nat):Prop := ∀a b,a≤b→bd a≤bd b
structure PtDeep (w:World) (lo hi:Nat) (v:Value) (L:List Ps):Prop where
 own:PtOwn w lo v L
 le:lo≤hi
 inn : ∀x∈L,PtIn x.2
 lab : ∃bd,Rise bd∧lo≤bd 0∧(∀g,v.ownBlock=some g→g<bd 0)∧bd L.length≤hi ∧ ∀j y,L[j]? = some y→LbIn w (bd j) (bd (j+1)) y.1 y.2.l
theorem PtDeep.chg {w w':World} {c lo hi:Nat} {v:Value} {L:List Ps} (h:PtDeep w lo hi v L) (k:Chg c w w') (hc:c<lo∨hi≤c):PtDeep w' lo hi v L:=by
 obtain⟨bd,h1,h2,h3,h4,h5⟩:=h.lab;refine⟨ownsRow_chg h.own k fun e => ?_,h.le,h.inn,bd,h1,h2,h3,h4,fun j y hy=>(h5 j y hy).chg k ?_⟩
 ·have a1:=own_ge h.own c e;have a2:=h3 c e;have a3:=h1 0 L.length (Nat.zero_le _);omega
 ·have hj:=(List.getElem?_eq_some_iff.1 hy).1;have a1:=h1 0 j (Nat.zero_le _);have a2:=h1 (j+1) L.length hj;omega
theorem PtDeep.below {w w':World} {lo hi:Nat} {v:Value} {L:List Ps} (h:PtDeep w lo hi v L) (hb:Below w.heap.size w w'):PtDeep w' lo hi v L:=by
 obtain⟨bd,h1,h2,h3,h4,h5⟩:=h.lab;exact⟨own_below h.own hb,h.le,h.inn,bd,h1,h2,h3,h4,fun j y hy=>(h5 j y hy).below hb⟩
theorem PtDeep.nil (w:World) (lo hi:Nat) (h:lo≤hi:=by omega):PtDeep w lo hi (.slice none 0 0) []:=⟨KOwn.nil _ _ _ _ _,h,fun x hx=>(by cases hx),fun _=>lo,fun _ _ _=>Nat.le_refl _,Nat.le_refl _,fun g hg=>(by cases hg),h,fun j y hy=>(by cases hy)⟩
theorem PtDeep.up {w:World} {lo lo' hi hi':Nat} {v:Value} {L:List Ps} (h:PtDeep w lo hi v L) (h1:lo'≤lo) (h2:hi≤hi'):PtDeep w lo' hi' v L:=by
 obtain⟨bd,k1,k2,k3,k4,k5⟩:=h.lab;exact⟨KOwn.mono h.own h1,by have:=h.le;omega,h.inn,bd,k1,by omega,k3,by omega,k5⟩
structure FmDeep (w:World) (lo:Nat) (v:Value) (M:List Fs):Prop where
 own:FmOwn w lo v M
 hd : ∀x∈M,HdIn x.hd
 pts : ∃bd,Rise bd∧lo≤bd 0∧(∀g,v.ownBlock=some g→g<bd 0)∧bd M.length≤w.heap.size ∧ ∀i x,M[i]? = some x→PtDeep w (bd i) (bd (i+1)) x.v x.L
theorem FmDeep.nil (w:World) (lo:Nat) (h:lo≤w.heap.size:=by omega):FmDeep w lo (.slice none 0 0) []:=⟨KOwn.nil _ _ _ _ _,fun x hx=>(by cases hx),fun _=>lo,fun _ _ _=>Nat.le_refl _,Nat.le_refl _,fun g hg=>(by cases hg),h,fun j y hy=>(by cases hy)⟩
theorem FmDeep.chg {w w':World} {c lo:Nat} {v:Value} {M:List Fs} (h:FmDeep w lo v M) (k:Chg c w w') (hc:c<lo∨w.heap.size≤c):FmDeep w' lo v M:=by
 obtain⟨bd,h1,h2,h3,h4,h5⟩:=h.pts;refine⟨ownsRow_chg h.own k fun e => ?_,h.hd,bd,h1,h2,h3,Nat.le_trans h4 k.1,fun j y hy=>(h5 j y hy).chg k ?_⟩
 ·have a1:=own_ge h.own c e;have a2:=own_lt h.own c e;omega
 ·have hj:=(List.getElem?_eq_some_iff.1 hy).1;have a1:=h1 0 j (Nat.zero_le _);have a2:=h1 (j+1) M.length hj;omega
theorem FmDeep.below {w w':World} {lo:Nat} {v:Value} {M:List Fs} (h:FmDeep w lo v M) (hb:Below w.heap.size w w'):FmDeep w' lo v M:=h.chg (Chg.below hb) (Or.inr (Nat.le_refl _))
theorem FmDeep.setOld {w:World} {lo b i:Nat} {u v:Value} {M:List Fs} (h:FmDeep w lo v M) (hb:b<lo):FmDeep (w.setCell ⟨b,i,none⟩ u) lo v M:=h.chg (Chg.set b i w u) (Or.inl hb)
theorem FmDeep.mono {w:World} {lo lo':Nat} {v:Value} {M:List Fs} (h:FmDeep w lo v M) (hb:lo'≤lo):FmDeep w lo' v M:=by
 obtain⟨bd,h1,h2,h3,h4,h5⟩:=h.pts;exact⟨KOwn.mono h.own hb,h.hd,bd,h1,by omega,h3,h4,h5⟩
structure CopD (w wr:World) (g cap k:Nat) (L M:List Ps):Prop where
 len:M.length=L.length
 same:pts M=pts L
 own:PtOwn wr w.heap.size (.slice (some ⟨g,0,none⟩) M.length cap) M
 lab : ∃bd,Rise bd∧g<bd 0∧bd k≤wr.heap.size ∧ ∀j y,j<k→M[j]? = some y→LbIn wr (bd j) (bd (j+1)) y.1 y.2.l
 old : ∀i,k≤i→M[i]? = L[i]?
 bel:Below w.heap.size w wr
theorem CopD.start {w w2:World} {g cap:Nat} {L:List Ps} (own:PtOwn w2 w.heap.size (.slice (some ⟨g,0,none⟩) L.length cap) L) (b:Below w.heap.size w w2):CopD w w2 g cap 0 L L :=
 ⟨rfl,rfl,own,⟨fun _=>w2.heap.size,fun _ _ _=>Nat.le_refl _,own_lt own g rfl,Nat.le_refl _,fun j y hj=>absurd hj (by omega)⟩,fun i _=>rfl,b⟩
theorem CopD.cell {w wr:World} {g cap k:Nat} {L M:List Ps} (h:CopD w wr g cap k L M) {x:Ps} (hk:k<L.length) (hx:L[k]? = some x):wr.cell? ⟨g,k*9,none⟩=some x.1:=by
 obtain⟨A,cap',he,_,_,_,hr⟩:=KOwn.row encP_len h.own
 cases he
 obtain⟨b,off,he2,_,hc⟩:=hr (by rw[h.len];omega)
 cases he2
 have:=(pr_cells hc (show M[k]? = some x by rw[h.old k (Nat.le_refl _)];exact hx)).1;simpa using this
theorem CopD.free {w wr:World} {g cap k:Nat} {L M:List Ps} (h:CopD w wr g cap k L M):g<wr.heap.size∧w.heap.size≤g ∧ ∀o,wr.frozen? ⟨g,o,none⟩=false:=by
 obtain⟨_,h⟩:=h.own;rcases h with ⟨h,_⟩|⟨g',cap',cur,he,hb,hg,hn,hm,hs,ht⟩
 ·cases h
 ·cases he
  exact⟨(Array.getElem?_eq_some_iff.1 hg).1,hb,fun o=>by unfold World.frozen?;simp only;rw[hg];simp⟩
theorem rise_put {bd:Nat→Nat} (h:Rise bd) (k z:Nat) (hz:bd k≤z):Rise (fun i=>if i≤k then bd i else z):=fun a b hab=>by
 simp only;by_cases h1:b≤k
 ·rw[if_pos h1,if_pos (show a≤k by omega)];exact h a b hab
 ·rw[if_neg h1];by_cases h2:a≤k
  ·rw[if_pos h2];exact Nat.le_trans (h a k h2) hz
  ·rw[if_neg h2];exact Nat.le_refl _
theorem CopD.step {w wr w2:World} {g cap k:Nat} {L M:List Ps} {x:Ps} {lv:Value} (h:CopD w wr g cap k L M) (hk:k<L.length) (hx:L[k]? = some x) (hb:Below wr.heap.size wr w2) (hl:LbOwn w2 wr.heap.size lv x.2.l) :
 CopD w (w2.setCell ⟨g,k*9,none⟩ lv) g cap (k+1) L (M.set k (lv,x.2)):=by
 obtain⟨hg,hwg,_⟩:=h.free;have hM:M[k]? = some x:=by rw[h.old k (Nat.le_refl _)];exact hx
 have hbel:Below w.heap.size w w2:=kb_call h.bel (Nat.le_refl _) hb;have hsz:(w2.setCell ⟨g,k*9,none⟩ lv).heap.size=w2.heap.size:=by simp[World.setCell]
 obtain⟨bd,r1,r2,r3,r4⟩:=h.lab;refine⟨by rw[List.length_set];exact h.len,?_,?_,⟨fun i=>if i≤k then bd i else w2.heap.size,rise_put r1 k _ (Nat.le_trans r3 hb.size),by show g<if 0≤k then bd 0 else w2.heap.size;rw[if_pos (Nat.zero_le _)];exact r2,by show(if k+1≤k then bd (k+1) else w2.heap.size)≤_;rw[if_neg (by omega),hsz];exact Nat.le_refl _,?_⟩,?_,hbel.setCell hwg _⟩
 ·rw[←h.same];unfold Go.Proofs.YtbapneipjmpcbaaGreatDoor.pts;rw[List.map_set];obtain⟨hi,he⟩:=List.getElem?_eq_some_iff.1 hM;apply List.ext_getElem?;intro i;rw[List.getElem?_set];split
  ·rename_i hik;subst hik;rw[if_pos (by simpa using hi),List.getElem?_map,hM];rfl
  ·rfl
 ·have:=KOwn.set (j:=0) (y:=(lv,x.2)) (u:=lv) encP_len (h.own.below hb) hM (by omega) rfl;simpa using this
 ·intro j y hj hy;have hz:=r1 0 j (Nat.zero_le _);rw[List.getElem?_set] at hy;simp only;split at hy
  ·rename_i hik;subst hik;split at hy
   ·obtain rfl:=Option.some.inj hy;rw[if_pos (Nat.le_refl _),if_neg (by omega)];refine LbIn.chg (w:=w2) ⟨lbOwn_mono hl (by omega),own_lt hl⟩ (Chg.set g _ w2 lv) (Or.inl (by omega))
   ·cases hy
  ·rw[if_pos (show j≤k by omega),if_pos (show j+1≤k by omega)];exact((r4 j y (by omega) hy).below hb).chg (Chg.set g _ w2 lv) (Or.inl (by omega))
 ·intro i hi;rw[List.getElem?_set,if_neg (by omega)];exact h.old i (by omega)
theorem CopD.done {w wr:World} {g cap:Nat} {L M:List Ps} (h:CopD w wr g cap L.length L M) (hin : ∀x∈L,PtIn x.2):PtDeep wr w.heap.size wr.heap.size (.slice (some ⟨g,0,none⟩) L.length cap) M:=by
 obtain⟨hg,hwg,_⟩:=h.free;obtain⟨bd,r1,r2,r3,r4⟩:=h.lab;refine⟨by have k:=h.own;rw[h.len] at k;exact k,by omega,fun x hx => ?_,bd,r1,by omega,fun k hk=>by cases hk;exact r2,by rw[h.len];exact r3,fun j y hy=>r4 j y (by rw[←h.len];exact(List.getElem?_eq_some_iff.1 hy).1) hy⟩;have:x.2∈Go.Proofs.YtbapneipjmpcbaaGreatDoor.pts L:=by rw[←h.same];exact List.mem_map_of_mem hx
 obtain⟨y,hy,he⟩:=List.mem_map.1 this;rw[←he];exact hin y hy
structure SorD (w wr:World) (g cap k:Nat) (F M:List Fs):Prop where
 len:M.length=F.length
 same:fms M=fms F
 own:FmOwn wr w.heap.size (.slice (some ⟨g,0,none⟩) M.length cap) M
 far : ∃bd,Rise bd∧g<bd 0∧bd k≤wr.heap.size ∧ ∀j y,j<k→M[j]? = some y→PtDeep wr (bd j) (bd (j+1)) y.v y.L∧HdIn y.hd
 old : ∀i,k≤i→M[i]? = F[i]?
 bel:Below w.heap.size w wr
theorem SorD.start {w w2:World} {g cap:Nat} {F:List Fs} (own:FmOwn w2 w.heap.size (.slice (some ⟨g,0,none⟩) F.length cap) F) (b:Below w.heap.size w w2):SorD w w2 g cap 0 F F :=
 ⟨rfl,rfl,own,⟨fun _=>w2.heap.size,fun _ _ _=>Nat.le_refl _,own_lt own g rfl,Nat.le_refl _,fun j y hj=>absurd hj (by omega)⟩,fun i _=>rfl,b⟩
theorem SorD.cell {w wr:World} {g cap k:Nat} {F M:List Fs} (h:SorD w wr g cap k F M) {x:Fs} (hk:k<F.length) (hx:F[k]? = some x) :
 wr.cell? ⟨g,k*5,none⟩=some (.string (str x.hd.n))∧wr.cell? ⟨g,k*5+1,none⟩=some (.int .i64 x.hd.k)∧wr.cell? ⟨g,k*5+2,none⟩=some (.string (str x.hd.u)) ∧
 wr.cell? ⟨g,k*5+3,none⟩=some (.string (str x.hd.h))∧wr.cell? ⟨g,k*5+4,none⟩=some x.v:=by
 obtain⟨A,cap',he,_,_,_,hr⟩:=KOwn.row encF_len h.own
 cases he
 obtain⟨b,off,he2,_,hc⟩:=hr (by rw[h.len];omega)
 cases he2
 have:=fr_cells hc (show M[k]? = some x by rw[h.old k (Nat.le_refl _)];exact hx);simpa using this
theorem SorD.free {w wr:World} {g cap k:Nat} {F M:List Fs} (h:SorD w wr g cap k F M):g<wr.heap.size∧w.heap.size≤g ∧ ∀o,wr.frozen? ⟨g,o,none⟩=false:=by
 obtain⟨_,h⟩:=h.own;rcases h with ⟨h,_⟩|⟨g',cap',cur,he,hb,hg,hn,hm,hs,ht⟩
 ·cases h
 ·cases he
  exact⟨(Array.getElem?_eq_some_iff.1 hg).1,hb,fun o=>by unfold World.frozen?;simp only;rw[hg];simp⟩
theorem SorD.step {w wr w2:World} {g cap k:Nat} {F M:List Fs} {x:Fs} {lv:Value} {L':List Ps} (h:SorD w wr g cap k F M) (hk:k<F.length) (hx:F[k]? = some x) (hin:HdIn x.hd) (hb:Below wr.heap.size wr w2) (hl:PtDeep w2 wr.heap.size w2.heap.size lv L') (hp:Go.Proofs.YtbapneipjmpcbaaGreatDoor.pts L'=Go.Proofs.YtbapneipjmpcbaaGreatDoor.pts x.L) :
 SorD w (w2.setCell ⟨g,k*5+4,none⟩ lv) g cap (k+1) F (M.set k ⟨x.hd,lv,L'⟩):=by
 obtain⟨hg,hwg,_⟩:=h.free;have hM:M[k]? = some x:=by rw[h.old k (Nat.le_refl _)];exact hx
 have hbel:Below w.heap.size w w2:=kb_call h.bel (Nat.le_refl _) hb;have hsz:(w2.setCell ⟨g,k*5+4,none⟩ lv).heap.size=w2.heap.size:=by simp[World.setCell]
 obtain⟨bd,r1,r2,r3,r4⟩:=h.far;have o4:=KOwn.set (j:=4) (y:=⟨x.hd,lv,L'⟩) (u:=lv) encF_len (h.own.below hb) hM (by omega) rfl;refine⟨by rw[List.length_set];exact h.len,?_,by simpa using o4,⟨fun i=>if i≤k then bd i else w2.heap.size,rise_put r1 k _ (Nat.le_trans r3 hb.size),by show g<if 0≤k then bd 0 else w2.heap.size;rw[if_pos (Nat.zero_le _)];exact r2,by show(if k+1≤k then bd (k+1) else w2.heap.size)≤_;rw[if_neg (by omega),hsz];exact Nat.le_refl _,?_⟩,?_,hbel.setCell hwg _⟩
 ·rw[←h.same];apply List.ext_getElem?;intro i;unfold fms;rw[List.getElem?_map,List.getElem?_map,List.getElem?_set];split
  ·rename_i hik;subst hik;rw[if_pos (List.getElem?_eq_some_iff.1 hM).1,hM];simp only[Option.map_some,fm,hp]
  ·rfl
 ·intro j y hj hy;have hz:=r1 0 j (Nat.zero_le _);rw[List.getElem?_set] at hy;simp only;split at hy
  ·rename_i hik;subst hik;split at hy
   ·obtain rfl:=Option.some.inj hy;rw[if_pos (Nat.le_refl _),if_neg (by omega)];exact⟨(hl.chg (Chg.set g _ w2 lv) (Or.inl (by omega))).up (by omega) (Nat.le_refl _),hin⟩
   ·cases hy
  ·rw[if_pos (show j≤k by omega),if_pos (show j+1≤k by omega)];have:=r4 j y (by omega) hy;exact⟨(this.1.below hb).chg (Chg.set g _ w2 lv) (Or.inl (by omega)),this.2⟩
 ·intro i hi;rw[List.getElem?_set,if_neg (by omega)];exact h.old i (by omega)
theorem SorD.done {w wr:World} {g cap:Nat} {F M:List Fs} (h:SorD w wr g cap F.length F M):FmDeep wr w.heap.size (.slice (some ⟨g,0,none⟩) F.length cap) M:=by
 obtain⟨hg,hwg,_⟩:=h.free;obtain⟨bd,r1,r2,r3,r4⟩:=h.far;have lt : ∀i x,M[i]? = some x→i<F.length:=fun i x hx=>by rw[←h.len];exact(List.getElem?_eq_some_iff.1 hx).1
 refine⟨by have k:=h.own;rw[h.len] at k;exact k,fun x hx => ?_,bd,r1,by omega,fun k hk=>by cases hk;exact r2,by rw[h.len];exact r3,fun i x hx=>(r4 i x (lt i x hx) hx).1⟩;obtain⟨i,hi,rfl⟩:=List.getElem_of_mem hx;exact(r4 i _ (lt i _ (List.getElem?_eq_getElem hi)) (List.getElem?_eq_getElem hi)).2
theorem bcopiedd_calls (F:List Fs) (v:Value) (w:World) (hv:FmRow w v F) (hf:FmFew F) :
 Calls Tryz.prog 61 #[v] w fun e w' => ∃v' M,e = .returned v'∧Below w.heap.size w w'∧FmDeep w' w.heap.size v' M∧fms M=fms F:=by
 have hcl:=Lh (fclone_calls F v w hv hf.n);have hin:=hv.2;have hn:=hf.n;clear hv;go_enter Tryz.func61,Tryz.ntmps61;go_wp2_with fail;refine hcl.out.mono ?_;rintro e w1 ⟨v1,rfl,b1,own⟩;have own2:=own;rcases own2.2 with ⟨rfl,h0⟩|⟨g,cap,cur,rfl,hg,_⟩
 ·obtain rfl:F=[]:=List.eq_nil_of_length_eq_zero h0;have B1:=Lh b1;clear own own2 b1 hin hf hn;go_wp2;refine wp_loop_rounds 1 ?_;rw[rounds_succ];go_wp2;go_ret;exact⟨_,[],rfl,B1.out,FmDeep.nil _ _ B1.out.size,rfl⟩
 ·have hcop:SorD w w1 g cap 0 F F:=SorD.start own b1;have HC:=Lh hcop;have HI:=Lh hin;have HF:=Lh hf;clear own own2 b1 hin hf hg hcop;go_wp2_with fail;go_loopw [11] (fun v wr => ∃k:Nat,k≤F.length∧v = .int .i64 (k:Nat) ∧ ∃M,SorD w wr g cap k F M) (fun v _=>F.length-(intOf v).toNat);case atStart=>exact ⟨0,Nat.zero_le _,rfl,F,HC.out⟩
  case round =>
   obtain⟨k,hk,rfl,M,hc⟩:=hrel;by_cases hkl:k<F.length
   ·obtain⟨x,hx,_⟩:=fs_get hkl;obtain⟨_,_,_,_,c4⟩:=hc.cell hkl hx;obtain⟨hgl,hwg,hfr⟩:=hc.free;have hm:=List.mem_of_getElem? hx;have hix:=HI.out x hm;have hpin:=Lh (fun y hy=>(hix.1.2 y hy).2);have hrow:=Lh (hix.1.2);have hcp:=Lh (pclone_calls x.L x.v wr (hix.1.below hc.bel) (HF.out.p x hm));have hpl:=HF.out.p x hm;have hll:=Lh (HF.out.l x hm);have hst:=Lh (fun w2 lv L' hb hl hp=>hc.step (w2:=w2) (lv:=lv) (L':=L') hkl hx hix.2 hb hl hp);have HCB:=Lh hc.bel;obtain⟨A1,n1,cap1,hx1⟩ : ∃A1 n1 cap1,x.v = .slice A1 n1 cap1:=by obtain⟨A,cap,he,_⟩:=hix.1.1;exact⟨A,_,cap,he⟩
    obtain⟨⟨n,kk,u,h⟩,xv,L⟩:=x;simp only at hx1;subst hx1;simp only at c4 hpl;have F4:=hfr (k*5+4);clear hc hm hx hix hfr;go_wp2_with fail;refine hcp.out.mono ?_;rintro e w2 ⟨v2,rfl,b2,own⟩;have hgl2:g<w2.heap.size:=Nat.lt_of_lt_of_le hgl b2.size;have own2:=own;rcases own2.2 with ⟨rfl,h0⟩|⟨g2,cap2,cur2,rfl,hg2,_⟩
    ·obtain rfl:L=[]:=List.eq_nil_of_length_eq_zero h0;have d4:=(b2.cell (p:=⟨g,k*5+4,none⟩) hgl).trans c4;have e4:w2.frozen? ⟨g,k*5+4,none⟩=false:=(b2.frozen (p:=⟨g,k*5+4,none⟩) hgl).trans F4;have hfin:=Lh (hst.out w2 (.slice none 0 0) [] b2 (PtDeep.nil _ _ _ b2.size) rfl);clear b2 own own2 hst hcp c4 F4 hpin hrow hll;go_wp2;refine wp_loop_rounds 1 ?_;rw[rounds_succ];go_wp2_with fail;go_roundw;case rel=>exact ⟨k+1,hkl,by go_num,_,hfin.out⟩
     case measure=>simp [intOf];omega
    ·have hc2:CopD wr w2 g2 cap2 0 L L:=CopD.start own b2;have HC2:=Lh hc2;clear own own2 b2 hc2 hcp;go_wp2_with fail;go_loopw [22] (fun v wz => ∃k:Nat,k≤L.length∧v = .int .i64 (k:Nat) ∧ ∃M,CopD wr wz g2 cap2 k L M) (fun v _=>L.length-(intOf v).toNat);case atStart=>exact ⟨0,Nat.zero_le _,rfl,L,HC2.out⟩
     case round =>
      obtain⟨j,hj,rfl,M2,hc⟩:=hrel;by_cases hjl:j<L.length
      ·obtain⟨y,hy,_⟩:=ps_get hjl;have c0:=hc.cell hjl hy;obtain⟨hgl3,hwg3,hfr⟩:=hc.free;have hm:=List.mem_of_getElem? hy;have hlb:=Lh (clone_calls y.2.l y.1 _ (((hrow.out y hm).1.below HCB.out).below hc.bel) (hll.out y hm));have hst2:=Lh (fun w2 lv hb hl=>hc.step (w2:=w2) (lv:=lv) hjl hy hb hl);clear hc hm;generalize y.1=lv0 at *;generalize y.2.l=ll at *;clear hy;go_wp2_with fail;refine hlb.out.mono ?_;rintro e w3 ⟨lv,rfl,b3,hown⟩;have hgl4:g2<w3.heap.size:=Nat.lt_of_lt_of_le hgl3 b3.size;have c2:=(b3.cell (p:=⟨g2,j*9,none⟩) hgl3).trans c0;have f2:w3.frozen? ⟨g2,j*9,none⟩=false:=(b3.frozen (p:=⟨g2,j*9,none⟩) hgl3).trans (hfr _);have hfin:=Lh (hst2.out w3 lv b3 hown);obtain⟨A2,cap3,rfl,_⟩:=LbOwn.row hown;clear b3 hown hst2 hlb c0 hfr;go_wp2_with fail;go_roundw;case rel=>exact ⟨j+1,hjl,by go_num,_,hfin.out⟩
       case measure=>simp [intOf];omega
      ·obtain rfl:j=L.length:=by omega
       have hdn:=hc.done hpin.out;have b3:=hc.bel;have d4:=(b3.cell (p:=⟨g,k*5+4,none⟩) hgl).trans c4;have e4:=(b3.frozen (p:=⟨g,k*5+4,none⟩) hgl).trans F4;have hgl4:=Nat.lt_of_lt_of_le hgl b3.size;have hfin:=Lh (hst.out _ (.slice (some ⟨g2,0,none⟩) L.length cap2) M2 b3 hdn hc.same);clear hc hdn b3 hst c4 F4;go_wp2;go_roundw;case rel=>exact ⟨k+1,hkl,by go_num,_,hfin.out⟩
       case measure=>simp [intOf];omega
   ·have hkn:k=F.length:=by omega
    subst hkn;have hd:=Lh hc.done;go_wp2;go_ret;exact⟨_,M,rfl,hc.bel,hd.out,hc.same⟩
theorem stampd_calls (t s:List UInt8) (F:List Fs) (v:Value) (w:World) (hv:FmRow w v F) (hf:FmFew F) :
 Calls Tryz.prog 34 #[batv t v,.string (str s)] w fun e w'=>(∃A n cap M,e = .returned (batv s (.slice A n cap))∧FmDeep w' w.heap.size (.slice A n cap) M∧fms M=fms F)∧Below w.heap.size w w':=by
 have k0:=kp_alloc (kp_alloc (Below.refl w.heap.size w) (.cells #[.string (str t),v] 24)) (.cells #[.string ⟨#[]⟩,.slice none 0 0] 24);have G0:=BatAt.new (w.alloc (.cells #[.string (str t),v] 24)) [] (.slice none 0 0) 24;rw[show(w.alloc (.cells #[.string (str t),v] 24)).heap.size=w.heap.size+1 by simp] at G0;have hcp:=Lh (bcopiedd_calls F v _ (hv.below k0) hf);have hz0:((w.alloc (.cells #[.string (str t),v] 24)).alloc (.cells #[.string ⟨#[]⟩,.slice none 0 0] 24)).heap.size=w.heap.size+2:=by simp
 have HZ0:=Lh hz0;obtain⟨A,n,cap,hv1⟩ : ∃A n cap,v = .slice A n cap:=by obtain⟨A,cap,he,_⟩:=hv.1;exact⟨A,_,cap,he⟩
 subst hv1;have K0:=Lh k0;have HG:=Lh G0;clear G0 k0 hv hf hz0;go_enter Tryz.func34,Tryz.ntmps34;go_wp2_with fail;refine hcp.out.mono ?_;rintro e w1 ⟨v1,M,rfl,b1,mine,hsame⟩;have keep:FmDeep w1 (w.heap.size+2) v1 M:=by have h:=mine;rw[HZ0.out] at h;exact h
 obtain⟨y0,y1,yf,yl⟩:=HG.out.below b1;have B1:=Lh (trans9 K0.out b1);have HK:=Lh keep;have HS:=Lh hsame;obtain⟨A1,n1,cap1,hv1⟩ : ∃A1 n1 cap1,v1 = .slice A1 n1 cap1:=by obtain⟨A1,cap1,he,_⟩:=KOwn.row encF_len keep.own;exact⟨A1,_,cap1,he⟩
 subst hv1;clear b1 mine hsame keep hcp HZ0;go_wp2;refine bodyPost_ret (v := .agg #[.string (str s),.slice A1 n1 cap1]) (by simp[results,Tryz.results34,go_sem,y0,y1]) rfl ⟨⟨A1,n1,cap1,M,rfl,?_,HS.out⟩,?_⟩
 ·exact((HK.out.setOld (by omega)).setOld (by omega)).mono (by omega)
 ·exact(B1.out.setCell (by show w.heap.size≤w.heap.size+1;omega) _).setCell (by show w.heap.size≤w.heap.size+1;omega) _
end Go.Proofs.YtbapneipjmpcbaaGreatDoor
