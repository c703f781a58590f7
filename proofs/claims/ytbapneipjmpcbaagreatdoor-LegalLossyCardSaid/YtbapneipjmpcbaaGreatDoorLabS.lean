import Derived.Test.YtbapneipjmpcbaaGreatDoorChecked
import Derived.Shelf.SlSortCmp.WholeK
import Derived.Test.YtbapneipjmpcbaaGreatDoorFamX
import Derived.Test.YtbapneipjmpcbaaGreatDoorUlW
import Derived.Shelf.SlSortCmp.NoneTotal
set_option maxHeartbeats 16000000
set_option maxRecDepth 100000
set_option linter.unusedVariables false
set_option linter.unusedSimpArgs false
namespace Go.Proofs.YtbapneipjmpcbaaGreatDoor
open Go.Shelf
def sortLb_ren:Go.Shelf.Ren:=⟨fun|6=>92|15=>119|14=>121|28=>145|29=>146|20=>147|21=>148|22=>149|23=>150|24=>151|25=>152|26=>153|27=>154|46=>181|47=>176|48=>177|49=>182|50=>183|57=>206|n=>n,fun|22=>52|24=>58|25=>134|3=>3|39=>27|0=>0|53=>180|55=>171|4=>4|46=>174|45=>173|50=>131|5=>5|9=>9|66=>196|70=>200|76=>214|77=>215|n=>n,fun|n=>n⟩
theorem sortLb:SlLaysF0.n6 Tryz.prog sortLb_ren := {
 mixed:=by kernel_rfl,
 f6:=⟨Tryz.f92.name,by decide,Tryz.func92.trans (congrArg some (by kernel_rfl))⟩,
 f14:=⟨Tryz.f121.name,by decide,Tryz.func121.trans (congrArg some (by kernel_rfl))⟩,
 f15:=Tryz.func119.trans (congrArg some (by kernel_rfl)),
 f20:=⟨Tryz.f147.name,by decide,Tryz.func147.trans (congrArg some (by kernel_rfl))⟩,
 f21:=⟨Tryz.f148.name,by decide,Tryz.func148.trans (congrArg some (by kernel_rfl))⟩,
 f22:=⟨Tryz.f149.name,by decide,Tryz.func149.trans (congrArg some (by kernel_rfl))⟩,
 f23:=⟨Tryz.f150.name,by decide,Tryz.func150.trans (congrArg some (by kernel_rfl))⟩,
 f24:=⟨Tryz.f151.name,by decide,Tryz.func151.trans (congrArg some (by kernel_rfl))⟩,
 f25:=⟨Tryz.f152.name,by decide,Tryz.func152.trans (congrArg some (by kernel_rfl))⟩,
 f26:=⟨Tryz.f153.name,by decide,Tryz.func153.trans (congrArg some (by kernel_rfl))⟩,
 f27:=⟨Tryz.f154.name,by decide,Tryz.func154.trans (congrArg some (by kernel_rfl))⟩,
 f28:=Tryz.func145.trans (congrArg some (by kernel_rfl)),
 f29:=Tryz.func146.trans (congrArg some (by kernel_rfl)),
 f46:=⟨Tryz.f181.name,by decide,Tryz.func181.trans (congrArg some (by kernel_rfl))⟩,
 f47:=Tryz.func176.trans (congrArg some (by kernel_rfl)),
 f48:=Tryz.func177.trans (congrArg some (by kernel_rfl)),
 f49:=⟨Tryz.f182.name,by decide,Tryz.func182.trans (congrArg some (by kernel_rfl))⟩,
 f50:=⟨Tryz.f183.name,by decide,Tryz.func183.trans (congrArg some (by kernel_rfl))⟩,
 f57:=⟨Tryz.f206.name,by decide,Tryz.func206.trans (congrArg some (by kernel_rfl))⟩,
 t0:=Tryz.underlying0,
 a0:=Tryz.isAgg0,
 z0:=Tryz.sizeOf0,
 v0:=Tryz.zeroValue0,
 t3:=Tryz.underlying3,
 a3:=Tryz.isAgg3,
 z3:=Tryz.sizeOf3,
 v3:=Tryz.zeroValue3,
 t4:=Tryz.underlying4,
 a4:=Tryz.isAgg4,
 z4:=Tryz.sizeOf4,
 v4:=Tryz.zeroValue4,
 t5:=Tryz.underlying5,
 a5:=Tryz.isAgg5,
 z5:=Tryz.sizeOf5,
 v5:=Tryz.zeroValue5,
 t9:=Tryz.underlying9,
 a9:=Tryz.isAgg9,
 z9:=Tryz.sizeOf9,
 v9:=Tryz.zeroValue9,
 t22:=Tryz.underlying52,
 a22:=Tryz.isAgg52,
 z22:=Tryz.sizeOf52,
 v22:=Tryz.zeroValue52,
 t25:=Tryz.underlying134,
 a25:=Tryz.isAgg134,
 z25:=Tryz.sizeOf134,
 v25:=Tryz.zeroValue134,
 t39:=Tryz.underlying27,
 a39:=Tryz.isAgg27,
 z39:=Tryz.sizeOf27,
 v39:=Tryz.zeroValue27,
 t45:=Tryz.underlying173,
 a45:=Tryz.isAgg173,
 z45:=Tryz.sizeOf173,
 v45:=Tryz.zeroValue173,
 t46:=Tryz.underlying174,
 a46:=Tryz.isAgg174,
 z46:=Tryz.sizeOf174,
 v46:=Tryz.zeroValue174,
 t50:=Tryz.underlying131,
 a50:=Tryz.isAgg131,
 z50:=Tryz.sizeOf131,
 v50:=Tryz.zeroValue131,
 t53:=Tryz.underlying180,
 a53:=Tryz.isAgg180,
 z53:=Tryz.sizeOf180,
 v53:=Tryz.zeroValue180,
 t55:=Tryz.underlying171,
 a55:=Tryz.isAgg171,
 z55:=Tryz.sizeOf171,
 v55:=Tryz.zeroValue171,
 t66:=Tryz.underlying196,
 a66:=Tryz.isAgg196,
 z66:=Tryz.sizeOf196,
 v66:=Tryz.zeroValue196,
 t70:=Tryz.underlying200,
 a70:=Tryz.isAgg200,
 z70:=Tryz.sizeOf200,
 v70:=Tryz.zeroValue200,
 t76:=Tryz.underlying214,
 a76:=Tryz.isAgg214,
 z76:=Tryz.sizeOf214,
 v76:=Tryz.zeroValue214,
 t77:=Tryz.underlying215,
 a77:=Tryz.isAgg215,
 z77:=Tryz.sizeOf215,
 v77:=Tryz.zeroValue215}
end Go.Proofs.YtbapneipjmpcbaaGreatDoor
namespace Go.Proofs.YtbapneipjmpcbaaGreatDoor
open Go.RowKit Go.Sort Go.Shelf Go.Lib
def cfL (x y:Lb):Int:=cb x.1 y.1
theorem swoL:SWO (ltOf cfL) where
 irrefl x:=by unfold ltOf cfL;rw[cb_refl];rfl
 trans x y z h1 h2:=by
  unfold ltOf cfL at *;exact decide_eq_true (cb_trans _ _ _ (of_decide_eq_true h1) (of_decide_eq_true h2))
 ntrans x y z h1 h2:=by
  unfold ltOf cfL at *;have h1:=of_decide_eq_false h1;have h2:=of_decide_eq_false h2;apply decide_eq_false;have k1:cb y.1 x.1≤0:=by rw[cb_neg];omega
  have k2:cb z.1 y.1≤0:=by rw[cb_neg];omega
  have k3:=cb_le_trans k2 k1;rw[cb_neg] at k3;omega
abbrev Asc (D:List Lb):Prop := ∀i j,i<j→j<D.length→cb (lbAt D i).1 (lbAt D j).1≤0
theorem strict_of_adj {D:List Lb} (h:Asc D) (k : ∀j,j+1<D.length→cb (lbAt D j).1 (lbAt D (j+1)).1≠0):StrictS D:=by
 unfold StrictS;rw[List.pairwise_iff_getElem];intro i j hi hj hij;rw[←lbAt_of hi,←lbAt_of hj];obtain⟨m,rfl⟩ : ∃m,j=m+1:=⟨j-1,by omega⟩
 have a1:=k m hj;have a2:=h m (m+1) (by omega) hj;have a3:cb (lbAt D m).1 (lbAt D (m+1)).1<0:=by omega
 by_cases e:i=m
 ·subst e;exact a3
 ·have a4:=h i m (by omega) (by omega);rcases cb_range (lbAt D i).1 (lbAt D m).1 with b|b|b
  ·exact cb_trans _ _ _ (by omega) a3
  ·rw[cb_eq _ _ b];exact a3
  ·omega
theorem dup_of_adj {D:List Lb} {j:Nat} (h:j+1<D.length) (e:cb (lbAt D j).1 (lbAt D (j+1)).1=0) : ¬Nd D:=by
 intro n;unfold Nd at n;rw[List.nodup_iff_pairwise_ne,List.pairwise_map,List.pairwise_iff_getElem] at n;have:=n j (j+1) (by omega) h (by omega);rw[←lbAt_of (by omega),←lbAt_of h] at this;exact this (cb_eq _ _ e)
theorem at_arr (D:Array Lb) (i:Nat) (h:i<D.size):D[i]! = lbAt D.toList i:=by
 rw[getElem!_pos D i h,lbAt_of (by simpa using h)];simp
theorem asc_of {D:Array Lb} (h:SortedIn (ltOf cfL) 0 D.size D):Asc D.toList:=fun i j hij hj=>by
 have hj':j<D.size:=by simpa using hj
 have:=h i j (Nat.zero_le _) hij hj';unfold ltOf cfL at this;rw[at_arr D i (by omega),at_arr D j hj'] at this;have:=of_decide_eq_false this;rw[cb_neg] at this;omega
theorem perm_of {d D:Array Lb} (h:PermIn 0 d.size d D):D.toList.Perm d.toList:=by
 obtain⟨h1,_,h3⟩:=h;have e1:D.extract 0 d.size=D:=by rw[←h1];simp
 have e2:d.extract 0 d.size=d:=by simp
 rwa [e1,e2] at h3
theorem below_map {B:Nat} {a w:World} (h:Below B a w) (blk:Nat) (f:Array Value→Array Value) (hb:B≤blk):Below B a (mapBlock w blk f):=by
 refine⟨h.os,h.tape,h.output,?_,fun b hbB => ?_⟩
 ·have:=h.size;unfold mapBlock;simpa using this
 ·rw[←h.block b hbB];unfold mapBlock;simp only;rw[Array.getElem?_modify,if_neg (by omega)]
theorem below_sorted {B:Nat} {w:World} (g n:Nat) (D:Array Lb) (os:Array Obj) (hg:B≤g) (hB:B≤w.heap.size):Below B w (sortWorldK encL 2 w g 0 n D os):=by
 unfold sortWorldK;refine below_grow ?_ hB os;unfold putRowK putRow;refine below_map ?_ g _ hg;exact⟨rfl,rfl,rfl,Nat.le_refl _,fun _ _=>rfl⟩
theorem own_holds {w:World} {base g cap:Nat} {l:List Lb} (h:LbOwn w base (.slice (some ⟨g,0,none⟩) l.length cap) l):HoldsK encL 2 w g 0 l.toArray:=by
 obtain⟨hl,h⟩:=h;rcases h with ⟨h,_⟩|⟨g',cap',cur,he,hb,hg,hn,hm,hs,ht⟩
 ·cases h
 ·cases he
  intro j hj;rw[size_flatK] at hj;have hj':j<l.length*2:=by simpa using hj
  rw[get_flatK _ _ _ _ hj];have hlj:(lbCells l)[j]? = some (encL l.toArray[j/2]!)[j%2]!:=by
   have hj2:j/2<l.length:=by omega
   obtain⟨h1,h2⟩:=lbCells_get l (j/2) (l.toArray[j/2]!) (by rw[getElem!_pos _ _ (by simpa using hj2)];simp);rcases Nat.mod_two_eq_zero_or_one j with e|e
   ·rw[e,show j=j/2*2 by omega,h1,show j/2*2/2=j/2 by omega];rfl
   ·rw[e,show(lbCells l)[j]? = (lbCells l)[j/2*2+1]? by congr 1;omega,h2];rfl
  refine⟨?_,?_⟩
  ·rw[Nat.zero_add,cell_of_row w g j cur _ (0,0) hg];show cur[j]? = some (encL l.toArray[j/2]!)[j%2]!;rw[←hlj,←ht,List.getElem?_take_of_lt (by omega)];simp
  ·unfold World.frozen?;simp only;rw[hg];simp
theorem sortf_calls (l:List Lb) (g cap base:Nat) (w:World) (hown:LbOwn w base (.slice (some ⟨g,0,none⟩) l.length cap) l) (hn:l.length≤1000) :
 Calls Tryz.prog 92 #[.slice (some ⟨g,0,none⟩) l.length cap,.func (.func 93) #[] #[]] w fun e w' =>
  e = .returned (.tuple #[]) ∧ ∃D:List Lb,D.Perm l∧Asc D∧(∀B,B≤g→B≤w.heap.size→Below B w w')∧LbRow w' (.slice (some ⟨g,0,none⟩) l.length cap) D:=by
 have hH:=own_holds hown;have hlt:=own_lt hown g rfl;obtain⟨A,cap',he,hlc,hcm,_⟩:=LbOwn.row hown
 cases he
 have eg : ∀args w,(callFunc 93 args).run Tryz.prog w = .ok (.enter 93 args) w:=enters_of Tryz.func93 (by kernel_rfl) rfl;have hc:CmpLays Tryz.prog 93 #[] encL 2 cfL g 0 l.toArray.size w:=fun _ _ _ _ x y=>byname_grow x y _;have hcon:=AnyQ.slices_SortFunc sortLb 2 Tryz.isAgg58 Tryz.sizeOf58 encL (fun _=>rfl) (fun x v hv=>by simp[encL] at hv;rcases hv with rfl|rfl <;> rfl) cfL swoL 93 #[] g 0 cap l.toArray w eg hc hH hlt (by simp;omega);change Calls Tryz.prog 92 _ _ _ at hcon;have hs:l.toArray.size=l.length:=by simp
 rw[hs] at hcon;refine hcon.mono ?_;rintro e w' ⟨rfl,D,n,os,hp,hsd,rfl⟩;have hsz:D.size=l.length:=by rw[←hs];exact hp.1
 have hp':PermIn 0 l.toArray.size l.toArray D:=by rw[hs];exact hp
 refine⟨rfl,D.toList,by simpa using perm_of hp',asc_of (by rw[hsz];exact hsd),fun B hB1 hB2=>below_sorted g n D os hB1 hB2,?_⟩;have hK:=holdsK_sortWorldK_c encL 2 w g 0 l.toArray D n os hH hlt (by rw[hs,hsz]);refine⟨_,cap,by rw[show D.toList.length=l.length by simpa using hsz],by rw[show D.toList.length=l.length by simpa using hsz];exact hlc,hcm,(by rintro ⟨⟩),fun _=>⟨g,0,rfl,Nat.lt_of_lt_of_le hlt (size_sortWorldK_c encL 2 w g 0 n D os),fun i p hp => ?_⟩⟩;have hi:i<D.size:=by
  rcases Nat.lt_or_ge i D.size with h|h
  ·exact h
  ·rw[List.getElem?_eq_none (by simpa using h)] at hp;cases hp
 have hpi:D[i]! = p:=by
  rw[getElem!_pos D i hi];rw[List.getElem?_eq_getElem (by simpa using hi)] at hp;simpa using hp
 have c0:=(hK.cell (i:=i) (c:=0) hi (by omega)).1;have c1:=(hK.cell (i:=i) (c:=1) hi (by omega)).1;rw[hpi] at c0 c1;exact⟨c0,c1⟩
end Go.Proofs.YtbapneipjmpcbaaGreatDoor
namespace Go.Proofs.YtbapneipjmpcbaaGreatDoor
open Go.RowKit Go.Sort Go.Shelf
attribute [local go_sem ↓] Go.wp_at_zero Go.wp_at_succ
theorem sortf_none (w:World) (fv:Value) :
 Calls Tryz.prog 92 #[.slice none 0 0,fv] w fun e w'=>e = .returned (.tuple #[])∧w'=w :=
 AnyF.slices_SortFunc_none sortLb none 0 fv w
theorem sortd_calls (l:List Lb) (v:Value) (w:World) (hv:LbRow w v l) (hn:l.length≤1000) :
 Calls Tryz.prog 54 #[v] w fun e w' => ∃v',e = .returned (.tuple #[v',.bool (srt l).isSome])∧Below w.heap.size w w'∧LbRow w' v' ((srt l).getD []) ∧ ∀k,v'.ownBlock=some k→w.heap.size≤k:=by
 have hcl:=Lh (clone_calls l v w hv hn);clear hv;go_enter Tryz.func54,Tryz.ntmps54;go_wp2_with fail;refine hcl.out.mono ?_;rintro e w1 ⟨v1,rfl,b1,own⟩;have hown:=Lh own;rcases own.2 with ⟨rfl,h0⟩|⟨g,cap,cur,rfl,hg,_⟩
 ·obtain rfl:l=[]:=List.eq_nil_of_length_eq_zero h0;have e:srt ([]:List Lb)=some []:=srt_is (List.Perm.refl _) List.Pairwise.nil;have B1:=Lh b1;have E:=Lh e;clear own e b1;go_wp2_with fail;refine(sortf_none _ _).mono ?_;rintro e w2 ⟨rfl,rfl⟩;go_wp2;refine wp_loop_rounds 1 ?_;rw[rounds_succ];go_wp2
  go_ret2
  exact⟨_,by rw[E.out];rfl,B1.out,by rw[E.out];exact LbRow.nil _,fun k hk=>by cases hk⟩
 ·have HG:=Lh hg;have hsf:=Lh (sortf_calls l g cap w.heap.size w1 own hn);clear own;go_wp2_with fail;refine hsf.out.mono ?_;rintro e w2 ⟨rfl,D,hperm,hasc,hbel,hrow⟩;have hlen:D.length=l.length:=hperm.length_eq;have hB2:Below w.heap.size w w2:=b1.trans (hbel _ hg b1.size);have HB2:=Lh hB2;have HR:=Lh hrow;have HA:=Lh hasc;have HP:=Lh hperm;obtain⟨A,cap2,he,hlc,hcm,_,hr⟩:=hrow;simp only[Value.slice.injEq] at he;obtain⟨hA,hll,hc⟩:=he;clear hll;subst hA hc;unfold maxLen at hcm;have hD:Hid (0<D.length→g<w2.heap.size ∧ ∀i,i<D.length→w2.cell? ⟨g,i*2,none⟩=some (.string (str (lbAt D i).1))∧w2.cell? ⟨g,i*2+1,none⟩=some (.string (str (lbAt D i).2))):=by
   intro h;obtain⟨b,off,hbo,hlt,hcc⟩:=hr h
   cases hbo
   exact⟨hlt,fun i hi=>by have:=hcc i _ (at_get hi);simpa using this⟩
  clear hperm hasc hbel hr hB2 b1 hlc;go_wp2_with fail;go_loopw [5] (fun v wr => ∃j:Nat,v = .int .i64 ((j:Int)+1)∧j≤l.length∧Hid (∀m,m<j→m+1<D.length→cb (lbAt D m).1 (lbAt D (m+1)).1≠0)∧Below w2.heap.size w2 wr) (fun v _=>l.length+1-(intOf v).toNat);case atStart=>exact ⟨0,rfl,Nat.zero_le _,fun m hm=>absurd hm (by omega),Below.refl _ _⟩
  case round =>
   obtain⟨j,rfl,hj,H,hb⟩:=hrel;by_cases hjl:j+1<l.length
   ·have hjD:j+1<D.length:=by omega
    obtain⟨hlt,hcc⟩:=hD.out (by omega);obtain⟨c0,c1⟩:=hcc j (by omega);obtain⟨c2,c3⟩:=hcc (j+1) hjD;have hbn:=Lh (fun W=>byname_calls (lbAt D j) (lbAt D (j+1)) W);have hno:=Lh (fun h=>srt_no (l:=l) (fun n=>dup_of_adj (D:=D) (j:=j) hjD h ((nd_perm HP.out).2 n)));have hnx:=Lh (fun(h:cb (lbAt D j).1 (lbAt D (j+1)).1≠0)=>show ∀m,m<j+1→m+1<D.length→cb (lbAt D m).1 (lbAt D (m+1)).1≠0 from fun m hm hmD=>by
     by_cases e:m=j
     ·subst e;exact h
     ·exact H.out m (by omega) hmD)
    have hw1:IntKind.i64.wrap (j:Int)=(j:Int):=IntWalk.i64_in _ (by omega);have hw2:IntKind.i64.wrap ((j:Int)+1)=(j:Int)+1:=IntWalk.i64_in _ (by omega);have hw3:(j:Int)+1-1=(j:Int):=by omega
    have hj0:(0:Int)≤(j:Int):=by omega
    have hj1:(j:Int)<(l.length:Int):=by omega
    have hj2:(j:Int)+1<(l.length:Int):=by omega
    have hj3:j<l.length:=by omega
    have hj4:(0:Int)≤(j:Int)+1:=by omega
    have hgr:g<wr.heap.size:=Nat.lt_of_lt_of_le hlt hb.size;have r0 : ∀z,Below wr.heap.size wr z→z.cell? ⟨g,j*2,none⟩=some (.string (str (lbAt D j).1)):=fun z hz=>(hz.cell hgr).trans ((hb.cell hlt).trans c0);have r1 : ∀z,Below wr.heap.size wr z→z.cell? ⟨g,j*2+1,none⟩=some (.string (str (lbAt D j).2)):=fun z hz=>(hz.cell hgr).trans ((hb.cell hlt).trans c1);have r2 : ∀z,Below wr.heap.size wr z→z.cell? ⟨g,(j+1)*2,none⟩=some (.string (str (lbAt D (j+1)).1)):=fun z hz=>(hz.cell hgr).trans ((hb.cell hlt).trans c2);have r3 : ∀z,Below wr.heap.size wr z→z.cell? ⟨g,(j+1)*2+1,none⟩=some (.string (str (lbAt D (j+1)).2)):=fun z hz=>(hz.cell hgr).trans ((hb.cell hlt).trans c3);generalize lbAt D j=X at *;generalize lbAt D (j+1)=Y at *;obtain⟨X1,X2⟩:=X;obtain⟨Y1,Y2⟩:=Y;simp only at r0 r1 r2 r3 hbn hno hnx;have HB:=Lh hb;clear hcc c0 c1 c2 c3 hgr hb hlt;by_cases hC:cb X1 Y1=0
    ·have hr:=Lh (hno.out hC);rw[hC] at hbn;clear hno hnx hC;go_wp2_with fail
     go_region_held3 (fun z=>Below wr.heap.size wr z)
      (((repeat' first|assumption|exact Below.refl _ _|exact Nat.le_refl _|apply kp_alloc|apply kp_set|apply Below.drew|omega);done))
      ((first
        | (go_at_call 93;refine(hbn.out _).mono ?_;rintro e w3 ⟨rfl,b3⟩;have k3:Below wr.heap.size wr w3:=kd9 b3)))
     all_goals
      go_wp2_with fail
      go_ret2
      refine⟨_,by rw[hr.out];rfl,(HB2.out.trans (HB.out.mono HB2.out.size)).trans (k3.mono (Nat.le_trans HB2.out.size HB.out.size)),by rw[hr.out];exact LbRow.nil _,fun k hk=>by cases hk⟩
    ·have hCb:(cb X1 Y1==0)=false:=by simpa using hC
     have hx:=Lh (hnx.out hC);generalize cb X1 Y1=C at *;clear hno hnx;go_wp2_with fail
     go_region_held3 (fun z=>Below wr.heap.size wr z)
      (((repeat' first|assumption|exact Below.refl _ _|exact Nat.le_refl _|apply kp_alloc|apply kp_set|apply Below.drew|omega);done))
      ((first
        | (go_at_call 93;refine(hbn.out _).mono ?_;rintro e w3 ⟨rfl,b3⟩;have k3:Below wr.heap.size wr w3:=kd9 b3)))
     all_goals
      go_wp2_with fail;go_roundw;case rel=>exact ⟨j+1,by go_num,by omega,hx.out,HB.out.trans (k3.mono HB.out.size)⟩
      case measure=>simp [intOf];omega
   ·have hs:=Lh (strict_of_adj HA.out (fun m hm=>H.out m (by omega) hm));have hr:=Lh (srt_is HP.out hs.out);go_wp2
    go_ret2
    refine⟨_,by rw[hr.out];rfl,HB2.out.trans (hb.mono HB2.out.size),by rw[hr.out];exact(HR.out).below hb,fun k hk=>by cases hk;exact HG.out⟩
end Go.Proofs.YtbapneipjmpcbaaGreatDoor
