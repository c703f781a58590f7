import Derived.Test.YtbapneipjmpcbaaGreatDoorChecked
import Derived.Shelf.SlSortCmp.WholeK
import Derived.Test.YtbapneipjmpcbaaGreatDoorKRow
import Derived.Test.YtbapneipjmpcbaaGreatDoorUp
import Derived.Shelf.SlSortCmp.NoneTotal
import Derived.Test.YtbapneipjmpcbaaGreatDoorFamX
import Derived.Test.YtbapneipjmpcbaaGreatDoorPointW
set_option maxHeartbeats 16000000
set_option maxRecDepth 100000
set_option linter.unusedVariables false
set_option linter.unusedSimpArgs false
namespace Go.Proofs.YtbapneipjmpcbaaGreatDoor
open Go.Shelf
def sortPt_ren:Go.Shelf.Ren:=⟨fun|6=>157|15=>119|14=>185|28=>145|29=>146|20=>207|21=>208|22=>209|23=>210|24=>211|25=>212|26=>213|27=>214|46=>230|47=>176|48=>177|49=>231|50=>232|57=>237|n=>n,fun|22=>49|24=>56|25=>87|3=>3|39=>27|0=>0|53=>180|55=>171|4=>4|46=>174|45=>173|50=>131|5=>5|9=>9|66=>196|70=>200|76=>214|77=>215|n=>n,fun|n=>n⟩
theorem sortPt:SlLaysF0.n6 Tryz.prog sortPt_ren := {
 mixed:=by kernel_rfl,
 f6:=⟨Tryz.f157.name,by decide,Tryz.func157.trans (congrArg some (by kernel_rfl))⟩,
 f14:=⟨Tryz.f185.name,by decide,Tryz.func185.trans (congrArg some (by kernel_rfl))⟩,
 f15:=Tryz.func119.trans (congrArg some (by kernel_rfl)),
 f20:=⟨Tryz.f207.name,by decide,Tryz.func207.trans (congrArg some (by kernel_rfl))⟩,
 f21:=⟨Tryz.f208.name,by decide,Tryz.func208.trans (congrArg some (by kernel_rfl))⟩,
 f22:=⟨Tryz.f209.name,by decide,Tryz.func209.trans (congrArg some (by kernel_rfl))⟩,
 f23:=⟨Tryz.f210.name,by decide,Tryz.func210.trans (congrArg some (by kernel_rfl))⟩,
 f24:=⟨Tryz.f211.name,by decide,Tryz.func211.trans (congrArg some (by kernel_rfl))⟩,
 f25:=⟨Tryz.f212.name,by decide,Tryz.func212.trans (congrArg some (by kernel_rfl))⟩,
 f26:=⟨Tryz.f213.name,by decide,Tryz.func213.trans (congrArg some (by kernel_rfl))⟩,
 f27:=⟨Tryz.f214.name,by decide,Tryz.func214.trans (congrArg some (by kernel_rfl))⟩,
 f28:=Tryz.func145.trans (congrArg some (by kernel_rfl)),
 f29:=Tryz.func146.trans (congrArg some (by kernel_rfl)),
 f46:=⟨Tryz.f230.name,by decide,Tryz.func230.trans (congrArg some (by kernel_rfl))⟩,
 f47:=Tryz.func176.trans (congrArg some (by kernel_rfl)),
 f48:=Tryz.func177.trans (congrArg some (by kernel_rfl)),
 f49:=⟨Tryz.f231.name,by decide,Tryz.func231.trans (congrArg some (by kernel_rfl))⟩,
 f50:=⟨Tryz.f232.name,by decide,Tryz.func232.trans (congrArg some (by kernel_rfl))⟩,
 f57:=⟨Tryz.f237.name,by decide,Tryz.func237.trans (congrArg some (by kernel_rfl))⟩,
 t0:=Tryz.underlying0,
 a0:=Tryz.isAgg0,
 z0:=Tryz.sizeOf0,
 v0:=Tryz.zeroValue0,
 t3:=Tryz.underlying3,
 a3:=Tryz.isAgg3,
 z3:=Tryz.sizeOf3,
 v3:=Tryz.zeroValue3,
 t4:=Tryz.underlying4,
 a4:=Tryz.isAgg4,
 z4:=Tryz.sizeOf4,
 v4:=Tryz.zeroValue4,
 t5:=Tryz.underlying5,
 a5:=Tryz.isAgg5,
 z5:=Tryz.sizeOf5,
 v5:=Tryz.zeroValue5,
 t9:=Tryz.underlying9,
 a9:=Tryz.isAgg9,
 z9:=Tryz.sizeOf9,
 v9:=Tryz.zeroValue9,
 t22:=Tryz.underlying49,
 a22:=Tryz.isAgg49,
 z22:=Tryz.sizeOf49,
 v22:=Tryz.zeroValue49,
 t25:=Tryz.underlying87,
 a25:=Tryz.isAgg87,
 z25:=Tryz.sizeOf87,
 v25:=Tryz.zeroValue87,
 t39:=Tryz.underlying27,
 a39:=Tryz.isAgg27,
 z39:=Tryz.sizeOf27,
 v39:=Tryz.zeroValue27,
 t45:=Tryz.underlying173,
 a45:=Tryz.isAgg173,
 z45:=Tryz.sizeOf173,
 v45:=Tryz.zeroValue173,
 t46:=Tryz.underlying174,
 a46:=Tryz.isAgg174,
 z46:=Tryz.sizeOf174,
 v46:=Tryz.zeroValue174,
 t50:=Tryz.underlying131,
 a50:=Tryz.isAgg131,
 z50:=Tryz.sizeOf131,
 v50:=Tryz.zeroValue131,
 t53:=Tryz.underlying180,
 a53:=Tryz.isAgg180,
 z53:=Tryz.sizeOf180,
 v53:=Tryz.zeroValue180,
 t55:=Tryz.underlying171,
 a55:=Tryz.isAgg171,
 z55:=Tryz.sizeOf171,
 v55:=Tryz.zeroValue171,
 t66:=Tryz.underlying196,
 a66:=Tryz.isAgg196,
 z66:=Tryz.sizeOf196,
 v66:=Tryz.zeroValue196,
 t70:=Tryz.underlying200,
 a70:=Tryz.isAgg200,
 z70:=Tryz.sizeOf200,
 v70:=Tryz.zeroValue200,
 t76:=Tryz.underlying214,
 a76:=Tryz.isAgg214,
 z76:=Tryz.sizeOf214,
 v76:=Tryz.zeroValue214,
 t77:=Tryz.underlying215,
 a77:=Tryz.isAgg215,
 z77:=Tryz.sizeOf215,
 v77:=Tryz.zeroValue215}
end Go.Proofs.YtbapneipjmpcbaaGreatDoor
namespace Go.Proofs.YtbapneipjmpcbaaGreatDoor
open Go.RowKit Go.Sort Go.Shelf Go.Lib
theorem ks_below_map {B:Nat} {a w:World} (h:Below B a w) (blk:Nat) (f:Array Value→Array Value) (hb:B≤blk):Below B a (mapBlock w blk f):=by
 refine⟨h.os,h.tape,h.output,?_,fun b hbB => ?_⟩
 ·have:=h.size;unfold mapBlock;simpa using this
 ·rw[←h.block b hbB];unfold mapBlock;simp only;rw[Array.getElem?_modify,if_neg (by omega)]
theorem ks_below_grow {B:Nat} {a w:World} (h:Below B a w) (hB:B≤a.heap.size) (os:Array Obj):Below B a (grow w os):=by
 refine⟨h.os,h.tape,h.output,?_,fun b hb => ?_⟩
 ·have:=h.size;unfold grow;simp;omega
 ·have:=h.size;rw[←h.block b hb];unfold grow;simp only;rw[Array.getElem?_append_left (by omega)]
section
variable {α:Type} [Inhabited α] {enc:α→List Value} {k:Nat}
theorem ks_below {B:Nat} {w:World} (g n:Nat) (D:Array α) (os:Array Obj) (hg:B≤g) (hB:B≤w.heap.size):Below B w (sortWorldK enc k w g 0 n D os):=by
 unfold sortWorldK;refine ks_below_grow ?_ hB os;unfold putRowK putRow;refine ks_below_map ?_ g _ hg;exact⟨rfl,rfl,rfl,Nat.le_refl _,fun _ _=>rfl⟩
theorem ks_other {w:World} (g n:Nat) (D:Array α) (os:Array Obj) : ∀b,b<w.heap.size→b≠g→(sortWorldK enc k w g 0 n D os).heap[b]? = w.heap[b]?:=fun b hb hne=>by
 unfold sortWorldK grow putRowK putRow mapBlock;simp only;rw[Array.getElem?_append_left (by simpa using hb),Array.getElem?_modify,if_neg (fun e=>hne e.symm)];rfl
theorem ks_holds (hk : ∀x,(enc x).length=k) (hp:0<k) {el:Nat} {w:World} {base g cap:Nat} {l:List α} (h:KOwn enc el k w base (.slice (some ⟨g,0,none⟩) l.length cap) l):HoldsK enc k w g 0 l.toArray:=by
 obtain⟨hl,h⟩:=h;rcases h with ⟨h,_⟩|⟨g',cap',cur,he,hb,hg,hn,hm,hs,ht⟩
 ·cases h
 ·cases he
  intro j hj;rw[size_flatK] at hj;have hj':j<l.length*k:=by simpa using hj
  rw[get_flatK _ _ _ _ hj];have hi:j/k<l.length:=(Nat.div_lt_iff_lt_mul hp).2 hj';have hm2:=Nat.mod_lt j hp;have hx:l[j/k]? = some (l.toArray[j/k]!):=by rw[getElem!_pos _ _ (by simpa using hi)];simp
  have hlj:(l.flatMap enc)[j]? = some (enc l.toArray[j/k]!)[j%k]!:=by
   have:=kc_get hk l (j/k) (j%k) _ hx hm2;rw[Nat.div_add_mod'] at this;rw[this];generalize l.toArray[j/k]! = x;rw[getElem!_pos (enc x) (j%k) (by rw[hk];exact hm2),List.getElem?_eq_getElem]
  refine⟨?_,?_⟩
  ·rw[Nat.zero_add,cell_of_row w g j cur _ (0,0) hg,id,←hlj,←ht,List.getElem?_take_of_lt hj'];simp
  ·unfold World.frozen?;simp only;rw[hg];simp
theorem ks_row (hk : ∀x,(enc x).length=k) {w:World} {g cap:Nat} {D:Array α} (hH:HoldsK enc k w g 0 D) (hlt:g<w.heap.size) (h1:D.size≤cap) (h2:cap≤maxLen):KRow enc k w (.slice (some ⟨g,0,none⟩) D.toList.length cap) D.toList:=by
 refine⟨_,cap,rfl,by simpa using h1,h2,(by rintro ⟨⟩),fun _=>⟨g,0,rfl,hlt,fun i x hx j u hu => ?_⟩⟩;have hi:i<D.size:=by
  rcases Nat.lt_or_ge i D.size with h|h
  ·exact h
  ·rw[List.getElem?_eq_none (by simpa using h)] at hx;cases hx
 have hxi:D[i]! = x:=by
  rw[getElem!_pos D i hi];rw[List.getElem?_eq_getElem (by simpa using hi)] at hx;simpa using hx
 have hj:j<k:=by rw[←hk x];exact(List.getElem?_eq_some_iff.1 hu).1
 have:=(hH.cell (i:=i) (c:=j) hi hj).1;rw[hxi,getElem!_pos (enc x) j (by rw[hk];exact hj)] at this;rw[List.getElem?_eq_getElem (by rw[hk];exact hj)] at hu;rw[this];exact hu
variable {P:Program} {ρ:Ren}
theorem ksort (L:SlLaysF0.n6 P ρ) (aE : ∀w,(isAgg (ρ.t 24)).run P w = .ok true w) (zE : ∀w,(Go.sizeOf (ρ.t 24)).run P w = .ok k w) (hk : ∀x,(enc x).length=k) (hp:0<k) (h1 : ∀x,∀v∈enc x,v.oneCell'=true)
 (cf:α→α→Int) (hO:SWO (ltOf cf)) (f:Nat) (eg : ∀args w,(callFunc f args).run P w = .ok (.enter f args) w) (el g cap base:Nat) (l:List α) (w:World)
 (hown:KOwn enc el k w base (.slice (some ⟨g,0,none⟩) l.length cap) l) (hn:l.length≤1000)
 (hcmp : ∀X:World,(∀b,b<w.heap.size→b≠g→X.heap[b]? = w.heap[b]?)→w.heap.size≤X.heap.size → ∀x y,Calls P f #[.agg (enc x).toArray,.agg (enc y).toArray] X fun e w'=>e = .returned (.int .i64 (cf x y))∧Below X.heap.size X w') :
 Calls P (ρ.f 6) #[.slice (some ⟨g,0,none⟩) l.length cap,.func (.func f) #[] #[]] w fun e w' =>
  e = .returned (.tuple #[]) ∧ ∃D:List α,D.Perm l∧(D.Pairwise fun x y => ¬cf y x<0)∧(∀B,B≤g→B≤w.heap.size→Below B w w')∧(∀b,b<w.heap.size→b≠g→w'.heap[b]? = w.heap[b]?)∧KRow enc k w' (.slice (some ⟨g,0,none⟩) l.length cap) D:=by
 have hH:=ks_holds hk hp hown;have hlt:=own_lt hown g rfl;have hlc:l.length≤cap∧cap≤maxLen:=by
  obtain⟨A,cap',he,h2,h3,_⟩:=KOwn.row hk hown
  cases he
  exact⟨h2,h3⟩
 have hc:CmpLays P f #[] enc k cf g 0 l.toArray.size w:=fun m os dk hs x y=>by
  have:=hcmp (sortWorldK enc k w g 0 m dk os) (ks_other g m dk os) (size_sortWorldK_c enc k w g 0 m dk os) x y;refine(Up.calls_up this).mono ?_;rintro e w' ⟨⟨rfl,hb⟩,hd⟩;exact⟨rfl,Up.grow_of hb (hd ⟨_,rfl⟩)⟩
 have hcon:=AnyQ.slices_SortFunc L k aE zE enc hk h1 cf hO f #[] g 0 cap l.toArray w eg hc hH hlt (by simp;omega);have hs:l.toArray.size=l.length:=by simp
 rw[hs] at hcon;refine hcon.mono ?_;rintro e w' ⟨rfl,D,n,os,hpm,hsd,rfl⟩;have hsz:D.size=l.length:=by rw[←hs];exact hpm.1
 obtain⟨p1,_,p3⟩:=hpm;have e1:D.extract 0 l.length=D:=by rw[←hsz];simp
 have e2:l.toArray.extract 0 l.length=l.toArray:=by rw[←hs];simp
 rw[e1,e2] at p3;have hK:=holdsK_sortWorldK_c enc k w g 0 l.toArray D n os hH hlt (by rw[hs,hsz]);refine⟨rfl,D.toList,by simpa using p3,?_,fun B hB1 hB2=>ks_below g n D os hB1 hB2,ks_other g n D os,?_⟩
 ·rw[List.pairwise_iff_getElem];intro i j hi hj hij;have:=hsd i j (Nat.zero_le _) hij (by rw[←hsz];simpa using hj);unfold ltOf at this;have h:=of_decide_eq_false this;rw[getElem!_pos D i (by simpa using hi),getElem!_pos D j (by simpa using hj)] at h;simpa using h
 ·have:=ks_row (cap:=cap) hk hK (Nat.lt_of_lt_of_le hlt (size_sortWorldK_c enc k w g 0 n D os)) (by rw[hsz];exact hlc.1) hlc.2;rwa [show D.toList.length=l.length by simpa using hsz] at this
end
end Go.Proofs.YtbapneipjmpcbaaGreatDoor
namespace Go.Proofs.YtbapneipjmpcbaaGreatDoor
open Go.RowKit Go.Sort Dc
attribute [local go_sem ↓] Go.wp_at_zero Go.wp_at_succ
theorem swo_tp {α:Type} {f:α→α→Int} (h:TP f):SWO (ltOf f) where
 irrefl x:=by unfold ltOf;rw[h.refl];rfl
 trans x y z h1 h2:=by
  unfold ltOf at *;have:=of_decide_eq_true h2;exact decide_eq_true (h.lt (of_decide_eq_true h1) (by omega))
 ntrans x y z h1 h2:=by
  unfold ltOf at *;have h1:=of_decide_eq_false h1;have h2:=of_decide_eq_false h2;apply decide_eq_false;have:=h.le z y x (by rw[h.neg];omega) (by rw[h.neg];omega);rw[h.neg] at this;omega
theorem sub_list {α:Type} {p:α→Prop} : ∀(l:List α),(∀x∈l,p x) → ∃m:List {x // p x},m.map (·.1)=l
 | [],_=>⟨[],rfl⟩
 | x::l,h=>by
   obtain⟨m,rfl⟩:=sub_list l (fun y hy=>h y (List.mem_cons_of_mem _ hy));exact⟨⟨x,h x List.mem_cons_self⟩::m,rfl⟩
theorem psortf_calls (M:List Ps) (g cap base:Nat) (w:World) (hm:PtMine w base (.slice (some ⟨g,0,none⟩) M.length cap) M) (hn:M.length≤1000) :
 Calls Tryz.prog 157 #[.slice (some ⟨g,0,none⟩) M.length cap,.func (.func 158) #[] #[]] w fun e w' =>
  e = .returned (.tuple #[]) ∧ ∃D:List Ps,D.Perm M∧((pts D).Pairwise fun p q => ¬cmpP q p<0)∧(∀B,B≤g→B≤w.heap.size→Below B w w')∧PtFar w' g (.slice (some ⟨g,0,none⟩) M.length cap) D:=by
 have hfar:=hm.far g rfl;have hall : ∀x∈M,FarLb w g x∧PtIn x.2:=fun x hx=>⟨hfar x hx,hm.inn x hx⟩
 obtain⟨m,hmM⟩:=sub_list M hall
 letI:Inhabited {x:Ps // FarLb w g x∧PtIn x.2}:=⟨⟨(.slice none 0 0,⟨[],0,false,0,0,0,0,false,0⟩),⟨LbRow.nil w,fun k hk=>by cases hk⟩,⟨by decide,by decide,by decide,by decide,by decide,by decide,fun x hx=>by cases hx⟩⟩⟩
 have hlen:m.length=M.length:=by rw[←hmM];simp
 have hcells:m.flatMap (fun x=>encP x.1)=M.flatMap encP:=by rw[←hmM,List.flatMap_map]
 have hown:KOwn (fun x : {x:Ps // FarLb w g x∧PtIn x.2}=>encP x.1) 56 9 w base (.slice (some ⟨g,0,none⟩) m.length cap) m:=by
  unfold KOwn;rw[hcells,hlen];exact hm.own
 have eg : ∀args w,(callFunc 158 args).run Tryz.prog w = .ok (.enter 158 args) w:=enters_of Tryz.func158 (by kernel_rfl) rfl;have hs:=ksort sortPt Tryz.isAgg56 Tryz.sizeOf56 (enc:=fun x : {x:Ps // FarLb w g x∧PtIn x.2}=>encP x.1) (k:=9) (fun _=>rfl) (by omega) (fun x v hv=>encP_one (w:=w) ⟨x.2.1.1,x.2.2⟩ v hv)
  (fun x y=>cmpP x.1.2 y.1.2) (swo_tp (tp_cmpP.comap fun x : {x:Ps // FarLb w g x∧PtIn x.2}=>x.1.2)) 158 eg 56 g cap base m w hown (by omega)
  (fun X ho hz x y=>pcompare_calls x.1.1 y.1.1 x.1.2 y.1.2 X (x.2.1.other (fun b hb hg=>ho b hb (by omega)) hz).1 (y.2.1.other (fun b hb hg=>ho b hb (by omega)) hz).1 x.2.2 y.2.2)
 rw[hlen] at hs;change Calls Tryz.prog 157 _ _ _ at hs;refine hs.mono ?_;rintro e w' ⟨rfl,D,hp,hsd,hbel,hoth,hrow⟩;refine⟨rfl,D.map (·.1),by rw[←hmM];exact hp.map _,?_,hbel,?_,rfl,fun x hx => ?_,fun x hx => ?_⟩
 ·unfold pts;rw[List.map_map,List.pairwise_map];exact hsd
 ·obtain⟨A,cap',he,h1,h2,h3,h4⟩:=hrow;refine⟨A,cap',by rw[List.length_map];exact he,by rw[List.length_map];exact h1,h2,h3,fun h0 => ?_⟩;obtain⟨b,off,hA,hb,hc⟩:=h4 (by simpa using h0);refine⟨b,off,hA,hb,fun i x hx j u hu => ?_⟩;rw[List.getElem?_map] at hx
  cases hd:D[i]? with
  | none=>rw [hd] at hx;cases hx
  | some y =>
    rw[hd] at hx;obtain rfl:=Option.some.inj hx;exact hc i y hd j u hu
 ·obtain⟨y,_,rfl⟩:=List.mem_map.1 hx;have hz:w.heap.size≤w'.heap.size:=(hbel 0 (Nat.zero_le _) (Nat.zero_le _)).size;exact y.2.1.other (fun b hb hg=>hoth b hb (by omega)) hz
 ·obtain⟨y,_,rfl⟩:=List.mem_map.1 hx;exact y.2.2
theorem ascend_calls (L:List Ps) (v:Value) (w:World) (hv:PtRow w v L) (hn:L.length≤1000) :
 Calls Tryz.prog 132 #[v] w fun e w'=>e = .returned (.bool (decide (StrictP (pts L))))∧Below w.heap.size w w':=by
 have HP:=Lh hv.2;obtain⟨A,cap,rfl,hlc,hcm,hnil,hrow⟩:=hv.1;unfold maxLen at hcm;have HR:=Lh hrow;clear hrow hnil hv;go_enter Tryz.func132,Tryz.ntmps132;go_wp2_with fail;go_loopw [3] (fun v wr => ∃j:Nat,v = .int .i64 ((j:Int)+1)∧j≤L.length∧Hid (∀m p q,m<j→(pts L)[m]? = some p→(pts L)[m+1]? = some q→cmpP p q<0)∧Below w.heap.size w wr) (fun v _=>L.length+1-(intOf v).toNat);case atStart=>exact ⟨0,rfl,Nat.zero_le _,fun m p q hm=>absurd hm (by omega),Below.refl _ _⟩
 case round =>
  obtain⟨j,rfl,hj,H,hb⟩:=hrel;by_cases hjl:j+1<L.length
  ·obtain⟨b,off,rfl,hbs,hc⟩:=HR.out (by omega);obtain⟨x,hx,hxp⟩:=ps_get (show j<L.length by omega);obtain⟨y,hy,hyp⟩:=ps_get hjl;have hix:=HP.out x (List.mem_of_getElem? hx);have hiy:=HP.out y (List.mem_of_getElem? hy);obtain⟨c0,c1,c2,c3,c4,c5,c6,c7,c8⟩:=pr_cells hc hx;obtain⟨e0,e1,e2,e3,e4,e5,e6,e7,e8⟩:=pr_cells hc hy;have hcp:=Lh (fun W (hW:Below w.heap.size w W)=>pcompare_calls x.1 y.1 x.2 y.2 W (hix.1.below hW) (hiy.1.below hW) hix.2 hiy.2);have hno:=Lh (fun h=>strictP_no (l:=pts L) (i:=j) hxp hyp h);have hnx:=Lh (fun(h:cmpP x.2 y.2<0)=>show ∀m p q,m<j+1→(pts L)[m]? = some p→(pts L)[m+1]? = some q→cmpP p q<0 from fun m p q hm h1 h2=>by
    by_cases em:m=j
    ·subst em;rw[hxp] at h1;rw[hyp] at h2;obtain rfl:=Option.some.inj h1;obtain rfl:=Option.some.inj h2;exact h
    ·exact H.out m p q (by omega) h1 h2)
   have hsx:=lb_one' hix.1;obtain⟨A1,n1,cap1,hx1⟩ : ∃A1 n1 cap1,x.1 = .slice A1 n1 cap1:=by obtain⟨_,_,h,_⟩:=hix.1;exact⟨_,_,_,h⟩
   obtain⟨A2,n2,cap2,hy1⟩ : ∃A1 n1 cap1,y.1 = .slice A1 n1 cap1:=by obtain⟨_,_,h,_⟩:=hiy.1;exact⟨_,_,_,h⟩
   have hw1:IntKind.i64.wrap (j:Int)=(j:Int):=IntWalk.i64_in _ (by omega);have hw2:IntKind.i64.wrap ((j:Int)+1)=(j:Int)+1:=IntWalk.i64_in _ (by omega);have hw3:(j:Int)+1-1=(j:Int):=by omega
   have hj0:(0:Int)≤(j:Int):=by omega
   have hj1:(j:Int)<(L.length:Int):=by omega
   have hj2:(j:Int)+1<(L.length:Int):=by omega
   have hj3:j<L.length:=by omega
   have hj4:(0:Int)≤(j:Int)+1:=by omega
   obtain⟨xv,p⟩:=x;obtain⟨yv,q⟩:=y;simp only at hx1 hy1;subst hx1 hy1;obtain⟨pl,ro,inf,bm,bs,m,s,td,ti⟩:=p;obtain⟨ql,ro2,inf2,bm2,bs2,m2,s2,td2,ti2⟩:=q;have hR : ∀o u,w.cell? ⟨b,o,none⟩=some u → ∀z,Below w.heap.size w z→z.cell? ⟨b,o,none⟩=some u:=fun o u hu z hz=>(hz.cell (p:=⟨b,o,none⟩) hbs).trans hu;simp only at c0 c1 c2 c3 c4 c5 c6 c7 c8 e0 e1 e2 e3 e4 e5 e6 e7 e8 hno hnx;have r0:=hR _ _ c0;have r1:=hR _ _ c1;have r2:=hR _ _ c2;have r3:=hR _ _ c3;have r4:=hR _ _ c4;have r5:=hR _ _ c5;have r6:=hR _ _ c6;have r7:=hR _ _ c7;have r8:=hR _ _ c8;have s0:=hR _ _ e0;have s1:=hR _ _ e1;have s2':=hR _ _ e2;have s3:=hR _ _ e3;have s4:=hR _ _ e4;have s5:=hR _ _ e5;have s6:=hR _ _ e6;have s7:=hR _ _ e7;have s8:=hR _ _ e8;have HB:=Lh hb;clear hc c0 c1 c2 c3 c4 c5 c6 c7 c8 e0 e1 e2 e3 e4 e5 e6 e7 e8 hR hx hy hxp hyp hix hiy hbs hsx;generalize cmpP _ _=C at *;by_cases hC:C<0
   ·have dC:decide ((0:Int)≤C)=false:=by simp;omega
    have hr:=Lh (hnx.out hC);clear hno hnx hC;go_wp2_with fail
    go_region_held3 (fun z=>Below w.heap.size w z)
     (((repeat' first|assumption|exact Below.refl _ _|exact Nat.le_refl _|apply kp_alloc|apply kp_set|apply Below.drew|omega);done))
     ((first
       | (go_at_call 158;refine(hcp.out _ (by(repeat' first|assumption|apply Below.drew))).mono ?_;rintro e w3 ⟨rfl,b3⟩;have k3:Below w.heap.size w w3:=kd9 b3)))
    all_goals
     go_wp2_with fail;go_roundw;case rel=>exact ⟨j+1,by go_num,by omega,hr.out,k3⟩
     case measure=>simp [intOf];omega
   ·have dC:decide ((0:Int)≤C)=true:=by simp;omega
    have hr:=Lh (decide_eq_false (hno.out hC));clear hno hnx hC;go_wp2_with fail
    go_region_held3 (fun z=>Below w.heap.size w z)
     (((repeat' first|assumption|exact Below.refl _ _|exact Nat.le_refl _|apply kp_alloc|apply kp_set|apply Below.drew|omega);done))
     ((first
       | (go_at_call 158;refine(hcp.out _ (by(repeat' first|assumption|apply Below.drew))).mono ?_;rintro e w3 ⟨rfl,b3⟩;have k3:Below w.heap.size w w3:=kd9 b3)))
    all_goals
     go_wp2_with fail;go_ret;exact⟨by rw[hr.out];rfl,k3⟩
  ·have hlen:(pts L).length=L.length:=by simp[pts]
   have hs:=Lh (decide_eq_true (strictP_adj (l:=pts L) (fun i p q h1 h2=>by
    have:=(List.getElem?_eq_some_iff.1 h2).1;exact H.out i p q (by omega) h1 h2)))
   clear H hlen;go_wp2;go_ret;exact⟨by rw[hs.out];rfl,hb⟩
end Go.Proofs.YtbapneipjmpcbaaGreatDoor
namespace Go.Proofs.YtbapneipjmpcbaaGreatDoor
open Go.RowKit Go.Sort Go.Shelf Dc
attribute [local go_sem ↓] Go.wp_at_zero Go.wp_at_succ
theorem psortf_none (w:World) (fv:Value) :
 Calls Tryz.prog 157 #[.slice none 0 0,fv] w fun e w'=>e = .returned (.tuple #[])∧w'=w :=
 AnyF.slices_SortFunc_none sortPt none 0 fv w
theorem psort_any (M:List Ps) (v:Value) (base:Nat) (w:World) (hm:PtMine w base v M) (hn:M.length≤1000) :
 Calls Tryz.prog 157 #[v,.func (.func 158) #[] #[]] w fun e w' =>
  e = .returned (.tuple #[]) ∧ ∃D:List Ps,D.Perm M∧((pts D).Pairwise fun p q => ¬cmpP q p<0)∧(∀B,B≤base→B≤w.heap.size→Below B w w')∧PtKeep w' base v D:=by
 rcases hm.own.2 with ⟨rfl,h0⟩|⟨g,cap,cur,rfl,hg,_⟩
 ·obtain rfl:=List.eq_nil_of_length_eq_zero h0;refine(psortf_none w _).mono ?_;rintro e w' ⟨rfl,rfl⟩;exact⟨rfl,[],List.Perm.refl _,List.Pairwise.nil,fun B _ _=>Below.refl _ _,fun X _ _=>PtRow.nil X⟩
 ·refine(psortf_calls M g cap base w hm hn).mono ?_;rintro e w' ⟨rfl,D,hp,hs,hb,hf⟩;exact⟨rfl,D,hp,hs,fun B h1 h2=>hb B (by omega) h2,hf.keep hg⟩
def SortP (z:Nat) (h:Hd) (l:List Pt) (e:Ending) (w':World):Prop :=
 (∃D v' M,psrt l=some D∧pts M=D∧e = .returned (.tuple #[famv h v',.bool true])∧PtKeep w' z v' M)∨(psrt l=none∧e = .returned (.tuple #[famv hd0 (.slice none 0 0),.bool false]))
theorem SortP.yes {z:Nat} {h:Hd} {l:List Pt} {e:Ending} {w':World} {M:List Ps} {v':Value} (h1:psrt l=some (pts M)) (h2:e = .returned (.tuple #[famv h v',.bool true])) (h3:PtKeep w' z v' M):SortP z h l e w':=Or.inl ⟨_,v',M,h1,rfl,h2,h3⟩
theorem SortP.no {z:Nat} {h:Hd} {l:List Pt} {e:Ending} {w':World} (h1:psrt l=none) (h2:e = .returned (.tuple #[famv hd0 (.slice none 0 0),.bool false])):SortP z h l e w':=Or.inr ⟨h1,h2⟩
theorem FamAt.setOther {w:World} {b c i:Nat} {h:Hd} {v u:Value} (k:FamAt w b h v) (hne:b≠c):FamAt (w.setCell ⟨c,i,none⟩ u) b h v:=by
 have e:(w.setCell ⟨c,i,none⟩ u).heap[b]? = w.heap[b]?:=Below.heap_setCell _ _ _ _ hne;exact⟨(World.cell?_of_block (a:=⟨b,0,none⟩) e).trans k.c0,(World.cell?_of_block (a:=⟨b,1,none⟩) e).trans k.c1,(World.cell?_of_block (a:=⟨b,2,none⟩) e).trans k.c2,(World.cell?_of_block (a:=⟨b,3,none⟩) e).trans k.c3,(World.cell?_of_block (a:=⟨b,4,none⟩) e).trans k.c4,
  fun o=>(World.frozen?_of_block (a:=⟨b,o,none⟩) e).trans (k.fr o),by simpa[World.setCell] using k.lt⟩
theorem FamAt.set4 {w:World} {b:Nat} {h:Hd} {v u:Value} (k:FamAt w b h v):FamAt (w.setCell ⟨b,4,none⟩ u) b h u:=by
 have h0:=k.c0;have h1:=k.c1;have h2:=k.c2;have h3:=k.c3;have h4:=k.c4;exact⟨by simp[go_sem,h0],by simp[go_sem,h1],by simp[go_sem,h2],by simp[go_sem,h3],by simp[go_sem,h4],fun o=>by simpa using k.fr o,by simpa[World.setCell] using k.lt⟩
theorem FamAt.belowB {w w':World} {b B:Nat} {h:Hd} {v:Value} (k:FamAt w b h v) (hb:Below B w w') (hlt:b<B):FamAt w' b h v:=by
 have e:=hb.block b hlt;exact⟨(World.cell?_of_block (a:=⟨b,0,none⟩) e).trans k.c0,(World.cell?_of_block (a:=⟨b,1,none⟩) e).trans k.c1,(World.cell?_of_block (a:=⟨b,2,none⟩) e).trans k.c2,(World.cell?_of_block (a:=⟨b,3,none⟩) e).trans k.c3,(World.cell?_of_block (a:=⟨b,4,none⟩) e).trans k.c4,
  fun o=>(World.frozen?_of_block (a:=⟨b,o,none⟩) e).trans (k.fr o),Nat.lt_of_lt_of_le k.lt hb.size⟩
theorem fsort_calls (h:Hd) (L:List Ps) (v:Value) (w:World) (hv:PtRow w v L) (hn:L.length≤1000) (hl : ∀x∈L,x.2.l.length≤1000) :
 Calls Tryz.prog 123 #[famv h v] w fun e w'=>SortP w.heap.size h (pts L) e w'∧Below w.heap.size w w':=by
 have k0:=kp_alloc (kp_alloc (Below.refl w.heap.size w) (.cells (famc h v) 51)) (.cells (famc hd0 (.slice none 0 0)) 51);have F0:=(FamAt.new w h v 51).below (kp_alloc (Below.refl (w.alloc (.cells (famc h v) 51)).heap.size (w.alloc (.cells (famc h v) 51))) (.cells (famc hd0 (.slice none 0 0)) 51));have G0:=FamAt.new (w.alloc (.cells (famc h v) 51)) hd0 (.slice none 0 0) 51;rw[show(w.alloc (.cells (famc h v) 51)).heap.size=w.heap.size+1 by simp] at G0;have hcp:=Lh (copied_calls L v _ (hv.below k0) hn hl);have hz0:((w.alloc (.cells (famc h v) 51)).alloc (.cells (famc hd0 (.slice none 0 0)) 51)).heap.size=w.heap.size+2:=by simp
 have HZ0:=Lh hz0;have hsw : ∃A cap,v = .slice A L.length cap:=by obtain⟨A,cap,he,_⟩:=hv.1;exact⟨A,cap,he⟩
 obtain⟨A,cap,rfl⟩:=hsw;have hlen:(pts L).length=L.length:=by simp[pts]
 obtain⟨n,k,u,hh⟩:=h;have K0:=Lh k0;have HF:=Lh F0;have HG:=Lh G0;have HLen:=Lh hlen;have HN:=Lh hn;clear F0 G0 k0 hv hl hlen hn hz0;generalize L.length=len at *;go_enter Tryz.func123,Tryz.ntmps123;go_wp2_with fail;refine hcp.out.mono ?_;rintro e w1 ⟨v1,M,rfl,b1,mine,hsame⟩;have mine:PtMine w1 (w.heap.size+2) v1 M:=by have h:=mine;rw[HZ0.out] at h;exact h
 have F1:=HF.out.below b1;have G1:=HG.out.below b1;have B1:=Lh (trans9 K0.out b1);obtain⟨A1,n1,cap1,hv1⟩ : ∃A1 n1 cap1,v1 = .slice A1 n1 cap1:=by obtain⟨A1,cap1,he,_⟩:=mine.row.1;exact⟨A1,_,cap1,he⟩
 have c4:=F1.c4;have f4:=F1.fr 4;have hlt:=F1.lt;have hlt2:=G1.lt;have mine2:=Lh (mine.setOld (b:=w.heap.size) (i:=4) (u:=v1) (by omega));have hML:M.length≤1000:=by
  have h1:=congrArg List.length hsame;have h2:=HLen.out;have h3:=HN.out;simp only[pts,List.length_map] at h1 h2;omega
 have hst:=Lh (psort_any M v1 _ _ mine2.out hML);have HFG:=Lh (And.intro F1 G1);have HS:=Lh hsame;have HML:=Lh hML;clear b1 mine hcp HZ0 hML hsame F1 G1;subst hv1;go_wp2_with fail;refine hst.out.mono ?_;rintro e w2 ⟨rfl,D,hperm,hsd,hbel,hkeep⟩;have HSD:Hid ((pts D).Pairwise fun p q => ¬cmpP q p<0):=Lh (by simpa using hsd);have hz1:w.heap.size+2≤w1.heap.size:=hlt2;have b2:=hbel (w.heap.size+2) (Nat.le_refl _) (by simpa[World.setCell] using hz1);have F2:=(HFG.out.1.set4 (u := .slice A1 n1 cap1)).belowB b2 (by omega);have G2:=(HFG.out.2.setOther (c:=w.heap.size) (i:=4) (u := .slice A1 n1 cap1) (by omega)).belowB b2 (by omega);have B2:=Lh ((B1.out.setCell (p:=⟨w.heap.size,4,none⟩) (Nat.le_refl _) (.slice A1 n1 cap1)).trans (b2.mono (by omega)));have hDL:D.length≤1000:=by
  have h1:=hperm.length_eq;have h2:=HML.out;omega
 have has:=Lh (ascend_calls D _ w2 hkeep.row hDL);have hpt:(pts D).Perm (pts L):=by
  have h1:(pts D).Perm (pts M):=hperm.map _;rw[HS.out] at h1;exact h1
 have HFG2:=Lh (And.intro F2 G2);have c42:=F2.c4;have HK:=Lh hkeep;have hyes:=Lh (fun h:StrictP (pts D)=>psrt_is hpt h);have hnot:=Lh (fun h : ¬StrictP (pts D)=>psrt_no (l:=pts L) (fun hn=>h (strictP_of (HSD.out) ((ndP_perm hpt).2 hn))));have hz2:=b2.size;simp only[World.setCell,Array.size_modify] at hz2;clear hperm hsd hbel hkeep hpt hDL F2 G2 b2 c4 f4 hst mine2;by_cases hC:StrictP (pts D)
 ·rw[decide_eq_true hC] at has;have hr:=Lh (hyes.out hC);clear hyes hnot hC;go_wp2_with fail;refine has.out.mono ?_;rintro e w3 ⟨rfl,b3⟩;have F3:=HFG2.out.1.below b3;have G3:=HFG2.out.2.below b3;have HK3:=Lh (HK.out.below b3);have B3:=Lh (trans9 B2.out b3);obtain⟨x0,x1,x2,x3,x4,xf,xl⟩:=F3;obtain⟨y0,y1,y2,y3,y4,yf,yl⟩:=G3;clear b3 has HK HFG2 HFG c42;go_wp2;refine bodyPost_ret (v := .tuple #[.agg #[.string (str n),.int .i64 k,.string (str u),.string (str hh),.slice A1 n1 cap1],.bool true]) (by simp[results,Tryz.results123,go_sem,y0,y1,y2,y3,y4]) rfl ⟨SortP.yes hr.out rfl ?_,?_⟩
  ·exact(((((HK3.out.setOld (by omega)).setOld (by omega)).setOld (by omega)).setOld (by omega)).setOld (by omega)).mono (by omega)
  ·exact((((B3.out.setCell (by show w.heap.size≤w.heap.size+1;omega) _).setCell (by show w.heap.size≤w.heap.size+1;omega) _).setCell (by show w.heap.size≤w.heap.size+1;omega) _).setCell (by show w.heap.size≤w.heap.size+1;omega) _).setCell (by show w.heap.size≤w.heap.size+1;omega) _
 ·rw[decide_eq_false hC] at has;have hr:=Lh (hnot.out hC);clear hyes hnot hC;go_wp2_with fail;refine has.out.mono ?_;rintro e w3 ⟨rfl,b3⟩;have F3:=HFG2.out.1.below b3;have G3:=HFG2.out.2.below b3;have HK3:=Lh (HK.out.below b3);have B3:=Lh (trans9 B2.out b3);obtain⟨x0,x1,x2,x3,x4,xf,xl⟩:=F3;obtain⟨y0,y1,y2,y3,y4,yf,yl⟩:=G3;clear b3 has HK HFG2 HFG c42;go_wp2;refine bodyPost_ret (v := .tuple #[.agg #[.string ⟨#[]⟩,.int .i64 0,.string ⟨#[]⟩,.string ⟨#[]⟩,.slice none 0 0],.bool false]) (by simp[results,Tryz.results123,go_sem,y0,y1,y2,y3,y4]) rfl ⟨SortP.no hr.out rfl,?_⟩;exact((((B3.out.setCell (by show w.heap.size≤w.heap.size+1;omega) _).setCell (by show w.heap.size≤w.heap.size+1;omega) _).setCell (by show w.heap.size≤w.heap.size+1;omega) _).setCell (by show w.heap.size≤w.heap.size+1;omega) _).setCell (by show w.heap.size≤w.heap.size+1;omega) _
def hdO (o:Option (List Pt)) (h:Hd):Hd:=match o with|some _=>h|none=>hd0
theorem fsort_any (h:Hd) (L:List Ps) (v:Value) (w:World) (hv:PtRow w v L) (hn:L.length≤1000) (hl : ∀x∈L,x.2.l.length≤1000) :
 Calls Tryz.prog 123 #[famv h v] w fun e w'=>(∃A n cap M,e = .returned (.tuple #[famv (hdO (psrt (pts L)) h) (.slice A n cap),.bool (psrt (pts L)).isSome])∧PtKeep w' w.heap.size (.slice A n cap) M∧pts M=(psrt (pts L)).getD [])∧Below w.heap.size w w':=by
 refine(fsort_calls h L v w hv hn hl).mono ?_;rintro e w' ⟨hs,hb⟩;refine⟨?_,hb⟩;rcases hs with ⟨D,v',M,h1,h2,rfl,h3⟩|⟨h1,rfl⟩
 ·obtain⟨A,cap,rfl,_⟩:=h3.row.1;exact⟨A,_,cap,M,by rw[h1];rfl,h3,by rw[h1];exact h2⟩
 ·exact⟨none,0,0,[],by rw[h1];rfl,fun X _ _=>PtRow.nil X,by rw[h1];rfl⟩
end Go.Proofs.YtbapneipjmpcbaaGreatDoor
namespace Go.Proofs.YtbapneipjmpcbaaGreatDoor
open Go.Shelf
def sortFm_ren:Go.Shelf.Ren:=⟨fun|6=>95|15=>119|14=>124|28=>145|29=>146|20=>159|21=>160|22=>161|23=>162|24=>163|25=>164|26=>165|27=>166|46=>192|47=>176|48=>177|49=>193|50=>194|57=>222|n=>n,fun|22=>22|24=>51|25=>136|3=>3|39=>27|0=>0|53=>180|55=>171|4=>4|46=>174|45=>173|50=>131|5=>5|9=>9|66=>196|70=>200|76=>214|77=>215|n=>n,fun|n=>n⟩
theorem sortFm:SlLaysF0.n6 Tryz.prog sortFm_ren := {
 mixed:=by kernel_rfl,
 f6:=⟨Tryz.f95.name,by decide,Tryz.func95.trans (congrArg some (by kernel_rfl))⟩,
 f14:=⟨Tryz.f124.name,by decide,Tryz.func124.trans (congrArg some (by kernel_rfl))⟩,
 f15:=Tryz.func119.trans (congrArg some (by kernel_rfl)),
 f20:=⟨Tryz.f159.name,by decide,Tryz.func159.trans (congrArg some (by kernel_rfl))⟩,
 f21:=⟨Tryz.f160.name,by decide,Tryz.func160.trans (congrArg some (by kernel_rfl))⟩,
 f22:=⟨Tryz.f161.name,by decide,Tryz.func161.trans (congrArg some (by kernel_rfl))⟩,
 f23:=⟨Tryz.f162.name,by decide,Tryz.func162.trans (congrArg some (by kernel_rfl))⟩,
 f24:=⟨Tryz.f163.name,by decide,Tryz.func163.trans (congrArg some (by kernel_rfl))⟩,
 f25:=⟨Tryz.f164.name,by decide,Tryz.func164.trans (congrArg some (by kernel_rfl))⟩,
 f26:=⟨Tryz.f165.name,by decide,Tryz.func165.trans (congrArg some (by kernel_rfl))⟩,
 f27:=⟨Tryz.f166.name,by decide,Tryz.func166.trans (congrArg some (by kernel_rfl))⟩,
 f28:=Tryz.func145.trans (congrArg some (by kernel_rfl)),
 f29:=Tryz.func146.trans (congrArg some (by kernel_rfl)),
 f46:=⟨Tryz.f192.name,by decide,Tryz.func192.trans (congrArg some (by kernel_rfl))⟩,
 f47:=Tryz.func176.trans (congrArg some (by kernel_rfl)),
 f48:=Tryz.func177.trans (congrArg some (by kernel_rfl)),
 f49:=⟨Tryz.f193.name,by decide,Tryz.func193.trans (congrArg some (by kernel_rfl))⟩,
 f50:=⟨Tryz.f194.name,by decide,Tryz.func194.trans (congrArg some (by kernel_rfl))⟩,
 f57:=⟨Tryz.f222.name,by decide,Tryz.func222.trans (congrArg some (by kernel_rfl))⟩,
 t0:=Tryz.underlying0,
 a0:=Tryz.isAgg0,
 z0:=Tryz.sizeOf0,
 v0:=Tryz.zeroValue0,
 t3:=Tryz.underlying3,
 a3:=Tryz.isAgg3,
 z3:=Tryz.sizeOf3,
 v3:=Tryz.zeroValue3,
 t4:=Tryz.underlying4,
 a4:=Tryz.isAgg4,
 z4:=Tryz.sizeOf4,
 v4:=Tryz.zeroValue4,
 t5:=Tryz.underlying5,
 a5:=Tryz.isAgg5,
 z5:=Tryz.sizeOf5,
 v5:=Tryz.zeroValue5,
 t9:=Tryz.underlying9,
 a9:=Tryz.isAgg9,
 z9:=Tryz.sizeOf9,
 v9:=Tryz.zeroValue9,
 t22:=Tryz.underlying22,
 a22:=Tryz.isAgg22,
 z22:=Tryz.sizeOf22,
 v22:=Tryz.zeroValue22,
 t25:=Tryz.underlying136,
 a25:=Tryz.isAgg136,
 z25:=Tryz.sizeOf136,
 v25:=Tryz.zeroValue136,
 t39:=Tryz.underlying27,
 a39:=Tryz.isAgg27,
 z39:=Tryz.sizeOf27,
 v39:=Tryz.zeroValue27,
 t45:=Tryz.underlying173,
 a45:=Tryz.isAgg173,
 z45:=Tryz.sizeOf173,
 v45:=Tryz.zeroValue173,
 t46:=Tryz.underlying174,
 a46:=Tryz.isAgg174,
 z46:=Tryz.sizeOf174,
 v46:=Tryz.zeroValue174,
 t50:=Tryz.underlying131,
 a50:=Tryz.isAgg131,
 z50:=Tryz.sizeOf131,
 v50:=Tryz.zeroValue131,
 t53:=Tryz.underlying180,
 a53:=Tryz.isAgg180,
 z53:=Tryz.sizeOf180,
 v53:=Tryz.zeroValue180,
 t55:=Tryz.underlying171,
 a55:=Tryz.isAgg171,
 z55:=Tryz.sizeOf171,
 v55:=Tryz.zeroValue171,
 t66:=Tryz.underlying196,
 a66:=Tryz.isAgg196,
 z66:=Tryz.sizeOf196,
 v66:=Tryz.zeroValue196,
 t70:=Tryz.underlying200,
 a70:=Tryz.isAgg200,
 z70:=Tryz.sizeOf200,
 v70:=Tryz.zeroValue200,
 t76:=Tryz.underlying214,
 a76:=Tryz.isAgg214,
 z76:=Tryz.sizeOf214,
 v76:=Tryz.zeroValue214,
 t77:=Tryz.underlying215,
 a77:=Tryz.isAgg215,
 z77:=Tryz.sizeOf215,
 v77:=Tryz.zeroValue215}
end Go.Proofs.YtbapneipjmpcbaaGreatDoor
namespace Go.Proofs.YtbapneipjmpcbaaGreatDoor
open Go.RowKit Dc
attribute [local go_sem ↓] Go.wp_at_zero Go.wp_at_succ
theorem iskind_calls (k:Int) (w:World):Calls Tryz.prog 129 #[.int .i64 k] w fun e w'=>e = .returned (.bool (kindOk k))∧w=w':=by
 unfold kindOk;by_cases h0:0≤k
 ·have d0:decide ((0:Int)≤k)=true:=decide_eq_true h0;by_cases h1:k<5
  ·have d1:decide (k<5)=true:=decide_eq_true h1;have hr:=Lh (decide_eq_true (show 0≤k∧k<5 from⟨h0,h1⟩));rw[hr.out];clear hr;go_enter Tryz.func129,Tryz.ntmps129;go_wp2;go_ret;exact⟨rfl,rfl⟩
  ·have d1:decide (k<5)=false:=decide_eq_false h1;have hr:=Lh (decide_eq_false (fun h:0≤k∧k<5=>h1 h.2));rw[hr.out];clear hr;go_enter Tryz.func129,Tryz.ntmps129;go_wp2;go_ret;exact⟨rfl,rfl⟩
 ·have d0:decide ((0:Int)≤k)=false:=decide_eq_false h0;have hr:=Lh (decide_eq_false (fun h:0≤k∧k<5=>h0 h.1));rw[hr.out];clear hr;go_enter Tryz.func129,Tryz.ntmps129;go_wp2;go_ret;exact⟨rfl,rfl⟩
end Go.Proofs.YtbapneipjmpcbaaGreatDoor
