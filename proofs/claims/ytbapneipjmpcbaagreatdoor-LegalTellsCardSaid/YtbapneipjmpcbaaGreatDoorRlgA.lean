import Derived.Test.YtbapneipjmpcbaaGreatDoorRsrW
import Derived.Test.YtbapneipjmpcbaaGreatDoorRefChW
import Derived.Test.YtbapneipjmpcbaaGreatDoorLegP
import Derived.Test.YtbapneipjmpcbaaGreatDoorLegZ
import Derived.Test.YtbapneipjmpcbaaGreatDoorBatX
set_option maxHeartbeats 16000000
set_option maxRecDepth 100000
set_option linter.unusedVariables false
set_option linter.unusedSimpArgs false
namespace Go.Proofs.YtbapneipjmpcbaaGreatDoor
open Go.RowKit Go.Sort Dc
attribute [local go_sem ↓] Go.wp_at_zero Go.wp_at_succ
def protoOk (p:Int):Bool:=decide (1≤p)&&decide (p≤4)
theorem riproto_calls (p:Int) (w:World) :
 Calls Tryz.prog 29 #[.int .i64 p] w fun e w'=>e = .returned (.bool (protoOk p))∧w=w':=by
 by_cases h1:1≤p
 ·have d1:decide ((1:Int)≤p)=true:=decide_eq_true h1;by_cases h2:p≤4
  ·have d2:decide (p≤4)=true:=decide_eq_true h2;go_enter Tryz.func29,Tryz.ntmps29;go_wp2;go_ret;exact⟨by unfold protoOk;rw[d1,d2];rfl,rfl⟩
  ·have d2:decide (p≤4)=false:=decide_eq_false h2;go_enter Tryz.func29,Tryz.ntmps29;go_wp2;go_ret;exact⟨by unfold protoOk;rw[d1,d2];rfl,rfl⟩
 ·have d1:decide ((1:Int)≤p)=false:=decide_eq_false h1;go_enter Tryz.func29,Tryz.ntmps29;go_wp2;go_ret;exact⟨by unfold protoOk;rw[d1];rfl,rfl⟩
theorem rnm_calls (p m s:Int) (l:List UInt8) (w:World) (hl:l.length≤4194304) :
 Calls Tryz.prog 59 #[.int .i64 p,.int .i64 m,.int .i64 s,.string (str l)] w fun e w'=>e = .returned (.string (str (Lg.nmF p m s l)))∧Below w.heap.size w w':=by
 have h1:=Lh (rloss_calls p s l w hl);have h2:=Lh (rescape_calls p s l w hl);by_cases hm:m=1
 ·subst hm;rw[Lg.nmF_loss];go_enter Tryz.func59,Tryz.ntmps59;go_wp2_with fail;refine h1.out.mono ?_;rintro e w1 ⟨rfl,b1⟩;go_wp2;go_ret;exact⟨rfl,b1⟩
 ·have d1:(m==1)=false:=by simpa using hm
  have d2:decide (m=1)=false:=decide_eq_false hm;rw[Lg.nmF_esc hm];go_enter Tryz.func59,Tryz.ntmps59;go_wp2_with fail;refine h2.out.mono ?_;rintro e w1 ⟨rfl,b1⟩;go_wp2;go_ret;exact⟨rfl,b1⟩
theorem rlabs_calls (p:Int) (l:List Lb) (v:Value) (w:World) (hv:LbRow w v l) (hf:Fit l) :
 Calls Tryz.prog 41 #[.int .i64 p,v,.bool false] w fun e w'=>e = .returned (.bool (Lg.labsOk p l))∧Below w.heap.size w w':=by
 obtain⟨A,cap,rfl,hlc,hcm,hnil,hrow⟩:=hv;unfold maxLen at hcm;have HR:=Lh hrow;have HF:=Lh hf;clear hrow hf hnil;go_enter Tryz.func41,Tryz.ntmps41;go_wp2_with fail;go_loopw [7] (fun v wr => ∃k:Nat,k≤l.length∧v = .int .i64 (k:Nat)∧Hid (∀y∈l.take k,Ch.isName p 1 y.1=true)∧Below w.heap.size w wr) (fun v _=>l.length-(intOf v).toNat);case atStart=>exact ⟨0,Nat.zero_le _,rfl,Lh (fun y hy=>by cases hy),Below.refl _ _⟩
 case round =>
  obtain⟨k,hk,rfl,H,hb⟩:=hrel;by_cases hkl:k<l.length
  ·obtain⟨b,off,rfl,hbs,hc⟩:=HR.out (by omega);obtain⟨c0,c1⟩:=hc k (lbAt l k) (at_get hkl);have c0:=(hb.cell (p:=⟨b,off+k*2,none⟩) hbs).trans c0;have hcl:=Lh (risc_calls p 1 (lbAt l k).1 wr (HF.out (lbAt l k) (at_mem hkl)).1);have hno:=Lh (fun h=>Lg.all_no (q:=fun y:Lb=>Ch.isName p 1 y.1) (at_mem hkl) h);have hnx:=Lh (fun h=>Lg.all_take (P:=fun y:Lb=>Ch.isName p 1 y.1=true) H.out (at_get hkl) h);have HB:=Lh hb;generalize lbAt l k=X at *;obtain⟨X1,X2⟩:=X;simp only at c0 hcl hno hnx;clear hc c1 hb
   cases hN:Ch.isName p 1 X1
   ·rw[hN] at hcl;have hn:=Lh (hno.out hN);clear hnx hno;go_wp2_with fail;refine hcl.out.mono ?_;rintro e w1 ⟨rfl,rfl⟩;go_wp2;go_ret;exact⟨by unfold Lg.labsOk;rw[hn.out];rfl,HB.out⟩
   ·rw[hN] at hcl;have hn:=Lh (hnx.out hN);clear hnx hno;go_wp2_with fail;refine hcl.out.mono ?_;rintro e w1 ⟨rfl,rfl⟩;go_wp2;go_roundw;case rel=>exact ⟨k+1,hkl,by go_num,hn.out,HB.out⟩
    case measure=>simp [intOf];omega
  ·have hn:=Lh (show Lg.labsOk p l=true from Lg.all_yes (Lg.all_full H.out (by omega)));go_wp2;go_ret;exact⟨by rw[hn.out];rfl,hb⟩
theorem rlong_calls (F:List Fs) (v:Value) (w:World) (hv:FmRow w v F) (hf:FmFew F) :
 Calls Tryz.prog 32 #[v] w fun e w'=>e = .returned (.bool (Lg.longB (fms F)))∧Below w.heap.size w w':=by
 have HP:=Lh hv.2;obtain⟨A,cap,rfl,hlc,hcm,hnil,hrow⟩:=hv.1;unfold maxLen at hcm;have HR:=Lh hrow;have HF:=Lh hf;have hFn:=hf.n;clear hnil hv hrow hf;go_enter Tryz.func32,Tryz.ntmps32;go_wp2_with fail;go_loopw [3] (fun v wr => ∃i:Nat,i≤F.length∧v = .int .i64 (i:Nat)∧Hid (∀y∈(fms F).take i,Lg.longF y=false)∧Below w.heap.size w wr) (fun v _=>F.length-(intOf v).toNat);case atStart=>exact ⟨0,Nat.zero_le _,rfl,Lh (fun y hy=>by cases hy),Below.refl _ _⟩
 case round =>
  obtain⟨i,hi,rfl,H,hb⟩:=hrel;by_cases hil:i<F.length
  ·obtain⟨b,off,rfl,hbs,hc⟩:=HR.out (by omega);obtain⟨x,hx,hxp⟩:=fs_get hil;have hmx:=List.mem_of_getElem? hx;have hxi:=HP.out x hmx;obtain⟨c0,_,_,_,c4⟩:=fr_cells hc hx;have hyes:=Lh (fun(h:Lg.longF (fm x)=true)=>show Lg.longB (fms F)=true from Lg.any_yes (List.mem_of_getElem? hxp) h);have hnx:=Lh (fun(h:Lg.longF (fm x)=false)=>Lg.all_take (P:=fun y=>Lg.longF y=false) H.out hxp h);have hxL:=HF.out.p x hmx;have hxl:=Lh (HF.out.l x hmx);obtain⟨A1,cap1,hx1,hlc1,hcm1,_,hrow1⟩:=hxi.1.1;unfold maxLen at hcm1;have HR1:=Lh hrow1;have HP1:=Lh hxi.1.2;obtain⟨⟨xn,xk,xu,xh⟩,xv,L⟩:=x;simp only at hx1 hlc1 hcm1 c0 c4 hxL hxl HR1 HP1;subst hx1;have hzn:=str_size xn;have HC0:=Lh (fun X (h:Below w.heap.size w X)=>(h.cell (p:=⟨b,off+i*5,none⟩) hbs).trans c0);have HC4:=Lh (fun X (h:Below w.heap.size w X)=>(h.cell (p:=⟨b,off+i*5+4,none⟩) hbs).trans c4);have r0:=HC0.out _ hb;have HB:=Lh hb;clear hc c0 c4 hx hxp hmx hxi hrow1 H;by_cases hn1:(60:Int)<(xn.length:Int)
   ·have dn:decide ((60:Int)<(xn.length:Int))=true:=decide_eq_true hn1;have dn':decide (60<xn.length)=true:=by simp;omega
    have hr:=Lh (hyes.out (by unfold Lg.longF;simp only;rw[dn'];rfl));clear hb;go_wp2;go_ret;exact⟨by rw[hr.out];rfl,HB.out⟩
   have dn:decide ((60:Int)<(xn.length:Int))=false:=decide_eq_false hn1;have dn':decide (60<xn.length)=false:=by simp;omega
   have hy2:=Lh (fun(h:Lg.longP (pts L)=true)=>hyes.out (by unfold Lg.longF;simp only;rw[h];simp));have hn2:=Lh (fun(h:Lg.longP (pts L)=false)=>hnx.out (by unfold Lg.longF;simp only;rw[h,dn'];rfl));clear hyes hnx hn1 hb;go_wp2_with fail;clear dn dn' r0;go_loopw [4] (fun v wz => ∃j:Nat,j≤L.length∧v = .int .i64 (j:Nat)∧Hid (∀y∈(pts L).take j,Lg.longL y.l=false)∧Below w.heap.size w wz) (fun v _=>L.length-(intOf v).toNat);case atStart=>exact ⟨0,Nat.zero_le _,rfl,Lh (fun y hy=>by cases hy),HB.out⟩
   case round =>
    clear HB;obtain⟨j,hj,rfl,H2,hb⟩:=hrel;have r4:=HC4.out _ hb;by_cases hjl:j<L.length
    ·obtain⟨b1,off1,rfl,hbs1,hc1⟩:=HR1.out (by omega);obtain⟨y,hy,hyp⟩:=ps_get hjl;have hmy:=List.mem_of_getElem? hy;have hyi:=HP1.out y hmy;obtain⟨e0,_⟩:=pr_cells hc1 hy;obtain⟨A2,cap2,hy1,hlc2,hcm2,_,hrow2⟩:=hyi.1;unfold maxLen at hcm2;rw[hy1] at e0;have hyl:=hxl.out y hmy;have hy3:=Lh (fun(h:Lg.longL y.2.l=true)=>hy2.out (Lg.any_yes (q:=fun q:Pt=>Lg.longL q.l) (List.mem_of_getElem? hyp) h));have hn3:=Lh (fun(h:Lg.longL y.2.l=false)=>Lg.all_take (P:=fun y:Pt=>Lg.longL y.l=false) H2.out hyp h);have HE0:=Lh (fun X (h:Below w.heap.size w X)=>(h.cell (p:=⟨b1,off1+j*9,none⟩) hbs1).trans e0);have HR2:=Lh hrow2;have HB:=Lh hb;generalize y.2.l=ls at *;clear hy hy1 hyi hrow2 hc1 hyp hmy e0 H2 hb;go_wp2_with fail;clear r4;go_loopw [5] (fun v wz => ∃k:Nat,k≤ls.length∧v = .int .i64 (k:Nat)∧Hid (∀y∈ls.take k,decide (60<y.1.length)=false)∧Below w.heap.size w wz) (fun v _=>ls.length-(intOf v).toNat);case atStart=>exact ⟨0,Nat.zero_le _,rfl,Lh (fun y hy=>by cases hy),HB.out⟩
     case round =>
      clear HB;obtain⟨k,hk,rfl,H3,hb⟩:=hrel;have r4:=HC4.out _ hb;have s0:=HE0.out _ hb;by_cases hkl:k<ls.length
      ·obtain⟨b2,off2,rfl,hbs2,hc2⟩:=HR2.out (by omega);obtain⟨g0,_⟩:=hc2 k (lbAt ls k) (at_get hkl);have g0:=(hb.cell (p:=⟨b2,off2+k*2,none⟩) hbs2).trans g0;have hy4:=Lh (fun(h:decide (60<(lbAt ls k).1.length)=true)=>hy3.out (Lg.any_yes (q:=fun q:Lb=>decide (60<q.1.length)) (at_mem hkl) h));have hn4:=Lh (fun(h:decide (60<(lbAt ls k).1.length)=false)=>Lg.all_take (P:=fun y:Lb=>decide (60<y.1.length)=false) H3.out (at_get hkl) h);generalize lbAt ls k=X at *;obtain⟨X1,X2⟩:=X;simp only at g0 hy4 hn4;have hz1:=str_size X1;have HB:=Lh hb;clear hc2 hb H3;by_cases h1:(60:Int)<(X1.length:Int)
       ·have d1:decide ((60:Int)<(X1.length:Int))=true:=decide_eq_true h1;have d1':decide (60<X1.length)=true:=by simp;omega
        have hr:=Lh (hy4.out d1');clear hy4 hn4;go_wp2;go_ret;exact⟨by rw[hr.out];rfl,HB.out⟩
       ·have d1:decide ((60:Int)<(X1.length:Int))=false:=decide_eq_false h1;have d1':decide (60<X1.length)=false:=by simp;omega
        have hr:=Lh (hn4.out d1');clear hy4 hn4;go_wp2;go_roundw;case rel=>exact ⟨k+1,hkl,by go_num,hr.out,HB.out⟩
        case measure=>simp [intOf];omega
      ·have hr:=Lh (hn3.out (show Lg.longL ls=false from Lg.any_no (Lg.all_full H3.out (by omega))));have HB:=Lh hb;clear hb H3;go_wp2;go_roundw;case rel=>exact ⟨j+1,hjl,by go_num,hr.out,HB.out⟩
       case measure=>simp [intOf];omega
    ·have hr:=Lh (hn2.out (show Lg.longP (pts L)=false from Lg.any_no (q:=fun q:Pt=>Lg.longL q.l) (Lg.all_full H2.out (by simp[pts];omega))));have HB:=Lh hb;clear hb H2;go_wp2;go_roundw;case rel=>exact ⟨i+1,hil,by go_num,hr.out,HB.out⟩
     case measure=>simp [intOf];omega
  ·have hr:=Lh (show Lg.longB (fms F)=false from Lg.any_no (Lg.all_full H.out (by simp[fms];omega)));clear H;go_wp2;go_ret;exact⟨by rw[hr.out];rfl,hb⟩
theorem rnamed_calls (p:Int) (t:List UInt8) (F:List Fs) (v:Value) (w:World) (hv:FmRow w v F) (hf:FmFew F) :
 Calls Tryz.prog 15 #[.int .i64 p,batv t v] w fun e w'=>e = .returned (.bool (Lg.isB p (fms F)))∧Below w.heap.size w w':=by
 have k0:=kp_alloc (Below.refl w.heap.size w) (.cells #[.string (str t),v] 24);have F0:=BatAt.new w t v 24;have HP:=Lh hv.2;obtain⟨A,cap,rfl,hlc,hcm,hnil,hrow⟩:=hv.1;unfold maxLen at hcm;have HR:=Lh hrow;have HF:=Lh hf;have hFn:=hf.n;have K0:=Lh k0;have HF0:=Lh F0;clear hnil hv hrow hf k0 F0;go_enter Tryz.func15,Tryz.ntmps15;go_upto_region 1 with fail;generalize hW0:w.alloc (.cells #[.string (str t),.slice A F.length cap] 24)=W0 at *;clear hW0;obtain⟨b0,hb0⟩ : ∃b0,b0=w.heap.size:=⟨_,rfl⟩
 have HK:=Lh (fun X (h:Below W0.heap.size W0 X)=>show Below w.heap.size w X from trans9 K0.out h);rw[←hb0] at HF0 ⊢;clear hb0;go_wp2_with fail;go_loopw [5] (fun v wr => ∃i:Nat,i≤F.length∧v = .int .i64 (i:Nat)∧Hid (∀y∈(fms F).take i,Lg.isF p y=true)∧Below W0.heap.size W0 wr) (fun v _=>F.length-(intOf v).toNat);case atStart=>exact ⟨0,Nat.zero_le _,rfl,Lh (fun y hy=>by cases hy),Below.refl _ _⟩
 case round =>
  obtain⟨i,hi,rfl,H,hb⟩:=hrel;obtain⟨x0,x1,xf,xl⟩:=HF0.out.below hb;by_cases hil:i<F.length
  ·obtain⟨b,off,rfl,hbs,hc⟩:=HR.out (by omega);obtain⟨x,hx,hxp⟩:=fs_get hil;have hmx:=List.mem_of_getElem? hx;have hxi:=HP.out x hmx;obtain⟨c0,_,_,_,c4⟩:=fr_cells hc hx;have hno:=Lh (fun(h:Lg.isF p (fm x)=false)=>show Lg.isB p (fms F)=false from Lg.all_no (List.mem_of_getElem? hxp) h);have hnx:=Lh (fun(h:Lg.isF p (fm x)=true)=>Lg.all_take (P:=fun y=>Lg.isF p y=true) H.out hxp h);have hcl:=Lh (risc_calls p 0 x.hd.n wr hxi.2.ln);obtain⟨A1,cap1,hx1,hlc1,hcm1,_,hrow1⟩:=hxi.1.1;unfold maxLen at hcm1;have HR1:=Lh hrow1;have HP1:=Lh hxi.1.2;have hxL:=HF.out.p x hmx;obtain⟨⟨xn,xk,xu,xh⟩,xv,L⟩:=x;simp only at hx1 hlc1 hcm1 c0 c4 hxL HR1 HP1 hcl;subst hx1;have HC0:=Lh (fun X (h:Below W0.heap.size W0 X)=>((HK.out _ h).cell (p:=⟨b,off+i*5,none⟩) hbs).trans c0);have HC4:=Lh (fun X (h:Below W0.heap.size W0 X)=>((HK.out _ h).cell (p:=⟨b,off+i*5+4,none⟩) hbs).trans c4);have r0:=HC0.out _ hb;have HB:=Lh hb;clear hc c0 c4 hx hxp hmx hxi hrow1 H
   cases hN:Ch.isName p 0 xn
   ·rw[hN] at hcl;have hr:=Lh (hno.out (by unfold Lg.isF;simp only;rw[hN];rfl));clear hb;go_wp2_with fail;refine hcl.out.mono ?_;rintro e w1 ⟨rfl,rfl⟩;go_wp2;go_ret;exact⟨by rw[hr.out];rfl,HK.out _ HB.out⟩
   rw[hN] at hcl;have hy2:=Lh (fun(h:Lg.isP p (pts L)=false)=>hno.out (by unfold Lg.isF;simp only;rw[h];simp));have hn2:=Lh (fun(h:Lg.isP p (pts L)=true)=>hnx.out (by unfold Lg.isF;simp only;rw[h,hN];rfl));clear hno hnx hb;go_wp2_with fail;refine hcl.out.mono ?_;rintro e w1 ⟨rfl,rfl⟩;clear hcl;go_wp2_with fail;clear hN r0 x0 x1 xf xl;go_loopw [6] (fun v wz => ∃j:Nat,j≤L.length∧v = .int .i64 (j:Nat)∧Hid (∀y∈(pts L).take j,Lg.labsOk p y.l=true)∧Below W0.heap.size W0 wz) (fun v _=>L.length-(intOf v).toNat);case atStart=>exact ⟨0,Nat.zero_le _,rfl,Lh (fun y hy=>by cases hy),HB.out⟩
   case round =>
    clear HB;obtain⟨j,hj,rfl,H2,hb⟩:=hrel;obtain⟨x0,x1,xf,xl⟩:=HF0.out.below hb;have r4:=HC4.out _ hb;by_cases hjl:j<L.length
    ·obtain⟨b1,off1,rfl,hbs1,hc1⟩:=HR1.out (by omega);obtain⟨y,hy,hyp⟩:=ps_get hjl;have hmy:=List.mem_of_getElem? hy;have hyi:=HP1.out y hmy;obtain⟨e0,_⟩:=pr_cells hc1 hy;have hy3:=Lh (fun(h:Lg.labsOk p y.2.l=false)=>hy2.out (Lg.all_no (q:=fun q:Pt=>Lg.labsOk p q.l) (List.mem_of_getElem? hyp) h));have hn3:=Lh (fun(h:Lg.labsOk p y.2.l=true)=>Lg.all_take (P:=fun y:Pt=>Lg.labsOk p y.l=true) H2.out hyp h);have e0:=((HK.out _ hb).cell (p:=⟨b1,off1+j*9,none⟩) hbs1).trans e0;have hcl:=Lh (rlabs_calls p y.2.l y.1 _ (hyi.1.below (HK.out _ hb)) hyi.2.fit);obtain⟨A2,n2,cap2,hy1⟩ : ∃A n cap,y.1 = .slice A n cap:=by obtain⟨_,_,h,_⟩:=hyi.1;exact⟨_,_,_,h⟩
     rw[hy1] at e0 hcl;have HB:=Lh hb;generalize y.2.l=ls at *;clear hy hy1 hyi hc1 hyp hmy H2 hb
     cases hN:Lg.labsOk p ls
     ·rw[hN] at hcl;have hr:=Lh (hy3.out hN);go_wp2_with fail;refine hcl.out.mono ?_;rintro e w1 ⟨rfl,b1⟩;have KB:=Lh (HK.out _ (trans9 HB.out b1));clear b1;go_wp2;go_ret;exact⟨by rw[hr.out];rfl,KB.out⟩
     ·rw[hN] at hcl;have hr:=Lh (hn3.out hN);go_wp2_with fail;refine hcl.out.mono ?_;rintro e w1 ⟨rfl,b1⟩;have KB:=Lh (trans9 HB.out b1);clear b1;go_wp2;go_roundw;case rel=>exact ⟨j+1,hjl,by go_num,hr.out,KB.out⟩
      case measure=>simp [intOf];omega
    ·have hr:=Lh (hn2.out (show Lg.isP p (pts L)=true from Lg.all_yes (q:=fun q:Pt=>Lg.labsOk p q.l) (Lg.all_full H2.out (by simp[pts];omega))));have HB:=Lh hb;clear hb H2;go_wp2;go_roundw;case rel=>exact ⟨i+1,hil,by go_num,hr.out,HB.out⟩
     case measure=>simp [intOf];omega
  ·have hr:=Lh (show Lg.isB p (fms F)=true from Lg.all_yes (Lg.all_full H.out (by simp[fms];omega)));clear H;go_wp2;go_ret;exact⟨by rw[hr.out];rfl,HK.out _ hb⟩
def addL (R:List (List UInt8)) (s:List UInt8):List (List UInt8):=if s∈R then R else R++[s]
theorem radd_calls (R:List (List UInt8)) (v:Value) (base:Nat) (s:List UInt8) (w:World) (own:Kt.Own w base v R) (hbase:base≤w.heap.size) (hn:R.length≤1500) :
 Calls Tryz.prog 56 #[v,.string (str s)] w fun e w' => ∃v',e = .returned v'∧Kt.Own w' base v' (addL R s)∧w.grownBy w' v.ownBlock∧(v'.ownBlock=v.ownBlock ∨ ∃b,v'.ownBlock=some b∧w.heap.size≤b):=by
 have HO:=Lh own;obtain⟨A,cap,rfl,hlc,hcm,hnil,hrow⟩:=KOwn.row Kt.len own;unfold maxLen at hcm;have HR:=Lh hrow;clear own hnil hrow;go_enter Tryz.func56,Tryz.ntmps56;go_wp2_with fail;go_loopw [5] (fun u wr => ∃i:Nat,i≤R.length∧u = .int .i64 (i:Nat)∧Hid (∀y∈R.take i,y≠s)∧wr=w) (fun u _=>R.length-(intOf u).toNat);case atStart=>exact ⟨0,Nat.zero_le _,rfl,Lh (fun y hy=>by cases hy),rfl⟩
 case round =>
  obtain⟨i,hi,rfl,H,rfl⟩:=hrel;by_cases hil:i<R.length
  ·obtain⟨b,off,rfl,hbs,hc⟩:=HR.out (by omega);have c0:=Kt.cell hc (List.getElem?_eq_getElem hil);by_cases he:R[i]=s
   ·have hm:s∈R:=by rw[←he];exact List.getElem_mem hil
    have hr:=Lh (show addL R s=R from if_pos hm);rw[he] at c0;clear H hc he hm;go_wp2;go_ret;exact⟨_,rfl,by rw[hr.out];exact HO.out,⟨rfl,rfl,rfl,Nat.le_refl _,fun _ _ _=>rfl⟩,Or.inl rfl⟩
   ·have hne:(R[i]==s)=false:=beq_eq_false_iff_ne.2 he;have hnx:=Lh (Lg.all_take (P:=fun y:List UInt8=>y≠s) H.out (List.getElem?_eq_getElem hil) he);generalize R[i]=r at *;clear H hc he;go_wp2;go_roundw;case rel=>exact ⟨i+1,hil,by go_num,hnx.out,trivial⟩
    case measure=>simp [intOf];omega
  ·have hnm : ¬s∈R:=fun h=>Lg.all_full H.out (by omega) s h rfl;have hr:=Lh (show addL R s=R++[s] from if_neg hnm);have hw:=Kt.new wr s;have ho:=own_alloc HO.out (.cells #[.string (str s)] 9);clear H hnm;have hlt1:R.length+([s]:List (List UInt8)).length≤2000:=by simp;omega
   have hlt2:base≤(wr.alloc (.cells #[.string (str s)] 9)).heap.size:=by simp;omega
   go_wp2_with (at_builtin;refine Kt.wpList_append_knew Kt.ty Kt.len (by rfl) _ _ (by rfl) base _ R (by rfl) ho _ [s] (by rfl) hw (by simp) (fun x hx=>Kt.one x) hlt1 hlt2 ?_;intro v5 w5 o5 g5 p5)
   have ka:=kp_alloc (Below.refl wr.heap.size wr) (.cells #[.string (str s)] 9);go_wp2;go_ret;refine⟨v5,rfl,by rw[hr.out];exact o5,⟨g5.os.trans ka.os,g5.tape.trans ka.tape,g5.output.trans ka.output,Nat.le_trans ka.size g5.size,fun b hb hne=>(g5.block b (Nat.lt_of_lt_of_le hb ka.size) hne).trans (ka.block b hb)⟩,?_⟩;rcases p5 with p5|p5
   ·exact Or.inl p5
   ·exact Or.inr ⟨_,p5,by simp⟩
def FmEO (w:World) (E:Nat→Prop) (v:Value) (M:List Fs):Prop := ∀X:World,(∀b,b<w.heap.size → ¬E b→X.heap[b]? = w.heap[b]?)→w.heap.size≤X.heap.size→FmRow X v M
theorem FmEO.here {w:World} {E:Nat→Prop} {v:Value} {M:List Fs} (h:FmEO w E v M):FmRow w v M:=h w (fun _ _ _=>rfl) (Nat.le_refl _)
theorem FmEO.fewer {w:World} {E E':Nat→Prop} {v:Value} {M:List Fs} (h:FmEO w E v M) (hE : ∀b,E' b→E b):FmEO w E' v M:=fun X h1 h2=>h X (fun b hb he=>h1 b hb fun e=>he (hE b e)) h2
theorem FmEO.below {w w':World} {E:Nat→Prop} {v:Value} {M:List Fs} (h:FmEO w E v M) (hb:Below w.heap.size w w'):FmEO w' E v M:=fun X h1 h2 =>
 h X (fun b hlt he=>(h1 b (Nat.lt_of_lt_of_le hlt hb.size) he).trans (hb.block b hlt)) (Nat.le_trans hb.size h2)
theorem FmEO.setIn {w:World} {E:Nat→Prop} {v u:Value} {M:List Fs} {c i:Nat} (h:FmEO w E v M) (hc:E c):FmEO (w.setCell ⟨c,i,none⟩ u) E v M:=fun X h1 h2 =>
 h X (fun b hlt he=>(h1 b (by simpa[World.setCell] using hlt) he).trans (Below.heap_setCell _ _ _ _ (fun e=>he (by rw[e];exact hc)))) (by simpa[World.setCell] using h2)
theorem FmEO.off {w:World} {E:Nat→Prop} {v:Value} {M:List Fs} (h:FmEO w E v M) : ∀x∈M,FsOff w E x:=fun x hx=>⟨(h.here.2 x hx).2,fun X h1 h2=>((h X h1 h2).2 x hx).1⟩
theorem rbsort_calls (t:List UInt8) (F:List Fs) (v:Value) (w:World) (E:Nat→Prop) (hE : ∀b,E b→b<w.heap.size) (hv:KRow encF 5 w v F) (hx : ∀x∈F,FsOff w E x) (hf:FmFew F) (hn:F.length≤900) :
 Calls Tryz.prog 33 #[batv t v] w fun e w'=>((∃A n cap M,e = .returned (.tuple #[batv t (.slice A n cap),.bool true])∧FmEO w' E (.slice A n cap) M∧Lg.srtB (fms F)=some (fms M))∨(Lg.srtB (fms F)=none∧e = .returned (.tuple #[batv [] (.slice none 0 0),.bool false])))∧Below w.heap.size w w':=by
 have k0:=kp_alloc (kp_alloc (Below.refl w.heap.size w) (.cells #[.string (str t),v] 24)) (.cells #[.string ⟨#[]⟩,.slice none 0 0] 24);have F0:=(BatAt.new w t v 24).below (kp_alloc (Below.refl (w.alloc (.cells #[.string (str t),v] 24)).heap.size (w.alloc (.cells #[.string (str t),v] 24))) (.cells #[.string ⟨#[]⟩,.slice none 0 0] 24));have G0:=BatAt.new (w.alloc (.cells #[.string (str t),v] 24)) [] (.slice none 0 0) 24;rw[show(w.alloc (.cells #[.string (str t),v] 24)).heap.size=w.heap.size+1 by simp] at G0;have hz0:((w.alloc (.cells #[.string (str t),v] 24)).alloc (.cells #[.string ⟨#[]⟩,.slice none 0 0] 24)).heap.size=w.heap.size+2:=by simp
 have hE2 : ∀b,(E b∨b=w.heap.size∨b=w.heap.size+1)→b<((w.alloc (.cells #[.string (str t),v] 24)).alloc (.cells #[.string ⟨#[]⟩,.slice none 0 0] 24)).heap.size:=fun b hb=>by
  rw[hz0];rcases hb with h|h|h
  ·have:=hE b h;omega
  ·omega
  ·omega
 have hx2 : ∀x∈F,FsOff ((w.alloc (.cells #[.string (str t),v] 24)).alloc (.cells #[.string ⟨#[]⟩,.slice none 0 0] 24)) (fun b=>E b∨b=w.heap.size∨b=w.heap.size+1) x:=fun x hxm=>by
  refine⟨(hx x hxm).1,fun X k1 k2=>(hx x hxm).2 X (fun b hb he => ?_) (by rw[hz0] at k2;omega)⟩;have hn : ¬(E b∨b=w.heap.size∨b=w.heap.size+1):=by
   rintro (h|h|h)
   ·exact he h
   ·omega
   ·omega
  rw[k1 b (by rw[hz0];omega) hn];exact k0.block b hb
 have hcp:=Lh (rsortsany_calls F v _ _ hE2 (hv.below k0) hx2 hn hf.p);obtain⟨A,n,cap,hv1⟩ : ∃A n cap,v = .slice A n cap:=by obtain⟨A,cap,he,_⟩:=hv;exact⟨A,_,cap,he⟩
 subst hv1;have K0:=Lh k0;have HF:=Lh F0;have HG:=Lh G0;have HZ0:=Lh hz0;have HEE:=Lh hE;clear F0 G0 k0 hv hf hx hE hz0 hE2 hx2;go_enter Tryz.func33,Tryz.ntmps33;go_wp2_with fail;refine hcp.out.mono ?_;rintro e w1 ⟨⟨A1,n1,cap1,M,rfl,own,off,hr⟩|⟨hno,rfl⟩,b1⟩
 ·obtain⟨x0,x1,xf,xl⟩:=HF.out.below b1;obtain⟨y0,y1,yf,yl⟩:=HG.out.below b1;have HO:=Lh own;have HX:=Lh off;have HRR:=Lh hr;have B1:=Lh (trans9 K0.out b1);have BZ:=Lh b1.size;clear b1 hcp own off hr HF HG;go_wp2;refine bodyPost_ret (v := .tuple #[.agg #[.string (str t),.slice A1 n1 cap1],.bool true]) (by simp[results,Tryz.results33,go_sem,y0,y1]) rfl ⟨Or.inl ⟨A1,n1,cap1,M,rfl,?_,HRR.out⟩,?_⟩
  ·have hz:=HZ0.out;have hbl : ∀b,b≠w.heap.size+1→((w1.setCell ⟨w.heap.size+1,0,none⟩ (.string (str t))).setCell ⟨w.heap.size+1,1,none⟩ (.slice A1 n1 cap1)).heap[b]? = w1.heap[b]?:=fun b hne=>by
    rw[Below.heap_setCell _ _ _ _ hne,Below.heap_setCell _ _ _ _ hne]
   have hE0:=HEE.out;intro X g1 g2;have hsz:((w1.setCell ⟨w.heap.size+1,0,none⟩ (.string (str t))).setCell ⟨w.heap.size+1,1,none⟩ (.slice A1 n1 cap1)).heap.size=w1.heap.size:=by simp[World.setCell]
   rw[hsz] at g1 g2;exact⟨KOwn.row encF_len (Kt.ofBlock HO.out fun b hb=>by
    have q1:=own_ge HO.out b hb;have q2:=own_lt HO.out b hb;rw[g1 b q2 (fun e=>by have:=hE0 b e;omega),hbl b (by omega)]),fun x hx=>⟨(HX.out x hx).2 X (fun b hb he=>by
    rw[g1 b hb (fun e=>he (Or.inl e)),hbl b (fun e=>he (Or.inr (Or.inr e)))]) g2,(HX.out x hx).1⟩⟩
  ·exact(B1.out.setCell (by show w.heap.size≤w.heap.size+1;omega) _).setCell (by show w.heap.size≤w.heap.size+1;omega) _
 ·obtain⟨y0,y1,yf,yl⟩:=HG.out.below b1;have HRR:=Lh hno;have B1:=Lh (trans9 K0.out b1);clear b1 hcp hno HF HG;go_wp2;refine bodyPost_ret (v := .tuple #[.agg #[.string ⟨#[]⟩,.slice none 0 0],.bool false]) (by simp[results,Tryz.results33,go_sem,y0,y1]) rfl ⟨Or.inr ⟨HRR.out,rfl⟩,?_⟩;exact(B1.out.setCell (by show w.heap.size≤w.heap.size+1;omega) _).setCell (by show w.heap.size≤w.heap.size+1;omega) _
end Go.Proofs.YtbapneipjmpcbaaGreatDoor
