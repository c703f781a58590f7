import Derived.Test.YtbapneipjmpcbaaGreatDoorMrgR
import Derived.Test.YtbapneipjmpcbaaGreatDoorLegP
set_option maxHeartbeats 16000000
set_option maxRecDepth 100000
set_option linter.unusedVariables false
set_option linter.unusedSimpArgs false
namespace Go.Proofs.YtbapneipjmpcbaaGreatDoor
open Go.RowKit Go.Sort Dc
attribute [local go_sem ↓] Go.wp_at_zero Go.wp_at_succ
theorem psrt_not {L R:List Ps} {k:Nat} {p:Pt} {r:Ps} (hx:(pts L)[k]? = some p) (hr:r∈R) (hp:R.Perm (L.take k)) (h:cmpP r.2 p=0):psrt (pts L)=none:=psrt_no fun hn=>nd_take (f:=cmpP) (q:=r.2) hn hx (by
 have h1:=hp.mem_iff.1 hr;have h2:=List.mem_map_of_mem (f:=fun q:Ps=>q.2) h1;rw[List.map_take] at h2;exact h2) h
def RSortP (z:Nat) (h:Hd) (L:List Ps) (e:Ending) (w':World):Prop :=
 (∃A n cap M,e = .returned (.tuple #[famv h (.slice A n cap),.bool true])∧PtOwn w' z (.slice A n cap) M∧M.Perm L∧StrictP (pts M))∨(psrt (pts L)=none∧e = .returned (.tuple #[famv hd0 (.slice none 0 0),.bool false]))
theorem rsortany_calls (h:Hd) (L:List Ps) (v:Value) (w:World) (hv:PtRow w v L) (hn:L.length≤1000) :
 Calls Tryz.prog 99 #[famv h v] w fun e w'=>RSortP w.heap.size h L e w'∧Below w.heap.size w w':=by
 have HV:=Lh hv;obtain⟨A,cap,rfl,hlc,hcm,hnil,hrow⟩:=hv.1;unfold maxLen at hcm;have HR:=Lh hrow;have k0:=kp_alloc (kp_alloc (Below.refl w.heap.size w) (.cells (famc h (.slice A L.length cap)) 51)) (.cells (famc hd0 (.slice none 0 0)) 51);have F0:=(FamAt.new w h (.slice A L.length cap) 51).alloc' (.cells (famc hd0 (.slice none 0 0)) 51);have R0:=FamAt.new (w.alloc (.cells (famc h (.slice A L.length cap)) 51)) hd0 (.slice none 0 0) 51;rw[show(w.alloc (.cells (famc h (.slice A L.length cap)) 51)).heap.size=w.heap.size+1 by simp] at R0;clear hrow hnil hv;go_enter Tryz.func99,Tryz.ntmps99;go_upto_region 1 with fail;obtain⟨W0,hW0⟩ : ∃W,W=(w.alloc (.cells #[.string (str h.n),.int .i64 h.k,.string (str h.u),.string (str h.h),.slice A L.length cap] 51)).alloc (.cells #[.string ⟨#[]⟩,.int .i64 0,.string ⟨#[]⟩,.string ⟨#[]⟩,.slice none 0 0] 51):=⟨_,rfl⟩
 have HB:Hid (Below w.heap.size w W0):=Lh (by rw[hW0];exact k0);have HZ:Hid (W0.heap.size=w.heap.size+1+1):=Lh (by rw[hW0];simp);have HF:Hid (FamAt W0 w.heap.size h (.slice A L.length cap)):=Lh (by rw[hW0];exact F0);have HRA:Hid (FamAt W0 (w.heap.size+1) hd0 (.slice none 0 0)):=Lh (by rw[hW0];exact R0);rw[←hW0];clear hW0 k0 F0 R0;go_wp2_with fail;go_loopw [4,5] (fun q i wr => ∃(k:Nat) (p:Value) (R:List Ps),p=q∧k≤L.length∧i = .int .i64 (k:Nat)∧Hid (R.Perm (L.take k))∧Hid (StrictP (pts R))∧Hid (PtOwn wr W0.heap.size p R)∧Hid (Below W0.heap.size W0 wr)) (fun _ i _=>L.length-(intOf i).toNat);case atStart=>exact ⟨0,_,[],rfl,Nat.zero_le _,rfl,List.Perm.refl _,List.Pairwise.nil,KOwn.nil _ _ _ _ _,Below.refl _ _⟩
 case round =>
  obtain⟨k,pv,R,rfl,hk,rfl,HPm,HSt,HO,HBB⟩:=hrel;have hRk:Hid (R.length=k):=by have:=HPm.out.length_eq;rw[List.length_take] at this;show _=_;omega
  obtain⟨A2,cap2,rfl,hlc2,hcm2,_,hr2⟩:=KOwn.row encP_len HO.out;unfold maxLen at hcm2;have x4:wr.cell? ⟨w.heap.size,4,none⟩=some (.slice A L.length cap):=(HF.out.below HBB.out).c4;by_cases hkl:k<L.length
  ·obtain⟨b,off,rfl,hbs,hc⟩:=HR.out (by omega);obtain⟨x,hx,hxp⟩:=ps_get hkl;have hxi:=HV.out.2 x (List.mem_of_getElem? hx);have hNE:=fun (j:Nat) (r:Ps) (hr:R[j]? = some r) (h:cmpP r.2 x.2=0)=>psrt_not hxp (List.mem_of_getElem? hr) HPm.out h;obtain⟨A1,n1,cap1,hx1⟩ : ∃A1 n1 cap1,x.1 = .slice A1 n1 cap1:=by obtain⟨_,_,h,_⟩:=hxi.1;exact⟨_,_,_,h⟩
   obtain⟨xv,p⟩:=x;simp only at hx1;subst hx1;simp only at hNE;have HNE:=Lh hNE;have HX9:Hid (∀z,Below wr.heap.size wr z→Nine z b (off+k*9) (.slice A1 n1 cap1) p):=Lh (fun z hz=>(show Nine w b (off+k*9) (.slice A1 n1 cap1) p from pr_cells hc hx).below (trans9 HB.out (trans9 HBB.out hz)) hbs);have HF4:Hid (∀z,Below wr.heap.size wr z→z.cell? ⟨w.heap.size,4,none⟩=some (.slice (some ⟨b,off,none⟩) L.length cap)):=Lh (fun z hz=>(HF.out.below (trans9 HBB.out hz)).c4);have HCP:Hid (∀r∈R,∀W,Below wr.heap.size wr W→Calls Tryz.prog 45 #[ptv r.1 r.2,ptv (.slice A1 n1 cap1) p] W fun e w'=>e = .returned (.int .i64 (cmpP r.2 p))∧Below W.heap.size W w'):=Lh (fun r hr W hW=>by
    have hri:=HV.out.2 r (List.mem_of_mem_take (HPm.out.mem_iff.1 hr));have hWW:=trans9 HB.out (trans9 HBB.out hW);exact rcomparepoints_calls r.1 (.slice A1 n1 cap1) r.2 p W (hri.1.below hWW) (hxi.1.below hWW) hri.2 hxi.2)
   have HSL:Hid (∀r∈R,∃A n cap,r.1 = .slice A n cap):=Lh (fun r hr=>by
    obtain⟨_,_,h,_⟩:=(HV.out.2 r (List.mem_of_mem_take (HPm.out.mem_iff.1 hr))).1;exact⟨_,_,_,h⟩)
   have HON:Hid (∀r∈R,∀u∈encP r,u.oneCell'=true):=Lh (fun r hr=>encP_one (HV.out.2 r (List.mem_of_mem_take (HPm.out.mem_iff.1 hr))));have HX1:Hid (∀u∈encP ((.slice A1 n1 cap1,p):Ps),u.oneCell'=true):=Lh (encP_one hxi);have HPm2:Hid (∀m,(R.take m++[((.slice A1 n1 cap1,p):Ps)]++R.drop m).Perm (L.take (k+1))):=Lh (fun m=>perm_ins m HPm.out hx);have HR2:=Lh hr2;have hk0:(0:Int)≤(k:Int):=by omega
   have hkb:(k:Int)<(L.length:Int):=by omega
   have hRl:R.length≤1000:=by have:=hRk.out;omega
   clear hc hx hxp hxi hNE hr2;go_wp2_with fail;generalize wr=W1 at *;go_loopw [6] (fun i wi => ∃m:Nat,m≤R.length∧i = .int .i64 (m:Nat)∧Hid (∀j r,m≤j→R[j]? = some r→0<cmpP r.2 p)∧Hid (Below W1.heap.size W1 wi)) (fun i _=>(intOf i).toNat);case atStart=>exact ⟨R.length,Nat.le_refl _,rfl,Lh (fun j r h1 h2=>by have:=(List.getElem?_eq_some_iff.1 h2).1;omega),Lh (Below.refl _ _)⟩
   case round =>
    clear x4;obtain⟨m,hm,rfl,HU,HBi⟩:=hrel;obtain⟨d,hd⟩ : ∃d:Bool,d=true↔(∃j r,m=j+1∧R[j]? = some r∧0<cmpP r.2 p):=by classical exact⟨decide (∃j r,m=j+1∧R[j]? = some r∧0<cmpP r.2 p),decide_eq_true_iff⟩
    have HD:=Lh hd;clear hd;go_wp2_with fail
    go_cut [31] from 16 to 31 (fun s wx=>s = .bool d∧Hid (Below W1.heap.size W1 wx))
    case first =>
     by_cases hm0:m=0
     ·subst hm0;obtain rfl:d=false:=by
       cases d with
       | false=>rfl
       | true=>obtain ⟨j,r,h1,_⟩:=HD.out.1 rfl;omega
      rw[show((0:Nat):Int)=0 from rfl];refine wp_region_noPanic ?_;refine wp_region_held_drew (S:=fun X=>Below wr.heap.size wr X) (by kernel_rfl) ?_ (fun hHeld => ?_)
      ·exact Below.drew (Below.refl _ _)
      have kB:Below wr.heap.size wr wr.drew:=Below.drew (Below.refl _ _);clear hHeld;refine tk9 0 kB ?_;refine tk9 1 kB ?_;refine tk9 2 kB ?_;refine tu9 3 kB ?_;refine tu9 4 kB ?_;refine tu9 5 kB ?_;refine tu9 6 kB ?_;refine tu9 7 kB ?_;refine tu9 8 kB ?_;refine tu9 9 kB ?_;refine tu9 10 kB ?_;refine tu9 11 kB ?_;refine tu9 12 kB ?_;refine tu9 13 kB ?_;refine tu9 14 kB ?_;refine tk9 15 kB ?_;refine wpAnyH_done (by kernel_rfl) ?_ _;refine NoPanic.normal ?_;go_wp2_with fail
      go_meet
      exact⟨rfl,Lh (trans9 HBi.out kB)⟩
     ·obtain⟨j,rfl⟩ : ∃j,m=j+1:=⟨m-1,by omega⟩
      obtain⟨r,hr⟩ : ∃r,Hid (R[j]? = some r):=⟨R[j],Lh (List.getElem?_eq_getElem (by omega))⟩
      have hjR:j<R.length:=by omega
      obtain⟨_,_,he3,_,_,_,hr3⟩:=KOwn.row encP_len HO.out
      cases he3
      obtain⟨g2,off2,rfl,hg2,hcc⟩:=hr3 (by omega);have hr9:Hid (∀z,Below W1.heap.size W1 z→Nine z g2 (off2+j*9) r.1 r.2):=Lh (fun z hz=>(show Nine W1 g2 (off2+j*9) r.1 r.2 from pr_cells hcc hr.out).below hz hg2);have hcpr:Hid (∀W,Below wr.heap.size wr W→_):=Lh (fun W hW=>HCP.out r (List.mem_of_getElem? hr.out) W (trans9 HBi.out hW));have hsl:=Lh (HSL.out r (List.mem_of_getElem? hr.out));have hw1:IntKind.i64.wrap (j:Int)=(j:Int):=IntWalk.i64_in _ (by omega);have hmj:((j+1:Nat):Int)-1=(j:Int):=by omega
      have dm:decide ((0:Int)<((j+1:Nat):Int))=true:=by first|(simp;done)|(simp;omega)
      have dm2:decide (0<j+1)=true:=by simp
      have hj0:(0:Int)≤(j:Int):=by omega
      have hj1:(j:Int)<(R.length:Int):=by omega
      clear hr3 hcc;have hdd:Hid (d=decide (0<cmpP r.2 p)):=Lh (by
       rw[Bool.eq_iff_iff,decide_eq_true_iff];exact HD.out.trans ⟨fun⟨j',r',h1,h2,h3⟩=>by
        obtain rfl:j=j':=by omega
        rw[hr.out] at h2;obtain rfl:=Option.some.inj h2;exact h3,fun q=>⟨j,r,rfl,hr.out,q⟩⟩)
      obtain⟨rv,rp⟩:=r;simp only at hr9 hcpr hsl hdd;obtain⟨A4,n4,cap4,rfl⟩:=hsl.out;have HR9:=Lh hr9.out;have hcp:=Lh hcpr.out;clear hr9 hcpr hsl;generalize cmpP rp p=C at *;refine wp_region_noPanic ?_;refine wp_region_held_drew (S:=fun X=>Below wr.heap.size wr X) (by kernel_rfl) ?_ (fun hHeld => ?_)
      ·exact Below.drew (Below.refl _ _)
      have kB:Below wr.heap.size wr wr.drew:=Below.drew (Below.refl _ _);clear hHeld;refine tk9 0 kB ?_;refine tk9 1 kB ?_;refine tk9 2 kB ?_;refine tk9 3 kB ?_;refine tk9 4 kB ?_;refine tk9 5 kB ?_;refine tk9 6 kB ?_;refine tk9 7 kB ?_ (hy:=Or.inl ⟨by rfl,by intro x hSw;(try dsimp only at hSw);obtain⟨y0,y1,y2,y3,y4,y5,y6,y7,y8⟩:=HR9.out x (trans9 HBi.out hSw);first|(go_simp;done)|(go_simp;with_reducible rfl)⟩);refine tk9 8 kB ?_;refine tk9 9 kB ?_ (hy:=Or.inl ⟨by rfl,by intro x hSw;(try dsimp only at hSw);have x4:=HF4.out x (trans9 HBi.out hSw);first|(go_simp;done)|(go_simp;with_reducible rfl)⟩);refine tk9 10 kB ?_;refine tk9 11 kB ?_;refine tk9 12 kB ?_ (hy:=Or.inl ⟨by rfl,by intro x hSw;(try dsimp only at hSw);obtain⟨y0,y1,y2,y3,y4,y5,y6,y7,y8⟩:=HX9.out x (trans9 HBi.out hSw);first|(go_simp;done)|(go_simp;with_reducible rfl)⟩);refine wpAnyH_ready (rs:=[13]) (by kernel_rfl) (by simp) ?_;refine ar9 fun K hK => ?_
      try go_simp
      refine(hcp.out _ kB).mono ?_;rintro e w5 ⟨rfl,b5⟩;replace kB:=trans9 kB b5;clear b5
      try go_wp2_with fail
      refine hK.out _ _ kB (fun hHeld => ?_);clear hK K hHeld
      (try simp only[Act.put,sI,sZ,sS])
      refine tk9 14 kB ?_;refine tk9 15 kB ?_;refine wpAnyH_done (by kernel_rfl) ?_ _;refine NoPanic.normal ?_;go_wp2_with fail
      go_meet
      first|exact ⟨congrArg Value.bool hdd.out.symm,Lh (trans9 HBi.out kB)⟩|exact ⟨by rw[hdd.out],Lh (trans9 HBi.out kB)⟩
    case rest =>
     obtain⟨rfl,HB3⟩:=hcut;clear HBi
     cases d with
     | true =>
       obtain⟨j,r,rfl,hr,hp⟩:=HD.out.1 rfl;have HU2:Hid (∀j' r',j≤j'→R[j']? = some r'→0<cmpP r'.2 p):=Lh (fun i r' h1 h2=>by
        by_cases e:i=j
        ·subst e;rw[hr] at h2;obtain rfl:=Option.some.inj h2;exact hp
        ·exact HU.out i r' (by omega) h2)
       have hw1:IntKind.i64.wrap (j:Int)=(j:Int):=IntWalk.i64_in _ (by omega);have hmj:((j+1:Nat):Int)-1=(j:Int):=by omega
       clear hr hp HU HD;go_wp2_with fail;go_roundw;case rel=>exact ⟨j,by omega,by go_num,HU2,HB3⟩
       case measure=>simp [intOf]
     | false =>
       obtain⟨d2,hd2⟩ : ∃d2:Bool,d2=true↔(∃j r,m=j+1∧R[j]? = some r∧cmpP r.2 p=0):=by classical exact⟨decide (∃j r,m=j+1∧R[j]? = some r∧cmpP r.2 p=0),decide_eq_true_iff⟩
       have HD2:=Lh hd2;clear hd2;go_wp2_with fail;generalize wc=W2 at *
       go_cut [49] from 34 to 49 (fun s wx=>s = .bool d2∧Hid (Below W1.heap.size W1 wx))
       case first =>
        by_cases hm0:m=0
        ·subst hm0;obtain rfl:d2=false:=by
          cases d2 with
          | false=>rfl
          | true=>obtain ⟨j,r,h1,_⟩:=HD2.out.1 rfl;omega
         rw[show((0:Nat):Int)=0 from rfl];refine wp_region_noPanic ?_;refine wp_region_held_drew (S:=fun X=>Below W2.heap.size W2 X) (by kernel_rfl) ?_ (fun hHeld => ?_)
         ·exact Below.drew (Below.refl _ _)
         have kB:Below W2.heap.size W2 W2.drew:=Below.drew (Below.refl _ _);clear hHeld;refine tk9 0 kB ?_;refine tk9 1 kB ?_;refine tk9 2 kB ?_;refine tu9 3 kB ?_;refine tu9 4 kB ?_;refine tu9 5 kB ?_;refine tu9 6 kB ?_;refine tu9 7 kB ?_;refine tu9 8 kB ?_;refine tu9 9 kB ?_;refine tu9 10 kB ?_;refine tu9 11 kB ?_;refine tu9 12 kB ?_;refine tu9 13 kB ?_;refine tu9 14 kB ?_;refine tk9 15 kB ?_;refine wpAnyH_done (by kernel_rfl) ?_ _;refine NoPanic.normal ?_;go_wp2_with fail
         go_meet
         exact⟨rfl,Lh (trans9 HB3.out kB)⟩
        ·obtain⟨j,rfl⟩ : ∃j,m=j+1:=⟨m-1,by omega⟩
         obtain⟨r,hr⟩ : ∃r,Hid (R[j]? = some r):=⟨R[j],Lh (List.getElem?_eq_getElem (by omega))⟩
         have hjR:j<R.length:=by omega
         obtain⟨_,_,he3,_,_,_,hr3⟩:=KOwn.row encP_len HO.out
         cases he3
         obtain⟨g2,off2,rfl,hg2,hcc⟩:=hr3 (by omega);have hr9:Hid (∀z,Below W1.heap.size W1 z→Nine z g2 (off2+j*9) r.1 r.2):=Lh (fun z hz=>(show Nine W1 g2 (off2+j*9) r.1 r.2 from pr_cells hcc hr.out).below hz hg2);have hcpr:Hid (∀W,Below W2.heap.size W2 W→_):=Lh (fun W hW=>HCP.out r (List.mem_of_getElem? hr.out) W (trans9 HB3.out hW));have hsl:=Lh (HSL.out r (List.mem_of_getElem? hr.out));have hw1:IntKind.i64.wrap (j:Int)=(j:Int):=IntWalk.i64_in _ (by omega);have hmj:((j+1:Nat):Int)-1=(j:Int):=by omega
         have dm:decide ((0:Int)<((j+1:Nat):Int))=true:=by first|(simp;done)|(simp;omega)
         have dm2:decide (0<j+1)=true:=by simp
         have hj0:(0:Int)≤(j:Int):=by omega
         have hj1:(j:Int)<(R.length:Int):=by omega
         clear hr3 hcc;have hne:Hid (d2=(cmpP r.2 p==0)):=Lh (by
          rw[Bool.eq_iff_iff,beq_iff_eq];exact HD2.out.trans ⟨fun⟨j',r',h1,h2,h3⟩=>by
           obtain rfl:j=j':=by omega
           rw[hr.out] at h2;obtain rfl:=Option.some.inj h2;exact h3,fun q=>⟨j,r,rfl,hr.out,q⟩⟩)
         obtain⟨rv,rp⟩:=r;simp only at hr9 hcpr hsl hne;obtain⟨A4,n4,cap4,rfl⟩:=hsl.out;have HR9:=Lh hr9.out;have hcp:=Lh hcpr.out;clear hr9 hcpr hsl;generalize cmpP rp p=C at *;refine wp_region_noPanic ?_;refine wp_region_held_drew (S:=fun X=>Below W2.heap.size W2 X) (by kernel_rfl) ?_ (fun hHeld => ?_)
         ·exact Below.drew (Below.refl _ _)
         have kB:Below W2.heap.size W2 W2.drew:=Below.drew (Below.refl _ _);clear hHeld;refine tk9 0 kB ?_;refine tk9 1 kB ?_;refine tk9 2 kB ?_;refine tk9 3 kB ?_;refine tk9 4 kB ?_;refine tk9 5 kB ?_;refine tk9 6 kB ?_;refine tk9 7 kB ?_ (hy:=Or.inl ⟨by rfl,by intro x hSw;(try dsimp only at hSw);obtain⟨y0,y1,y2,y3,y4,y5,y6,y7,y8⟩:=HR9.out x (trans9 HB3.out hSw);first|(go_simp;done)|(go_simp;with_reducible rfl)⟩);refine tk9 8 kB ?_;refine tk9 9 kB ?_ (hy:=Or.inl ⟨by rfl,by intro x hSw;(try dsimp only at hSw);have x4:=HF4.out x (trans9 HB3.out hSw);first|(go_simp;done)|(go_simp;with_reducible rfl)⟩);refine tk9 10 kB ?_;refine tk9 11 kB ?_;refine tk9 12 kB ?_ (hy:=Or.inl ⟨by rfl,by intro x hSw;(try dsimp only at hSw);obtain⟨y0,y1,y2,y3,y4,y5,y6,y7,y8⟩:=HX9.out x (trans9 HB3.out hSw);first|(go_simp;done)|(go_simp;with_reducible rfl)⟩);refine wpAnyH_ready (rs:=[13]) (by kernel_rfl) (by simp) ?_;refine ar9 fun K hK => ?_
         try go_simp
         refine(hcp.out _ kB).mono ?_;rintro e w5 ⟨rfl,b5⟩;replace kB:=trans9 kB b5;clear b5
         try go_wp2_with fail
         refine hK.out _ _ kB (fun hHeld => ?_);clear hK K hHeld
         (try simp only[Act.put,sI,sZ,sS])
         refine tk9 14 kB ?_;refine tk9 15 kB ?_;refine wpAnyH_done (by kernel_rfl) ?_ _;refine NoPanic.normal ?_;go_wp2_with fail
         go_meet
         first|exact ⟨congrArg Value.bool hne.out.symm,Lh (trans9 HB3.out kB)⟩|exact ⟨by rw[hne.out],Lh (trans9 HB3.out kB)⟩|exact ⟨by rw[hne.out];rfl,Lh (trans9 HB3.out kB)⟩
       case rest =>
        obtain⟨rfl,HB4⟩:=hcut;clear HB3
        cases d2 with
        | true =>
          obtain⟨j,r,hj,hr,hp0⟩:=HD2.out.1 rfl;have hno:=Lh (HNE.out j r hr hp0);obtain⟨u0,u1,u2,u3,u4,uf,ul⟩:=(HRA.out.below HBB.out).below HB4.out;have KB:=Lh (trans9 HB.out (trans9 HBB.out HB4.out));clear hr hp0 HD HD2 HU hj;go_wp2;refine bodyPost_ret (v := .tuple #[.agg #[.string ⟨#[]⟩,.int .i64 0,.string ⟨#[]⟩,.string ⟨#[]⟩,.slice none 0 0],.bool false]) (by simp[results,Tryz.results99,go_sem,u0,u1,u2,u3,u4]) rfl ⟨Or.inr ⟨hno.out,rfl⟩,?_⟩
          repeat(first|exact KB.out|refine Below.setCell ?_ (by show w.heap.size≤w.heap.size+1;omega) _)
        | false =>
          have HLO:Hid (∀i z,i<m→R[i]? = some z→cmpP z.2 p<0):=Lh (by
           by_cases hm0:m=0
           ·exact fun i z h1=>by omega
           ·obtain⟨j,rfl⟩ : ∃j,m=j+1:=⟨m-1,by omega⟩
            have hrj:R[j]? = some R[j]:=List.getElem?_eq_getElem (by omega);have h1 : ¬cmpP R[j].2 p=0:=fun q=>absurd (HD2.out.2 ⟨j,_,rfl,hrj,q⟩) (by simp);have h2 : ¬0<cmpP R[j].2 p:=fun q=>absurd (HD.out.2 ⟨j,_,rfl,hrj,q⟩) (by simp);exact loP_all HSt.out hrj (by omega))
          clear HD HD2;have HOW:Hid (PtOwn wc W0.heap.size (.slice A2 R.length cap2) R):=Lh (HO.out.below HB4.out);have hrw:=KOwn.row encP_len HOW.out;obtain⟨u1,eq1,row1⟩:=kr_to ptTy hrw m hm;obtain⟨u2,eq2,row2⟩:=kr_from ptTy hrw m hm;have HTO:=Lh (fun z (hz:Below wc.heap.size wc z)=>row1 z (hrw.below hz));have HFR:=Lh (fun z (hz:Below wc.heap.size wc z)=>row2 z (hrw.below hz));have hnp:=Lh (HPm2.out m);have hns:Hid (StrictP (pts (R.take m++[((.slice A1 n1 cap1,p):Ps)]++R.drop m))):=Lh (strictP_ins HSt.out hm HLO.out HU.out);have hlt0:([]:List Ps).length+(R.take m).length≤2000:=by rw[List.length_take];simp;omega
          have hlt1:(R.take m).length+([((.slice A1 n1 cap1,p):Ps)]:List Ps).length≤2000:=by rw[List.length_take];simp;omega
          have hlt2:(R.take m++[((.slice A1 n1 cap1,p):Ps)]).length+(R.drop m).length≤2000:=by rw[List.length_append,List.length_take,List.length_drop];simp;omega
          have HSW:Hid (W0.heap.size≤wc.heap.size):=Lh (Nat.le_trans HBB.out.size HB4.out.size);clear row1 row2 hrw HU HLO;go_wp2_with fail;refine wp_region_noPanic ?_;refine wp_region_held_drew (S:=fun X=>Below wc.heap.size wc X) (by kernel_rfl) ?_ (fun hHeld => ?_)
          ·exact Below.drew (Below.refl _ _)
          have kB:Below wc.heap.size wc wc.drew:=Below.drew (Below.refl _ _);clear hHeld;refine tk9 0 kB ?_;refine tk9 1 kB ?_;refine tk9 2 kB ?_;refine tk9 4 kB ?_;refine tk9 5 kB ?_ (hy:=Or.inl ⟨by rfl,by intro x hSw;(try dsimp only at hSw);have x4:=HF4.out x (trans9 HB4.out hSw);first|(go_simp;done)|(go_simp;with_reducible rfl)⟩);refine tk9 6 kB ?_;refine tk9 7 kB ?_;refine tk9 8 kB ?_ (hy:=Or.inl ⟨by rfl,by intro x hSw;(try dsimp only at hSw);obtain⟨y0,y1,y2,y3,y4,y5,y6,y7,y8⟩:=HX9.out x (trans9 HB4.out hSw);first|(go_simp;done)|(go_simp;with_reducible rfl)⟩);refine tk9 11 kB ?_;refine tk9 12 kB ?_;refine tk9 13 kB ?_;refine wpAnyH_ready (rs:=[3,9]) (by kernel_rfl) (by simp) ?_;refine AllReadyH.cons (by simp only[List.getElem?_toArray,List.getElem?_cons_succ,List.getElem?_cons_zero];rfl) (fun K hK => ?_) ?_
          ·refine step_append_krow ptTy encP_len (by rfl) (.const (.slice none 0 0)) (.tmp 53) (by rfl) wc.heap.size _ [] (by rfl) (KOwn.nil _ _ _ _ _) _ (R.take m) (by rfl) (HTO.out _ kB) (fun x hx=>HON.out x (List.mem_of_mem_take hx)) hlt0 (Below.size kB) ?_;intro v5 w5 o5 g5;replace kB:=Below.grown kB g5 (Below.size kB) (fun q hq=>by cases hq);simp only[List.nil_append] at o5;clear g5;refine hK.out _ _ kB (fun hHeld => ?_);clear hK K hHeld
           (try simp only[Act.put,sI,sZ,sS])
           refine wpAnyH_ready (rs:=[9]) (by kernel_rfl) (by simp) ?_;refine ar9 fun K hK => ?_;go_simp;have kX:KRow encP _ (w5.alloc (.cells #[.slice A1 n1 cap1,.int .i64 p.ro,.bool p.inf,.int .i64 p.bm,.int .i64 p.bs,.int .i64 p.m,.int .i64 p.s,.bool p.td,.int .i64 p.ti] 56)) (.slice (some ⟨w5.heap.size,0,none⟩) 1 1) [((.slice A1 n1 cap1,p):Ps)]:=new_pt w5 (.slice A1 n1 cap1) p;replace kB:Below wc.heap.size wc ((w5.alloc (.cells #[.slice A1 n1 cap1,.int .i64 p.ro,.bool p.inf,.int .i64 p.bm,.int .i64 p.bs,.int .i64 p.m,.int .i64 p.s,.bool p.td,.int .i64 p.ti] 56))):=kp_alloc kB _;replace o5:=own_alloc o5 (.cells #[.slice A1 n1 cap1,.int .i64 p.ro,.bool p.inf,.int .i64 p.bm,.int .i64 p.bs,.int .i64 p.m,.int .i64 p.s,.bool p.td,.int .i64 p.ti] 56);obtain⟨W6,hW6⟩ : ∃X,X=(w5.alloc (.cells #[.slice A1 n1 cap1,.int .i64 p.ro,.bool p.inf,.int .i64 p.bm,.int .i64 p.bs,.int .i64 p.m,.int .i64 p.s,.bool p.td,.int .i64 p.ti] 56)):=⟨_,rfl⟩
           rw[←hW6] at kB kX o5 ⊢;clear hW6;obtain⟨xb,hxb⟩ : ∃X,X=w5.heap.size:=⟨_,rfl⟩
           rw[←hxb] at kX ⊢;clear hxb;refine hK.out _ _ kB (fun hHeld => ?_);clear hK K hHeld
           (try simp only[Act.put,sI,sZ,sS])
           refine wpAnyH_ready (rs:=[10]) (by kernel_rfl) (by simp) ?_;refine ar9 fun K hK => ?_;refine step_append_krow ptTy encP_len (by rfl) (.tmp 54) (.tmp 60) (by rfl) wc.heap.size _ (R.take m) (by rfl) o5 _ [((.slice A1 n1 cap1,p):Ps)] (by rfl) kX (fun x hx=>by rw[List.mem_singleton.1 hx];exact HX1.out) hlt1 (Below.size kB) ?_;intro v6 w6 o6 g6;replace kB:=Below.grown kB g6 (Below.size kB) (fun q hq=>own_ge o5 q hq);clear o5 g6 kX;refine hK.out _ _ kB (fun hHeld => ?_);clear hK K hHeld
           (try simp only[Act.put,sI,sZ,sS])
           refine wpAnyH_ready (rs:=[14]) (by kernel_rfl) (by simp) ?_;refine ar9 fun K hK => ?_;refine step_append_krow ptTy encP_len (by rfl) (.tmp 61) (.tmp 64) (by rfl) wc.heap.size _ (R.take m++[((.slice A1 n1 cap1,p):Ps)]) (by rfl) o6 _ (R.drop m) (by rfl) (HFR.out _ kB) (fun x hx=>HON.out x (List.mem_of_mem_drop hx)) hlt2 (Below.size kB) ?_;intro v7 w7 o7 g7;replace kB:=Below.grown kB g7 (Below.size kB) (fun q hq=>own_ge o6 q hq);clear o6 g7;refine hK.out _ _ kB (fun hHeld => ?_);clear hK K hHeld
           (try simp only[Act.put,sI,sZ,sS])
           refine tk9 15 kB ?_;refine wpAnyH_done (by kernel_rfl) ?_ _;refine NoPanic.normal ?_;have HB7:=Lh (trans9 HBB.out (trans9 HB4.out kB));have HO7:=Lh (KOwn.mono o7 HSW.out);clear o7 kB eq1 eq2;go_wp2_with fail;go_roundw;case rel=>exact ⟨k+1,_,_,rfl,hkl,by go_num,hnp,hns,HO7,HB7⟩
           case measure=>simp [intOf];omega
          refine ar9 fun K hK => ?_;go_simp;have kX:KRow encP _ (wc.alloc (.cells #[.slice A1 n1 cap1,.int .i64 p.ro,.bool p.inf,.int .i64 p.bm,.int .i64 p.bs,.int .i64 p.m,.int .i64 p.s,.bool p.td,.int .i64 p.ti] 56)).drew (.slice (some ⟨wc.heap.size,0,none⟩) 1 1) [((.slice A1 n1 cap1,p):Ps)]:=new_pt wc (.slice A1 n1 cap1) p;replace kB:Below wc.heap.size wc ((wc.alloc (.cells #[.slice A1 n1 cap1,.int .i64 p.ro,.bool p.inf,.int .i64 p.bm,.int .i64 p.bs,.int .i64 p.m,.int .i64 p.s,.bool p.td,.int .i64 p.ti] 56)).drew):=Below.drew (kp_alloc (Below.refl _ _) _);obtain⟨W6,hW6⟩ : ∃X,X=(wc.alloc (.cells #[.slice A1 n1 cap1,.int .i64 p.ro,.bool p.inf,.int .i64 p.bm,.int .i64 p.bs,.int .i64 p.m,.int .i64 p.s,.bool p.td,.int .i64 p.ti] 56)).drew:=⟨_,rfl⟩
          rw[←hW6] at kB kX ⊢;clear hW6;obtain⟨xb,hxb⟩ : ∃X,X=wc.heap.size:=⟨_,rfl⟩
          have kX2:=kX;rw[←hxb] at kX2 ⊢;clear kX;have kX:=kX2;clear kX2 hxb;refine hK.out _ _ kB (fun hHeld => ?_);clear hK K hHeld
          (try simp only[Act.put,sI,sZ,sS])
          refine wpAnyH_ready (rs:=[3]) (by kernel_rfl) (by simp) ?_;refine ar9 fun K hK => ?_;refine step_append_krow ptTy encP_len (by rfl) (.const (.slice none 0 0)) (.tmp 53) (by rfl) wc.heap.size _ [] (by rfl) (KOwn.nil _ _ _ _ _) _ (R.take m) (by rfl) (HTO.out _ kB) (fun x hx=>HON.out x (List.mem_of_mem_take hx)) hlt0 (Below.size kB) ?_;intro v5 w5 o5 g5;replace kX:=kX.below (Below.grown (Below.refl _ _) g5 (Nat.le_refl _) (fun q hq=>by cases hq));replace kB:=Below.grown kB g5 (Below.size kB) (fun q hq=>by cases hq);simp only[List.nil_append] at o5;clear g5;refine hK.out _ _ kB (fun hHeld => ?_);clear hK K hHeld
          (try simp only[Act.put,sI,sZ,sS])
          refine wpAnyH_ready (rs:=[10]) (by kernel_rfl) (by simp) ?_;refine ar9 fun K hK => ?_;refine step_append_krow ptTy encP_len (by rfl) (.tmp 54) (.tmp 60) (by rfl) wc.heap.size _ (R.take m) (by rfl) o5 _ [((.slice A1 n1 cap1,p):Ps)] (by rfl) kX (fun x hx=>by rw[List.mem_singleton.1 hx];exact HX1.out) hlt1 (Below.size kB) ?_;intro v6 w6 o6 g6;replace kB:=Below.grown kB g6 (Below.size kB) (fun q hq=>own_ge o5 q hq);clear o5 g6 kX;refine hK.out _ _ kB (fun hHeld => ?_);clear hK K hHeld
          (try simp only[Act.put,sI,sZ,sS])
          refine wpAnyH_ready (rs:=[14]) (by kernel_rfl) (by simp) ?_;refine ar9 fun K hK => ?_;refine step_append_krow ptTy encP_len (by rfl) (.tmp 61) (.tmp 64) (by rfl) wc.heap.size _ (R.take m++[((.slice A1 n1 cap1,p):Ps)]) (by rfl) o6 _ (R.drop m) (by rfl) (HFR.out _ kB) (fun x hx=>HON.out x (List.mem_of_mem_drop hx)) hlt2 (Below.size kB) ?_;intro v7 w7 o7 g7;replace kB:=Below.grown kB g7 (Below.size kB) (fun q hq=>own_ge o6 q hq);clear o6 g7;refine hK.out _ _ kB (fun hHeld => ?_);clear hK K hHeld
          (try simp only[Act.put,sI,sZ,sS])
          refine tk9 15 kB ?_;refine wpAnyH_done (by kernel_rfl) ?_ _;refine NoPanic.normal ?_;have HB7:=Lh (trans9 HBB.out (trans9 HB4.out kB));have HO7:=Lh (KOwn.mono o7 HSW.out);clear o7 kB eq1 eq2;go_wp2_with fail;go_roundw;case rel=>exact ⟨k+1,_,_,rfl,hkl,by go_num,hnp,hns,HO7,HB7⟩
          case measure=>simp [intOf];omega
  ·have hr:L.take k=L:=List.take_of_length_le (by omega);have HPM:Hid (R.Perm L):=Lh (by have:=HPm.out;rwa [hr] at this);obtain⟨f0,f1,f2,f3,f4,ff,fl⟩:=HF.out.below HBB.out;obtain⟨u0,u1,u2,u3,u4,uf,ul⟩:=HRA.out.below HBB.out;have K:Hid (Below w.heap.size w (((((wr.setCell ⟨w.heap.size+1,0,none⟩ (.string (str h.n))).setCell ⟨w.heap.size+1,1,none⟩ (.int .i64 h.k)).setCell ⟨w.heap.size+1,2,none⟩ (.string (str h.u))).setCell ⟨w.heap.size+1,3,none⟩ (.string (str h.h))).setCell ⟨w.heap.size+1,4,none⟩ (.slice A2 R.length cap2))):=Lh ((((((trans9 HB.out HBB.out).setCell (by show w.heap.size≤w.heap.size+1;omega) _).setCell (by show w.heap.size≤w.heap.size+1;omega) _).setCell (by show w.heap.size≤w.heap.size+1;omega) _).setCell (by show w.heap.size≤w.heap.size+1;omega) _).setCell (by show w.heap.size≤w.heap.size+1;omega) _);have HOF:Hid (PtOwn (((((wr.setCell ⟨w.heap.size+1,0,none⟩ (.string (str h.n))).setCell ⟨w.heap.size+1,1,none⟩ (.int .i64 h.k)).setCell ⟨w.heap.size+1,2,none⟩ (.string (str h.u))).setCell ⟨w.heap.size+1,3,none⟩ (.string (str h.h))).setCell ⟨w.heap.size+1,4,none⟩ (.slice A2 R.length cap2)) w.heap.size (.slice A2 R.length cap2) R):=Lh (KOwn.mono (HO.out.ofBlock (fun b hb=>by
    have h1:=own_ge HO.out b hb;have h2:=HZ.out;have hne:b≠w.heap.size+1:=by omega
    rw[Below.heap_setCell _ _ _ _ hne,Below.heap_setCell _ _ _ _ hne,Below.heap_setCell _ _ _ _ hne,Below.heap_setCell _ _ _ _ hne,Below.heap_setCell _ _ _ _ hne])) (by have:=HZ.out;omega))
   clear HPm hr x4 hr2;go_wp2;refine bodyPost_ret (v := .tuple #[.agg #[.string (str h.n),.int .i64 h.k,.string (str h.u),.string (str h.h),.slice A2 R.length cap2],.bool true]) (by simp[results,Tryz.results99,go_sem,u0,u1,u2,u3,u4]) rfl ⟨Or.inl ⟨A2,R.length,cap2,R,rfl,HOF.out,HPM.out,HSt.out⟩,K.out⟩
theorem srtB_dup {l:List Fp} {k:Nat} {y r:Fp} (hy:(l.map Lg.srtG)[k]? = some y) (hr:r∈(l.map Lg.srtG).take k) (h:cmpF r y=0):Lg.srtB l=none:=by
 unfold Lg.srtB;split
 ·exact gsrt_no tp_cmpF fun hn=>nd_take (f:=cmpF) hn hy hr h
 ·rfl
theorem srtB_done {l m:List Fp} (ha : ∀x∈l,(psrt x.2).isSome=true) (hp:m.Perm (l.map Lg.srtG)) (hs:StrictT cmpF m):Lg.srtB l=some m:=by
 rw[Lg.srtB_yes ha];exact gsrt_is tp_cmpF hp hs
theorem srtG_is {h:Hd} {l d:List Pt} (hd:psrt l=some d):Lg.srtG (h,l)=(h,d):=by unfold Lg.srtG;rw[hd];rfl
def RSortsP (E:Nat→Prop) (z:Nat) (l:List Fp) (e:Ending) (w':World):Prop :=
 (∃A n cap M,e = .returned (.tuple #[.slice A n cap,.bool true])∧FmOwn w' z (.slice A n cap) M∧(∀x∈M,FsOff w' E x)∧Lg.srtB l=some (fms M))∨(Lg.srtB l=none∧e = .returned (.tuple #[.slice none 0 0,.bool false]))
theorem rsortsany_calls (F:List Fs) (v:Value) (w:World) (E:Nat→Prop) (hE : ∀b,E b→b<w.heap.size) (hv:KRow encF 5 w v F) (hx : ∀x∈F,FsOff w E x) (hn:F.length≤900) (hL : ∀x∈F,x.L.length≤1000) :
 Calls Tryz.prog 60 #[v] w fun e w'=>RSortsP E w.heap.size (fms F) e w'∧Below w.heap.size w w':=by
 have HX:=Lh hx;have HE:=Lh hE;have HL:=Lh hL;obtain⟨A,cap,rfl,hlc,hcm,hnil,hrow⟩:=hv;unfold maxLen at hcm;have HR:=Lh hrow;clear hrow hnil hx hE hL;go_enter Tryz.func60,Tryz.ntmps60;go_wp2_with fail;go_loopw [4,5] (fun q i wr => ∃(k:Nat) (p:Value) (R:List Fs),p=q∧k≤F.length∧i = .int .i64 (k:Nat)∧Hid ((fms R).Perm (((fms F).map Lg.srtG).take k))∧Hid (∀y∈(fms F).take k,(psrt y.2).isSome=true)∧Hid (StrictT cmpF (fms R))∧Hid (FmOwn wr w.heap.size p R)∧Hid (∀x∈R,FsOff wr E x)∧Hid (Below w.heap.size w wr)) (fun _ i _=>F.length-(intOf i).toNat);case atStart=>exact ⟨0,_,[],rfl,Nat.zero_le _,rfl,List.Perm.refl _,Lh (fun y hy=>by cases hy),List.Pairwise.nil,KOwn.nil _ _ _ _ _,(fun x hx=>by cases hx),Lh (Below.refl _ _)⟩
 case round =>
  obtain⟨k,pv,R,rfl,hk,rfl,HPm,HAl,HSt,HO,HRX,HBB⟩:=hrel;have hRk:Hid (R.length=k):=Lh (by have:=HPm.out.length_eq;simp only[List.length_take,fms,List.length_map] at this;omega);obtain⟨A2,cap2,rfl,hlc2,hcm2,_,hr2⟩:=KOwn.row encF_len HO.out;unfold maxLen at hcm2;by_cases hkl:k<F.length
  ·obtain⟨b,off,rfl,hbs,hc⟩:=HR.out (by omega);obtain⟨x,hx,hxp⟩:=fs_get hkl;have hmx:=List.mem_of_getElem? hx;have hxi:=HX.out x hmx;have hfs:=(hxi.below HBB.out).fsin;have hSF:=Lh (rsortany_calls x.hd x.L x.v wr hfs.1 (HL.out x hmx));have hXN:Hid (psrt (pts x.L)=none→Lg.srtB (fms F)=none):=Lh (fun h=>Lg.srtB_no (x:=fm x) (List.mem_of_getElem? hxp) h);have hxk:Hid ((fms F)[k]? = some (fm x)):=Lh hxp;have hXO:Hid (POff wr E x.v x.L):=Lh (hxi.2.below HBB.out);have hXH:=Lh hxi.1;have hxg:((fms F).map Lg.srtG)[k]? = some (Lg.srtG (fm x)):=by rw[List.getElem?_map,hxp];rfl
   have HNE:Hid (∀(j:Nat) (r:Fs),R[j]? = some r→cmpF (fm r) (Lg.srtG (fm x))=0→Lg.srtB (fms F)=none):=Lh (fun j r hr h=>srtB_dup hxg (HPm.out.mem_iff.1 (List.mem_map_of_mem (List.mem_of_getElem? hr))) h);obtain⟨c0,c1,c2,c3,c4⟩:=fr_cells hc hx;have hR0 : ∀o u,w.cell? ⟨b,o,none⟩=some u→wr.cell? ⟨b,o,none⟩=some u:=fun o u hu=>(HBB.out.cell (p:=⟨b,o,none⟩) hbs).trans hu;have r0:=hR0 _ _ c0;have r1:=hR0 _ _ c1;have r2:=hR0 _ _ c2;have r3:=hR0 _ _ c3;have r4:=hR0 _ _ c4;have HPm2:Hid (∀(m:Nat) (y:Fs),fm y=Lg.srtG (fm x)→(fms (R.take m++[y]++R.drop m)).Perm (((fms F).map Lg.srtG).take (k+1))):=Lh (fun m y hy=>by
    have h:=perm_ins m HPm.out hxg;rw[←hy] at h;simpa[fms,List.map_take,List.map_drop] using h)
   have HR2:=Lh hr2;clear hc c0 c1 c2 c3 c4 hR0 hx hxp hxi hfs hmx hr2 hbs hxg;obtain⟨A1,n1,cap1,hx1⟩ : ∃A1 n1 cap1,x.v = .slice A1 n1 cap1:=by obtain⟨_,_,h,_⟩:=hXO.out.row.1;exact⟨_,_,_,h⟩
   obtain⟨⟨xn,xk,xu,xh⟩,xv,xL⟩:=x;simp only at hx1 r0 r1 r2 r3 r4 hSF hXN hXO hXH;subst hx1;go_wp2_with fail;refine hSF.out.mono ?_;rintro e w5 ⟨⟨A5,n5,cap5,M5,rfl,o5,pm5,st5⟩|⟨hno,rfl⟩,b5⟩;rotate_left
   ·have hn2:=Lh (hXN.out hno);have KB:=Lh (trans9 HBB.out b5);clear hno hXN hSF HNE HPm2 HAl HPm hxk hXO hXH;simp only[hd0];go_wp2
    go_ret2
    refine⟨Or.inr ⟨hn2.out,rfl⟩,?_⟩
    repeat(first|exact KB.out|apply kp_alloc)
   have HM5:Hid (psrt (pts xL)=some (pts M5)):=Lh (psrt_is (pm5.map _) st5);have HY5:Hid (FsOff w5 E ⟨⟨xn,xk,xu,xh⟩,.slice A5 n5 cap5,M5⟩):=Lh ⟨hXH.out,hXO.out.own (fun b hb=>Nat.lt_of_lt_of_le (HE.out b hb) HBB.out.size) b5 o5 (fun y hy=>pm5.mem_iff.1 hy)⟩;have hkk:=(Below.refl w5.heap.size w5).alloc (Nat.le_refl _) (.cells (famc ⟨xn,xk,xu,xh⟩ (.slice A5 n5 cap5)) 51);have FA:=FamAt.new w5 ⟨xn,xk,xu,xh⟩ (.slice A5 n5 cap5) 51;clear hSF hXO hXH hXN o5 pm5 st5 r0 r1 r2 r3 r4;go_upto_region 6 with fail;obtain⟨W1,hW1⟩ : ∃W,W=w5.alloc (.cells #[.string (str xn),.int .i64 xk,.string (str xu),.string (str xh),.slice A5 n5 cap5] 51):=⟨_,rfl⟩
   have HFA1:Hid (FamAt W1 w5.heap.size ⟨xn,xk,xu,xh⟩ (.slice A5 n5 cap5)):=Lh (by rw[hW1];exact FA);have HB1:Hid (Below wr.heap.size wr W1):=Lh (trans9 b5 (by rw[hW1];exact hkk));have HY1:Hid (FsOff W1 E ⟨⟨xn,xk,xu,xh⟩,.slice A5 n5 cap5,M5⟩):=Lh (HY5.out.below (by rw[hW1];exact hkk));rw[←hW1];clear hW1 hkk FA b5 HY5;generalize w5.heap.size=b6 at *;have HFM:Hid (fm ⟨⟨xn,xk,xu,xh⟩,.slice A5 n5 cap5,M5⟩=Lg.srtG (fm ⟨⟨xn,xk,xu,xh⟩,.slice A1 n1 cap1,xL⟩)):=Lh (srtG_is HM5.out).symm;have HNE1:Hid (∀(j:Nat) (r:Fs),R[j]? = some r→cmpF (fm r) (fm (⟨⟨xn,xk,xu,xh⟩,.slice A5 n5 cap5,M5⟩:Fs))=0→Lg.srtB (fms F)=none):=Lh (fun j r hr=>by rw[HFM.out];exact HNE.out j r hr);have HPm3:Hid (∀m,(fms (R.take m++[(⟨⟨xn,xk,xu,xh⟩,.slice A5 n5 cap5,M5⟩:Fs)]++R.drop m)).Perm (((fms F).map Lg.srtG).take (k+1))):=Lh (fun m=>HPm2.out m _ HFM.out);have HAl2:Hid (∀y∈(fms F).take (k+1),(psrt y.2).isSome=true):=Lh (by
    obtain⟨hk1,hk2⟩:=List.getElem?_eq_some_iff.1 hxk.out;intro y hy;rw[List.take_succ_eq_append_getElem hk1,hk2] at hy;rcases List.mem_append.1 hy with q|q
    ·exact HAl.out y q
    ·rw[List.mem_singleton.1 q];show(psrt (pts xL)).isSome=true;rw[HM5.out];rfl)
   have HX1:Hid (∀u∈encF (⟨⟨xn,xk,xu,xh⟩,.slice A5 n5 cap5,M5⟩:Fs),u.oneCell'=true):=Lh (encF_one HY1.out.fsin);have HO1:Hid (FmOwn W1 w.heap.size (.slice A2 R.length cap2) R):=Lh (HO.out.below HB1.out);have HRX1:Hid (∀x∈R,FsOff W1 E x):=Lh (fun x hx=>(HRX.out x hx).below HB1.out);have HON:Hid (∀r∈R,∀u∈encF r,u.oneCell'=true):=Lh (fun r hr=>encF_one (HRX.out r hr).fsin);have HBW:Hid (Below w.heap.size w W1):=Lh (trans9 HBB.out HB1.out);have hnew:=Lh (fun W=>(new_fs W (⟨⟨xn,xk,xu,xh⟩,.slice A5 n5 cap5,M5⟩:Fs)).row);have HF0:Hid (∀z,Below W1.heap.size W1 z→z.cell? ⟨b6,0,none⟩=some (.string (str xn))):=Lh (fun z hz=>(HFA1.out.below hz).c0);have hRl:R.length≤900:=by have:=hRk.out;omega
   clear HNE HPm2 HFM HM5 HO HRX HB1 HBB HAl hxk;go_wp2_with fail;go_loopw [8] (fun i wi => ∃m:Nat,m≤R.length∧i = .int .i64 (m:Nat)∧Hid (∀j r,m≤j→R[j]? = some r→0<cmpF (fm r) (fm (⟨⟨xn,xk,xu,xh⟩,.slice A5 n5 cap5,M5⟩:Fs)))∧Hid (Below W1.heap.size W1 wi)) (fun i _=>(intOf i).toNat);case atStart=>exact ⟨R.length,Nat.le_refl _,rfl,Lh (fun j r h1 h2=>by have:=(List.getElem?_eq_some_iff.1 h2).1;omega),Lh (Below.refl _ _)⟩
   case round =>
    obtain⟨m,hm,rfl,HU,HBi⟩:=hrel;obtain⟨d,hd⟩ : ∃d:Bool,d=true↔(∃j r,m=j+1∧R[j]? = some r∧0<cmpF (fm r) (fm (⟨⟨xn,xk,xu,xh⟩,.slice A5 n5 cap5,M5⟩:Fs))):=by classical exact⟨decide (∃j r,m=j+1∧R[j]? = some r∧0<cmpF (fm r) (fm (⟨⟨xn,xk,xu,xh⟩,.slice A5 n5 cap5,M5⟩:Fs))),decide_eq_true_iff⟩
    have HD:=Lh hd;clear hd;go_wp2_with fail
    go_cut [41] from 27 to 41 (fun s wx=>s = .bool d∧Hid (Below W1.heap.size W1 wx))
    case first =>
     by_cases hm0:m=0
     ·subst hm0;obtain rfl:d=false:=by
       cases d with
       | false=>rfl
       | true=>obtain ⟨j,r,h1,_⟩:=HD.out.1 rfl;omega
      rw[show((0:Nat):Int)=0 from rfl];refine wp_region_noPanic ?_;refine wp_region_held_drew (S:=fun X=>Below wr.heap.size wr X) (by kernel_rfl) ?_ (fun hHeld => ?_)
      ·exact Below.drew (Below.refl _ _)
      have kB:Below wr.heap.size wr wr.drew:=Below.drew (Below.refl _ _);clear hHeld;refine tk9 0 kB ?_;refine tk9 1 kB ?_;refine tk9 2 kB ?_;refine tu9 3 kB ?_;refine tu9 4 kB ?_;refine tu9 5 kB ?_;refine tu9 6 kB ?_;refine tu9 7 kB ?_;refine tu9 8 kB ?_;refine tu9 9 kB ?_;refine tu9 10 kB ?_;refine tu9 11 kB ?_;refine tu9 12 kB ?_;refine tu9 13 kB ?_;refine tk9 14 kB ?_;refine wpAnyH_done (by kernel_rfl) ?_ _;refine NoPanic.normal ?_;go_wp2_with fail
      go_meet
      exact⟨rfl,Lh (trans9 HBi.out kB)⟩
     ·obtain⟨j,rfl⟩ : ∃j,m=j+1:=⟨m-1,by omega⟩
      obtain⟨r,hr⟩ : ∃r,Hid (R[j]? = some r):=⟨R[j],Lh (List.getElem?_eq_getElem (by omega))⟩
      have hjR:j<R.length:=by omega
      obtain⟨_,_,he3,_,_,_,hr3⟩:=KOwn.row encF_len HO1.out
      cases he3
      obtain⟨g2,off2,rfl,hg2,hcc⟩:=hr3 (by omega);have HR9:Hid (∀z,Below W1.heap.size W1 z→z.cell? ⟨g2,off2+j*5,none⟩=some (.string (str r.hd.n))):=Lh (fun z hz=>(hz.cell (p:=⟨g2,off2+j*5,none⟩) hg2).trans (fr_cells hcc hr.out).1);have hw1:IntKind.i64.wrap (j:Int)=(j:Int):=IntWalk.i64_in _ (by omega);have hmj:((j+1:Nat):Int)-1=(j:Int):=by omega
      have dm:decide ((0:Int)<((j+1:Nat):Int))=true:=by first|(simp;done)|(simp;omega)
      have dm2:decide (0<j+1)=true:=by simp
      have hj0:(0:Int)≤(j:Int):=by omega
      have hj1:(j:Int)<(R.length:Int):=by omega
      clear hr3 hcc;have hdd:Hid (d=decide (0<cb r.hd.n xn)):=Lh (by
       rw[Bool.eq_iff_iff,decide_eq_true_iff];exact HD.out.trans ⟨fun⟨j',r',h1,h2,h3⟩=>by
        obtain rfl:j=j':=by omega
        rw[hr.out] at h2;obtain rfl:=Option.some.inj h2;exact h3,fun q=>⟨j,r,rfl,hr.out,q⟩⟩)
      generalize r.hd.n=yn at *;have hbl:=bl_cb yn xn;rcases cb_range yn xn with hC|hC|hC
      ·rw[decide_eq_true (show cb yn xn<0 by omega)] at hbl;have heq:(yn==xn)=false:=beq_eq_false_iff_ne.2 (fun e=>by rw[(cb_zero _ _).2 e] at hC;exact absurd hC (by decide));have hd2:Hid (d=false):=Lh (by rw[hdd.out,hC];rfl);clear hdd hC;refine wp_region_noPanic ?_;refine wp_region_held_drew (S:=fun X=>Below wr.heap.size wr X) (by kernel_rfl) ?_ (fun hHeld => ?_)
       ·exact Below.drew (Below.refl _ _)
       have kB:Below wr.heap.size wr wr.drew:=Below.drew (Below.refl _ _);clear hHeld;refine tk9 0 kB ?_;refine tk9 1 kB ?_;refine tk9 2 kB ?_;refine tk9 3 kB ?_;refine tk9 4 kB ?_;refine tk9 5 kB ?_;refine tk9 6 kB ?_;refine tk9 7 kB ?_;refine tk9 8 kB ?_;refine tk9 9 kB ?_ (hy:=Or.inl ⟨by rfl,by intro x hSw;(try dsimp only at hSw);have x9:=HR9.out x (trans9 HBi.out hSw);first|(go_simp;done)|(go_simp;with_reducible rfl)⟩);refine tk9 10 kB ?_;refine tk9 11 kB ?_;refine tk9 12 kB ?_ (hy:=Or.inl ⟨by rfl,by intro x hSw;(try dsimp only at hSw);have x0:=HF0.out x (trans9 HBi.out hSw);first|(go_simp;done)|(go_simp;with_reducible rfl)⟩);refine tk9 13 kB ?_;refine tk9 14 kB ?_;refine wpAnyH_done (by kernel_rfl) ?_ _;refine NoPanic.normal ?_;go_wp2_with fail
       go_meet
       first|exact ⟨congrArg Value.bool hd2.out.symm,Lh (trans9 HBi.out kB)⟩|exact ⟨by rw[hd2.out],Lh (trans9 HBi.out kB)⟩
      ·rw[decide_eq_false (show ¬cb yn xn<0 by omega)] at hbl;have heq:(yn==xn)=true:=beq_iff_eq.2 (cb_eq _ _ hC);have hd2:Hid (d=false):=Lh (by rw[hdd.out,hC];rfl);clear hdd hC;refine wp_region_noPanic ?_;refine wp_region_held_drew (S:=fun X=>Below wr.heap.size wr X) (by kernel_rfl) ?_ (fun hHeld => ?_)
       ·exact Below.drew (Below.refl _ _)
       have kB:Below wr.heap.size wr wr.drew:=Below.drew (Below.refl _ _);clear hHeld;refine tk9 0 kB ?_;refine tk9 1 kB ?_;refine tk9 2 kB ?_;refine tk9 3 kB ?_;refine tk9 4 kB ?_;refine tk9 5 kB ?_;refine tk9 6 kB ?_;refine tk9 7 kB ?_;refine tk9 8 kB ?_;refine tk9 9 kB ?_ (hy:=Or.inl ⟨by rfl,by intro x hSw;(try dsimp only at hSw);have x9:=HR9.out x (trans9 HBi.out hSw);first|(go_simp;done)|(go_simp;with_reducible rfl)⟩);refine tk9 10 kB ?_;refine tk9 11 kB ?_;refine tk9 12 kB ?_ (hy:=Or.inl ⟨by rfl,by intro x hSw;(try dsimp only at hSw);have x0:=HF0.out x (trans9 HBi.out hSw);first|(go_simp;done)|(go_simp;with_reducible rfl)⟩);refine tk9 13 kB ?_;refine tk9 14 kB ?_;refine wpAnyH_done (by kernel_rfl) ?_ _;refine NoPanic.normal ?_;go_wp2_with fail
       go_meet
       first|exact ⟨congrArg Value.bool hd2.out.symm,Lh (trans9 HBi.out kB)⟩|exact ⟨by rw[hd2.out],Lh (trans9 HBi.out kB)⟩
      ·rw[decide_eq_false (show ¬cb yn xn<0 by omega)] at hbl;have heq:(yn==xn)=false:=beq_eq_false_iff_ne.2 (fun e=>by rw[(cb_zero _ _).2 e] at hC;exact absurd hC (by decide));have hd2:Hid (d=true):=Lh (by rw[hdd.out,hC];rfl);clear hdd hC;refine wp_region_noPanic ?_;refine wp_region_held_drew (S:=fun X=>Below wr.heap.size wr X) (by kernel_rfl) ?_ (fun hHeld => ?_)
       ·exact Below.drew (Below.refl _ _)
       have kB:Below wr.heap.size wr wr.drew:=Below.drew (Below.refl _ _);clear hHeld;refine tk9 0 kB ?_;refine tk9 1 kB ?_;refine tk9 2 kB ?_;refine tk9 3 kB ?_;refine tk9 4 kB ?_;refine tk9 5 kB ?_;refine tk9 6 kB ?_;refine tk9 7 kB ?_;refine tk9 8 kB ?_;refine tk9 9 kB ?_ (hy:=Or.inl ⟨by rfl,by intro x hSw;(try dsimp only at hSw);have x9:=HR9.out x (trans9 HBi.out hSw);first|(go_simp;done)|(go_simp;with_reducible rfl)⟩);refine tk9 10 kB ?_;refine tk9 11 kB ?_;refine tk9 12 kB ?_ (hy:=Or.inl ⟨by rfl,by intro x hSw;(try dsimp only at hSw);have x0:=HF0.out x (trans9 HBi.out hSw);first|(go_simp;done)|(go_simp;with_reducible rfl)⟩);refine tk9 13 kB ?_;refine tk9 14 kB ?_;refine wpAnyH_done (by kernel_rfl) ?_ _;refine NoPanic.normal ?_;go_wp2_with fail
       go_meet
       first|exact ⟨congrArg Value.bool hd2.out.symm,Lh (trans9 HBi.out kB)⟩|exact ⟨by rw[hd2.out],Lh (trans9 HBi.out kB)⟩
    case rest =>
     obtain⟨rfl,HB3⟩:=hcut;clear HBi
     cases d with
     | true =>
       obtain⟨j,r,rfl,hr,hp⟩:=HD.out.1 rfl;have HU2:Hid (∀j' r',j≤j'→R[j']? = some r'→0<cmpF (fm r') (fm (⟨⟨xn,xk,xu,xh⟩,.slice A5 n5 cap5,M5⟩:Fs))):=Lh (fun i r' h1 h2=>by
        by_cases e:i=j
        ·subst e;rw[hr] at h2;obtain rfl:=Option.some.inj h2;exact hp
        ·exact HU.out i r' (by omega) h2)
       have hw1:IntKind.i64.wrap (j:Int)=(j:Int):=IntWalk.i64_in _ (by omega);have hmj:((j+1:Nat):Int)-1=(j:Int):=by omega
       clear hr hp HU HD;go_wp2_with fail;go_roundw;case rel=>exact ⟨j,by omega,by go_num,HU2,HB3⟩
       case measure=>simp [intOf]
     | false =>
       obtain⟨d2,hd2⟩ : ∃d2:Bool,d2=true↔(∃j r,m=j+1∧R[j]? = some r∧cmpF (fm r) (fm (⟨⟨xn,xk,xu,xh⟩,.slice A5 n5 cap5,M5⟩:Fs))=0):=by classical exact⟨decide (∃j r,m=j+1∧R[j]? = some r∧cmpF (fm r) (fm (⟨⟨xn,xk,xu,xh⟩,.slice A5 n5 cap5,M5⟩:Fs))=0),decide_eq_true_iff⟩
       have HD2:=Lh hd2;clear hd2;go_wp2_with fail;generalize wc=W2 at *
       go_cut [58] from 44 to 58 (fun s wx=>s = .bool d2∧Hid (Below W1.heap.size W1 wx))
       case first =>
        by_cases hm0:m=0
        ·subst hm0;obtain rfl:d2=false:=by
          cases d2 with
          | false=>rfl
          | true=>obtain ⟨j,r,h1,_⟩:=HD2.out.1 rfl;omega
         rw[show((0:Nat):Int)=0 from rfl];refine wp_region_noPanic ?_;refine wp_region_held_drew (S:=fun X=>Below W2.heap.size W2 X) (by kernel_rfl) ?_ (fun hHeld => ?_)
         ·exact Below.drew (Below.refl _ _)
         have kB:Below W2.heap.size W2 W2.drew:=Below.drew (Below.refl _ _);clear hHeld;refine tk9 0 kB ?_;refine tk9 1 kB ?_;refine tk9 2 kB ?_;refine tu9 3 kB ?_;refine tu9 4 kB ?_;refine tu9 5 kB ?_;refine tu9 6 kB ?_;refine tu9 7 kB ?_;refine tu9 8 kB ?_;refine tu9 9 kB ?_;refine tu9 10 kB ?_;refine tu9 11 kB ?_;refine tu9 12 kB ?_;refine tu9 13 kB ?_;refine tk9 14 kB ?_;refine wpAnyH_done (by kernel_rfl) ?_ _;refine NoPanic.normal ?_;go_wp2_with fail
         go_meet
         exact⟨rfl,Lh (trans9 HB3.out kB)⟩
        ·obtain⟨j,rfl⟩ : ∃j,m=j+1:=⟨m-1,by omega⟩
         obtain⟨r,hr⟩ : ∃r,Hid (R[j]? = some r):=⟨R[j],Lh (List.getElem?_eq_getElem (by omega))⟩
         have hjR:j<R.length:=by omega
         obtain⟨_,_,he3,_,_,_,hr3⟩:=KOwn.row encF_len HO1.out
         cases he3
         obtain⟨g2,off2,rfl,hg2,hcc⟩:=hr3 (by omega);have HR9:Hid (∀z,Below W1.heap.size W1 z→z.cell? ⟨g2,off2+j*5,none⟩=some (.string (str r.hd.n))):=Lh (fun z hz=>(hz.cell (p:=⟨g2,off2+j*5,none⟩) hg2).trans (fr_cells hcc hr.out).1);have hw1:IntKind.i64.wrap (j:Int)=(j:Int):=IntWalk.i64_in _ (by omega);have hmj:((j+1:Nat):Int)-1=(j:Int):=by omega
         have dm:decide ((0:Int)<((j+1:Nat):Int))=true:=by first|(simp;done)|(simp;omega)
         have dm2:decide (0<j+1)=true:=by simp
         have hj0:(0:Int)≤(j:Int):=by omega
         have hj1:(j:Int)<(R.length:Int):=by omega
         clear hr3 hcc;have hne:Hid (d2=(r.hd.n==xn)):=Lh (by
          rw[Bool.eq_iff_iff,beq_iff_eq];exact HD2.out.trans ⟨fun⟨j',r',h1,h2,h3⟩=>by
           obtain rfl:j=j':=by omega
           rw[hr.out] at h2;obtain rfl:=Option.some.inj h2;exact cmpF_zero.1 h3,fun q=>⟨j,r,rfl,hr.out,cmpF_zero.2 q⟩⟩)
         generalize r.hd.n=yn at *;refine wp_region_noPanic ?_;refine wp_region_held_drew (S:=fun X=>Below W2.heap.size W2 X) (by kernel_rfl) ?_ (fun hHeld => ?_)
         ·exact Below.drew (Below.refl _ _)
         have kB:Below W2.heap.size W2 W2.drew:=Below.drew (Below.refl _ _);clear hHeld;refine tk9 0 kB ?_;refine tk9 1 kB ?_;refine tk9 2 kB ?_;refine tk9 3 kB ?_;refine tk9 4 kB ?_;refine tk9 5 kB ?_;refine tk9 6 kB ?_;refine tk9 7 kB ?_;refine tk9 8 kB ?_;refine tk9 9 kB ?_ (hy:=Or.inl ⟨by rfl,by intro x hSw;(try dsimp only at hSw);have x9:=HR9.out x (trans9 HB3.out hSw);first|(go_simp;done)|(go_simp;with_reducible rfl)⟩);refine tk9 10 kB ?_;refine tk9 11 kB ?_;refine tk9 12 kB ?_ (hy:=Or.inl ⟨by rfl,by intro x hSw;(try dsimp only at hSw);have x0:=HF0.out x (trans9 HB3.out hSw);first|(go_simp;done)|(go_simp;with_reducible rfl)⟩);refine tk9 13 kB ?_;refine tk9 14 kB ?_;refine wpAnyH_done (by kernel_rfl) ?_ _;refine NoPanic.normal ?_;go_wp2_with fail
         go_meet
         first|exact ⟨congrArg Value.bool hne.out.symm,Lh (trans9 HB3.out kB)⟩|exact ⟨by rw[hne.out],Lh (trans9 HB3.out kB)⟩
       case rest =>
        obtain⟨rfl,HB4⟩:=hcut;clear HB3
        cases d2 with
        | true =>
          obtain⟨j,r,hj,hr,hp0⟩:=HD2.out.1 rfl;have hno:=Lh (HNE1.out j r hr hp0);have KB:=Lh (trans9 HBW.out HB4.out);clear hr hp0 HD HD2 HU hj;go_wp2
          go_ret2
          refine⟨Or.inr ⟨hno.out,rfl⟩,?_⟩;exact KB.out
        | false =>
          have HLO:Hid (∀i z,i<m→R[i]? = some z→cmpF (fm z) (fm (⟨⟨xn,xk,xu,xh⟩,.slice A5 n5 cap5,M5⟩:Fs))<0):=Lh (by
           by_cases hm0:m=0
           ·exact fun i z h1=>by omega
           ·obtain⟨j,rfl⟩ : ∃j,m=j+1:=⟨m-1,by omega⟩
            have hrj:R[j]? = some R[j]:=List.getElem?_eq_getElem (by omega);have h1 : ¬cmpF (fm R[j]) (fm (⟨⟨xn,xk,xu,xh⟩,.slice A5 n5 cap5,M5⟩:Fs))=0:=fun q=>absurd (HD2.out.2 ⟨j,_,rfl,hrj,q⟩) (by simp);have h2 : ¬0<cmpF (fm R[j]) (fm (⟨⟨xn,xk,xu,xh⟩,.slice A5 n5 cap5,M5⟩:Fs)):=fun q=>absurd (HD.out.2 ⟨j,_,rfl,hrj,q⟩) (by simp);exact loF_all HSt.out hrj (by omega))
          clear HD HD2;have HOW:Hid (FmOwn wc w.heap.size (.slice A2 R.length cap2) R):=Lh (HO1.out.below HB4.out);have hrw:=KOwn.row encF_len HOW.out;obtain⟨u1,eq1,row1⟩:=kr_to fmTy hrw m hm;obtain⟨u2,eq2,row2⟩:=kr_from fmTy hrw m hm;have HTO:=Lh (fun z (hz:Below wc.heap.size wc z)=>row1 z (hrw.below hz));have HFR:=Lh (fun z (hz:Below wc.heap.size wc z)=>row2 z (hrw.below hz));have hnp:=Lh (HPm3.out m);have hns:Hid (StrictT cmpF (fms (R.take m++[(⟨⟨xn,xk,xu,xh⟩,.slice A5 n5 cap5,M5⟩:Fs)]++R.drop m))):=Lh (strictF_ins HSt.out hm HLO.out HU.out);have hlt0:([]:List Fs).length+(R.take m).length≤2000:=by rw[List.length_take];simp;omega
          have hlt1:(R.take m).length+([(⟨⟨xn,xk,xu,xh⟩,.slice A5 n5 cap5,M5⟩:Fs)]:List Fs).length≤2000:=by rw[List.length_take];simp;omega
          have hlt2:(R.take m++[(⟨⟨xn,xk,xu,xh⟩,.slice A5 n5 cap5,M5⟩:Fs)]).length+(R.drop m).length≤2000:=by rw[List.length_append,List.length_take,List.length_drop];simp;omega
          have HSW:Hid (w.heap.size≤wc.heap.size):=Lh (Nat.le_trans HBW.out.size HB4.out.size);have HFA:=Lh (fun z (hz:Below W1.heap.size W1 z)=>HFA1.out.below hz);clear row1 row2 hrw HU HLO HFA1;go_wp2_with fail;refine wp_region_noPanic ?_;refine wp_region_held_drew (S:=fun X=>Below wc.heap.size wc X) (by kernel_rfl) ?_ (fun hHeld => ?_)
          ·exact Below.drew (Below.refl _ _)
          have kB:Below wc.heap.size wc wc.drew:=Below.drew (Below.refl _ _);clear hHeld;refine tk9 0 kB ?_;refine tk9 1 kB ?_;refine tk9 2 kB ?_;refine tk9 4 kB ?_ (hy:=Or.inl ⟨by rfl,by intro x hSw;(try dsimp only at hSw);obtain⟨f0,f1,f2,f3,f4,ff,fl⟩:=HFA.out x (trans9 HB4.out hSw);first|(go_simp;done)|(go_simp;with_reducible rfl)⟩);refine tk9 7 kB ?_;refine tk9 8 kB ?_;refine tk9 9 kB ?_;refine wpAnyH_ready (rs:=[3,5]) (by kernel_rfl) (by simp) ?_;refine AllReadyH.cons (by simp only[List.getElem?_toArray,List.getElem?_cons_succ,List.getElem?_cons_zero];rfl) (fun K hK => ?_) ?_
          ·refine step_append_krow fmTy encF_len (by rfl) (.const (.slice none 0 0)) (.tmp 61) (by rfl) wc.heap.size _ [] (by rfl) (KOwn.nil _ _ _ _ _) _ (R.take m) (by rfl) (HTO.out _ kB) (fun x hx=>HON.out x (List.mem_of_mem_take hx)) hlt0 (Below.size kB) ?_;intro v5 w5 o5 g5;replace kB:=Below.grown kB g5 (Below.size kB) (fun q hq=>by cases hq);simp only[List.nil_append] at o5;clear g5;refine hK.out _ _ kB (fun hHeld => ?_);clear hK K hHeld
           (try simp only[Act.put,sI,sZ,sS])
           refine wpAnyH_ready (rs:=[5]) (by kernel_rfl) (by simp) ?_;refine ar9 fun K hK => ?_;go_simp;have kX:KRow encF _ (w5.alloc (.cells #[.string (str xn),.int .i64 xk,.string (str xu),.string (str xh),.slice A5 n5 cap5] 51)) (.slice (some ⟨w5.heap.size,0,none⟩) 1 1) [(⟨⟨xn,xk,xu,xh⟩,.slice A5 n5 cap5,M5⟩:Fs)]:=(hnew.out w5)
           replace kB:Below wc.heap.size wc ((w5.alloc (.cells #[.string (str xn),.int .i64 xk,.string (str xu),.string (str xh),.slice A5 n5 cap5] 51))):=kp_alloc kB _;replace o5:=own_alloc o5 (.cells #[.string (str xn),.int .i64 xk,.string (str xu),.string (str xh),.slice A5 n5 cap5] 51);obtain⟨W6,hW6⟩ : ∃X,X=(w5.alloc (.cells #[.string (str xn),.int .i64 xk,.string (str xu),.string (str xh),.slice A5 n5 cap5] 51)):=⟨_,rfl⟩
           rw[←hW6] at kB kX o5 ⊢;clear hW6;obtain⟨xb,hxb⟩ : ∃X,X=w5.heap.size:=⟨_,rfl⟩
           rw[←hxb] at kX ⊢;clear hxb;refine hK.out _ _ kB (fun hHeld => ?_);clear hK K hHeld
           (try simp only[Act.put,sI,sZ,sS])
           refine wpAnyH_ready (rs:=[6]) (by kernel_rfl) (by simp) ?_;refine ar9 fun K hK => ?_;refine step_append_krow fmTy encF_len (by rfl) (.tmp 62) (.tmp 64) (by rfl) wc.heap.size _ (R.take m) (by rfl) o5 _ [(⟨⟨xn,xk,xu,xh⟩,.slice A5 n5 cap5,M5⟩:Fs)] (by rfl) kX (fun x hx=>by rw[List.mem_singleton.1 hx];exact HX1.out) hlt1 (Below.size kB) ?_;intro v6 w6 o6 g6;replace kB:=Below.grown kB g6 (Below.size kB) (fun q hq=>own_ge o5 q hq);clear o5 g6 kX;refine hK.out _ _ kB (fun hHeld => ?_);clear hK K hHeld
           (try simp only[Act.put,sI,sZ,sS])
           refine wpAnyH_ready (rs:=[10]) (by kernel_rfl) (by simp) ?_;refine ar9 fun K hK => ?_;refine step_append_krow fmTy encF_len (by rfl) (.tmp 65) (.tmp 68) (by rfl) wc.heap.size _ (R.take m++[(⟨⟨xn,xk,xu,xh⟩,.slice A5 n5 cap5,M5⟩:Fs)]) (by rfl) o6 _ (R.drop m) (by rfl) (HFR.out _ kB) (fun x hx=>HON.out x (List.mem_of_mem_drop hx)) hlt2 (Below.size kB) ?_;intro v7 w7 o7 g7;replace kB:=Below.grown kB g7 (Below.size kB) (fun q hq=>own_ge o6 q hq);clear o6 g7;refine hK.out _ _ kB (fun hHeld => ?_);clear hK K hHeld
           (try simp only[Act.put,sI,sZ,sS])
           refine tk9 11 kB ?_;refine wpAnyH_done (by kernel_rfl) ?_ _;refine NoPanic.normal ?_;have HB7:=Lh (trans9 HB4.out kB);have HO7:=Lh (KOwn.mono o7 HSW.out);have HX7:Hid (∀x∈R.take m++[(⟨⟨xn,xk,xu,xh⟩,.slice A5 n5 cap5,M5⟩:Fs)]++R.drop m,FsOff _ E x):=Lh (fun x hx=>by
            have hx2:x∈R∨x=(⟨⟨xn,xk,xu,xh⟩,.slice A5 n5 cap5,M5⟩:Fs):=by
             rcases List.mem_append.1 hx with q|q
             ·rcases List.mem_append.1 q with q|q
              ·exact .inl (List.mem_of_mem_take q)
              ·exact .inr (List.mem_singleton.1 q)
             ·exact .inl (List.mem_of_mem_drop q)
            rcases hx2 with q|rfl
            ·exact(HRX1.out x q).below HB7.out
            ·exact HY1.out.below HB7.out)
           clear o7 kB eq1 eq2;go_wp2_with fail;go_roundw;case rel=>exact ⟨k+1,_,_,rfl,hkl,by go_num,hnp,HAl2,hns,HO7,HX7,Lh (trans9 HBW.out HB7.out)⟩
           case measure=>simp [intOf];omega
          refine ar9 fun K hK => ?_;go_simp;have kX:KRow encF _ (wc.alloc (.cells #[.string (str xn),.int .i64 xk,.string (str xu),.string (str xh),.slice A5 n5 cap5] 51)).drew (.slice (some ⟨wc.heap.size,0,none⟩) 1 1) [(⟨⟨xn,xk,xu,xh⟩,.slice A5 n5 cap5,M5⟩:Fs)]:=(hnew.out wc)
          replace kB:Below wc.heap.size wc ((wc.alloc (.cells #[.string (str xn),.int .i64 xk,.string (str xu),.string (str xh),.slice A5 n5 cap5] 51)).drew):=Below.drew (kp_alloc (Below.refl _ _) _);obtain⟨W6,hW6⟩ : ∃X,X=(wc.alloc (.cells #[.string (str xn),.int .i64 xk,.string (str xu),.string (str xh),.slice A5 n5 cap5] 51)).drew:=⟨_,rfl⟩
          rw[←hW6] at kB kX ⊢;clear hW6;obtain⟨xb,hxb⟩ : ∃X,X=wc.heap.size:=⟨_,rfl⟩
          have kX2:=kX;rw[←hxb] at kX2 ⊢;clear kX;have kX:=kX2;clear kX2 hxb;refine hK.out _ _ kB (fun hHeld => ?_);clear hK K hHeld
          (try simp only[Act.put,sI,sZ,sS])
          refine wpAnyH_ready (rs:=[3]) (by kernel_rfl) (by simp) ?_;refine ar9 fun K hK => ?_;refine step_append_krow fmTy encF_len (by rfl) (.const (.slice none 0 0)) (.tmp 61) (by rfl) wc.heap.size _ [] (by rfl) (KOwn.nil _ _ _ _ _) _ (R.take m) (by rfl) (HTO.out _ kB) (fun x hx=>HON.out x (List.mem_of_mem_take hx)) hlt0 (Below.size kB) ?_;intro v5 w5 o5 g5;replace kX:=kX.below (Below.grown (Below.refl _ _) g5 (Nat.le_refl _) (fun q hq=>by cases hq));replace kB:=Below.grown kB g5 (Below.size kB) (fun q hq=>by cases hq);simp only[List.nil_append] at o5;clear g5;refine hK.out _ _ kB (fun hHeld => ?_);clear hK K hHeld
          (try simp only[Act.put,sI,sZ,sS])
          refine wpAnyH_ready (rs:=[6]) (by kernel_rfl) (by simp) ?_;refine ar9 fun K hK => ?_;refine step_append_krow fmTy encF_len (by rfl) (.tmp 62) (.tmp 64) (by rfl) wc.heap.size _ (R.take m) (by rfl) o5 _ [(⟨⟨xn,xk,xu,xh⟩,.slice A5 n5 cap5,M5⟩:Fs)] (by rfl) kX (fun x hx=>by rw[List.mem_singleton.1 hx];exact HX1.out) hlt1 (Below.size kB) ?_;intro v6 w6 o6 g6;replace kB:=Below.grown kB g6 (Below.size kB) (fun q hq=>own_ge o5 q hq);clear o5 g6 kX;refine hK.out _ _ kB (fun hHeld => ?_);clear hK K hHeld
          (try simp only[Act.put,sI,sZ,sS])
          refine wpAnyH_ready (rs:=[10]) (by kernel_rfl) (by simp) ?_;refine ar9 fun K hK => ?_;refine step_append_krow fmTy encF_len (by rfl) (.tmp 65) (.tmp 68) (by rfl) wc.heap.size _ (R.take m++[(⟨⟨xn,xk,xu,xh⟩,.slice A5 n5 cap5,M5⟩:Fs)]) (by rfl) o6 _ (R.drop m) (by rfl) (HFR.out _ kB) (fun x hx=>HON.out x (List.mem_of_mem_drop hx)) hlt2 (Below.size kB) ?_;intro v7 w7 o7 g7;replace kB:=Below.grown kB g7 (Below.size kB) (fun q hq=>own_ge o6 q hq);clear o6 g7;refine hK.out _ _ kB (fun hHeld => ?_);clear hK K hHeld
          (try simp only[Act.put,sI,sZ,sS])
          refine tk9 11 kB ?_;refine wpAnyH_done (by kernel_rfl) ?_ _;refine NoPanic.normal ?_;have HB7:=Lh (trans9 HB4.out kB);have HO7:=Lh (KOwn.mono o7 HSW.out);have HX7:Hid (∀x∈R.take m++[(⟨⟨xn,xk,xu,xh⟩,.slice A5 n5 cap5,M5⟩:Fs)]++R.drop m,FsOff _ E x):=Lh (fun x hx=>by
           have hx2:x∈R∨x=(⟨⟨xn,xk,xu,xh⟩,.slice A5 n5 cap5,M5⟩:Fs):=by
            rcases List.mem_append.1 hx with q|q
            ·rcases List.mem_append.1 q with q|q
             ·exact .inl (List.mem_of_mem_take q)
             ·exact .inr (List.mem_singleton.1 q)
            ·exact .inl (List.mem_of_mem_drop q)
           rcases hx2 with q|rfl
           ·exact(HRX1.out x q).below HB7.out
           ·exact HY1.out.below HB7.out)
          clear o7 kB eq1 eq2;go_wp2_with fail;go_roundw;case rel=>exact ⟨k+1,_,_,rfl,hkl,by go_num,hnp,HAl2,hns,HO7,HX7,Lh (trans9 HBW.out HB7.out)⟩
          case measure=>simp [intOf];omega
  ·have hr:(fms F).take k=fms F:=List.take_of_length_le (by simp[fms];omega);have HPM:Hid (Lg.srtB (fms F)=some (fms R)):=Lh (srtB_done (by have:=HAl.out;rwa [hr] at this) (by have:=HPm.out;rwa [List.take_of_length_le (by simp[fms];omega)] at this) HSt.out);clear HPm hr hr2 HAl;go_wp2
   go_ret2
   exact⟨Or.inl ⟨A2,R.length,cap2,R,rfl,HO.out,HRX.out,HPM.out⟩,HBB.out⟩
end Go.Proofs.YtbapneipjmpcbaaGreatDoor
