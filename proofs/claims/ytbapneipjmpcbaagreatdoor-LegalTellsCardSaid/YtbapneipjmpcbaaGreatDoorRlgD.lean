import Derived.Test.YtbapneipjmpcbaaGreatDoorRlgB
import Derived.Test.YtbapneipjmpcbaaGreatDoorRlgC
import Derived.Test.YtbapneipjmpcbaaGreatDoorLegT
import Derived.Deep.RegionHeld3
import Derived.Deep.DrawnRows
import Derived.Deep.DeepCutAuto
set_option maxHeartbeats 16000000
set_option maxRecDepth 100000
set_option linter.unusedVariables false
set_option linter.unusedSimpArgs false
namespace Go.Proofs.YtbapneipjmpcbaaGreatDoor
open Go.RowKit Go.Sort Dc
attribute [local go_sem ↓] Go.wp_at_zero Go.wp_at_succ
theorem Lg.toR_put {p m:Int} {t:List UInt8} {F:List Fp} (h:Lg.argOk p m t F=true) (k:(if m=1 then Lg.clB p F else none)=none):Lg.toR p m t F=Lg.putR (Lg.renB (Lg.nmF p m 0) (Lg.nmF p m 1) F):=by
 unfold Lg.toR;rw[if_pos h,k]
theorem Lg.arg_no {p m:Int} {t:List UInt8} {F:List Fp} (h : ¬chk t F=0 ∨ ¬(1≤p∧p≤4) ∨ ¬(m=0∨m=1)):Lg.argOk p m t F=false:=by
 cases e:Lg.argOk p m t F with
 | false=>rfl
 | true =>
   obtain⟨a,b,c⟩:=Lg.arg_of e;rcases h with h|h|h
   ·exact absurd a h
   ·exact absurd b h
   ·exact absurd c h
theorem protoOk_iff {p:Int}:protoOk p=true↔1≤p∧p≤4:=by unfold protoOk;simp
theorem rto_calls (p m:Int) (t:List UInt8) (F:List Fs) (v:Value) (w:World) (hv:FmRow w v F) (hf:FmFew F) (ht:t.length≤maxLen) :
 Calls Tryz.prog 10 #[.int .i64 p,.int .i64 m,batv t v] w fun e w'=>ToP t (Lg.toR p m t (fms F)) e w'∧Below w.heap.size w w':=by
 have three : ∃W,W=((w.alloc (.cells #[.string (str t),v] 24)).alloc (.cells #[.string ⟨#[]⟩,.slice none 0 0] 24)).alloc (.cells #[.string ⟨#[]⟩,.string ⟨#[]⟩] 30):=⟨_,rfl⟩
 obtain⟨w0,hw0⟩:=three;have k0:Below w.heap.size w w0:=by rw[hw0];exact kp_alloc (kp_alloc (kp_alloc (Below.refl w.heap.size w) _) _) _
 have F0:BatAt w0 w.heap.size t v:=by rw[hw0];exact((BatAt.new w t v _).below (kp_alloc (Below.refl _ _) _)).below (kp_alloc (Below.refl _ _) _)
 have G0:BatAt w0 (w.heap.size+1) [] (.slice none 0 0):=by
  have h:=(BatAt.new (w.alloc (.cells #[.string (str t),v] 24)) [] (.slice none 0 0) 24).below (kp_alloc (Below.refl _ _) (.cells #[.string ⟨#[]⟩,.string ⟨#[]⟩] 30));rw[show(w.alloc (.cells #[.string (str t),v] 24)).heap.size=w.heap.size+1 by simp] at h;rw[hw0];exact h
 have H0:BatAt w0 (w.heap.size+1+1) [] (.string ⟨#[]⟩):=by
  have h:=BatAt.new ((w.alloc (.cells #[.string (str t),v] 24)).alloc (.cells #[.string ⟨#[]⟩,.slice none 0 0] 24)) [] (.string ⟨#[]⟩) 30;rw[show((w.alloc (.cells #[.string (str t),v] 24)).alloc (.cells #[.string ⟨#[]⟩,.slice none 0 0] 24)).heap.size=w.heap.size+1+1 by simp] at h;rw[hw0];exact h
 have hck:=Lh (rcheck_calls t F v _ (hv.below k0) hf ht);obtain⟨A0,n,cap,hv1⟩ : ∃A n cap,v = .slice A n cap:=by obtain⟨A,cap,he,_⟩:=hv.1;exact⟨A,_,cap,he⟩
 subst hv1;have HV:=Lh hv;have K0:=Lh k0;have HF0:=Lh F0;have HG0:=Lh (And.intro G0 H0);clear F0 G0 H0 k0 hv hf;go_enter Tryz.func10,Tryz.ntmps10;go_upto_region 1 with fail;rw[←hw0];clear hw0;obtain⟨x0,x1,xf,xl⟩:=HF0.out;go_wp2_with fail;refine hck.out.mono ?_;rintro e w1 ⟨rfl,b1⟩;have K1:=Lh (trans9 K0.out b1);have HF1:=Lh (HF0.out.below b1);have HG1:=Lh (And.intro (HG0.out.1.below b1) (HG0.out.2.below b1));have hpr:=Lh (riproto_calls p w1);clear hck b1 x0 x1 xf xl K0 HF0 HG0;by_cases hc:chk t (fms F)=0
 ·have dz:decide (chk t (fms F)=0)=true:=decide_eq_true hc;have bz:(chk t (fms F)==0)=true:=by simpa using hc
  have bz2:(chk t (fms F) != 0)=false:=by simp[bne,bz]
  rw[hc];clear dz bz bz2;go_wp2_with fail;refine hpr.out.mono ?_;rintro e w1' ⟨rfl,rfl⟩;clear hpr
  cases hP:protoOk p with
  | false =>
    have hto:=Lh (Lg.toR_no (Lg.arg_no (F:=fms F) (t:=t) (m:=m) (p:=p) (Or.inr (Or.inl (fun h=>by rw[protoOk_iff.2 h] at hP;cases hP)))));obtain⟨⟨y0,y1,yf,yl⟩,⟨z0,z1,zf,zl⟩⟩:=HG1.out;go_wp2;refine bodyPost_ret (v := .tuple #[.agg #[.string ⟨#[]⟩,.slice none 0 0],.agg #[.string ⟨#[]⟩,.string ⟨#[]⟩],.int .i64 19]) (by simp[results,Tryz.results10,go_sem,y0,y1,z0,z1,yl,zl]) rfl ⟨ToP.none hto.out ?_ rfl,?_⟩
    ·exact FmRow.nil _
    ·repeat(first|exact K1.out|apply kp_alloc|apply Below.drew|refine Below.setCell ?_ (by first|(show w.heap.size≤w.heap.size+1;omega)|(show w.heap.size≤w.heap.size+1+1;omega)) _)
  | true =>
    have hp14:=protoOk_iff.1 hP;by_cases hm01:m=0∨m=1
    ·have HA:=Lh (Lg.arg_ok hc hp14 hm01);have hcl:=Lh (rclash_calls p t F _ w1 (HV.out.below K1.out) hc);obtain⟨x0,x1,xf,xl⟩:=HF1.out;have hb01:(m != 0&&m != 1)=false:=by rcases hm01 with rfl|rfl <;> rfl
     rcases hm01 with hm|hm
     ·subst hm;have HTo:=Lh (Lg.toR_put HA.out (by rfl));go_wp2_with fail;refine hcl.out.mono ?_;rintro e w2 ⟨rfl,b2⟩;have KB:=Lh (trans9 K1.out b2);have HF2:=Lh (HF1.out.below b2);have HG2:=Lh (And.intro (HG1.out.1.below b2) (HG1.out.2.below b2));clear hcl b2 x0 x1 xf xl K1 HF1 HG1
      cases hcl:Lg.clB p (fms F) with
      | some c =>
        obtain⟨cA,cB⟩:=c;simp only[collV];have HGlt:=Lh HG2.out.2.lt;have ka:=kp_alloc (Below.refl w2.heap.size w2) (.cells #[.string (str cA),.string (str cB)] 30);have KB2:=Lh (trans9 KB.out ka);have HGx:=Lh (And.intro (HG2.out.1.below ka) (HG2.out.2.below ka));have HFx:=Lh (HF2.out.below ka);have hren:=Lh (rren_calls p 0 t F _ _ (HV.out.below KB2.out) hc);obtain⟨x0,x1,xf,xl⟩:=HFx.out;clear ka KB HG2 HF2;go_wp2_with fail;refine hren.out.mono ?_;rintro e w3 ⟨v9,M9,rfl,hr9,hM9,b3⟩;have B3:=Lh (trans9 KB2.out b3);have HG3:=Lh (And.intro (HGx.out.1.below b3) (HGx.out.2.below b3));have HF3:=Lh (HFx.out.below b3);have hs3:=Lh (show w2.heap.size+1≤w3.heap.size from by have:=b3.size;rwa [World.size_alloc] at this);have hfew:FmFew M9:=FpFew.rows (by rw[hM9];exact few_ren (few_of_chk hc).plain);have hn9:M9.length≤900:=by
         have h1:(fms M9).length=(fms F).length:=by rw[hM9];unfold Lg.renB;rw[List.length_map]
         have h2:=(chk_zero hc).2.1;rw[List.length_map] at h1;omega
        have hlo:=Lh (rlong_calls M9 v9 w3 hr9.here hfew);have hzE:=Lh (show w.heap.size+1+1<w2.heap.size from HGlt.out);have hr9':FmEO w3 (fun b=>b=w.heap.size+1∨b=w.heap.size+1+1) v9 M9:=hr9.fewer (fun b hb=>by have:=hzE.out;rw[World.size_alloc];omega);have hso:=Lh (fun X (h:Below w3.heap.size w3 X)=>rbsort_calls t M9 v9 X (fun b=>b=w.heap.size+1∨b=w.heap.size+1+1) (fun b hb=>by have h1:=hzE.out;have h2:=hs3.out;have h3:=h.size;omega) (hr9.here.1.below h) ((hr9'.below h).off) hfew hn9);rw[hM9] at hlo hso;obtain⟨A9,c9,hv9,_⟩:=hr9.here.1;subst hv9;clear b3 hren KB2 HGx HFx hfew hr9 hr9' hM9 x0 x1 xf xl;go_wp2_with fail;refine hlo.out.mono ?_;rintro e w4 ⟨rfl,b4⟩;have B4:=Lh (trans9 B3.out b4);have HG4:=Lh (And.intro (HG3.out.1.below b4) (HG3.out.2.below b4));have hso4:=Lh (hso.out w4 b4);obtain⟨x0,x1,xf,xl⟩:=HF3.out.below b4;clear b4 hlo hso B3 HG3 HF3
        cases hL:Lg.longB (Lg.renB (Lg.nmF p 0 0) (Lg.nmF p 0 1) (fms F)) with
        | true =>
          have hto:=Lh (HTo.out.trans (Lg.putR_long hL));obtain⟨⟨y0,y1,yf,yl⟩,⟨z0,z1,zf,zl⟩⟩:=HG4.out;go_wp2;refine bodyPost_ret (v := .tuple #[.agg #[.string ⟨#[]⟩,.slice none 0 0],.agg #[.string ⟨#[]⟩,.string ⟨#[]⟩],.int .i64 14]) (by simp[results,Tryz.results10,go_sem,y0,y1,z0,z1,yl,zl]) rfl ⟨ToP.none hto.out ?_ rfl,?_⟩
          ·exact FmRow.nil _
          ·repeat(first|exact B4.out|apply kp_alloc|apply Below.drew|refine Below.setCell ?_ (by first|(show w.heap.size≤w.heap.size+1;omega)|(show w.heap.size≤w.heap.size+1+1;omega)) _)
        | false =>
          go_wp2_with fail;refine hso4.out.mono ?_;rintro e w5 ⟨⟨A,n5,c5,M,rfl,hr,hs⟩|⟨hno,rfl⟩,b5⟩
          ·have hto:=Lh (HTo.out.trans (Lg.putR_yes hL hs));have B5:=Lh (trans9 B4.out b5);obtain⟨y0,y1,yf,yl⟩:=HG4.out.1.below b5;obtain⟨z0,z1,zf,zl⟩:=HG4.out.2.below b5;have HR5:=Lh hr;clear b5 hso4 hr x0 x1 xf xl;go_wp2;refine bodyPost_ret (v := .tuple #[.agg #[.string (str t),.slice A n5 c5],.agg #[.string ⟨#[]⟩,.string ⟨#[]⟩],.int .i64 0]) (by simp[results,Tryz.results10,go_sem,y0,y1,z0,z1,yl,zl]) rfl ⟨ToP.some hto.out ?_ rfl rfl,?_⟩
           ·refine FmEO.here (E:=fun b=>b=w.heap.size+1∨b=w.heap.size+1+1) ?_
            repeat(first|exact HR5.out|(with_reducible refine FmEO.setIn ?_ (by first|exact Or.inl rfl|exact Or.inr rfl))|(with_reducible refine FmEO.below ?_ (kp_alloc (Below.refl _ _) _)))
           ·repeat(first|exact B5.out|apply kp_alloc|apply Below.drew|refine Below.setCell ?_ (by first|(show w.heap.size≤w.heap.size+1;omega)|(show w.heap.size≤w.heap.size+1+1;omega)) _)
          ·have hto:=Lh (HTo.out.trans (Lg.putR_no hL hno));have B5:=Lh (trans9 B4.out b5);obtain⟨y0,y1,yf,yl⟩:=HG4.out.1.below b5;obtain⟨z0,z1,zf,zl⟩:=HG4.out.2.below b5;clear b5 hso4 x0 x1 xf xl;go_wp2;refine bodyPost_ret (v := .tuple #[.agg #[.string ⟨#[]⟩,.slice none 0 0],.agg #[.string ⟨#[]⟩,.string ⟨#[]⟩],.int .i64 19]) (by simp[results,Tryz.results10,go_sem,y0,y1,z0,z1,yl,zl]) rfl ⟨ToP.none hto.out ?_ rfl,?_⟩
           ·exact FmRow.nil _
           ·repeat(first|exact B5.out|apply kp_alloc|apply Below.drew|refine Below.setCell ?_ (by first|(show w.heap.size≤w.heap.size+1;omega)|(show w.heap.size≤w.heap.size+1+1;omega)) _)
      | none =>
        simp only[collV];have HGlt:=Lh HG2.out.2.lt;have ka:=kp_alloc (Below.refl w2.heap.size w2) (.cells #[.string ⟨#[]⟩,.string ⟨#[]⟩] 30);have KB2:=Lh (trans9 KB.out ka);have HGx:=Lh (And.intro (HG2.out.1.below ka) (HG2.out.2.below ka));have HFx:=Lh (HF2.out.below ka);have hren:=Lh (rren_calls p 0 t F _ _ (HV.out.below KB2.out) hc);obtain⟨x0,x1,xf,xl⟩:=HFx.out;clear ka KB HG2 HF2;go_wp2_with fail;refine hren.out.mono ?_;rintro e w3 ⟨v9,M9,rfl,hr9,hM9,b3⟩;have B3:=Lh (trans9 KB2.out b3);have HG3:=Lh (And.intro (HGx.out.1.below b3) (HGx.out.2.below b3));have HF3:=Lh (HFx.out.below b3);have hs3:=Lh (show w2.heap.size+1≤w3.heap.size from by have:=b3.size;rwa [World.size_alloc] at this);have hfew:FmFew M9:=FpFew.rows (by rw[hM9];exact few_ren (few_of_chk hc).plain);have hn9:M9.length≤900:=by
         have h1:(fms M9).length=(fms F).length:=by rw[hM9];unfold Lg.renB;rw[List.length_map]
         have h2:=(chk_zero hc).2.1;rw[List.length_map] at h1;omega
        have hlo:=Lh (rlong_calls M9 v9 w3 hr9.here hfew);have hzE:=Lh (show w.heap.size+1+1<w2.heap.size from HGlt.out);have hr9':FmEO w3 (fun b=>b=w.heap.size+1∨b=w.heap.size+1+1) v9 M9:=hr9.fewer (fun b hb=>by have:=hzE.out;rw[World.size_alloc];omega);have hso:=Lh (fun X (h:Below w3.heap.size w3 X)=>rbsort_calls t M9 v9 X (fun b=>b=w.heap.size+1∨b=w.heap.size+1+1) (fun b hb=>by have h1:=hzE.out;have h2:=hs3.out;have h3:=h.size;omega) (hr9.here.1.below h) ((hr9'.below h).off) hfew hn9);rw[hM9] at hlo hso;obtain⟨A9,c9,hv9,_⟩:=hr9.here.1;subst hv9;clear b3 hren KB2 HGx HFx hfew hr9 hr9' hM9 x0 x1 xf xl;go_wp2_with fail;refine hlo.out.mono ?_;rintro e w4 ⟨rfl,b4⟩;have B4:=Lh (trans9 B3.out b4);have HG4:=Lh (And.intro (HG3.out.1.below b4) (HG3.out.2.below b4));have hso4:=Lh (hso.out w4 b4);obtain⟨x0,x1,xf,xl⟩:=HF3.out.below b4;clear b4 hlo hso B3 HG3 HF3
        cases hL:Lg.longB (Lg.renB (Lg.nmF p 0 0) (Lg.nmF p 0 1) (fms F)) with
        | true =>
          have hto:=Lh (HTo.out.trans (Lg.putR_long hL));obtain⟨⟨y0,y1,yf,yl⟩,⟨z0,z1,zf,zl⟩⟩:=HG4.out;go_wp2;refine bodyPost_ret (v := .tuple #[.agg #[.string ⟨#[]⟩,.slice none 0 0],.agg #[.string ⟨#[]⟩,.string ⟨#[]⟩],.int .i64 14]) (by simp[results,Tryz.results10,go_sem,y0,y1,z0,z1,yl,zl]) rfl ⟨ToP.none hto.out ?_ rfl,?_⟩
          ·exact FmRow.nil _
          ·repeat(first|exact B4.out|apply kp_alloc|apply Below.drew|refine Below.setCell ?_ (by first|(show w.heap.size≤w.heap.size+1;omega)|(show w.heap.size≤w.heap.size+1+1;omega)) _)
        | false =>
          go_wp2_with fail;refine hso4.out.mono ?_;rintro e w5 ⟨⟨A,n5,c5,M,rfl,hr,hs⟩|⟨hno,rfl⟩,b5⟩
          ·have hto:=Lh (HTo.out.trans (Lg.putR_yes hL hs));have B5:=Lh (trans9 B4.out b5);obtain⟨y0,y1,yf,yl⟩:=HG4.out.1.below b5;obtain⟨z0,z1,zf,zl⟩:=HG4.out.2.below b5;have HR5:=Lh hr;clear b5 hso4 hr x0 x1 xf xl;go_wp2;refine bodyPost_ret (v := .tuple #[.agg #[.string (str t),.slice A n5 c5],.agg #[.string ⟨#[]⟩,.string ⟨#[]⟩],.int .i64 0]) (by simp[results,Tryz.results10,go_sem,y0,y1,z0,z1,yl,zl]) rfl ⟨ToP.some hto.out ?_ rfl rfl,?_⟩
           ·refine FmEO.here (E:=fun b=>b=w.heap.size+1∨b=w.heap.size+1+1) ?_
            repeat(first|exact HR5.out|(with_reducible refine FmEO.setIn ?_ (by first|exact Or.inl rfl|exact Or.inr rfl))|(with_reducible refine FmEO.below ?_ (kp_alloc (Below.refl _ _) _)))
           ·repeat(first|exact B5.out|apply kp_alloc|apply Below.drew|refine Below.setCell ?_ (by first|(show w.heap.size≤w.heap.size+1;omega)|(show w.heap.size≤w.heap.size+1+1;omega)) _)
          ·have hto:=Lh (HTo.out.trans (Lg.putR_no hL hno));have B5:=Lh (trans9 B4.out b5);obtain⟨y0,y1,yf,yl⟩:=HG4.out.1.below b5;obtain⟨z0,z1,zf,zl⟩:=HG4.out.2.below b5;clear b5 hso4 x0 x1 xf xl;go_wp2;refine bodyPost_ret (v := .tuple #[.agg #[.string ⟨#[]⟩,.slice none 0 0],.agg #[.string ⟨#[]⟩,.string ⟨#[]⟩],.int .i64 19]) (by simp[results,Tryz.results10,go_sem,y0,y1,z0,z1,yl,zl]) rfl ⟨ToP.none hto.out ?_ rfl,?_⟩
           ·exact FmRow.nil _
           ·repeat(first|exact B5.out|apply kp_alloc|apply Below.drew|refine Below.setCell ?_ (by first|(show w.heap.size≤w.heap.size+1;omega)|(show w.heap.size≤w.heap.size+1+1;omega)) _)
     ·subst hm;go_wp2_with fail;refine hcl.out.mono ?_;rintro e w2 ⟨rfl,b2⟩;have KB:=Lh (trans9 K1.out b2);have HF2:=Lh (HF1.out.below b2);have HG2:=Lh (And.intro (HG1.out.1.below b2) (HG1.out.2.below b2));clear hcl b2 x0 x1 xf xl K1 HF1 HG1
      cases hcl:Lg.clB p (fms F) with
      | some c =>
        obtain⟨cA,cB⟩:=c;have hto:=Lh (Lg.toR_clash HA.out hcl);obtain⟨⟨y0,y1,yf,yl⟩,⟨z0,z1,zf,zl⟩⟩:=HG2.out;simp only[collV];go_wp2_with fail
        go_region
        all_goals go_wp2
        refine bodyPost_ret (v := .tuple #[.agg #[.string ⟨#[]⟩,.slice none 0 0],.agg #[.string (str cA),.string (str cB)],.int .i64 16]) (by simp[results,Tryz.results10,go_sem,y0,y1,z0,z1,yl,zl]) rfl ⟨ToP.none hto.out ?_ rfl,?_⟩
        ·exact FmRow.nil _
        ·repeat(first|exact KB.out|apply kp_alloc|apply Below.drew|refine Below.setCell ?_ (by first|(show w.heap.size≤w.heap.size+1;omega)|(show w.heap.size≤w.heap.size+1+1;omega)) _)
      | none =>
        have HTo:=Lh (Lg.toR_put HA.out (by rw[if_pos rfl,hcl]));simp only[collV];have HGlt:=Lh HG2.out.2.lt;have ka:=kp_alloc (Below.refl w2.heap.size w2) (.cells #[.string ⟨#[]⟩,.string ⟨#[]⟩] 30);have KB2:=Lh (trans9 KB.out ka);have HGx:=Lh (And.intro (HG2.out.1.below ka) (HG2.out.2.below ka));have HFx:=Lh (HF2.out.below ka);have hren:=Lh (rren_calls p 1 t F _ _ (HV.out.below KB2.out) hc);obtain⟨x0,x1,xf,xl⟩:=HFx.out;clear ka KB HG2 HF2;go_wp2_with fail;refine hren.out.mono ?_;rintro e w3 ⟨v9,M9,rfl,hr9,hM9,b3⟩;have B3:=Lh (trans9 KB2.out b3);have HG3:=Lh (And.intro (HGx.out.1.below b3) (HGx.out.2.below b3));have HF3:=Lh (HFx.out.below b3);have hs3:=Lh (show w2.heap.size+1≤w3.heap.size from by have:=b3.size;rwa [World.size_alloc] at this);have hfew:FmFew M9:=FpFew.rows (by rw[hM9];exact few_ren (few_of_chk hc).plain);have hn9:M9.length≤900:=by
         have h1:(fms M9).length=(fms F).length:=by rw[hM9];unfold Lg.renB;rw[List.length_map]
         have h2:=(chk_zero hc).2.1;rw[List.length_map] at h1;omega
        have hlo:=Lh (rlong_calls M9 v9 w3 hr9.here hfew);have hzE:=Lh (show w.heap.size+1+1<w2.heap.size from HGlt.out);have hr9':FmEO w3 (fun b=>b=w.heap.size+1∨b=w.heap.size+1+1) v9 M9:=hr9.fewer (fun b hb=>by have:=hzE.out;rw[World.size_alloc];omega);have hso:=Lh (fun X (h:Below w3.heap.size w3 X)=>rbsort_calls t M9 v9 X (fun b=>b=w.heap.size+1∨b=w.heap.size+1+1) (fun b hb=>by have h1:=hzE.out;have h2:=hs3.out;have h3:=h.size;omega) (hr9.here.1.below h) ((hr9'.below h).off) hfew hn9);rw[hM9] at hlo hso;obtain⟨A9,c9,hv9,_⟩:=hr9.here.1;subst hv9;clear b3 hren KB2 HGx HFx hfew hr9 hr9' hM9 x0 x1 xf xl;go_wp2_with fail;refine hlo.out.mono ?_;rintro e w4 ⟨rfl,b4⟩;have B4:=Lh (trans9 B3.out b4);have HG4:=Lh (And.intro (HG3.out.1.below b4) (HG3.out.2.below b4));have hso4:=Lh (hso.out w4 b4);obtain⟨x0,x1,xf,xl⟩:=HF3.out.below b4;clear b4 hlo hso B3 HG3 HF3
        cases hL:Lg.longB (Lg.renB (Lg.nmF p 1 0) (Lg.nmF p 1 1) (fms F)) with
        | true =>
          have hto:=Lh (HTo.out.trans (Lg.putR_long hL));obtain⟨⟨y0,y1,yf,yl⟩,⟨z0,z1,zf,zl⟩⟩:=HG4.out;go_wp2;refine bodyPost_ret (v := .tuple #[.agg #[.string ⟨#[]⟩,.slice none 0 0],.agg #[.string ⟨#[]⟩,.string ⟨#[]⟩],.int .i64 14]) (by simp[results,Tryz.results10,go_sem,y0,y1,z0,z1,yl,zl]) rfl ⟨ToP.none hto.out ?_ rfl,?_⟩
          ·exact FmRow.nil _
          ·repeat(first|exact B4.out|apply kp_alloc|apply Below.drew|refine Below.setCell ?_ (by first|(show w.heap.size≤w.heap.size+1;omega)|(show w.heap.size≤w.heap.size+1+1;omega)) _)
        | false =>
          go_wp2_with fail;refine hso4.out.mono ?_;rintro e w5 ⟨⟨A,n5,c5,M,rfl,hr,hs⟩|⟨hno,rfl⟩,b5⟩
          ·have hto:=Lh (HTo.out.trans (Lg.putR_yes hL hs));have B5:=Lh (trans9 B4.out b5);obtain⟨y0,y1,yf,yl⟩:=HG4.out.1.below b5;obtain⟨z0,z1,zf,zl⟩:=HG4.out.2.below b5;have HR5:=Lh hr;clear b5 hso4 hr x0 x1 xf xl;go_wp2;refine bodyPost_ret (v := .tuple #[.agg #[.string (str t),.slice A n5 c5],.agg #[.string ⟨#[]⟩,.string ⟨#[]⟩],.int .i64 0]) (by simp[results,Tryz.results10,go_sem,y0,y1,z0,z1,yl,zl]) rfl ⟨ToP.some hto.out ?_ rfl rfl,?_⟩
           ·refine FmEO.here (E:=fun b=>b=w.heap.size+1∨b=w.heap.size+1+1) ?_
            repeat(first|exact HR5.out|(with_reducible refine FmEO.setIn ?_ (by first|exact Or.inl rfl|exact Or.inr rfl))|(with_reducible refine FmEO.below ?_ (kp_alloc (Below.refl _ _) _)))
           ·repeat(first|exact B5.out|apply kp_alloc|apply Below.drew|refine Below.setCell ?_ (by first|(show w.heap.size≤w.heap.size+1;omega)|(show w.heap.size≤w.heap.size+1+1;omega)) _)
          ·have hto:=Lh (HTo.out.trans (Lg.putR_no hL hno));have B5:=Lh (trans9 B4.out b5);obtain⟨y0,y1,yf,yl⟩:=HG4.out.1.below b5;obtain⟨z0,z1,zf,zl⟩:=HG4.out.2.below b5;clear b5 hso4 x0 x1 xf xl;go_wp2;refine bodyPost_ret (v := .tuple #[.agg #[.string ⟨#[]⟩,.slice none 0 0],.agg #[.string ⟨#[]⟩,.string ⟨#[]⟩],.int .i64 19]) (by simp[results,Tryz.results10,go_sem,y0,y1,z0,z1,yl,zl]) rfl ⟨ToP.none hto.out ?_ rfl,?_⟩
           ·exact FmRow.nil _
           ·repeat(first|exact B5.out|apply kp_alloc|apply Below.drew|refine Below.setCell ?_ (by first|(show w.heap.size≤w.heap.size+1;omega)|(show w.heap.size≤w.heap.size+1+1;omega)) _)
    ·have hto:=Lh (Lg.toR_no (Lg.arg_no (F:=fms F) (t:=t) (m:=m) (p:=p) (Or.inr (Or.inr hm01))));obtain⟨⟨y0,y1,yf,yl⟩,⟨z0,z1,zf,zl⟩⟩:=HG1.out;have d0:decide (m=0)=false:=decide_eq_false (fun h=>hm01 (Or.inl h));have d1:decide (m=1)=false:=decide_eq_false (fun h=>hm01 (Or.inr h));have e0:(m==0)=false:=by simpa using fun h=>hm01 (Or.inl h)
     have e1:(m==1)=false:=by simpa using fun h=>hm01 (Or.inr h)
     have e2:(m != 0)=true:=by simp[bne,e0]
     have e3:(m != 1)=true:=by simp[bne,e1]
     go_wp2;refine bodyPost_ret (v := .tuple #[.agg #[.string ⟨#[]⟩,.slice none 0 0],.agg #[.string ⟨#[]⟩,.string ⟨#[]⟩],.int .i64 19]) (by simp[results,Tryz.results10,go_sem,y0,y1,z0,z1,yl,zl]) rfl ⟨ToP.none hto.out ?_ rfl,?_⟩
     ·exact FmRow.nil _
     ·repeat(first|exact K1.out|apply kp_alloc|apply Below.drew|refine Below.setCell ?_ (by first|(show w.heap.size≤w.heap.size+1;omega)|(show w.heap.size≤w.heap.size+1+1;omega)) _)
 ·have dz:decide (chk t (fms F)=0)=false:=decide_eq_false hc;have bz:(chk t (fms F)==0)=false:=by simpa using hc
  have hto:=Lh (Lg.toR_no (Lg.arg_no (F:=fms F) (t:=t) (m:=m) (p:=p) (Or.inl hc)));obtain⟨⟨y0,y1,yf,yl⟩,⟨z0,z1,zf,zl⟩⟩:=HG1.out;generalize chk t (fms F)=zz at *;go_wp2;refine bodyPost_ret (v := .tuple #[.agg #[.string ⟨#[]⟩,.slice none 0 0],.agg #[.string ⟨#[]⟩,.string ⟨#[]⟩],.int .i64 19]) (by simp[results,Tryz.results10,go_sem,y0,y1,z0,z1,yl,zl]) rfl ⟨ToP.none hto.out ?_ rfl,?_⟩
  ·exact FmRow.nil _
  ·repeat(first|exact K1.out|apply kp_alloc|apply Below.drew|refine Below.setCell ?_ (by first|(show w.heap.size≤w.heap.size+1;omega)|(show w.heap.size≤w.heap.size+1+1;omega)) _)
theorem FmEO.snoc {w:World} {E:Nat→Prop} {v:Value} {M:List Fs} (h:FmEO w E v M) (o:Obj):FmEO (w.alloc o) (fun b=>E b∨b=w.heap.size) v M:=fun X h1 h2=>by
 rw[World.size_alloc] at h1 h2;exact h X (fun b hlt he=>(h1 b (by omega) (fun e=>e.elim he (fun e=>by omega))).trans (Below.heap_alloc _ _ _ hlt)) (by omega)
theorem bat_put {w:World} {b:Nat} {t t2:List UInt8} {v v2:Value} (k:BatAt w b t v):BatAt ((w.setCell ⟨b,0,none⟩ (.string (str t2))).setCell ⟨b,1,none⟩ v2) b t2 v2:=by
 have h0:=k.c0;have h1:=k.c1;exact⟨by simp[go_sem,h0,h1],by simp[go_sem,h0,h1],fun o=>by simpa using k.fr o,by simpa[World.setCell] using k.lt⟩
theorem Lg.fromR_srt {p:Int} {t:List UInt8} {F:List Fp} (h:Lg.argOk p 0 t F=true):Lg.fromR p 0 t F=Lg.putB t (Lg.srtB (Lg.renB (Ch.back p 0) (Ch.back p 1) F)):=by
 unfold Lg.fromR Lg.putB;rw[if_pos h,if_neg (by decide)]
 cases Lg.srtB (Lg.renB (Ch.back p 0) (Ch.back p 1) F) <;> rfl
theorem rfrom_calls (p m:Int) (t:List UInt8) (F:List Fs) (v:Value) (w:World) (hv:FmRow w v F) (hf:FmFew F) (ht:t.length≤maxLen) :
 Calls Tryz.prog 12 #[.int .i64 p,.int .i64 m,batv t v] w fun e w'=>FromP t (Lg.fromR p m t (fms F)) e w'∧Below w.heap.size w w':=by
 have two : ∃W,W=(w.alloc (.cells #[.string (str t),v] 24)).alloc (.cells #[.string ⟨#[]⟩,.slice none 0 0] 24):=⟨_,rfl⟩
 obtain⟨w0,hw0⟩:=two;have k0:Below w.heap.size w w0:=by rw[hw0];exact kp_alloc (kp_alloc (Below.refl w.heap.size w) _) _
 have F0:BatAt w0 w.heap.size t v:=by rw[hw0];exact(BatAt.new w t v _).below (kp_alloc (Below.refl _ _) _)
 have G0:BatAt w0 (w.heap.size+1) [] (.slice none 0 0):=by
  have h:=BatAt.new (w.alloc (.cells #[.string (str t),v] 24)) [] (.slice none 0 0) 24;rw[show(w.alloc (.cells #[.string (str t),v] 24)).heap.size=w.heap.size+1 by simp] at h;rw[hw0];exact h
 have hck:=Lh (rcheck_calls t F v _ (hv.below k0) hf ht);obtain⟨A0,n,cap,hv1⟩ : ∃A n cap,v = .slice A n cap:=by obtain⟨A,cap,he,_⟩:=hv.1;exact⟨A,_,cap,he⟩
 subst hv1;have HV:=Lh hv;have HTL:=Lh ht;have K0:=Lh k0;have HF0:=Lh F0;have HG0:=Lh G0;clear F0 G0 k0 hv hf;go_enter Tryz.func12,Tryz.ntmps12;go_upto_region 1 with fail;rw[←hw0];clear hw0;obtain⟨x0,x1,xf,xl⟩:=HF0.out;go_wp2_with fail;refine hck.out.mono ?_;rintro e w1 ⟨rfl,b1⟩;have K1:=Lh (trans9 K0.out b1);have HF1:=Lh (HF0.out.below b1);have HG1:=Lh (HG0.out.below b1);have hpr:=Lh (riproto_calls p w1);clear hck b1 x0 x1 xf xl K0 HF0 HG0;by_cases hc:chk t (fms F)=0
 ·rw[hc];go_wp2_with fail;refine hpr.out.mono ?_;rintro e w1' ⟨rfl,rfl⟩;clear hpr
  cases hP:protoOk p with
  | false =>
    have hto:=Lh (Lg.fromR_no (Lg.arg_no (F:=fms F) (t:=t) (m:=m) (p:=p) (Or.inr (Or.inl (fun h=>by rw[protoOk_iff.2 h] at hP;cases hP)))));obtain⟨y0,y1,yf,yl⟩:=HG1.out;go_wp2;refine bodyPost_ret (v := .tuple #[.agg #[.string ⟨#[]⟩,.slice none 0 0],.int .i64 19]) (by simp[results,Tryz.results12,go_sem,y0,y1,yl]) rfl ⟨FromP.none hto.out ?_ rfl,?_⟩
    ·exact FmRow.nil _
    ·repeat(first|exact K1.out|apply kp_alloc|apply Below.drew|refine Below.setCell ?_ (by show w.heap.size≤w.heap.size+1;omega) _)
  | true =>
    have hp14:=protoOk_iff.1 hP;by_cases hm01:m=0∨m=1
    ·have HA:=Lh (Lg.arg_ok hc hp14 hm01);obtain⟨x0,x1,xf,xl⟩:=HF1.out;obtain⟨y0,y1,yf,yl⟩:=HG1.out;rcases hm01 with hm|hm
     ·subst hm;have HTo:=Lh (Lg.fromR_srt HA.out);generalize w1=W1 at *;have hren:=Lh (fun X (h:Below W1.heap.size W1 X)=>(show Calls Tryz.prog 31 #[.int .i64 p,.int .i64 0,.bool true,batv t (.slice A0 n cap)] X fun e w' => ∃A9 n9 c9 M9,e = .returned (.slice A9 n9 c9)∧FmEO w' (fun b=>b<X.heap.size) (.slice A9 n9 c9) M9∧fms M9=Lg.renB (Ch.back p 0) (Ch.back p 1) (fms F)∧Below X.heap.size X w' from by
       refine(rrenb_calls p 0 t F _ X (HV.out.below (trans9 K1.out h)) hc).mono ?_;rintro e w' ⟨v9,M9,rfl,h9,hM9,b9⟩;obtain⟨A9,c9,rfl,_⟩:=h9.here.1;exact⟨A9,_,c9,M9,rfl,h9,hM9,b9⟩))
      have hsoA:=Lh (fun X (h:Below W1.heap.size W1 X) (E:Nat→Prop) (hE : ∀b,E b→b<X.heap.size) A9 n9 c9 M9 (h9:FmEO X E (.slice A9 n9 c9) M9) (hM9:fms M9=Lg.renB (Ch.back p 0) (Ch.back p 1) (fms F)) =>
       rbsort_calls t M9 _ X E hE h9.here.1 h9.off (FpFew.rows (by rw[hM9];exact few_ren (few_of_chk hc).plain)) (by
        have h1:(fms M9).length=(fms F).length:=by rw[hM9];unfold Lg.renB;rw[List.length_map]
        have h2:=(chk_zero hc).2.1;rw[List.length_map] at h1;omega))
      have HW1:=Lh (show w.heap.size+1<W1.heap.size from HG1.out.lt);have hfewM:=Lh (fun M h=>few_srtB (M:=M) (few_ren (f:=Ch.back p 0) (k:=Ch.back p 1) (few_of_chk hc).plain) h);have r0 : ∀y,Below W1.heap.size W1 y→y.cell? ⟨w.heap.size,0,none⟩=some (.string (str t)):=fun y h=>(h.cell (p:=⟨w.heap.size,0,none⟩) xl).trans x0;have r1 : ∀y,Below W1.heap.size W1 y→y.cell? ⟨w.heap.size,1,none⟩=some (.slice A0 n cap):=fun y h=>(h.cell (p:=⟨w.heap.size,1,none⟩) xl).trans x1;obtain⟨O,hO⟩ : ∃O,Lg.srtB (Lg.renB (Ch.back p 0) (Ch.back p 1) (fms F))=O:=⟨_,rfl⟩
      rw[hO] at HTo
      cases O with
      | none =>
        have hto:=Lh (show Lg.fromR p 0 t (fms F)=(19,none) from HTo.out);have hso:=Lh (fun X (h:Below W1.heap.size W1 X) (E:Nat→Prop) (hE : ∀b,E b→b<X.heap.size) A9 n9 c9 M9 (h9:FmEO X E (.slice A9 n9 c9) M9) (hM9:fms M9=Lg.renB (Ch.back p 0) (Ch.back p 1) (fms F))=>(show Calls Tryz.prog 33 #[batv t (.slice A9 n9 c9)] X fun e w'=>e = .returned (.tuple #[batv [] (.slice none 0 0),.bool false])∧Below X.heap.size X w' from(hsoA.out X h E hE A9 n9 c9 M9 h9 hM9).mono fun e w' ⟨hh,hb⟩=>by
         rcases hh with ⟨A,n5,c5,M,rfl,hr,hs⟩|⟨_,rfl⟩
         ·rw[hM9,hO] at hs;cases hs
         ·exact⟨rfl,hb⟩))
        clear hsoA x0 x1 xf xl y0 y1 yf yl;go_wp2_with fail;refine wp_region_noPanic ?_;refine wp_region_held_drew (S:=fun X=>Below W1.heap.size W1 X) (by kernel_rfl) ?_ (fun hHeld => ?_)
        ·exact Below.drew (Below.refl _ _)
        have kB:Below W1.heap.size W1 W1.drew:=Below.drew (Below.refl _ _);clear hHeld;refine tk9 0 kB ?_;refine tk9 1 kB ?_ (hy:=Or.inl ⟨by rfl,by intro x hSw;(try dsimp only at hSw);have r0:=r0 x hSw;first|(go_simp;done)|(go_simp;with_reducible rfl)⟩);refine tk9 2 kB ?_;refine tk9 3 kB ?_;refine tk9 4 kB ?_ (hy:=Or.inl ⟨by rfl,by intro x hSw;(try dsimp only at hSw);have r0:=r0 x hSw;have r1:=r1 x hSw;first|(go_simp;done)|(go_simp;with_reducible rfl)⟩);refine wpAnyH_ready (rs:=[5,11]) (by kernel_rfl) (by simp) ?_;refine AllReadyH.cons (by simp only[List.getElem?_toArray,List.getElem?_cons_succ,List.getElem?_cons_zero];rfl) (fun K hK => ?_) ?_
        ·try go_simp
         refine(hren.out _ kB).mono ?_;rintro e w3 ⟨A9,n9,c9,M9,rfl,hr9,hM9,b3⟩;have hr9:FmEO w3 (fun b=>b=w.heap.size+1) (.slice A9 n9 c9) M9:=hr9.fewer (fun b hb=>by have h2:=HW1.out;have h3:=kB.size;omega);replace kB:=trans9 kB b3;clear b3
         try go_wp2_with fail
         refine hK.out _ _ kB (fun hHeld => ?_);clear hK K hHeld
         (try simp only[Act.put,sI,sZ,sS])
         refine tk9 6 kB ?_;refine wpAnyH_ready (rs:=[7,11]) (by kernel_rfl) (by simp) ?_;refine AllReadyH.cons (by simp only[List.getElem?_toArray,List.getElem?_cons_succ,List.getElem?_cons_zero];rfl) (fun K hK => ?_) ?_
         ·try go_simp
          refine(hso.out _ kB (fun b=>b=w.heap.size+1) (fun b hb=>by have h2:=HW1.out;have h3:=kB.size;omega) A9 n9 c9 M9 hr9 hM9).mono ?_;rintro e w5 ⟨rfl,b5⟩;replace kB:=trans9 kB b5;clear b5 hr9 hM9
          try go_wp2_with fail
          refine hK.out _ _ kB (fun hHeld => ?_);clear hK K hHeld
          (try simp only[Act.put,sI,sZ,sS])
          refine tk9 8 kB ?_;refine tk9 9 kB ?_;refine tk9 10 kB ?_;refine wpAnyH_ready (rs:=[11]) (by kernel_rfl) (by simp) ?_;refine ar9 fun K hK => ?_;go_simp;have kN:BatAt (w5.alloc (.cells #[.string ⟨#[]⟩,.slice none 0 0] 24)) w5.heap.size [] (.slice none 0 0):=(BatAt.new w5 [] (.slice none 0 0) 24)
          have hge:W1.heap.size≤w5.heap.size:=kB.size;replace kB:Below W1.heap.size W1 ((w5.alloc (.cells #[.string ⟨#[]⟩,.slice none 0 0] 24))):=kp_alloc kB _;obtain⟨W9,hW9⟩ : ∃X,X=(w5.alloc (.cells #[.string ⟨#[]⟩,.slice none 0 0] 24)):=⟨_,rfl⟩
          rw[←hW9] at kB kN ⊢;clear hW9;obtain⟨xb,hxb⟩ : ∃X,X=w5.heap.size:=⟨_,rfl⟩
          rw[←hxb] at kN hge ⊢;clear hxb;refine hK.out _ _ kB (fun hHeld => ?_);clear hK K hHeld
          (try simp only[Act.put,sI,sZ,sS])
          refine wpAnyH_ready (rs:=[12]) (by kernel_rfl) (by simp) ?_;refine ar9 fun K hK => ?_;obtain⟨n0,n1,nf,nl⟩:=kN;go_simp;clear n0 n1 nf nl;replace kB:=(kB.setCell (p:=⟨xb,0,none⟩) hge (.string (str []))).setCell (p:=⟨xb,1,none⟩) hge (.slice none 0 0);refine hK.out _ _ kB (fun hHeld => ?_);clear hK K hHeld
          (try simp only[Act.put,sI,sZ,sS])
          refine tk9 13 kB ?_;refine wpAnyH_done (by kernel_rfl) ?_ _;refine NoPanic.normal ?_;have K5:=Lh (trans9 K1.out kB);obtain⟨y0,y1,yf,yl⟩:=HG1.out.below kB;clear r0 r1 kB;go_wp2;refine bodyPost_ret (v := .tuple #[.agg #[.string ⟨#[]⟩,.slice none 0 0],.int .i64 19]) (by simp[results,Tryz.results12,go_sem,y0,y1,yl]) rfl ⟨FromP.none hto.out ?_ rfl,?_⟩
          ·exact FmRow.nil _
          ·repeat(first|exact K5.out|apply kp_alloc|apply Below.drew|refine Below.setCell ?_ (by show w.heap.size≤w.heap.size+1;omega) _)
         refine ar9 fun K hK => ?_;go_simp;have kN:BatAt (w3.alloc (.cells #[.string ⟨#[]⟩,.slice none 0 0] 24)) w3.heap.size [] (.slice none 0 0):=(BatAt.new w3 [] (.slice none 0 0) 24)
         have hge:W1.heap.size≤w3.heap.size:=kB.size;replace hr9:=hr9.snoc (.cells #[.string ⟨#[]⟩,.slice none 0 0] 24);replace kB:Below W1.heap.size W1 ((w3.alloc (.cells #[.string ⟨#[]⟩,.slice none 0 0] 24))):=kp_alloc kB _;obtain⟨W9,hW9⟩ : ∃X,X=(w3.alloc (.cells #[.string ⟨#[]⟩,.slice none 0 0] 24)):=⟨_,rfl⟩
         rw[←hW9] at kB kN hr9 ⊢;clear hW9;obtain⟨xb,hxb⟩ : ∃X,X=w3.heap.size:=⟨_,rfl⟩
         rw[←hxb] at kN hge hr9 ⊢;clear hxb;refine hK.out _ _ kB (fun hHeld => ?_);clear hK K hHeld
         (try simp only[Act.put,sI,sZ,sS])
         refine wpAnyH_ready (rs:=[7]) (by kernel_rfl) (by simp) ?_;refine ar9 fun K hK => ?_
         try go_simp
         refine(hso.out _ kB (fun b=>b=w.heap.size+1∨b=xb) (fun b hb=>by have h1:=kN.lt;have h2:=HW1.out;have h3:=kB.size;rcases hb with hb|hb <;> omega) A9 n9 c9 M9 hr9 hM9).mono ?_;rintro e w5 ⟨rfl,b5⟩;replace kN:=kN.below b5;replace kB:=trans9 kB b5;clear b5 hr9 hM9
         try go_wp2_with fail
         refine hK.out _ _ kB (fun hHeld => ?_);clear hK K hHeld
         (try simp only[Act.put,sI,sZ,sS])
         refine tk9 8 kB ?_;refine tk9 9 kB ?_;refine tk9 10 kB ?_;refine wpAnyH_ready (rs:=[12]) (by kernel_rfl) (by simp) ?_;refine ar9 fun K hK => ?_;obtain⟨n0,n1,nf,nl⟩:=kN;go_simp;clear n0 n1 nf nl;replace kB:=(kB.setCell (p:=⟨xb,0,none⟩) hge (.string (str []))).setCell (p:=⟨xb,1,none⟩) hge (.slice none 0 0);refine hK.out _ _ kB (fun hHeld => ?_);clear hK K hHeld
         (try simp only[Act.put,sI,sZ,sS])
         refine tk9 13 kB ?_;refine wpAnyH_done (by kernel_rfl) ?_ _;refine NoPanic.normal ?_;have K5:=Lh (trans9 K1.out kB);obtain⟨y0,y1,yf,yl⟩:=HG1.out.below kB;clear r0 r1 kB;go_wp2;refine bodyPost_ret (v := .tuple #[.agg #[.string ⟨#[]⟩,.slice none 0 0],.int .i64 19]) (by simp[results,Tryz.results12,go_sem,y0,y1,yl]) rfl ⟨FromP.none hto.out ?_ rfl,?_⟩
         ·exact FmRow.nil _
         ·repeat(first|exact K5.out|apply kp_alloc|apply Below.drew|refine Below.setCell ?_ (by show w.heap.size≤w.heap.size+1;omega) _)
        refine ar9 fun K hK => ?_;go_simp;have kN:BatAt (W1.alloc (.cells #[.string ⟨#[]⟩,.slice none 0 0] 24)).drew W1.heap.size [] (.slice none 0 0):=(BatAt.new W1 [] (.slice none 0 0) 24).below (Below.drew (Below.refl _ _));have hge:W1.heap.size≤W1.heap.size:=Nat.le_refl _;replace kB:Below W1.heap.size W1 ((W1.alloc (.cells #[.string ⟨#[]⟩,.slice none 0 0] 24)).drew):=Below.drew (kp_alloc (Below.refl _ _) _);obtain⟨W9,hW9⟩ : ∃X,X=(W1.alloc (.cells #[.string ⟨#[]⟩,.slice none 0 0] 24)).drew:=⟨_,rfl⟩
        rw[←hW9] at kB kN ⊢;clear hW9;obtain⟨xb,hxb⟩ : ∃X,X=W1.heap.size:=⟨_,rfl⟩
        have kN2:=kN;rw[←hxb] at kN2 ⊢;replace hge:W1.heap.size≤xb:=(by rw[hxb];exact Nat.le_refl _)
        clear hxb kN;have kN:=kN2;clear kN2;refine hK.out _ _ kB (fun hHeld => ?_);clear hK K hHeld
        (try simp only[Act.put,sI,sZ,sS])
        refine wpAnyH_ready (rs:=[5]) (by kernel_rfl) (by simp) ?_;refine ar9 fun K hK => ?_
        try go_simp
        refine(hren.out _ kB).mono ?_;rintro e w3 ⟨A9,n9,c9,M9,rfl,hr9,hM9,b3⟩;have hr9:FmEO w3 (fun b=>b=w.heap.size+1∨b=xb) (.slice A9 n9 c9) M9:=hr9.fewer (fun b hb=>by have h1:=kN.lt;have h2:=HW1.out;have h3:=kB.size;rcases hb with hb|hb <;> omega);replace kN:=kN.below b3;replace kB:=trans9 kB b3;clear b3
        try go_wp2_with fail
        refine hK.out _ _ kB (fun hHeld => ?_);clear hK K hHeld
        (try simp only[Act.put,sI,sZ,sS])
        refine tk9 6 kB ?_;refine wpAnyH_ready (rs:=[7]) (by kernel_rfl) (by simp) ?_;refine ar9 fun K hK => ?_
        try go_simp
        refine(hso.out _ kB (fun b=>b=w.heap.size+1∨b=xb) (fun b hb=>by have h1:=kN.lt;have h2:=HW1.out;have h3:=kB.size;rcases hb with hb|hb <;> omega) A9 n9 c9 M9 hr9 hM9).mono ?_;rintro e w5 ⟨rfl,b5⟩;replace kN:=kN.below b5;replace kB:=trans9 kB b5;clear b5 hr9 hM9
        try go_wp2_with fail
        refine hK.out _ _ kB (fun hHeld => ?_);clear hK K hHeld
        (try simp only[Act.put,sI,sZ,sS])
        refine tk9 8 kB ?_;refine tk9 9 kB ?_;refine tk9 10 kB ?_;refine wpAnyH_ready (rs:=[12]) (by kernel_rfl) (by simp) ?_;refine ar9 fun K hK => ?_;obtain⟨n0,n1,nf,nl⟩:=kN;go_simp;clear n0 n1 nf nl;replace kB:=(kB.setCell (p:=⟨xb,0,none⟩) hge (.string (str []))).setCell (p:=⟨xb,1,none⟩) hge (.slice none 0 0);refine hK.out _ _ kB (fun hHeld => ?_);clear hK K hHeld
        (try simp only[Act.put,sI,sZ,sS])
        refine tk9 13 kB ?_;refine wpAnyH_done (by kernel_rfl) ?_ _;refine NoPanic.normal ?_;have K5:=Lh (trans9 K1.out kB);obtain⟨y0,y1,yf,yl⟩:=HG1.out.below kB;clear r0 r1 kB;go_wp2;refine bodyPost_ret (v := .tuple #[.agg #[.string ⟨#[]⟩,.slice none 0 0],.int .i64 19]) (by simp[results,Tryz.results12,go_sem,y0,y1,yl]) rfl ⟨FromP.none hto.out ?_ rfl,?_⟩
        ·exact FmRow.nil _
        ·repeat(first|exact K5.out|apply kp_alloc|apply Below.drew|refine Below.setCell ?_ (by show w.heap.size≤w.heap.size+1;omega) _)
      | some M =>
        have hso:=Lh (fun X (h:Below W1.heap.size W1 X) (E:Nat→Prop) (hE : ∀b,E b→b<X.heap.size) A9 n9 c9 M9 (h9:FmEO X E (.slice A9 n9 c9) M9) (hM9:fms M9=Lg.renB (Ch.back p 0) (Ch.back p 1) (fms F))=>(show Calls Tryz.prog 33 #[batv t (.slice A9 n9 c9)] X fun e w'=>(∃A n5 c5 M5,e = .returned (.tuple #[batv t (.slice A n5 c5),.bool true])∧FmEO w' E (.slice A n5 c5) M5∧fms M5=M)∧Below X.heap.size X w' from(hsoA.out X h E hE A9 n9 c9 M9 h9 hM9).mono fun e w' ⟨hh,hb⟩=>by
         rcases hh with ⟨A,n5,c5,M5,rfl,hr,hs⟩|⟨hno,_⟩
         ·rw[hM9,hO] at hs;exact⟨⟨A,n5,c5,M5,rfl,hr,(Option.some.inj hs).symm⟩,hb⟩
         ·rw[hM9,hO] at hno;cases hno))
        have hfM:=hfewM.out M hO;clear hsoA x0 x1 xf xl y0 y1 yf yl;go_wp2_with fail;refine wp_region_noPanic ?_;refine wp_region_held_drew (S:=fun X=>Below W1.heap.size W1 X) (by kernel_rfl) ?_ (fun hHeld => ?_)
        ·exact Below.drew (Below.refl _ _)
        have kB:Below W1.heap.size W1 W1.drew:=Below.drew (Below.refl _ _);clear hHeld;refine tk9 0 kB ?_;refine tk9 1 kB ?_ (hy:=Or.inl ⟨by rfl,by intro x hSw;(try dsimp only at hSw);have r0:=r0 x hSw;first|(go_simp;done)|(go_simp;with_reducible rfl)⟩);refine tk9 2 kB ?_;refine tk9 3 kB ?_;refine tk9 4 kB ?_ (hy:=Or.inl ⟨by rfl,by intro x hSw;(try dsimp only at hSw);have r0:=r0 x hSw;have r1:=r1 x hSw;first|(go_simp;done)|(go_simp;with_reducible rfl)⟩);refine wpAnyH_ready (rs:=[5,11]) (by kernel_rfl) (by simp) ?_;refine AllReadyH.cons (by simp only[List.getElem?_toArray,List.getElem?_cons_succ,List.getElem?_cons_zero];rfl) (fun K hK => ?_) ?_
        ·try go_simp
         refine(hren.out _ kB).mono ?_;rintro e w3 ⟨A9,n9,c9,M9,rfl,hr9,hM9,b3⟩;have hr9:FmEO w3 (fun b=>b=w.heap.size+1) (.slice A9 n9 c9) M9:=hr9.fewer (fun b hb=>by have h2:=HW1.out;have h3:=kB.size;omega);replace kB:=trans9 kB b3;clear b3
         try go_wp2_with fail
         refine hK.out _ _ kB (fun hHeld => ?_);clear hK K hHeld
         (try simp only[Act.put,sI,sZ,sS])
         refine tk9 6 kB ?_;refine wpAnyH_ready (rs:=[7,11]) (by kernel_rfl) (by simp) ?_;refine AllReadyH.cons (by simp only[List.getElem?_toArray,List.getElem?_cons_succ,List.getElem?_cons_zero];rfl) (fun K hK => ?_) ?_
         ·try go_simp
          refine(hso.out _ kB (fun b=>b=w.heap.size+1) (fun b hb=>by have h2:=HW1.out;have h3:=kB.size;omega) A9 n9 c9 M9 hr9 hM9).mono ?_;rintro e w5 ⟨⟨A5,n5,c5,M5,rfl,h5,hM5⟩,b5⟩;replace kB:=trans9 kB b5;clear b5 hr9 hM9
          try go_wp2_with fail
          refine hK.out _ _ kB (fun hHeld => ?_);clear hK K hHeld
          (try simp only[Act.put,sI,sZ,sS])
          refine tk9 8 kB ?_;refine tk9 9 kB ?_;refine tk9 10 kB ?_;refine wpAnyH_ready (rs:=[11]) (by kernel_rfl) (by simp) ?_;refine ar9 fun K hK => ?_;go_simp;have kN:BatAt (w5.alloc (.cells #[.string ⟨#[]⟩,.slice none 0 0] 24)) w5.heap.size [] (.slice none 0 0):=(BatAt.new w5 [] (.slice none 0 0) 24)
          have hge:W1.heap.size≤w5.heap.size:=kB.size;replace h5:=h5.snoc (.cells #[.string ⟨#[]⟩,.slice none 0 0] 24);replace kB:Below W1.heap.size W1 ((w5.alloc (.cells #[.string ⟨#[]⟩,.slice none 0 0] 24))):=kp_alloc kB _;obtain⟨W9,hW9⟩ : ∃X,X=(w5.alloc (.cells #[.string ⟨#[]⟩,.slice none 0 0] 24)):=⟨_,rfl⟩
          rw[←hW9] at kB kN h5 ⊢;clear hW9;obtain⟨xb,hxb⟩ : ∃X,X=w5.heap.size:=⟨_,rfl⟩
          rw[←hxb] at kN hge h5 ⊢;clear hxb;refine hK.out _ _ kB (fun hHeld => ?_);clear hK K hHeld
          (try simp only[Act.put,sI,sZ,sS])
          refine wpAnyH_ready (rs:=[12]) (by kernel_rfl) (by simp) ?_;refine ar9 fun K hK => ?_;obtain⟨n0,n1,nf,nl⟩:=kN;go_simp;have kN:BatAt ((W9.setCell ⟨xb,0,none⟩ (.string (str t))).setCell ⟨xb,1,none⟩ (.slice A5 n5 c5)) xb t (.slice A5 n5 c5):=bat_put ⟨n0,n1,nf,nl⟩;replace h5:=(h5.setIn (c:=xb) (i:=0) (u := .string (str t)) (Or.inr rfl)).setIn (c:=xb) (i:=1) (u := .slice A5 n5 c5) (Or.inr rfl);replace kB:=(kB.setCell (p:=⟨xb,0,none⟩) hge (.string (str t))).setCell (p:=⟨xb,1,none⟩) hge (.slice A5 n5 c5);clear n0 n1 nf nl;obtain⟨W10,hW10⟩ : ∃X,X=((W9.setCell ⟨xb,0,none⟩ (.string (str t))).setCell ⟨xb,1,none⟩ (.slice A5 n5 c5)):=⟨_,rfl⟩
          rw[←hW10] at kB kN h5 ⊢;clear hW10;refine hK.out _ _ kB (fun hHeld => ?_);clear hK K hHeld
          (try simp only[Act.put,sI,sZ,sS])
          refine tk9 13 kB ?_;refine wpAnyH_done (by kernel_rfl) ?_ _;refine NoPanic.normal ?_;have K5:=Lh (trans9 K1.out kB);have HG5:=Lh (HG1.out.below kB);have HR5:=Lh h5;have hck:=Lh (rcheck_calls t M5 _ _ h5.here (FpFew.rows (by rw[hM5];exact hfM)) HTL.out);rw[hM5] at hck;obtain⟨n0,n1,nf,nl⟩:=kN;clear r0 r1 kB h5;go_wp2_with fail;refine hck.out.mono ?_;rintro e w7 ⟨rfl,b7⟩;have K7:=Lh (trans9 K5.out b7);obtain⟨y0,y1,yf,yl⟩:=HG5.out.below b7;have u0:=(b7.cell (p:=⟨xb,0,none⟩) nl).trans n0;have u1:=(b7.cell (p:=⟨xb,1,none⟩) nl).trans n1;have HR7:=Lh (HR5.out.below b7);clear b7 hck n0 n1 nf nl K5 HG5 HR5;by_cases hz:chk t M=0
          ·have hto:=Lh (show Lg.fromR p 0 t (fms F)=(0,some M) from by rw[HTo.out];show(if chk t M=0 then _ else _)=_;rw[if_pos hz]);rw[hz];go_wp2;refine bodyPost_ret (v := .tuple #[.agg #[.string (str t),.slice A5 n5 c5],.int .i64 0]) (by simp[results,Tryz.results12,go_sem,y0,y1,yl]) rfl ⟨FromP.some hto.out ?_ hM5 rfl,?_⟩
           ·exact((HR7.out.setIn (Or.inl rfl)).setIn (Or.inl rfl)).here
           ·repeat(first|exact K7.out|apply kp_alloc|apply Below.drew|refine Below.setCell ?_ (by show w.heap.size≤w.heap.size+1;omega) _)
          ·have hto:=Lh (show Lg.fromR p 0 t (fms F)=(19,none) from by rw[HTo.out];show(if chk t M=0 then _ else _)=_;rw[if_neg hz]);have dz:decide (chk t M=0)=false:=decide_eq_false hz;have bz:(chk t M==0)=false:=by simpa using hz
           generalize chk t M=zz at *;go_wp2;refine bodyPost_ret (v := .tuple #[.agg #[.string ⟨#[]⟩,.slice none 0 0],.int .i64 19]) (by simp[results,Tryz.results12,go_sem,y0,y1,yl]) rfl ⟨FromP.none hto.out ?_ rfl,?_⟩
           ·exact FmRow.nil _
           ·repeat(first|exact K7.out|apply kp_alloc|apply Below.drew|refine Below.setCell ?_ (by show w.heap.size≤w.heap.size+1;omega) _)
         refine ar9 fun K hK => ?_;go_simp;have kN:BatAt (w3.alloc (.cells #[.string ⟨#[]⟩,.slice none 0 0] 24)) w3.heap.size [] (.slice none 0 0):=(BatAt.new w3 [] (.slice none 0 0) 24)
         have hge:W1.heap.size≤w3.heap.size:=kB.size;replace hr9:=hr9.snoc (.cells #[.string ⟨#[]⟩,.slice none 0 0] 24);replace kB:Below W1.heap.size W1 ((w3.alloc (.cells #[.string ⟨#[]⟩,.slice none 0 0] 24))):=kp_alloc kB _;obtain⟨W9,hW9⟩ : ∃X,X=(w3.alloc (.cells #[.string ⟨#[]⟩,.slice none 0 0] 24)):=⟨_,rfl⟩
         rw[←hW9] at kB kN hr9 ⊢;clear hW9;obtain⟨xb,hxb⟩ : ∃X,X=w3.heap.size:=⟨_,rfl⟩
         rw[←hxb] at kN hge hr9 ⊢;clear hxb;refine hK.out _ _ kB (fun hHeld => ?_);clear hK K hHeld
         (try simp only[Act.put,sI,sZ,sS])
         refine wpAnyH_ready (rs:=[7]) (by kernel_rfl) (by simp) ?_;refine ar9 fun K hK => ?_
         try go_simp
         refine(hso.out _ kB (fun b=>b=w.heap.size+1∨b=xb) (fun b hb=>by have h1:=kN.lt;have h2:=HW1.out;have h3:=kB.size;rcases hb with hb|hb <;> omega) A9 n9 c9 M9 hr9 hM9).mono ?_;rintro e w5 ⟨⟨A5,n5,c5,M5,rfl,h5,hM5⟩,b5⟩;replace kN:=kN.below b5;replace kB:=trans9 kB b5;clear b5 hr9 hM9
         try go_wp2_with fail
         refine hK.out _ _ kB (fun hHeld => ?_);clear hK K hHeld
         (try simp only[Act.put,sI,sZ,sS])
         refine tk9 8 kB ?_;refine tk9 9 kB ?_;refine tk9 10 kB ?_;refine wpAnyH_ready (rs:=[12]) (by kernel_rfl) (by simp) ?_;refine ar9 fun K hK => ?_;obtain⟨n0,n1,nf,nl⟩:=kN;go_simp;have kN:BatAt ((w5.setCell ⟨xb,0,none⟩ (.string (str t))).setCell ⟨xb,1,none⟩ (.slice A5 n5 c5)) xb t (.slice A5 n5 c5):=bat_put ⟨n0,n1,nf,nl⟩;replace h5:=(h5.setIn (c:=xb) (i:=0) (u := .string (str t)) (Or.inr rfl)).setIn (c:=xb) (i:=1) (u := .slice A5 n5 c5) (Or.inr rfl);replace kB:=(kB.setCell (p:=⟨xb,0,none⟩) hge (.string (str t))).setCell (p:=⟨xb,1,none⟩) hge (.slice A5 n5 c5);clear n0 n1 nf nl;obtain⟨W10,hW10⟩ : ∃X,X=((w5.setCell ⟨xb,0,none⟩ (.string (str t))).setCell ⟨xb,1,none⟩ (.slice A5 n5 c5)):=⟨_,rfl⟩
         rw[←hW10] at kB kN h5 ⊢;clear hW10;refine hK.out _ _ kB (fun hHeld => ?_);clear hK K hHeld
         (try simp only[Act.put,sI,sZ,sS])
         refine tk9 13 kB ?_;refine wpAnyH_done (by kernel_rfl) ?_ _;refine NoPanic.normal ?_;have K5:=Lh (trans9 K1.out kB);have HG5:=Lh (HG1.out.below kB);have HR5:=Lh h5;have hck:=Lh (rcheck_calls t M5 _ _ h5.here (FpFew.rows (by rw[hM5];exact hfM)) HTL.out);rw[hM5] at hck;obtain⟨n0,n1,nf,nl⟩:=kN;clear r0 r1 kB h5;go_wp2_with fail;refine hck.out.mono ?_;rintro e w7 ⟨rfl,b7⟩;have K7:=Lh (trans9 K5.out b7);obtain⟨y0,y1,yf,yl⟩:=HG5.out.below b7;have u0:=(b7.cell (p:=⟨xb,0,none⟩) nl).trans n0;have u1:=(b7.cell (p:=⟨xb,1,none⟩) nl).trans n1;have HR7:=Lh (HR5.out.below b7);clear b7 hck n0 n1 nf nl K5 HG5 HR5;by_cases hz:chk t M=0
         ·have hto:=Lh (show Lg.fromR p 0 t (fms F)=(0,some M) from by rw[HTo.out];show(if chk t M=0 then _ else _)=_;rw[if_pos hz]);rw[hz];go_wp2;refine bodyPost_ret (v := .tuple #[.agg #[.string (str t),.slice A5 n5 c5],.int .i64 0]) (by simp[results,Tryz.results12,go_sem,y0,y1,yl]) rfl ⟨FromP.some hto.out ?_ hM5 rfl,?_⟩
          ·exact((HR7.out.setIn (Or.inl rfl)).setIn (Or.inl rfl)).here
          ·repeat(first|exact K7.out|apply kp_alloc|apply Below.drew|refine Below.setCell ?_ (by show w.heap.size≤w.heap.size+1;omega) _)
         ·have hto:=Lh (show Lg.fromR p 0 t (fms F)=(19,none) from by rw[HTo.out];show(if chk t M=0 then _ else _)=_;rw[if_neg hz]);have dz:decide (chk t M=0)=false:=decide_eq_false hz;have bz:(chk t M==0)=false:=by simpa using hz
          generalize chk t M=zz at *;go_wp2;refine bodyPost_ret (v := .tuple #[.agg #[.string ⟨#[]⟩,.slice none 0 0],.int .i64 19]) (by simp[results,Tryz.results12,go_sem,y0,y1,yl]) rfl ⟨FromP.none hto.out ?_ rfl,?_⟩
          ·exact FmRow.nil _
          ·repeat(first|exact K7.out|apply kp_alloc|apply Below.drew|refine Below.setCell ?_ (by show w.heap.size≤w.heap.size+1;omega) _)
        refine ar9 fun K hK => ?_;go_simp;have kN:BatAt (W1.alloc (.cells #[.string ⟨#[]⟩,.slice none 0 0] 24)).drew W1.heap.size [] (.slice none 0 0):=(BatAt.new W1 [] (.slice none 0 0) 24).below (Below.drew (Below.refl _ _));have hge:W1.heap.size≤W1.heap.size:=Nat.le_refl _;replace kB:Below W1.heap.size W1 ((W1.alloc (.cells #[.string ⟨#[]⟩,.slice none 0 0] 24)).drew):=Below.drew (kp_alloc (Below.refl _ _) _);obtain⟨W9,hW9⟩ : ∃X,X=(W1.alloc (.cells #[.string ⟨#[]⟩,.slice none 0 0] 24)).drew:=⟨_,rfl⟩
        rw[←hW9] at kB kN ⊢;clear hW9;obtain⟨xb,hxb⟩ : ∃X,X=W1.heap.size:=⟨_,rfl⟩
        have kN2:=kN;rw[←hxb] at kN2 ⊢;replace hge:W1.heap.size≤xb:=(by rw[hxb];exact Nat.le_refl _)
        clear hxb kN;have kN:=kN2;clear kN2;refine hK.out _ _ kB (fun hHeld => ?_);clear hK K hHeld
        (try simp only[Act.put,sI,sZ,sS])
        refine wpAnyH_ready (rs:=[5]) (by kernel_rfl) (by simp) ?_;refine ar9 fun K hK => ?_
        try go_simp
        refine(hren.out _ kB).mono ?_;rintro e w3 ⟨A9,n9,c9,M9,rfl,hr9,hM9,b3⟩;have hr9:FmEO w3 (fun b=>b=w.heap.size+1∨b=xb) (.slice A9 n9 c9) M9:=hr9.fewer (fun b hb=>by have h1:=kN.lt;have h2:=HW1.out;have h3:=kB.size;rcases hb with hb|hb <;> omega);replace kN:=kN.below b3;replace kB:=trans9 kB b3;clear b3
        try go_wp2_with fail
        refine hK.out _ _ kB (fun hHeld => ?_);clear hK K hHeld
        (try simp only[Act.put,sI,sZ,sS])
        refine tk9 6 kB ?_;refine wpAnyH_ready (rs:=[7]) (by kernel_rfl) (by simp) ?_;refine ar9 fun K hK => ?_
        try go_simp
        refine(hso.out _ kB (fun b=>b=w.heap.size+1∨b=xb) (fun b hb=>by have h1:=kN.lt;have h2:=HW1.out;have h3:=kB.size;rcases hb with hb|hb <;> omega) A9 n9 c9 M9 hr9 hM9).mono ?_;rintro e w5 ⟨⟨A5,n5,c5,M5,rfl,h5,hM5⟩,b5⟩;replace kN:=kN.below b5;replace kB:=trans9 kB b5;clear b5 hr9 hM9
        try go_wp2_with fail
        refine hK.out _ _ kB (fun hHeld => ?_);clear hK K hHeld
        (try simp only[Act.put,sI,sZ,sS])
        refine tk9 8 kB ?_;refine tk9 9 kB ?_;refine tk9 10 kB ?_;refine wpAnyH_ready (rs:=[12]) (by kernel_rfl) (by simp) ?_;refine ar9 fun K hK => ?_;obtain⟨n0,n1,nf,nl⟩:=kN;go_simp;have kN:BatAt ((w5.setCell ⟨xb,0,none⟩ (.string (str t))).setCell ⟨xb,1,none⟩ (.slice A5 n5 c5)) xb t (.slice A5 n5 c5):=bat_put ⟨n0,n1,nf,nl⟩;replace h5:=(h5.setIn (c:=xb) (i:=0) (u := .string (str t)) (Or.inr rfl)).setIn (c:=xb) (i:=1) (u := .slice A5 n5 c5) (Or.inr rfl);replace kB:=(kB.setCell (p:=⟨xb,0,none⟩) hge (.string (str t))).setCell (p:=⟨xb,1,none⟩) hge (.slice A5 n5 c5);clear n0 n1 nf nl;obtain⟨W10,hW10⟩ : ∃X,X=((w5.setCell ⟨xb,0,none⟩ (.string (str t))).setCell ⟨xb,1,none⟩ (.slice A5 n5 c5)):=⟨_,rfl⟩
        rw[←hW10] at kB kN h5 ⊢;clear hW10;refine hK.out _ _ kB (fun hHeld => ?_);clear hK K hHeld
        (try simp only[Act.put,sI,sZ,sS])
        refine tk9 13 kB ?_;refine wpAnyH_done (by kernel_rfl) ?_ _;refine NoPanic.normal ?_;have K5:=Lh (trans9 K1.out kB);have HG5:=Lh (HG1.out.below kB);have HR5:=Lh h5;have hck:=Lh (rcheck_calls t M5 _ _ h5.here (FpFew.rows (by rw[hM5];exact hfM)) HTL.out);rw[hM5] at hck;obtain⟨n0,n1,nf,nl⟩:=kN;clear r0 r1 kB h5;go_wp2_with fail;refine hck.out.mono ?_;rintro e w7 ⟨rfl,b7⟩;have K7:=Lh (trans9 K5.out b7);obtain⟨y0,y1,yf,yl⟩:=HG5.out.below b7;have u0:=(b7.cell (p:=⟨xb,0,none⟩) nl).trans n0;have u1:=(b7.cell (p:=⟨xb,1,none⟩) nl).trans n1;have HR7:=Lh (HR5.out.below b7);clear b7 hck n0 n1 nf nl K5 HG5 HR5;by_cases hz:chk t M=0
        ·have hto:=Lh (show Lg.fromR p 0 t (fms F)=(0,some M) from by rw[HTo.out];show(if chk t M=0 then _ else _)=_;rw[if_pos hz]);rw[hz];go_wp2;refine bodyPost_ret (v := .tuple #[.agg #[.string (str t),.slice A5 n5 c5],.int .i64 0]) (by simp[results,Tryz.results12,go_sem,y0,y1,yl]) rfl ⟨FromP.some hto.out ?_ hM5 rfl,?_⟩
         ·exact((HR7.out.setIn (Or.inl rfl)).setIn (Or.inl rfl)).here
         ·repeat(first|exact K7.out|apply kp_alloc|apply Below.drew|refine Below.setCell ?_ (by show w.heap.size≤w.heap.size+1;omega) _)
        ·have hto:=Lh (show Lg.fromR p 0 t (fms F)=(19,none) from by rw[HTo.out];show(if chk t M=0 then _ else _)=_;rw[if_neg hz]);have dz:decide (chk t M=0)=false:=decide_eq_false hz;have bz:(chk t M==0)=false:=by simpa using hz
         generalize chk t M=zz at *;go_wp2;refine bodyPost_ret (v := .tuple #[.agg #[.string ⟨#[]⟩,.slice none 0 0],.int .i64 19]) (by simp[results,Tryz.results12,go_sem,y0,y1,yl]) rfl ⟨FromP.none hto.out ?_ rfl,?_⟩
         ·exact FmRow.nil _
         ·repeat(first|exact K7.out|apply kp_alloc|apply Below.drew|refine Below.setCell ?_ (by show w.heap.size≤w.heap.size+1;omega) _)
     ·subst hm;have hto:=Lh (Lg.fromR_loss HA.out);go_wp2;refine bodyPost_ret (v := .tuple #[.agg #[.string (str t),.slice A0 n cap],.int .i64 0]) (by simp[results,Tryz.results12,go_sem,y0,y1,yl]) rfl ⟨FromP.some hto.out ?_ rfl rfl,?_⟩
      ·refine HV.out.below ?_
       repeat(first|exact K1.out|apply kp_alloc|apply Below.drew|refine Below.setCell ?_ (by show w.heap.size≤w.heap.size+1;omega) _)
      ·repeat(first|exact K1.out|apply kp_alloc|apply Below.drew|refine Below.setCell ?_ (by show w.heap.size≤w.heap.size+1;omega) _)
    ·have hto:=Lh (Lg.fromR_no (Lg.arg_no (F:=fms F) (t:=t) (m:=m) (p:=p) (Or.inr (Or.inr hm01))));obtain⟨y0,y1,yf,yl⟩:=HG1.out;have d0:decide (m=0)=false:=decide_eq_false (fun h=>hm01 (Or.inl h));have d1:decide (m=1)=false:=decide_eq_false (fun h=>hm01 (Or.inr h));have e0:(m==0)=false:=by simpa using fun h=>hm01 (Or.inl h)
     have e1:(m==1)=false:=by simpa using fun h=>hm01 (Or.inr h)
     have e2:(m != 0)=true:=by simp[bne,e0]
     have e3:(m != 1)=true:=by simp[bne,e1]
     go_wp2;refine bodyPost_ret (v := .tuple #[.agg #[.string ⟨#[]⟩,.slice none 0 0],.int .i64 19]) (by simp[results,Tryz.results12,go_sem,y0,y1,yl]) rfl ⟨FromP.none hto.out ?_ rfl,?_⟩
     ·exact FmRow.nil _
     ·repeat(first|exact K1.out|apply kp_alloc|apply Below.drew|refine Below.setCell ?_ (by show w.heap.size≤w.heap.size+1;omega) _)
 ·have dz:decide (chk t (fms F)=0)=false:=decide_eq_false hc;have bz:(chk t (fms F)==0)=false:=by simpa using hc
  have hto:=Lh (Lg.fromR_no (Lg.arg_no (F:=fms F) (t:=t) (m:=m) (p:=p) (Or.inl hc)));obtain⟨y0,y1,yf,yl⟩:=HG1.out;generalize chk t (fms F)=zz at *;go_wp2;refine bodyPost_ret (v := .tuple #[.agg #[.string ⟨#[]⟩,.slice none 0 0],.int .i64 19]) (by simp[results,Tryz.results12,go_sem,y0,y1,yl]) rfl ⟨FromP.none hto.out ?_ rfl,?_⟩
  ·exact FmRow.nil _
  ·repeat(first|exact K1.out|apply kp_alloc|apply Below.drew|refine Below.setCell ?_ (by show w.heap.size≤w.heap.size+1;omega) _)
end Go.Proofs.YtbapneipjmpcbaaGreatDoor
