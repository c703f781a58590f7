import Derived.Test.YtbapneipjmpcbaaGreatDoorLegY
import Derived.Test.YtbapneipjmpcbaaGreatDoorLegZ
import Derived.Test.YtbapneipjmpcbaaGreatDoorEscW
import Derived.Test.YtbapneipjmpcbaaGreatDoorRlgB
set_option maxHeartbeats 16000000
set_option maxRecDepth 100000
set_option linter.unusedVariables false
set_option linter.unusedSimpArgs false
namespace Go.Proofs.YtbapneipjmpcbaaGreatDoor
open Go.RowKit Go.Sort Dc
attribute [local go_sem ↓] Go.wp_at_zero Go.wp_at_succ
def ToP (t:List UInt8) (r:Int×(Lg.Bs×Lg.Bs)×Option (List Fp)) (e:Ending) (w':World):Prop :=
 ∃A n cap M,e = .returned (.tuple #[batv (tO r.2.2 t) (.slice A n cap),.agg #[.string (str r.2.1.1),.string (str r.2.1.2)],.int .i64 r.1])∧FmRow w' (.slice A n cap) M∧fms M=r.2.2.getD []
theorem ToP.none {t:List UInt8} {r:Int×(Lg.Bs×Lg.Bs)×Option (List Fp)} {e:Ending} {w':World} {k:Int} {c:Lg.Bs×Lg.Bs} (h:r=(k,c,none)) (hr:FmRow w' (.slice none 0 0) []) (he:e = .returned (.tuple #[batv [] (.slice none 0 0),.agg #[.string (str c.1),.string (str c.2)],.int .i64 k])):ToP t r e w':=by
 subst h;exact⟨_,_,_,[],he,hr,rfl⟩
theorem ToP.some {t:List UInt8} {r:Int×(Lg.Bs×Lg.Bs)×Option (List Fp)} {e:Ending} {w':World} {M:List Fp} {M9:List Fs} {A:Option Addr} {n c:Nat} (h:r=(0,Lg.c0,some M)) (hr:FmRow w' (.slice A n c) M9) (hM:fms M9=M) (he:e = .returned (.tuple #[batv t (.slice A n c),.agg #[.string ⟨#[]⟩,.string ⟨#[]⟩],.int .i64 0])):ToP t r e w':=by
 subst h;exact⟨_,_,_,M9,he,hr,hM⟩
def FromP (t:List UInt8) (r:Int×Option (List Fp)) (e:Ending) (w':World):Prop :=
 ∃A n cap M,e = .returned (.tuple #[batv (tO r.2 t) (.slice A n cap),.int .i64 r.1])∧FmRow w' (.slice A n cap) M∧fms M=r.2.getD []
theorem FromP.none {t:List UInt8} {r:Int×Option (List Fp)} {e:Ending} {w':World} {k:Int} (h:r=(k,none)) (hr:FmRow w' (.slice none 0 0) []) (he:e = .returned (.tuple #[batv [] (.slice none 0 0),.int .i64 k])):FromP t r e w':=by
 subst h;exact⟨_,_,_,[],he,hr,rfl⟩
theorem FromP.some {t:List UInt8} {r:Int×Option (List Fp)} {e:Ending} {w':World} {M:List Fp} {M9:List Fs} {A:Option Addr} {n c:Nat} (h:r=(0,some M)) (hr:FmRow w' (.slice A n c) M9) (hM:fms M9=M) (he:e = .returned (.tuple #[batv t (.slice A n c),.int .i64 0])):FromP t r e w':=by
 subst h;exact⟨_,_,_,M9,he,hr,hM⟩
theorem ren_loss (p:Int) (t:List UInt8) (F:List Fs) (v:Value) (w:World) (hv:FmRow w v F) (hc:chk t (fms F)=0) (hT:ChT w) :
 Calls Tryz.prog 27 #[.int .i64 p,batv t v,.func (.func 26) #[] #[]] w fun e w'=>BSortP w.heap.size t (Lg.renO (Ch.loss p 0) (Ch.loss p 1) (fms F)) e w'∧Below w.heap.size w w' :=
 renamed_calls 26 (enters_of Tryz.func26 (by kernel_rfl) rfl) (fun s=>Ch.loss p s) p t F v w hv hc fun W hb s n hn _ =>
  ⟨by show(Ch.loss p s n).length≤1000;rw[Ch.loss_len];omega,lname_calls p s n W (by unfold maxLen;omega) (hT.below hb)⟩
theorem ren_esc (p:Int) (t:List UInt8) (F:List Fs) (v:Value) (w:World) (hv:FmRow w v F) (hc:chk t (fms F)=0) (hT:ChT w) :
 Calls Tryz.prog 27 #[.int .i64 p,batv t v,.func (.func 24) #[] #[]] w fun e w'=>BSortP w.heap.size t (Lg.renO (Ch.esc p 0) (Ch.esc p 1) (fms F)) e w'∧Below w.heap.size w w' :=
 renamed_calls 24 (enters_of Tryz.func24 (by kernel_rfl) rfl) (fun s=>Ch.esc p s) p t F v w hv hc fun W hb s n hn _ =>
  ⟨Rn.nm_len (p:=p) (m:=0) (w:=s) hn,escape_calls p s n W (by omega) (hT.below hb)⟩
theorem ren_back (p:Int) (t:List UInt8) (F:List Fs) (v:Value) (w:World) (hv:FmRow w v F) (hc:chk t (fms F)=0) (hT:ChT w) (hM:MxT w) :
 Calls Tryz.prog 27 #[.int .i64 p,batv t v,.func (.func 35) #[] #[]] w fun e w'=>BSortP w.heap.size t (Lg.renO (Ch.back p 0) (Ch.back p 1) (fms F)) e w'∧Below w.heap.size w w' :=
 renamed_calls 35 (enters_of Tryz.func35 (by kernel_rfl) rfl) (fun s=>Ch.back p s) p t F v w hv hc fun W hb s n hn _ =>
  ⟨Rn.back_len hn,back_calls p s n W (by omega) (hT.below hb) (hM.below hb)⟩
theorem legto_calls (p m:Int) (t:List UInt8) (F:List Fs) (v:Value) (w:World) (hv:FmRow w v F) (hf:FmFew F) (ht:t.length≤maxLen) (hT:ChT w) (hS:ShPl w) :
 Calls Tryz.prog 9 #[.int .i64 p,.int .i64 m,batv t v] w fun e w'=>ToP t (Lg.toR p m t (fms F)) e w'∧Below w.heap.size w w':=by
 have three : ∃W,W=((w.alloc (.cells #[.string (str t),v] 24)).alloc (.cells #[.string ⟨#[]⟩,.slice none 0 0] 24)).alloc (.cells #[.string ⟨#[]⟩,.string ⟨#[]⟩] 30):=⟨_,rfl⟩
 obtain⟨w0,hw0⟩:=three;have k0:Below w.heap.size w w0:=by rw[hw0];exact kp_alloc (kp_alloc (kp_alloc (Below.refl w.heap.size w) _) _) _
 have F0:BatAt w0 w.heap.size t v:=by rw[hw0];exact((BatAt.new w t v _).below (kp_alloc (Below.refl _ _) _)).below (kp_alloc (Below.refl _ _) _)
 have G0:BatAt w0 (w.heap.size+1) [] (.slice none 0 0):=by
  have h:=(BatAt.new (w.alloc (.cells #[.string (str t),v] 24)) [] (.slice none 0 0) 24).below (kp_alloc (Below.refl _ _) (.cells #[.string ⟨#[]⟩,.string ⟨#[]⟩] 30));rw[show(w.alloc (.cells #[.string (str t),v] 24)).heap.size=w.heap.size+1 by simp] at h;rw[hw0];exact h
 have H0:BatAt w0 (w.heap.size+1+1) [] (.string ⟨#[]⟩):=by
  have h:=BatAt.new ((w.alloc (.cells #[.string (str t),v] 24)).alloc (.cells #[.string ⟨#[]⟩,.slice none 0 0] 24)) [] (.string ⟨#[]⟩) 30;rw[show((w.alloc (.cells #[.string (str t),v] 24)).alloc (.cells #[.string ⟨#[]⟩,.slice none 0 0] 24)).heap.size=w.heap.size+1+1 by simp] at h;rw[hw0];exact h
 have hfit:=Lh (lfit_calls p m t F v _ (hv.below k0) hf ht ⟨sh_below hS.1 k0,hS.2.below k0⟩);obtain⟨A,n,cap,hv1⟩ : ∃A n cap,v = .slice A n cap:=by obtain⟨A,cap,he,_⟩:=hv.1;exact⟨A,_,cap,he⟩
 subst hv1;have HV:=Lh hv;have HT:=Lh hT;have K0:=Lh k0;have HF0:=Lh F0;have HG0:=Lh (And.intro G0 H0);clear F0 G0 H0 k0 hv hf hS hT;go_enter Tryz.func9,Tryz.ntmps9;go_upto_region 1 with fail;rw[←hw0];clear hw0;obtain⟨x0,x1,xf,xl⟩:=HF0.out;go_wp2_with fail;refine hfit.out.mono ?_;rintro e w1 ⟨rfl,b1⟩;have K1:=Lh (trans9 K0.out b1);have HF1:=Lh (HF0.out.below b1);have HG1:=Lh (And.intro (HG0.out.1.below b1) (HG0.out.2.below b1));clear hfit b1 x0 x1 xf xl K0 HF0 HG0
 cases hA:Lg.argOk p m t (fms F) with
 | false =>
   have hto:=Lh (Lg.toR_no hA);obtain⟨⟨y0,y1,yf,yl⟩,⟨z0,z1,zf,zl⟩⟩:=HG1.out;go_wp2;refine bodyPost_ret (v := .tuple #[.agg #[.string ⟨#[]⟩,.slice none 0 0],.agg #[.string ⟨#[]⟩,.string ⟨#[]⟩],.int .i64 19]) (by simp[results,Tryz.results9,go_sem,y0,y1,z0,z1,yl,zl]) rfl ⟨ToP.none hto.out ?_ rfl,?_⟩
   ·exact FmRow.nil _
   ·repeat(first|exact K1.out|apply kp_alloc|apply Below.drew|refine Below.setCell ?_ (by first|(show w.heap.size≤w.heap.size+1;omega)|(show w.heap.size≤w.heap.size+1+1;omega)) _)
 | true =>
   obtain⟨hc,hp14,hm01⟩:=Lg.arg_of hA;obtain⟨x0,x1,xf,xl⟩:=HF1.out;by_cases hm:m=1
   ·subst hm;have hco:=Lh (collide_calls p t F _ w1 (HV.out.below K1.out) hc (HT.out.below K1.out));go_wp2_with fail;refine hco.out.mono ?_;rintro e w2 ⟨rfl,b2⟩;have KB:=Lh (trans9 K1.out b2);have HF2:=Lh (HF1.out.below b2);have HG2:=Lh (And.intro (HG1.out.1.below b2) (HG1.out.2.below b2));clear hco b2 x0 x1 xf xl K1 HF1 HG1
    cases hcl:Lg.clB p (fms F) with
    | some c =>
      obtain⟨cA,cB⟩:=c;have hto:=Lh (Lg.toR_clash hA hcl);obtain⟨⟨y0,y1,yf,yl⟩,⟨z0,z1,zf,zl⟩⟩:=HG2.out;simp only[collV];go_wp2_with fail
      go_region
      all_goals go_wp2
      refine bodyPost_ret (v := .tuple #[.agg #[.string ⟨#[]⟩,.slice none 0 0],.agg #[.string (str cA),.string (str cB)],.int .i64 16]) (by simp[results,Tryz.results9,go_sem,y0,y1,z0,z1,yl,zl]) rfl ⟨ToP.none hto.out ?_ rfl,?_⟩
      ·exact FmRow.nil _
      ·repeat(first|exact KB.out|apply kp_alloc|apply Below.drew|refine Below.setCell ?_ (by first|(show w.heap.size≤w.heap.size+1;omega)|(show w.heap.size≤w.heap.size+1+1;omega)) _)
    | none =>
      have HTo:=Lh (Lg.toR_loss hA hcl);simp only[collV];have ka:=kp_alloc (Below.refl w2.heap.size w2) (.cells #[.string ⟨#[]⟩,.string ⟨#[]⟩] 30);have KB2:=Lh (trans9 KB.out ka);obtain⟨x0,x1,xf,xl⟩:=HF2.out.below ka;have HG3:=Lh (And.intro (HG2.out.1.below ka) (HG2.out.2.below ka));have hren:=Lh (ren_loss p t F _ _ (HV.out.below KB2.out) hc (HT.out.below KB2.out));clear HG2 KB HF2 ka;have HG2:=HG3;clear HG3;generalize Lg.renO (Ch.loss p 0) (Ch.loss p 1) (fms F)=O at *;have hzb:=Lh HG2.out.2.lt;go_wp2_with fail;refine hren.out.mono ?_;rintro e w3 ⟨⟨A9,n9,c9,M9,rfl,keep,hp⟩,b3⟩;have B3:=Lh (trans9 KB2.out b3);have HG3:=Lh (And.intro (HG2.out.1.below b3) (HG2.out.2.below b3));have HK:=Lh keep;have HP9:=Lh hp;clear keep b3 hren KB2 HG2 hp
      cases hO:O with
      | none =>
        have hto:=Lh (show Lg.toR p 1 t (fms F)=(19,Lg.c0,none) from by rw[HTo.out,hO];rfl);obtain⟨⟨y0,y1,yf,yl⟩,⟨z0,z1,zf,zl⟩⟩:=HG3.out;simp only[Option.isSome];go_wp2;refine bodyPost_ret (v := .tuple #[.agg #[.string ⟨#[]⟩,.slice none 0 0],.agg #[.string ⟨#[]⟩,.string ⟨#[]⟩],.int .i64 19]) (by simp[results,Tryz.results9,go_sem,y0,y1,z0,z1,yl,zl]) rfl ⟨ToP.none hto.out ?_ rfl,?_⟩
        ·exact FmRow.nil _
        ·repeat(first|exact B3.out|apply kp_alloc|apply Below.drew|refine Below.setCell ?_ (by first|(show w.heap.size≤w.heap.size+1;omega)|(show w.heap.size≤w.heap.size+1+1;omega)) _)
      | some M =>
        rw[hO] at HP9;have ka:=kp_alloc (Below.refl w3.heap.size w3) (.cells #[.string (str t),.slice A9 n9 c9] 24);have hlo:=Lh (hasLong_calls t M9 _ _ (HK.out.row.below ka));have B4:=Lh (trans9 B3.out ka);have HG4:=Lh (And.intro (HG3.out.1.below ka) (HG3.out.2.below ka));have HK4:=Lh (HK.out.below ka);have HN4:=Lh (BatAt.new w3 t (.slice A9 n9 c9) 24);have hM:fms M9=M:=HP9.out;rw[hM] at hlo;simp only[tO,Option.isSome];clear HK B3 HG3 ka
        cases hL:Lg.longB M with
        | true =>
          rw[hL] at hlo;have hto:=Lh (show Lg.toR p 1 t (fms F)=(14,Lg.c0,none) from by rw[HTo.out,hO];show(if Lg.longB M=true then _ else _)=_;rw[if_pos hL]);go_wp2_with fail;refine hlo.out.mono ?_;rintro e w5 ⟨rfl,b5⟩;have B5:=Lh (trans9 B4.out b5);obtain⟨y0,y1,yf,yl⟩:=HG4.out.1.below b5;obtain⟨z0,z1,zf,zl⟩:=HG4.out.2.below b5;clear b5 hlo;go_wp2;refine bodyPost_ret (v := .tuple #[.agg #[.string ⟨#[]⟩,.slice none 0 0],.agg #[.string ⟨#[]⟩,.string ⟨#[]⟩],.int .i64 14]) (by simp[results,Tryz.results9,go_sem,y0,y1,z0,z1,yl,zl]) rfl ⟨ToP.none hto.out ?_ rfl,?_⟩
          ·exact FmRow.nil _
          ·repeat(first|exact B5.out|apply kp_alloc|apply Below.drew|refine Below.setCell ?_ (by first|(show w.heap.size≤w.heap.size+1;omega)|(show w.heap.size≤w.heap.size+1+1;omega)) _)
        | false =>
          rw[hL] at hlo;have hto:=Lh (show Lg.toR p 1 t (fms F)=(0,Lg.c0,some M) from by rw[HTo.out,hO];show(if Lg.longB M=true then _ else _)=_;rw[if_neg (by rw[hL];decide)]);go_wp2_with fail;refine hlo.out.mono ?_;rintro e w5 ⟨rfl,b5⟩;have B5:=Lh (trans9 B4.out b5);obtain⟨y0,y1,yf,yl⟩:=HG4.out.1.below b5;obtain⟨z0,z1,zf,zl⟩:=HG4.out.2.below b5;obtain⟨u0,u1,uf,ul⟩:=HN4.out.below b5;have HK5:=Lh (HK4.out.below b5);clear b5 hlo;go_wp2;refine bodyPost_ret (v := .tuple #[.agg #[.string (str t),.slice A9 n9 c9],.agg #[.string ⟨#[]⟩,.string ⟨#[]⟩],.int .i64 0]) (by simp[results,Tryz.results9,go_sem,y0,y1,z0,z1,yl,zl]) rfl ⟨ToP.some hto.out ?_ hM rfl,?_⟩
          ·exact((((HK5.out.setOld (by have:=hzb.out;omega)).setOld (by have:=hzb.out;omega)).setOld (by have:=hzb.out;omega)).setOld (by have:=hzb.out;omega)).row
          ·repeat(first|exact B5.out|apply kp_alloc|apply Below.drew|refine Below.setCell ?_ (by first|(show w.heap.size≤w.heap.size+1;omega)|(show w.heap.size≤w.heap.size+1+1;omega)) _)
   ·obtain rfl:m=0:=by omega
    have HTo:=Lh (Lg.toR_esc hA);have KB2:=K1;have HG2:=HG1;have hren:=Lh (ren_esc p t F _ _ (HV.out.below KB2.out) hc (HT.out.below KB2.out));clear K1 HG1 HF1;generalize Lg.renO (Ch.esc p 0) (Ch.esc p 1) (fms F)=O at *;have hzb:=Lh HG2.out.2.lt;go_wp2_with fail;refine hren.out.mono ?_;rintro e w3 ⟨⟨A9,n9,c9,M9,rfl,keep,hp⟩,b3⟩;have B3:=Lh (trans9 KB2.out b3);have HG3:=Lh (And.intro (HG2.out.1.below b3) (HG2.out.2.below b3));have HK:=Lh keep;have HP9:=Lh hp;clear keep b3 hren KB2 HG2 hp
    cases hO:O with
    | none =>
      have hto:=Lh (show Lg.toR p 0 t (fms F)=(19,Lg.c0,none) from by rw[HTo.out,hO];rfl);obtain⟨⟨y0,y1,yf,yl⟩,⟨z0,z1,zf,zl⟩⟩:=HG3.out;simp only[Option.isSome];go_wp2;refine bodyPost_ret (v := .tuple #[.agg #[.string ⟨#[]⟩,.slice none 0 0],.agg #[.string ⟨#[]⟩,.string ⟨#[]⟩],.int .i64 19]) (by simp[results,Tryz.results9,go_sem,y0,y1,z0,z1,yl,zl]) rfl ⟨ToP.none hto.out ?_ rfl,?_⟩
      ·exact FmRow.nil _
      ·repeat(first|exact B3.out|apply kp_alloc|apply Below.drew|refine Below.setCell ?_ (by first|(show w.heap.size≤w.heap.size+1;omega)|(show w.heap.size≤w.heap.size+1+1;omega)) _)
    | some M =>
      rw[hO] at HP9;have ka:=kp_alloc (Below.refl w3.heap.size w3) (.cells #[.string (str t),.slice A9 n9 c9] 24);have hlo:=Lh (hasLong_calls t M9 _ _ (HK.out.row.below ka));have B4:=Lh (trans9 B3.out ka);have HG4:=Lh (And.intro (HG3.out.1.below ka) (HG3.out.2.below ka));have HK4:=Lh (HK.out.below ka);have HN4:=Lh (BatAt.new w3 t (.slice A9 n9 c9) 24);have hM:fms M9=M:=HP9.out;rw[hM] at hlo;simp only[tO,Option.isSome];clear HK B3 HG3 ka
      cases hL:Lg.longB M with
      | true =>
        rw[hL] at hlo;have hto:=Lh (show Lg.toR p 0 t (fms F)=(14,Lg.c0,none) from by rw[HTo.out,hO];show(if Lg.longB M=true then _ else _)=_;rw[if_pos hL]);go_wp2_with fail;refine hlo.out.mono ?_;rintro e w5 ⟨rfl,b5⟩;have B5:=Lh (trans9 B4.out b5);obtain⟨y0,y1,yf,yl⟩:=HG4.out.1.below b5;obtain⟨z0,z1,zf,zl⟩:=HG4.out.2.below b5;clear b5 hlo;go_wp2;refine bodyPost_ret (v := .tuple #[.agg #[.string ⟨#[]⟩,.slice none 0 0],.agg #[.string ⟨#[]⟩,.string ⟨#[]⟩],.int .i64 14]) (by simp[results,Tryz.results9,go_sem,y0,y1,z0,z1,yl,zl]) rfl ⟨ToP.none hto.out ?_ rfl,?_⟩
        ·exact FmRow.nil _
        ·repeat(first|exact B5.out|apply kp_alloc|apply Below.drew|refine Below.setCell ?_ (by first|(show w.heap.size≤w.heap.size+1;omega)|(show w.heap.size≤w.heap.size+1+1;omega)) _)
      | false =>
        rw[hL] at hlo;have hto:=Lh (show Lg.toR p 0 t (fms F)=(0,Lg.c0,some M) from by rw[HTo.out,hO];show(if Lg.longB M=true then _ else _)=_;rw[if_neg (by rw[hL];decide)]);go_wp2_with fail;refine hlo.out.mono ?_;rintro e w5 ⟨rfl,b5⟩;have B5:=Lh (trans9 B4.out b5);obtain⟨y0,y1,yf,yl⟩:=HG4.out.1.below b5;obtain⟨z0,z1,zf,zl⟩:=HG4.out.2.below b5;obtain⟨u0,u1,uf,ul⟩:=HN4.out.below b5;have HK5:=Lh (HK4.out.below b5);clear b5 hlo;go_wp2;refine bodyPost_ret (v := .tuple #[.agg #[.string (str t),.slice A9 n9 c9],.agg #[.string ⟨#[]⟩,.string ⟨#[]⟩],.int .i64 0]) (by simp[results,Tryz.results9,go_sem,y0,y1,z0,z1,yl,zl]) rfl ⟨ToP.some hto.out ?_ hM rfl,?_⟩
        ·exact((((HK5.out.setOld (by have:=hzb.out;omega)).setOld (by have:=hzb.out;omega)).setOld (by have:=hzb.out;omega)).setOld (by have:=hzb.out;omega)).row
        ·repeat(first|exact B5.out|apply kp_alloc|apply Below.drew|refine Below.setCell ?_ (by first|(show w.heap.size≤w.heap.size+1;omega)|(show w.heap.size≤w.heap.size+1+1;omega)) _)
theorem few_srtB {l M:List Fp} (h:FpFew l) (hs:Lg.srtB l=some M):FpFew M:=by
 unfold Lg.srtB at hs;split at hs
 ·rename_i ha;exact(fewG h (List.all_eq_true.1 ha)).perm (gsrt_some hs).1
 ·cases hs
theorem few_renO {f k:Lg.Nm} {l M:List Fp} (h:FpFew l) (hs:Lg.renO f k l=some M):FpFew M:=by
 by_cases hn:Lg.ndB k l
 ·rw[Lg.renO_yes hn] at hs;exact few_srtB (few_ren h) hs
 ·rw[Lg.renO_no hn] at hs;cases hs
theorem legfrom_calls (p m:Int) (t:List UInt8) (F:List Fs) (v:Value) (w:World) (hv:FmRow w v F) (hf:FmFew F) (ht:t.length≤maxLen) (hT:ChT w) (hM:MxT w) (hS:ShPl w) :
 Calls Tryz.prog 11 #[.int .i64 p,.int .i64 m,batv t v] w fun e w'=>FromP t (Lg.fromR p m t (fms F)) e w'∧Below w.heap.size w w':=by
 have two : ∃W,W=(w.alloc (.cells #[.string (str t),v] 24)).alloc (.cells #[.string ⟨#[]⟩,.slice none 0 0] 24):=⟨_,rfl⟩
 obtain⟨w0,hw0⟩:=two;have k0:Below w.heap.size w w0:=by rw[hw0];exact kp_alloc (kp_alloc (Below.refl w.heap.size w) _) _
 have F0:BatAt w0 w.heap.size t v:=by rw[hw0];exact(BatAt.new w t v _).below (kp_alloc (Below.refl _ _) _)
 have G0:BatAt w0 (w.heap.size+1) [] (.slice none 0 0):=by
  have h:=BatAt.new (w.alloc (.cells #[.string (str t),v] 24)) [] (.slice none 0 0) 24;rw[show(w.alloc (.cells #[.string (str t),v] 24)).heap.size=w.heap.size+1 by simp] at h;rw[hw0];exact h
 have hfit:=Lh (lfit_calls p m t F v _ (hv.below k0) hf ht ⟨sh_below hS.1 k0,hS.2.below k0⟩);obtain⟨A,n,cap,hv1⟩ : ∃A n cap,v = .slice A n cap:=by obtain⟨A,cap,he,_⟩:=hv.1;exact⟨A,_,cap,he⟩
 subst hv1;have HV:=Lh hv;have HT:=Lh hT;have HMx:=Lh hM;have HSh:=Lh hS;have HFw:=Lh hf;have K0:=Lh k0;have HF0:=Lh F0;have HG0:=Lh G0;clear F0 G0 k0 hv hf hS hT hM;go_enter Tryz.func11,Tryz.ntmps11;go_upto_region 1 with fail;rw[←hw0];clear hw0;obtain⟨x0,x1,xf,xl⟩:=HF0.out;go_wp2_with fail;refine hfit.out.mono ?_;rintro e w1 ⟨rfl,b1⟩;have K1:=Lh (trans9 K0.out b1);have HF1:=Lh (HF0.out.below b1);have HG1:=Lh (HG0.out.below b1);clear hfit b1 x0 x1 xf xl K0 HF0 HG0
 cases hA:Lg.argOk p m t (fms F) with
 | false =>
   have hto:=Lh (Lg.fromR_no hA);obtain⟨y0,y1,yf,yl⟩:=HG1.out;go_wp2;refine bodyPost_ret (v := .tuple #[.agg #[.string ⟨#[]⟩,.slice none 0 0],.int .i64 19]) (by simp[results,Tryz.results11,go_sem,y0,y1,yl]) rfl ⟨FromP.none hto.out ?_ rfl,?_⟩
   ·exact FmRow.nil _
   ·repeat(first|exact K1.out|apply kp_alloc|refine Below.setCell ?_ (by show w.heap.size≤w.heap.size+1;omega) _)
 | true =>
   obtain⟨hc,hp14,hm01⟩:=Lg.arg_of hA;obtain⟨x0,x1,xf,xl⟩:=HF1.out;by_cases hm:m=1
   ·subst hm;have hto:=Lh (Lg.fromR_loss hA);have hst:=Lh (stamp_calls t t F _ w1 (HV.out.below K1.out) HFw.out);have hzb:=Lh HG1.out.lt;go_wp2_with fail;refine hst.out.mono ?_;rintro e w2 ⟨⟨A9,n9,c9,M9,rfl,keep,hM⟩,b2⟩;have KB:=Lh (trans9 K1.out b2);have HK:=Lh keep;obtain⟨y0,y1,yf,yl⟩:=HG1.out.below b2;clear hst b2 keep x0 x1 xf xl K1 HF1;go_wp2;refine bodyPost_ret (v := .tuple #[.agg #[.string (str t),.slice A9 n9 c9],.int .i64 0]) (by simp[results,Tryz.results11,go_sem,y0,y1,yl]) rfl ⟨FromP.some hto.out ?_ hM rfl,?_⟩
    ·exact((HK.out.setOld (by have:=hzb.out;omega)).setOld (by have:=hzb.out;omega)).row
    ·repeat(first|exact KB.out|apply kp_alloc|refine Below.setCell ?_ (by show w.heap.size≤w.heap.size+1;omega) _)
   ·obtain rfl:m=0:=by omega
    have HTo:=Lh (Lg.fromR_esc hA);have hren:=Lh (ren_back p t F _ _ (HV.out.below K1.out) hc (HT.out.below K1.out) (HMx.out.below K1.out));have hzb:=Lh HG1.out.lt;have HFO:=Lh (fun M h=>few_renO (f:=Ch.back p 0) (k:=Ch.back p 1) (M:=M) HFw.out.plain h);generalize Lg.renO (Ch.back p 0) (Ch.back p 1) (fms F)=O at *;go_wp2_with fail;refine hren.out.mono ?_;rintro e w3 ⟨⟨A9,n9,c9,M9,rfl,keep,hp⟩,b3⟩;have B3:=Lh (trans9 K1.out b3);have HG3:=Lh (HG1.out.below b3);have HK:=Lh keep;have HP9:=Lh hp;clear keep b3 hren K1 HG1 hp x0 x1 xf xl HF1
    cases hO:O with
    | none =>
      have hto:=Lh (show Lg.fromR p 0 t (fms F)=(19,none) from by rw[HTo.out,hO];rfl);obtain⟨y0,y1,yf,yl⟩:=HG3.out;simp only[Option.isSome];go_wp2;refine bodyPost_ret (v := .tuple #[.agg #[.string ⟨#[]⟩,.slice none 0 0],.int .i64 19]) (by simp[results,Tryz.results11,go_sem,y0,y1,yl]) rfl ⟨FromP.none hto.out ?_ rfl,?_⟩
      ·exact FmRow.nil _
      ·repeat(first|exact B3.out|apply kp_alloc|refine Below.setCell ?_ (by show w.heap.size≤w.heap.size+1;omega) _)
    | some M =>
      rw[hO] at HP9;have hM:fms M9=M:=HP9.out;have ka:=kp_alloc (Below.refl w3.heap.size w3) (.cells #[.string (str t),.slice A9 n9 c9] 24);have B4:=Lh (trans9 B3.out ka);have hck:=Lh (bcheck_calls t M9 _ _ (HK.out.row.below ka) (FpFew.rows (by rw[hM];exact HFO.out M hO)) ht ⟨sh_below HSh.out.1 B4.out,HSh.out.2.below B4.out⟩);have HG4:=Lh (HG3.out.below ka);have HK4:=Lh (HK.out.below ka);have HN4:=Lh (BatAt.new w3 t (.slice A9 n9 c9) 24);rw[hM] at hck;simp only[tO,Option.isSome];clear HK B3 HG3 ka;go_wp2_with fail;refine hck.out.mono ?_;rintro e w5 ⟨rfl,b5⟩;have B5:=Lh (trans9 B4.out b5);obtain⟨y0,y1,yf,yl⟩:=HG4.out.below b5;obtain⟨u0,u1,uf,ul⟩:=HN4.out.below b5;have HK5:=Lh (HK4.out.below b5);clear b5 hck;by_cases hz:chk t M=0
      ·have hto:=Lh (show Lg.fromR p 0 t (fms F)=(0,some M) from by rw[HTo.out,hO];show(if chk t M=0 then _ else _)=_;rw[if_pos hz]);have dz:decide (chk t M=0)=true:=decide_eq_true hz;have bz:(chk t M==0)=true:=by simpa using hz
       have bz2:(chk t M != 0)=false:=by simp[bne,bz]
       generalize chk t M=zz at *;go_wp2;refine bodyPost_ret (v := .tuple #[.agg #[.string (str t),.slice A9 n9 c9],.int .i64 0]) (by simp[results,Tryz.results11,go_sem,y0,y1,yl]) rfl ⟨FromP.some hto.out ?_ hM rfl,?_⟩
       ·exact((HK5.out.setOld (by have:=hzb.out;omega)).setOld (by have:=hzb.out;omega)).row
       ·repeat(first|exact B5.out|apply kp_alloc|refine Below.setCell ?_ (by show w.heap.size≤w.heap.size+1;omega) _)
      ·have hto:=Lh (show Lg.fromR p 0 t (fms F)=(19,none) from by rw[HTo.out,hO];show(if chk t M=0 then _ else _)=_;rw[if_neg hz]);have dz:decide (chk t M=0)=false:=decide_eq_false hz;have bz:(chk t M==0)=false:=by simpa using hz
       have bz2:(chk t M != 0)=true:=by simp[bne,bz]
       generalize chk t M=zz at *;go_wp2;refine bodyPost_ret (v := .tuple #[.agg #[.string ⟨#[]⟩,.slice none 0 0],.int .i64 19]) (by simp[results,Tryz.results11,go_sem,y0,y1,yl]) rfl ⟨FromP.none hto.out ?_ rfl,?_⟩
       ·exact FmRow.nil _
       ·repeat(first|exact B5.out|apply kp_alloc|refine Below.setCell ?_ (by show w.heap.size≤w.heap.size+1;omega) _)
end Go.Proofs.YtbapneipjmpcbaaGreatDoor
