import Derived.Test.YtbapneipjmpcbaaGreatDoorLegX
import Derived.Test.YtbapneipjmpcbaaGreatDoorLabS
import Derived.Deep.RegionHeld3
import Derived.Deep.DrawnRows
import Derived.Deep.DeepCutAuto
set_option maxHeartbeats 16000000
set_option maxRecDepth 100000
set_option linter.unusedVariables false
set_option linter.unusedSimpArgs false
namespace Go.Proofs.YtbapneipjmpcbaaGreatDoor
open Go.RowKit Go.Sort Dc
attribute [local go_sem ↓] Go.wp_at_zero Go.wp_at_succ
def Lg.ndB (k:Lg.Nm) (F:List Fp):Prop := ∀x∈F,∀q∈x.2,Nd (Lg.renL k q.l)
noncomputable def Lg.renO (f k:Lg.Nm) (F:List Fp):Option (List Fp):=by
 classical
 exact if Lg.ndB k F then Lg.srtB (Lg.renB f k F) else none
theorem Lg.renO_yes {f k:Lg.Nm} {F:List Fp} (h:Lg.ndB k F):Lg.renO f k F=Lg.srtB (Lg.renB f k F):=by unfold Lg.renO;exact if_pos h
theorem Lg.renO_no {f k:Lg.Nm} {F:List Fp} (h : ¬Lg.ndB k F):Lg.renO f k F=none:=by unfold Lg.renO;exact if_neg h
theorem few_ren {f k:Lg.Nm} {F:List Fp} (h:FpFew F):FpFew (Lg.renB f k F):=by
 refine⟨by unfold Lg.renB;rw[List.length_map];exact h.n,fun y hy => ?_,fun y hy q hq => ?_⟩
 ·obtain⟨x,hx,rfl⟩:=List.mem_map.1 hy;show(x.2.map (Lg.renP k)).length≤1000;rw[List.length_map];exact h.p x hx
 ·obtain⟨x,hx,rfl⟩:=List.mem_map.1 hy;obtain⟨r,hr,rfl⟩:=List.mem_map.1 (show q∈x.2.map (Lg.renP k) from hq);rw[Lg.renP_l,(Lg.srtK_perm _).length_eq];unfold Lg.renL;rw[List.length_map];exact h.l x hx r hr
theorem renP_of {k:Lg.Nm} {q:Pt} {d:List Lb} (h:srt (Lg.renL k q.l)=some d):(Lg.renP k q).l=d:=by
 rw[Lg.renP_l];unfold Lg.srtK;rw[h];rfl
theorem nd_of_srt {l d:List Lb} (h:srt l=some d):Nd l:=by
 by_cases hn:Nd l
 ·exact hn
 ·rw[srt_no hn] at h;cases h
theorem not_nd_of_srt {l:List Lb} (h:srt l=none) : ¬Nd l:=fun hn=>by
 obtain⟨d,e,_⟩:=srt_yes hn;rw[e] at h;cases h
theorem renamed_calls (fn:Nat) (heg : ∀args w,(callFunc fn args).run Tryz.prog w = .ok (.enter fn args) w) (G:Int→Lg.Nm) (p:Int) (t:List UInt8) (F:List Fs) (v:Value) (w:World) (hv:FmRow w v F) (hc:chk t (fms F)=0)
 (hR : ∀W,Below w.heap.size w W → ∀(s:Int) (n:List UInt8),n.length≤60→(s=0∨s=1)→(G s n).length≤1000∧Calls Tryz.prog fn #[.int .i64 p,.int .i64 s,.string (str n)] W fun e W'=>e = .returned (.string (str (G s n)))∧Below W.heap.size W W') :
 Calls Tryz.prog 27 #[.int .i64 p,batv t v,.func (.func fn) #[] #[]] w fun e w'=>BSortP w.heap.size t (Lg.renO (G 0) (G 1) (fms F)) e w'∧Below w.heap.size w w':=by
 have k0:=kp_alloc (kp_alloc (Below.refl w.heap.size w) (.cells #[.string (str t),v] 24)) (.cells #[.string ⟨#[]⟩,.slice none 0 0] 24);have F0:=(BatAt.new w t v 24).below (kp_alloc (Below.refl (w.alloc (.cells #[.string (str t),v] 24)).heap.size (w.alloc (.cells #[.string (str t),v] 24))) (.cells #[.string ⟨#[]⟩,.slice none 0 0] 24));have G0:=BatAt.new (w.alloc (.cells #[.string (str t),v] 24)) [] (.slice none 0 0) 24;rw[show(w.alloc (.cells #[.string (str t),v] 24)).heap.size=w.heap.size+1 by simp] at G0;have hf:FmFew F:=few_of_chk hc;have hst:=Lh (stampd_calls t t F v _ (hv.below k0) hf);obtain⟨A,n,cap,hv1⟩ : ∃A n cap,v = .slice A n cap:=by obtain⟨A,cap,he,_⟩:=hv.1;exact⟨A,_,cap,he⟩
 subst hv1;have HC:=Lh hc;have HRR:=Lh hR;have hz0:((w.alloc (.cells #[.string (str t),.slice A n cap] 24)).alloc (.cells #[.string ⟨#[]⟩,.slice none 0 0] 24)).heap.size=w.heap.size+2:=by simp
 have K0:=Lh k0;have HF0:=Lh F0;have HG0:=Lh G0;have HZ0:=Lh hz0;clear F0 G0 k0 hv hf hc hR hz0;go_enter Tryz.func27,Tryz.ntmps27;go_upto_region 1 with fail;generalize (w.alloc (.cells #[.string (str t),.slice A n cap] 24)).alloc (.cells #[.string ⟨#[]⟩,.slice none 0 0] 24)=w0 at *;obtain⟨x0,x1,xf,xl⟩:=HF0.out;go_wp2_with fail;refine hst.out.mono ?_;rintro e w1 ⟨⟨A1,n1,cap1,M0,rfl,deep,hsame⟩,b1⟩;have HB1:=Lh b1;have HSM:=Lh hsame;clear hst x0 x1 xf xl HF0;rcases deep.own.2 with ⟨he,h0⟩|⟨g,cap2,cur,he,hg,hgb,_⟩
 ·cases he
  obtain rfl:M0=[]:=List.eq_nil_of_length_eq_zero h0;have HSM2:=HSM;have hF0:fms F=[]:=hsame.symm;have HNA:=Lh (show Lg.ndB (G 1) (fms F) from by rw[hF0];intro x hx;cases hx);have hA0:=BatAt.new w1 t (.slice none 0 0) 24;have ka:=kp_alloc (Below.refl w1.heap.size w1) (.cells #[.string (str t),.slice none 0 0] 24);have HBw:=Lh (trans9 b1 ka);clear deep b1 ka hsame h0;go_upto_region 2 with fail;generalize w1.alloc (.cells #[.string (str t),.slice none 0 0] 24)=wr at *;generalize w1.heap.size=z at *;obtain⟨x0,x1,xf,xl⟩:=hA0;have HME:=Lh (show fms ([]:List Fs)=Lg.renB (G 0) (G 1) (fms ([]:List Fs))∧FmRow wr (.slice none 0 0) [] from⟨rfl,FmRow.nil _⟩);go_wp2;refine wp_loop_rounds 1 ?_;rw[rounds_succ];go_wp2_with fail;have hfw:FmFew ([]:List Fs):=FpFew.rows (by rw[HME.out.1];exact few_ren (by rw[HSM2.out];exact(few_of_chk HC.out).plain));have hso:=Lh (bsortany_calls t ([]:List Fs) (.slice none 0 0) wr HME.out.2 hfw);have hren:=Lh (show Lg.renO (G 0) (G 1) (fms F)=Lg.srtB (fms ([]:List Fs)) from by rw[Lg.renO_yes HNA.out,HME.out.1,HSM2.out]);clear hfw;generalize Lg.srtB (fms ([]:List Fs))=O at *;go_wp2_with fail;refine hso.out.mono ?_;rintro e w8 ⟨⟨A9,n9,c9,M9,rfl,keep,hp⟩,b8⟩;have HB8:=Lh (trans9 HBw.out b8);obtain⟨y0,y1,yf,yl⟩:=HG0.out.below HB8.out;have HKp:=Lh keep;have hzb:=Lh (show w.heap.size+2≤wr.heap.size from by rw[←HZ0.out];exact HBw.out.size);clear keep b8 hso x0 x1 xf xl;go_wp2;refine bodyPost_ret (v := .tuple #[.agg #[.string (str (tO O t)),.slice A9 n9 c9],.bool O.isSome]) (by simp[results,Tryz.results27,go_sem,y0,y1]) rfl ⟨?_,?_⟩
  ·rw[hren.out];exact⟨A9,n9,c9,M9,rfl,((HKp.out.setOld (by have:=hzb.out;omega)).setOld (by have:=hzb.out;omega)).mono (by have:=hzb.out;omega),hp⟩
  ·have KB:=trans9 K0.out HB8.out;exact(KB.setCell (by show w.heap.size≤w.heap.size+1;omega) _).setCell (by show w.heap.size≤w.heap.size+1;omega) _
 ·cases he
  have hM30:M0.length≤30:=by
   have h1:=(chk_zero HC.out).2.1;have h2:(fms M0).length=(fms F).length:=by rw[hsame]
   rw[List.length_map] at h2;omega
  obtain⟨bd,r1,r2,r3,r4,r5⟩:=deep.pts;have hA0:=Lh (BatAt.new w1 t (.slice (some ⟨g,0,none⟩) M0.length cap1) 24);have ka:=kp_alloc (Below.refl w1.heap.size w1) (.cells #[.string (str t),.slice (some ⟨g,0,none⟩) M0.length cap1] 24);have hz2:(w1.alloc (.cells #[.string (str t),.slice (some ⟨g,0,none⟩) M0.length cap1] 24)).heap.size=w1.heap.size+1:=by simp
  have KK:RFk w0 g (w1.heap.size+1) w1.heap.size bd M0:=⟨r1,r3 g rfl,hg,r4,Nat.lt_succ_self _⟩
  have RR:RF w0 (w1.alloc (.cells #[.string (str t),.slice (some ⟨g,0,none⟩) M0.length cap1] 24)) t g cap1 (w1.heap.size+1) w1.heap.size 0 bd (G 0) (G 1) M0 M0 :=
   ⟨rfl,deep.own.below ka,fun a y ha=>absurd ha (by omega),fun _ _=>rfl,fun a x _ hx=>(r5 a x hx).below ka,trans9 b1 ka,by rw[hz2];exact Nat.le_refl _,hA0.out⟩
  have HK:=Lh KK;have HRF:=Lh RR;have HHD:=Lh deep.hd;clear deep r1 r2 r3 r4 r5 ka hz2 KK RR b1 hg hgb hsame hA0;go_upto_region 2 with fail;generalize w1.alloc (.cells #[.string (str t),.slice (some ⟨g,0,none⟩) M0.length cap1] 24)=w2 at *;obtain⟨z,hz⟩ : ∃z,z=w1.heap.size:=⟨_,rfl⟩
  rw[←hz] at HK HRF ⊢;clear hz;have x1:=HRF.out.all.c1;go_wp2_with fail;clear x1;go_loopw [24] (fun v wr => ∃(i:Nat) (M:List Fs),i≤M0.length∧v = .int .i64 (i:Nat)∧Hid (RF w0 wr t g cap1 (z+1) z i bd (G 0) (G 1) M0 M)∧Hid (∀x∈(fms M0).take i,∀q∈x.2,Nd (Lg.renL (G 1) q.l))) (fun v _=>M0.length-(intOf v).toNat);case atStart=>exact ⟨0,M0,Nat.zero_le _,rfl,HRF,Lh (fun x hx=>by cases hx)⟩
  case round =>
   clear HRF;obtain⟨i,M,hi,rfl,HRF,HN⟩:=hrel;by_cases hil:i<M0.length
   ·obtain⟨x,hx,hxp⟩:=fs_get hil;obtain⟨c0,c1,c2,c3,c4⟩:=HRF.out.cell hx;obtain⟨hgl,hfr⟩:=HRF.out.free;obtain⟨x0,x1,xf,xl⟩:=HRF.out.all;have hmx:=List.mem_of_getElem? hx;have hcm:chk t (fms M0)=0:=by rw[HSM.out];exact HC.out
    have hmp:=List.mem_of_getElem? hxp;have hn60:x.hd.n.length≤60:=(Lg.nameOk_len (Lg.chk_fn hcm (Lg.mem_famN.2 ⟨fm x,hmp,rfl⟩))).2;have h8:=Lh (show ∀y∈x.L,y.2.l.length≤8 ∧ ∀z∈y.2.l,z.1.length≤60 from fun y hy=>by
     have hg:=Lg.goodL_iff.1 (Lg.ptOk_iff.1 (Lg.chk_pt hcm hmp (List.mem_map_of_mem hy))).2.1;exact⟨hg.1,fun z hz=>(Lg.nameOk_len (hg.2.1 z hz).1).2⟩)
    have hL120:x.L.length≤120:=by
     have h1:=pts_le hmp;have h2:=(chk_zero hcm).2.2;have h3:(fm x).2.length=x.L.length:=by simp[pts]
     omega
    have HBW:=Lh (trans9 K0.out HRF.out.bel);obtain⟨hGl,hcall⟩:=HRR.out wr HBW.out 0 x.hd.n hn60 (Or.inl rfl);have hcl:=Lh hcall;have hd2:HdIn ⟨G 0 x.hd.n,x.hd.k,x.hd.u,x.hd.h⟩:=by
     have:=HHD.out x hmx;exact⟨by show(G 0 x.hd.n).length≤maxLen;unfold maxLen;omega,this.lu,this.lh,this.k1,this.k2⟩
    have HSt:=Lh (fun Wr W2 P hb hc hp hs=>HRF.out.step (Wr:=Wr) (W2:=W2) (P:=P) HK.out hx hb hc hd2 hp hs);have HDp:=Lh (HRF.out.deep i x (Nat.le_refl _) hx);have HXP:=Lh hxp;have b0:=HK.out.rise 0 i (Nat.zero_le _);have b1:=HK.out.rise (i+1) M0.length hil;have HBD:=Lh (show g<bd i∧bd (i+1)≤z∧z+1≤wr.heap.size from by have:=HK.out.gb;have:=HK.out.Ab;have:=HRF.out.hz;omega);obtain⟨A2,n2,cap2,hx2⟩ : ∃A2 n2 cap2,x.v = .slice A2 n2 cap2:=by obtain⟨A,cap,he,_⟩:=KOwn.row encP_len HDp.out.own;exact⟨A,_,cap,he⟩
    obtain⟨⟨xn,xk,xu,xh⟩,xv,L⟩:=x;simp only at hx2;subst hx2;simp only at c0 c4 h8 hcl HSt HDp HXP hGl hL120;have HBL:=Lh HRF.out.bel;clear hx hxp hmx hcm hmp hn60 hcall hd2 b0 b1 c1 c2 c3 HRF;go_wp2_with fail;refine hcl.out.mono ?_;rintro e w3 ⟨rfl,b3⟩;have hgl3:g<w3.heap.size:=Nat.lt_of_lt_of_le hgl b3.size;have q0:=(b3.cell (p:=⟨g,i*5,none⟩) hgl).trans c0;have q4:=(b3.cell (p:=⟨g,i*5+4,none⟩) hgl).trans c4;have f0:w3.frozen? ⟨g,i*5,none⟩=false:=(b3.frozen (p:=⟨g,i*5,none⟩) hgl).trans (hfr _);have HB3:=Lh b3;clear b3 c0 c4 x0 x1 xf xl hcl;go_upto_region 7 with fail;obtain⟨w4,hw4⟩ : ∃W,W=w3.setCell ⟨g,i*5,none⟩ (.string (str (G 0 xn))):=⟨_,rfl⟩
    have HW4:=Lh hw4;have q4':w4.cell? ⟨g,i*5+4,none⟩=some (.slice A2 n2 cap2):=by rw[hw4];exact(World.cell?_setCell_other w3 ⟨g,i*5,none⟩ ⟨g,i*5+4,none⟩ _ (by intro e;injection e with _ e _;omega)).trans q4
    have hg4:g<w4.heap.size:=by rw[hw4];simpa[World.setCell] using hgl3
    have HC4:=Lh (show Chi g (g+1) w3 w4 by rw[hw4];exact Chi.set (a:=⟨g,i*5,none⟩) ⟨Nat.le_refl _,Nat.lt_succ_self _⟩ _);rw[←hw4];clear hw4 q0 q4 f0;have HDp4:=HC4.out.pt (HDp.out.below HB3.out) (Or.inr (by have:=HBD.out;omega));have HZ4:=Lh (show z+1≤w4.heap.size from Nat.le_trans HBD.out.2.2 (Nat.le_trans HB3.out.size HC4.out.size));have HB4:=Lh (show Below w0.heap.size w0 w4 from HC4.out.bel (trans9 HBL.out HB3.out) HK.out.gw (by have h1:=HBL.out.size;have h2:=HB3.out.size;omega));have HSt4:=Lh (fun W2 P (hc:Chi (bd i) (bd (i+1)) w4 W2) hp hs=>HSt.out w3 W2 P HB3.out (by rw[←HW4.out];exact hc) hp hs);clear HSt HDp HB3 HW4 HC4 hgl3 hfr;rcases HDp4.own.2 with ⟨he,h0⟩|⟨pb,cap5,cur5,he,hg5,hgb5,_⟩
    ·cases he
     obtain rfl:L=[]:=List.eq_nil_of_length_eq_zero h0;have HF5:=Lh (HSt4.out w4 [] (Chi.refl _ _ _) rfl (fun X _ _=>PtRow.nil X));have HN2:=Lh (Lg.all_take (P:=fun x:Fp => ∀q∈x.2,Nd (Lg.renL (G 1) q.l)) HN.out HXP.out (fun q hq=>by cases hq));clear HDp4 HSt4 HN;go_wp2;refine wp_loop_rounds 1 ?_;rw[rounds_succ];go_wp2;go_roundw;case rel=>exact ⟨i+1,_,hil,by go_num,HF5,HN2⟩
     case measure=>simp [intOf];omega
    ·cases he
     obtain⟨bp,s1,s2,s3,s4,s5⟩:=HDp4.lab;have hpb:pb<w4.heap.size:=own_lt HDp4.own pb rfl;have KP:RPk (bd i) (bd (i+1)) (z+1) pb bp L:=⟨s1,s2,hg5,s3 pb rfl,s4,by have:=HBD.out;omega,HDp4.inn⟩
     have PP:RP w4 (bd i) (bd (i+1)) (z+1) pb cap2 0 bp (G 1) L L:=⟨rfl,HDp4.own,fun a y ha=>absurd ha (by omega),fun _ _=>rfl,fun a y _ hy=>s5 a y hy⟩
     have HKP:=Lh KP;have HPP:=Lh PP;clear HDp4 s1 s2 s3 s4 s5 KP PP hg5 hgb5;go_wp2_with fail;have HQ4:=Lh q4';clear q4';have HNn:=Lh (fun h=>Lg.all_take (P:=fun x:Fp => ∀q∈x.2,Nd (Lg.renL (G 1) q.l)) HN.out HXP.out h);clear HN;go_loopw [48] (fun v wz => ∃(j:Nat) (P:List Ps),j≤L.length∧v = .int .i64 (j:Nat)∧Hid (RP wz (bd i) (bd (i+1)) (z+1) pb cap2 j bp (G 1) L P)∧Hid (Chi (bd i) (bd (i+1)) w4 wz)∧Hid (∀q∈(pts L).take j,Nd (Lg.renL (G 1) q.l))) (fun v _=>L.length-(intOf v).toNat);case atStart=>exact ⟨0,L,Nat.zero_le _,rfl,HPP,Lh (Chi.refl _ _ _),Lh (fun q hq=>by cases hq)⟩
     case round =>
      clear HPP hpb;obtain⟨j,P,hj,rfl,HPP,HCz,HNq⟩:=hrel;have q4:wr.cell? ⟨g,i*5+4,none⟩=some (.slice (some ⟨pb,0,none⟩) L.length cap2):=(HCz.out.cell (p:=⟨g,i*5+4,none⟩) hg4 (Or.inl HBD.out.1)).trans HQ4.out;by_cases hjl:j<L.length
      ·obtain⟨y,hy,hyp⟩:=ps_get hjl;have e0:=HPP.out.cell hy;obtain⟨hpl,hpf⟩:=HPP.out.free;have HDl:=Lh (HPP.out.deep j y (Nat.le_refl _) hy);have hmy:=List.mem_of_getElem? hy;have h8y:=h8.out y hmy;have hPI:=HKP.out.inn y hmy;have a0:=HKP.out.rise 0 j (Nat.zero_le _);have a1:=HKP.out.rise (j+1) L.length hjl;have a2:=HKP.out.rise j (j+1) (Nat.le_succ j);have HBP:=Lh (show pb<bp j∧bp (j+1)≤bd (i+1)∧bd i≤bp j∧bd i≤pb∧bp j≤bp (j+1) from by have h1:=HKP.out.pb;have h2:=HKP.out.hb;have h3:=HKP.out.lb;have h4:=HKP.out.pl;omega);have HStP:=Lh (fun W2 sv hc hs ho hpi=>HPP.out.step (W2:=W2) (sv:=sv) HKP.out hy hc hs ho hpi);have HYP:=Lh hyp;have HNx:=Lh (fun h=>Lg.all_take (P:=fun q:Pt=>Nd (Lg.renL (G 1) q.l)) HNq.out hyp h);have HBz:=Lh (show Below w0.heap.size w0 wr from HCz.out.bel HB4.out (by have h1:=HK.out.gw;have h2:=HBD.out.1;omega) HB4.out.size);have hz5:=Lh (show z+1≤wr.heap.size from Nat.le_trans HZ4.out HCz.out.size);obtain⟨A3,n3,cap3,hy3⟩ : ∃A3 n3 cap3,y.1 = .slice A3 n3 cap3:=by obtain⟨A,cap,he,_⟩:=LbOwn.row HDl.out.own;exact⟨A,_,cap,he⟩
       obtain⟨yv,q⟩:=y;simp only at hy3;subst hy3;simp only at e0 HDl h8y hPI HStP HYP HNx;clear hy hyp hmy a0 a1 a2 HNq;go_upto_region 12 with fail;have HPIr:=Lh (ptIn_ren (k:=G 1) hPI (fun x hx=>by have:=(HRR.out w (Below.refl _ _) 1 x.1 (h8y.2 x hx) (Or.inr rfl)).1;unfold maxLen;omega));have HE0:=Lh e0;have hpbz:=Lh hpl;have HPF:=Lh hpf;clear e0 q4 hPI hpf;have h8l:=h8y.1;have h8n:=Lh h8y.2;clear h8y;obtain⟨wz,hwz⟩ : ∃W,W=wr:=⟨_,rfl⟩
       have HC0:Hid (Chi (bp j) (bp (j+1)) wz wr):=Lh (by rw[hwz];exact Chi.refl _ _ _);have HD0:Hid (LbIn wr (bp j) (bp (j+1)) (.slice A3 n3 cap3) q.l):=HDl;rw[←hwz] at HBz hz5 HE0 hpbz HPF HCz hpl HPP HStP;clear hwz HDl;rcases HD0.out.own.2 with ⟨he,h0⟩|⟨lb,cap6,cur6,he,hg6,hgb6,_⟩
       ·cases he
        have hq0:q.l=[]:=List.eq_nil_of_length_eq_zero h0;have HRow:Hid (LbRow wr (.slice none 0 0) (Lg.renL (G 1) q.l)):=Lh (by rw[hq0];exact LbRow.nil _);have HCy:=HC0;clear h0 HD0 HC0;go_wp2;refine wp_loop_rounds 1 ?_;rw[rounds_succ];have hso:=Lh (sortd_calls (Lg.renL (G 1) q.l) (.slice none 0 0) wr HRow.out (by unfold Lg.renL;rw[List.length_map];omega));have e0:=(HCy.out.cell (p:=⟨pb,j*9,none⟩) hpl (Or.inl HBP.out.1)).trans HE0.out;have f0:wr.frozen? ⟨pb,j*9,none⟩=false:=(HCy.out.frozen (p:=⟨pb,j*9,none⟩) hpl (Or.inl HBP.out.1)).trans (HPF.out _);have hplr:pb<wr.heap.size:=Nat.lt_of_lt_of_le hpl HCy.out.size;have HBy:=Lh (show Below w0.heap.size w0 wr from HCy.out.bel HBz.out (by have h1:=HK.out.gw;have h2:=HBD.out.1;have h3:=HBP.out;omega) HBz.out.size);clear HRow;go_wp2_with fail;refine hso.out.mono ?_;rintro e w8 ⟨sv,rfl,b8,hsr,hown⟩;have HB8:=Lh (trans9 HBy.out b8);have HC8:=Lh (HCy.out.trans (Chi.below b8));have e8:=(b8.cell (p:=⟨pb,j*9,none⟩) hplr).trans e0;have f8:w8.frozen? ⟨pb,j*9,none⟩=false:=(b8.frozen (p:=⟨pb,j*9,none⟩) hplr).trans f0;have hsz8:=Lh (show z+1≤wr.heap.size from Nat.le_trans hz5.out HCy.out.size);clear hso e0 f0 b8
        cases hsrt:srt (Lg.renL (G 1) q.l) with
        | none =>
          have hno:=Lh (show Lg.renO (G 0) (G 1) (fms F)=none from Lg.renO_no fun h=>not_nd_of_srt hsrt (h _ (by rw[←HSM.out];exact List.mem_of_getElem? HXP.out) q (List.mem_of_getElem? HYP.out)));obtain⟨y0,y1,yf,yl⟩:=HG0.out.below HB8.out;clear hsr hown e8 f8;simp only[Option.isSome];go_wp2;refine bodyPost_ret (v := .tuple #[.agg #[.string ⟨#[]⟩,.slice none 0 0],.bool false]) (by simp[results,Tryz.results27,go_sem,y0,y1]) rfl ⟨BSortP.no hno.out rfl,?_⟩;have KB:=trans9 K0.out HB8.out
          repeat(first|exact KB|refine Below.setCell ?_ (by show w.heap.size≤w.heap.size+1;omega) _)
        | some d =>
          rw[hsrt] at hsr;have hrw:(Lg.renP (G 1) q).l=d:=renP_of hsrt;have hs':LbRow w8 sv (Lg.renP (G 1) q).l:=by rw[hrw];exact hsr
          have HF:=Lh (HStP.out w8 sv HC8.out hs' (fun k hk=>Nat.le_trans hsz8.out (hown k hk)) HPIr.out);have HCf:=Lh (show Chi (bd i) (bd (i+1)) w4 (w8.setCell ⟨pb,j*9,none⟩ sv) from(HCz.out.trans (HC8.out.mono HBP.out.2.2.1 HBP.out.2.1)).trans (Chi.set (a:=⟨pb,j*9,none⟩) ⟨HBP.out.2.2.2.1,by show pb<bd (i+1);have:=HBP.out;omega⟩ _));have HNf:=Lh (HNx.out (nd_of_srt hsrt));obtain⟨A9,c9,rfl,_⟩:=hsr;simp only[Option.isSome];clear hs' hown hrw;go_wp2_with fail;go_roundw;case rel=>exact ⟨j+1,_,hjl,by go_num,HF,HCf,HNf⟩
          case measure=>simp [intOf];omega
       ·cases he
        clear hg6 hgb6;have HL0:Hid (LbIn wr (bp j) (bp (j+1)) (.slice (some ⟨lb,0,none⟩) q.l.length cap3) (lbMix (G 1) q.l 0)):=HD0;clear HD0;go_loopw [62] (fun v wy => ∃m:Nat,m≤q.l.length∧v = .int .i64 (m:Nat)∧Hid (LbIn wy (bp j) (bp (j+1)) (.slice (some ⟨lb,0,none⟩) q.l.length cap3) (lbMix (G 1) q.l m))∧Hid (Chi (bp j) (bp (j+1)) wz wy)) (fun v _=>q.l.length-(intOf v).toNat);case atStart=>exact ⟨0,Nat.zero_le _,rfl,HL0,HC0⟩
        case round =>
         clear HL0 HC0;obtain⟨m,hm,rfl,HL,HCy⟩:=hrel;by_cases hml:m<q.l.length
         ·obtain⟨k1,k2,k3,k4,g0,g1⟩:=HL.out.cellN (lbMix_len _ _ _) (lbMix_at (G 1) (at_get hml));have e0:=(HCy.out.cell (p:=⟨pb,j*9,none⟩) hpl (Or.inl HBP.out.1)).trans HE0.out;have hplr:pb<wr.heap.size:=Nat.lt_of_lt_of_le hpl HCy.out.size;have hX60:=h8n.out _ (at_mem hml);have hBwr:=Lh (show Below w.heap.size w wr from trans9 K0.out (HCy.out.bel HBz.out (by have h1:=HK.out.gw;have h2:=HBD.out.1;have h3:=HBP.out;omega) HBz.out.size));have HSM0:=Lh (HL.out);have HXX:=Lh (at_get hml);generalize lbAt q.l m=X at *;obtain⟨X1,X2⟩:=X;simp only at g0 g1 hX60;have ka:=kp_alloc (Below.refl wr.heap.size wr) (.cells #[.string (str X1),.string (str X2)] 58);have N5:=heap_alloc_new wr (.cells #[.string (str X1),.string (str X2)] 58);have s5:=World.size_alloc wr (.cells #[.string (str X1),.string (str X2)] 58);have hlt8:(m:Int)<(q.l.length:Int):=by omega
          have hm0:(0:Int)≤(m:Int):=by omega
          clear HL;go_upto_region 14 with fail;obtain⟨w5,hw5⟩ : ∃W,W=wr.alloc (.cells #[.string (str X1),.string (str X2)] 58):=⟨_,rfl⟩
          rw[←hw5] at ka N5 s5 ⊢;clear hw5;obtain⟨c5,hc5⟩ : ∃c,c=wr.heap.size:=⟨_,rfl⟩
          rw[←hc5] at N5 s5 ⊢;have HKA:=Lh ka;obtain⟨SS,hSS⟩ : ∃SS:World→Prop,Onn SS=SM w5 (bp j) (bp (j+1)) lb cap3 q.l.length m (G 1) q.l:=⟨SM w5 (bp j) (bp (j+1)) lb cap3 q.l.length m (G 1) q.l,rfl⟩
          have SS0:Onn SS w5:=by rw[hSS];exact⟨Chi.refl _ _ _,Or.inl (HSM0.out.below HKA.out)⟩
          have SSb:=Lh (show ∀x y,Onn SS x→Below x.heap.size x y→Onn SS y from fun x y h hb=>by rw[hSS] at h ⊢;exact h.below hb);have SSd:=Lh (show ∀x,Onn SS x→Onn SS x.drew from fun x h=>by rw[hSS] at h ⊢;exact h.drew);have SSp:=Lh (show ∀x,Onn SS x→Onn SS (x.setCell ⟨lb,m*2,none⟩ (.string (str (G 1 X1)))) from fun x h=>by rw[hSS] at h ⊢;exact h.store rfl HXX.out);have HEnd:=Lh (fun x (h:Onn SS x)=>show LbIn (x.setCell ⟨lb,m*2,none⟩ (.string (str (G 1 X1)))) (bp j) (bp (j+1)) (.slice (some ⟨lb,0,none⟩) q.l.length cap3) (lbMix (G 1) q.l (m+1))∧Chi (bp j) (bp (j+1)) wz (x.setCell ⟨lb,m*2,none⟩ (.string (str (G 1 X1)))) from by
           rw[hSS] at h;exact⟨h.put rfl HXX.out,HCy.out.trans ((Chi.below HKA.out).trans ((h.chi.mono k1 k2).trans (Chi.set (a:=⟨lb,m*2,none⟩) ⟨k1,k2⟩ _)))⟩)
          have hlz:lb<w5.heap.size∧pb<w5.heap.size∧c5<w5.heap.size∧lb≠pb∧lb≠c5:=by have:=HBP.out;omega
          have r0 : ∀x,Onn SS x→x.cell? ⟨pb,j*9,none⟩=some (.slice (some ⟨lb,0,none⟩) q.l.length cap3):=fun x hx=>by
           rw[hSS] at hx;exact(hx.chi.cell (p:=⟨pb,j*9,none⟩) hlz.2.1 (by show pb<lb∨lb+1≤pb;omega)).trans ((HKA.out.cell (p:=⟨pb,j*9,none⟩) hplr).trans e0)
          have r1 : ∀x,Onn SS x→x.cell? ⟨c5,0,none⟩=some (.string (str X1)):=fun x hx=>by
           rw[hSS] at hx;exact(hx.chi.cell (p:=⟨c5,0,none⟩) hlz.2.2.1 (by show c5<lb∨lb+1≤c5;omega)).trans (by rw[cell_of_row w5 c5 0 _ _ _ N5];rfl)
          have r2 : ∀x,Onn SS x→x.cell? ⟨lb,m*2,none⟩=some (curC x ⟨lb,m*2,none⟩):=fun x hx=>by rw[hSS] at hx;exact(hx.cell rfl HXX.out).1
          have r3 : ∀x,Onn SS x→x.frozen? ⟨lb,m*2,none⟩=false:=fun x hx=>by rw[hSS] at hx;exact(hx.cell rfl HXX.out).2
          have hcl:=Lh (fun X (h:Onn SS X)=>(HRR.out X (by
           rw[hSS] at h;have h1:=HBz.out.size;have h2:=HBP.out;have h3:=HBD.out;have h4:=HK.out.gw;have h5:=K0.out.size;have h6:=HKA.out.size;have h7:=hBwr.out.size;exact h.chi.bel (trans9 hBwr.out HKA.out) (by omega) (by omega)) 1 X1 hX60 (Or.inr rfl)).2)
          have hlm:m<q.l.length:=hml;clear N5 g0 g1 e0 k4 s5 hc5 ka hSS hlz k1 k2 k3 hplr HSM0
          go_region_held3 (fun x=>Onn SS x)
           ((first|assumption|(refine SSp.out _ ?_;assumption)|(refine SSd.out _ ?_;assumption)|(refine SSd.out _ (SSd.out _ ?_);assumption)))
           ((first
             | (refine(hcl.out _ (by assumption)).mono ?_;rintro e w6 ⟨rfl,b6⟩;have k6:Onn SS w6:=SSb.out _ _ (by assumption) b6)))
          have HE:=Lh (HEnd.out w6 k6);generalize w6.setCell ⟨lb,m*2,none⟩ (.string (str (G 1 X1)))=w7 at *;clear r0 r1 r2 r3 b6 k6 hcl HEnd SSb SSd SSp SS0;go_wp2_with fail;go_roundw;case rel=>exact ⟨m+1,hml,by go_num,Lh HE.out.1,Lh HE.out.2⟩
          case measure=>simp [intOf];omega
         ·have HRow:Hid (LbRow wr (.slice (some ⟨lb,0,none⟩) q.l.length cap3) (Lg.renL (G 1) q.l)):=Lh (by
           have:=LbOwn.row HL.out.own;rwa [lbMix_full (G 1) (show q.l.length≤m by omega)] at this)
          clear HL;have hso:=Lh (sortd_calls (Lg.renL (G 1) q.l) (.slice (some ⟨lb,0,none⟩) q.l.length cap3) wr HRow.out (by unfold Lg.renL;rw[List.length_map];omega));have e0:=(HCy.out.cell (p:=⟨pb,j*9,none⟩) hpl (Or.inl HBP.out.1)).trans HE0.out;have f0:wr.frozen? ⟨pb,j*9,none⟩=false:=(HCy.out.frozen (p:=⟨pb,j*9,none⟩) hpl (Or.inl HBP.out.1)).trans (HPF.out _);have hplr:pb<wr.heap.size:=Nat.lt_of_lt_of_le hpl HCy.out.size;have HBy:=Lh (show Below w0.heap.size w0 wr from HCy.out.bel HBz.out (by have h1:=HK.out.gw;have h2:=HBD.out.1;have h3:=HBP.out;omega) HBz.out.size);clear HRow;go_wp2_with fail;refine hso.out.mono ?_;rintro e w8 ⟨sv,rfl,b8,hsr,hown⟩;have HB8:=Lh (trans9 HBy.out b8);have HC8:=Lh (HCy.out.trans (Chi.below b8));have e8:=(b8.cell (p:=⟨pb,j*9,none⟩) hplr).trans e0;have f8:w8.frozen? ⟨pb,j*9,none⟩=false:=(b8.frozen (p:=⟨pb,j*9,none⟩) hplr).trans f0;have hsz8:=Lh (show z+1≤wr.heap.size from Nat.le_trans hz5.out HCy.out.size);clear hso e0 f0 b8
          cases hsrt:srt (Lg.renL (G 1) q.l) with
          | none =>
            have hno:=Lh (show Lg.renO (G 0) (G 1) (fms F)=none from Lg.renO_no fun h=>not_nd_of_srt hsrt (h _ (by rw[←HSM.out];exact List.mem_of_getElem? HXP.out) q (List.mem_of_getElem? HYP.out)));obtain⟨y0,y1,yf,yl⟩:=HG0.out.below HB8.out;clear hsr hown e8 f8;simp only[Option.isSome];go_wp2;refine bodyPost_ret (v := .tuple #[.agg #[.string ⟨#[]⟩,.slice none 0 0],.bool false]) (by simp[results,Tryz.results27,go_sem,y0,y1]) rfl ⟨BSortP.no hno.out rfl,?_⟩;have KB:=trans9 K0.out HB8.out
            repeat(first|exact KB|refine Below.setCell ?_ (by show w.heap.size≤w.heap.size+1;omega) _)
          | some d =>
            rw[hsrt] at hsr;have hrw:(Lg.renP (G 1) q).l=d:=renP_of hsrt;have hs':LbRow w8 sv (Lg.renP (G 1) q).l:=by rw[hrw];exact hsr
            have HF:=Lh (HStP.out w8 sv HC8.out hs' (fun k hk=>Nat.le_trans hsz8.out (hown k hk)) HPIr.out);have HCf:=Lh (show Chi (bd i) (bd (i+1)) w4 (w8.setCell ⟨pb,j*9,none⟩ sv) from(HCz.out.trans (HC8.out.mono HBP.out.2.2.1 HBP.out.2.1)).trans (Chi.set (a:=⟨pb,j*9,none⟩) ⟨HBP.out.2.2.2.1,by show pb<bd (i+1);have:=HBP.out;omega⟩ _));have HNf:=Lh (HNx.out (nd_of_srt hsrt));obtain⟨A9,c9,rfl,_⟩:=hsr;simp only[Option.isSome];clear hs' hown hrw;go_wp2_with fail;go_roundw;case rel=>exact ⟨j+1,_,hjl,by go_num,HF,HCf,HNf⟩
            case measure=>simp [intOf];omega
      ·obtain rfl:j=L.length:=by omega
       have hE:=HPP.out.end HKP.out;have HF5:=Lh (HSt4.out wr P HCz.out hE.1 hE.2);have HN2:=Lh (HNn.out (Lg.all_full HNq.out (show(pts L).length≤L.length by simp[pts])));clear hE HPP HNq HCz;go_wp2;go_roundw;case rel=>exact ⟨i+1,_,hil,by go_num,HF5,HN2⟩
       case measure=>simp [intOf];omega
   ·obtain rfl:i=M0.length:=by omega
    have HME:=Lh (HRF.out.end HK.out);obtain⟨x0,x1,xf,xl⟩:=HRF.out.all;have HBw:=Lh HRF.out.bel;have HSM2:=HSM;have HNA:=Lh (show Lg.ndB (G 1) (fms F) from by
     rw[←HSM.out];exact Lg.all_full HN.out (show(fms M0).length≤M0.length by simp[fms]))
    clear HN HRF;have hfw:FmFew M:=FpFew.rows (by rw[HME.out.1];exact few_ren (by rw[HSM2.out];exact(few_of_chk HC.out).plain));have hso:=Lh (bsortany_calls t M (.slice (some ⟨g,0,none⟩) M0.length cap1) wr HME.out.2 hfw);have hren:=Lh (show Lg.renO (G 0) (G 1) (fms F)=Lg.srtB (fms M) from by rw[Lg.renO_yes HNA.out,HME.out.1,HSM2.out]);clear hfw;generalize Lg.srtB (fms M)=O at *;go_wp2_with fail;refine hso.out.mono ?_;rintro e w8 ⟨⟨A9,n9,c9,M9,rfl,keep,hp⟩,b8⟩;have HB8:=Lh (trans9 HBw.out b8);obtain⟨y0,y1,yf,yl⟩:=HG0.out.below HB8.out;have HKp:=Lh keep;have hzb:=Lh (show w.heap.size+2≤wr.heap.size from by rw[←HZ0.out];exact HBw.out.size);clear keep b8 hso x0 x1 xf xl;go_wp2;refine bodyPost_ret (v := .tuple #[.agg #[.string (str (tO O t)),.slice A9 n9 c9],.bool O.isSome]) (by simp[results,Tryz.results27,go_sem,y0,y1]) rfl ⟨?_,?_⟩
    ·rw[hren.out];exact⟨A9,n9,c9,M9,rfl,((HKp.out.setOld (by have:=hzb.out;omega)).setOld (by have:=hzb.out;omega)).mono (by have:=hzb.out;omega),hp⟩
    ·have KB:=trans9 K0.out HB8.out;exact(KB.setCell (by show w.heap.size≤w.heap.size+1;omega) _).setCell (by show w.heap.size≤w.heap.size+1;omega) _
end Go.Proofs.YtbapneipjmpcbaaGreatDoor
namespace Go.Proofs.YtbapneipjmpcbaaGreatDoor
open Dc
namespace Lg
section
variable {kf kg f g:Nm} {t:List UInt8} {F M:List Fp}
theorem gl0 (gi:LInv kg g (labN F)) {x:Fp} (hx:x∈F) {p:Pt} (hp:p∈x.2):LInv kg g (labL p.l):=fun a ha=>gi a (lab_mem hx hp ha)
theorem nd0 (hc:chk t F=0) (gi:LInv kg g (labN F)):ndB g F:=fun x hx q hq=>ren_nd (gl0 gi hx hq) (strict_nd (chk_ss hc hx hq))
theorem fam0 (hc:chk t F=0) (gi:LInv kg g (labN F)) {x:Fp} (hx:x∈F):psrt (renF f g x).2=some (famG f g x).2∧(famG f g x).2.Perm (x.2.map (renP g))∧StrictP (famG f g x).2∧(famG f g x).1=⟨f x.1.n,x.1.k,x.1.u,x.1.h⟩:=by
 obtain⟨d,e,hp,hs⟩:=psorts (ndP_ren (k:=kg) (g:=g) (P:=x.2) (fun a ha=>by
  obtain⟨p,hp,hl⟩:=mem_labP.1 ha;exact gl0 gi hx hp a hl) (fun p hp=>chk_ss hc hx hp) (strictP_nd (chk_sp hc hx)))
 have e2:famG f g x=(⟨f x.1.n,x.1.k,x.1.u,x.1.h⟩,d):=by
  unfold famG srtG;rw[show(renF f g x).2=x.2.map (renP g) from rfl,e];rfl
 rw[e2];exact⟨e,hp,hs,rfl⟩
theorem sort0 (hc:chk t F=0) (fi:LInv kf f (famN F)) (gi:LInv kg g (labN F)) : ∃M,srtB (renB f g F)=some M∧M.Perm (F.map (famG f g)):=by
 have h1:srtB (renB f g F)=gsrt cmpF (F.map (famG f g)):=by
  rw[srtB_yes]
  ·unfold renB;rw[List.map_map];rfl
  ·intro y hy;unfold renB at hy;obtain⟨x,hx,rfl⟩:=List.mem_map.1 hy;rw[(fam0 hc gi hx).1];rfl
 have hn:NdT cmpF (F.map (famG f g)):=by
  unfold NdT;rw[List.pairwise_map];refine List.Pairwise.imp_of_mem ?_ (strictT_nd (chk_st hc));intro x y hx hy hne e;have e1:=cmpF_zero.1 e;rw[(fam0 (f:=f) hc gi hx).2.2.2,(fam0 (f:=f) hc gi hy).2.2.2] at e1;have e2:=congrArg kf e1;simp only at e2;rw[fi _ (mem_famN.2 ⟨x,hx,rfl⟩),fi _ (mem_famN.2 ⟨y,hy,rfl⟩)] at e2;exact hne (cmpF_zero.2 e2)
 obtain⟨M,hp,hs⟩:=sorts tp_cmpF hn;exact⟨M,by rw[h1];exact gsrt_is tp_cmpF hp hs,hp⟩
theorem long0 (hc:chk t F=0) (gi:LInv kg g (labN F)) (hp:M.Perm (F.map (famG f g))):longB M=longB (renB f g F):=by
 have key:longB M=false↔longB (renB f g F)=false:=by
  rw[long_iff,long_iff];have m1 : ∀n,n∈famN M↔n∈famN (renB f g F):=fun n=>by
   rw[ren_fam,mem_famN];constructor
   ·rintro ⟨y,hy,rfl⟩;obtain⟨x,hx,rfl⟩:=List.mem_map.1 (hp.mem_iff.1 hy);exact⟨x.1.n,mem_famN.2 ⟨x,hx,rfl⟩,by rw[(fam0 hc gi hx).2.2.2]⟩
   ·rintro ⟨a,ha,rfl⟩;obtain⟨x,hx,rfl⟩:=mem_famN.1 ha;exact⟨famG f g x,hp.mem_iff.2 (List.mem_map.2 ⟨x,hx,rfl⟩),by rw[(fam0 hc gi hx).2.2.2]⟩
  have m2 : ∀n,n∈labN M↔n∈labN (renB f g F):=fun n=>by
   rw[ren_lab,mem_labN];constructor
   ·rintro ⟨y,hy,q,hq,hn⟩;obtain⟨x,hx,rfl⟩:=List.mem_map.1 (hp.mem_iff.1 hy);obtain⟨r,hr,rfl⟩:=List.mem_map.1 ((fam0 hc gi hx).2.1.mem_iff.1 hq);obtain⟨a,ha,rfl⟩:=mem_ren.1 hn;exact⟨a,lab_mem hx hr ha,rfl⟩
   ·rintro ⟨a,ha,rfl⟩;obtain⟨x,hx,q,hq,hl⟩:=mem_labN.1 ha;exact⟨famG f g x,hp.mem_iff.2 (List.mem_map.2 ⟨x,hx,rfl⟩),renP g q,(fam0 hc gi hx).2.1.mem_iff.2 (List.mem_map.2 ⟨q,hq,rfl⟩),mem_ren.2 ⟨a,hl,rfl⟩⟩
  constructor
  ·rintro ⟨a,b⟩;exact⟨fun n hn=>a n ((m1 n).2 hn),fun n hn=>b n ((m2 n).2 hn)⟩
  ·rintro ⟨a,b⟩;exact⟨fun n hn=>a n ((m1 n).1 hn),fun n hn=>b n ((m2 n).1 hn)⟩
 cases h1:longB M <;> cases h2:longB (renB f g F)
 ·rfl
 ·rw[key.1 h1] at h2;cases h2
 ·rw[key.2 h2] at h1;cases h1
 ·rfl
noncomputable def putC (o:Option (List Fp)):Int×(Bs×Bs)×Option (List Fp) :=
 match o with
 | none=>(19,c0,none)
 | some M=>if longB M=true then (14,c0,none) else (0,c0,some M)
theorem putC_is (hc:chk t F=0) (fi:LInv kf f (famN F)) (gi:LInv kg g (labN F)):putC (renO f g F)=putR (renB f g F):=by
 obtain⟨M,h1,h2⟩:=sort0 hc fi gi;rw[renO_yes (nd0 hc gi),h1];have h3:=long0 hc gi h2;unfold putC
 cases hl:longB (renB f g F) with
 | true =>
   rw[putR_long hl];simp only[h3,hl,if_true]
 | false =>
   rw[putR_yes hl h1];simp only[h3,hl];rfl
end
variable {t:List UInt8} {F M:List Fp} {p m:Int}
theorem arg_of (h:argOk p m t F=true):chk t F=0∧(1≤p∧p≤4)∧(m=0∨m=1):=by
 unfold argOk at h;simp only[Bool.and_eq_true,Bool.or_eq_true,decide_eq_true_eq] at h;exact⟨h.1.1.1,⟨h.1.1.2,h.1.2⟩,h.2⟩
theorem toR_no (h:argOk p m t F=false):toR p m t F=(19,c0,none):=by unfold toR;rw[if_neg (by rw[h];decide)]
theorem toR_clash {c:Bs×Bs} (h:argOk p 1 t F=true) (k:clB p F=some c):toR p 1 t F=(16,c,none):=by unfold toR;rw[if_pos h,if_pos rfl,k]
theorem toR_loss (h:argOk p 1 t F=true) (k:clB p F=none):toR p 1 t F=putC (renO (Ch.loss p 0) (Ch.loss p 1) F):=by
 obtain⟨hc,hp,_⟩:=arg_of h;obtain⟨l1,l2⟩:=clB_none k;obtain⟨kf,hf⟩:=inv_of l1;obtain⟨kg,hg⟩:=inv_of l2;rw[putC_is hc hf hg];unfold toR;rw[if_pos h,if_pos rfl,k];rfl
theorem toR_esc (h:argOk p 0 t F=true):toR p 0 t F=putC (renO (Ch.esc p 0) (Ch.esc p 1) F):=by
 obtain⟨hc,hp,_⟩:=arg_of h;rw[putC_is (kf:=Ch.back p 0) (kg:=Ch.back p 1) hc (fun a _=>Ch.back_esc p 0 a) (fun a _=>Ch.back_esc p 1 a)];unfold toR;rw[if_pos h];rfl
theorem fromR_no (h:argOk p m t F=false):fromR p m t F=(19,none):=by unfold fromR;rw[if_neg (by rw[h];decide)]
theorem fromR_loss (h:argOk p 1 t F=true):fromR p 1 t F=(0,some F):=by unfold fromR;rw[if_pos h,if_pos rfl]
noncomputable def putB (t:Bs) (o:Option (List Fp)):Int×Option (List Fp) :=
 match o with
 | none=>(19,none)
 | some M=>if chk t M=0 then (0,some M) else (19,none)
theorem srtB_mem {f g:Nm} (h:srtB F=some M) {x:Fp} (hx:x∈F) {q:Pt} (hq:q∈x.2) : ∃y∈M,q∈y.2:=by
 unfold srtB at h;split at h
 ·rename_i ha;have hp:=(gsrt_some h).1;obtain⟨d,hd⟩:=Option.isSome_iff_exists.1 (List.all_eq_true.1 ha x hx);refine⟨srtG x,hp.mem_iff.2 (List.mem_map.2 ⟨x,hx,rfl⟩),?_⟩;have e:srtG x=(x.1,d):=srtG_is hd;rw[e];exact(psrt_some hd).1.mem_iff.2 hq
 ·cases h
theorem fromR_esc (h:argOk p 0 t F=true):fromR p 0 t F=putB t (renO (Ch.back p 0) (Ch.back p 1) F):=by
 have e:fromR p 0 t F=putB t (srtB (renB (Ch.back p 0) (Ch.back p 1) F)):=by
  unfold fromR putB;rw[if_pos h,if_neg (by decide)]
  cases srtB (renB (Ch.back p 0) (Ch.back p 1) F) <;> rfl
 rw[e];by_cases hn:ndB (Ch.back p 1) F
 ·rw[renO_yes hn]
 ·rw[renO_no hn]
  cases hs:srtB (renB (Ch.back p 0) (Ch.back p 1) F) with
  | none=>rfl
  | some M =>
    have : ¬chk t M=0:=by
     intro hc;apply hn;intro x hx q hq;by_cases hd:Nd (renL (Ch.back p 1) q.l)
     ·exact hd
     ·obtain⟨y,hy,hqy⟩:=srtB_mem (f:=id) (g:=id) hs (x:=renF (Ch.back p 0) (Ch.back p 1) x) (List.mem_map.2 ⟨x,hx,rfl⟩) (q:=renP (Ch.back p 1) q) (List.mem_map.2 ⟨q,hq,rfl⟩);have hss:=chk_ss hc hy hqy;rw[renP_l] at hss;unfold srtK at hss;rw[srt_no hd] at hss;exact strict_nd hss
    show(if chk t M=0 then (0,some M) else (19,none))=(19,none)
    rw[if_neg this]
end Lg
end Go.Proofs.YtbapneipjmpcbaaGreatDoor
