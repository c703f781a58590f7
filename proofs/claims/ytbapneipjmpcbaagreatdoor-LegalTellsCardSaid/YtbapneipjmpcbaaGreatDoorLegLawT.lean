import Derived.Test.YtbapneipjmpcbaaGreatDoorLegKn
import Derived.Test.YtbapneipjmpcbaaGreatDoorRlgD
import Derived.Test.YtbapneipjmpcbaaGreatDoorBatW
import Derived.Test.YtbapneipjmpcbaaGreatDoorRfC
import Derived.Deep.RegionHeld3
import Derived.Deep.DrawnRows
import Derived.Deep.DeepCutAuto
set_option maxHeartbeats 16000000
set_option maxRecDepth 100000
set_option linter.unusedVariables false
set_option linter.unusedSimpArgs false
namespace Go.Proofs.YtbapneipjmpcbaaGreatDoor
open Go.RowKit Go.Sort Dc
attribute [local go_sem ↓] Go.wp_at_zero Go.wp_at_succ
theorem toR_few {p m:Int} {t:List UInt8} {F:List Fp} (h:FpFew F):FpFew ((Lg.toR p m t F).2.2.getD []):=by
 have hn:FpFew ([]:List Fp):=⟨by simp,fun x hx=>(by cases hx),fun x hx=>(by cases hx)⟩
 have hp : ∀L,FpFew L→FpFew ((Lg.putR L).2.2.getD []):=fun L hL=>by
  unfold Lg.putR;split
  ·exact hn
  ·split
   ·rename_i M hM;exact few_srtB hL hM
   ·exact hn
 unfold Lg.toR;split
 ·split
  ·exact hn
  ·exact hp _ (few_ren h)
 ·exact hn
theorem fromR_few {p m:Int} {t:List UInt8} {F:List Fp} (h:FpFew F):FpFew ((Lg.fromR p m t F).2.getD []):=by
 have hn:FpFew ([]:List Fp):=⟨by simp,fun x hx=>(by cases hx),fun x hx=>(by cases hx)⟩
 unfold Lg.fromR;split
 ·split
  ·exact h
  ·split
   ·rename_i M hM;split
    ·exact few_srtB (few_ren h) hM
    ·exact hn
   ·exact hn
 ·exact hn
theorem legtells_walk (t:List UInt8) (F:List Fs) (v:Value) (proto mode:Int) (w:World) (hv:FmRow w v F) (ht:t.length≤maxLen) (hT:ChT w) (hM:MxT w) (hS:ShPl w) :
 Calls Tryz.prog 3 #[batv t v,.int .i64 proto,.int .i64 mode] w fun e w'=>e = .returned (.bool true)∧Below w.heap.size w w':=by
 have k0:=kp_alloc (Below.refl w.heap.size w) (.cells #[.string (str t),v] 24);have K0:=Lh k0;have B0:=Lh (BatAt.new w t v 24);have R0:=Lh (hv.below k0);have hT0:=Lh (lgknown_calls _ (hT.below k0) (hM.below k0) ⟨sh_below hS.1 k0,hS.2.below k0⟩);have hTo:=Lh (fun p m s (F:List Fs) v X (h:Below w.heap.size w X) (hv:FmRow X v F) (hf:FmFew F) (hs:s.length≤maxLen)=>legto_calls p m s F v X hv hf hs (hT.below h) ⟨sh_below hS.1 h,hS.2.below h⟩);have hFrom:=Lh (fun p m s (F:List Fs) v X (h:Below w.heap.size w X) (hv:FmRow X v F) (hf:FmFew F) (hs:s.length≤maxLen)=>legfrom_calls p m s F v X hv hf hs (hT.below h) (hM.below h) ⟨sh_below hS.1 h,hS.2.below h⟩);have hIs:=Lh (fun p s (F:List Fs) v X (h:Below w.heap.size w X) (hv:FmRow X v F)=>isleg_calls p s F v X hv (hT.below h));have HTL:=Lh ht;obtain⟨A,n,cap,hv1⟩ : ∃A n cap,v = .slice A n cap:=by obtain⟨A,cap,he,_⟩:=hv.1;exact⟨A,_,cap,he⟩
 have hnl:n=F.length:=by obtain⟨A1,cap1,he,_⟩:=hv.1;rw[hv1] at he;exact(Value.slice.inj he).2.1
 subst hv1;subst hnl;clear k0 hv hT hM hS;go_enter Tryz.func3,Tryz.ntmps3;go_wp2_with fail;refine hT0.out.mono ?_;rintro e w1 ⟨rfl,b1⟩;have K1:=Lh (trans9 K0.out b1);have B1:=Lh (B0.out.below b1);have R1:=Lh (R0.out.below b1);clear b1 hT0 K0 B0 R0;obtain⟨x0,x1,xf,xl⟩:=B1.out;go_wp2_with fail;refine(wide_calls t F _ _ R1.out).mono ?_;rintro e w2 ⟨hW,b2⟩;have K2:=Lh (trans9 K1.out b2);have B2:=Lh (B1.out.below b2);have R2:=Lh (R1.out.below b2);clear b2 K1 B1 R1 x0 x1 xf xl;rcases hW.ways with rfl|⟨rfl,hfew⟩
 ·go_wp2;go_ret;exact⟨rfl,K2.out⟩
 have HF:=Lh hfew;clear hfew hW;go_upto_region 6 with fail;obtain⟨P2,hP2⟩ : ∃z,z=wrap64 (1+wrap64 ((IntKind.u64.wrap proto).tmod 4)):=⟨_,rfl⟩
 obtain⟨M2,hM2⟩ : ∃z,z=wrap64 ((IntKind.u64.wrap mode).tmod 2):=⟨_,rfl⟩
 rw[←hP2];have ka:=kp_alloc (Below.refl w2.heap.size w2) (.cells #[.int .i64 proto,.int .i64 P2] 3);have N5:=heap_alloc_new w2 (.cells #[.int .i64 proto,.int .i64 P2] 3);have K5:=Lh (trans9 K2.out ka);have B5:=Lh (B2.out.below ka);have R5:=Lh (R2.out.below ka);generalize w2.alloc (.cells #[.int .i64 proto,.int .i64 P2] 3)=W5 at *;generalize w2.heap.size=zp at *;have HPc:=Lh (show ∀i:Nat,i<2 → ∃pp:Int,W5.cell? ⟨zp,i,none⟩=some (.int .i64 pp) from fun i hi=>by
  rcases i with _|_|i
  ·exact⟨proto,by rw[cell_of_row W5 zp 0 _ _ _ N5];rfl⟩
  ·exact⟨P2,by rw[cell_of_row W5 zp 1 _ _ _ N5];rfl⟩
  ·omega)
 have hzp:zp<W5.heap.size:=(Array.getElem?_eq_some_iff.1 N5).1;clear ka N5 K2 B2 R2 hP2;go_loopw [33] (fun v wr => ∃i:Nat,i≤2∧v = .int .i64 (i:Nat)∧Hid (Below W5.heap.size W5 wr)) (fun v _=>2-(intOf v).toNat);case atStart=>exact ⟨0,by omega,rfl,Lh (Below.refl _ _)⟩
 case round =>
  obtain⟨i,hi,rfl,HB⟩:=hrel;by_cases hil:i<2
  ·obtain⟨pp,hpp⟩:=HPc.out i hil;have rp:=(HB.out.cell (p:=⟨zp,i,none⟩) hzp).trans hpp;have hi0:(0:Int)≤(i:Int):=by omega
   have hi2:(i:Int)<2:=by omega
   clear hpp;go_upto_region 9 with fail;rw[←hM2];have ka:=kp_alloc (Below.refl wr.heap.size wr) (.cells #[.int .i64 mode,.int .i64 M2] 3);have N8:=heap_alloc_new wr (.cells #[.int .i64 mode,.int .i64 M2] 3);have K8:=Lh (trans9 (K5.out.trans (HB.out.mono K5.out.size)) ka);have B8:=Lh ((B5.out.below HB.out).below ka);have R8:=Lh ((R5.out.below HB.out).below ka);have HB8:=Lh (trans9 HB.out ka);generalize wr.alloc (.cells #[.int .i64 mode,.int .i64 M2] 3)=W8 at *;generalize wr.heap.size=zm at *;have HMc:=Lh (show ∀i:Nat,i<2 → ∃pp:Int,W8.cell? ⟨zm,i,none⟩=some (.int .i64 pp) from fun i hi=>by
    rcases i with _|_|i
    ·exact⟨mode,by rw[cell_of_row W8 zm 0 _ _ _ N8];rfl⟩
    ·exact⟨M2,by rw[cell_of_row W8 zm 1 _ _ _ N8];rfl⟩
    ·omega)
   have hzm:zm<W8.heap.size:=(Array.getElem?_eq_some_iff.1 N8).1;clear ka N8 rp HB hM2;go_loopw [44] (fun v wz => ∃j:Nat,j≤2∧v = .int .i64 (j:Nat)∧Hid (Below W8.heap.size W8 wz)) (fun v _=>2-(intOf v).toNat);case atStart=>exact ⟨0,by omega,rfl,Lh (Below.refl _ _)⟩
   case round =>
    obtain⟨j,hj,rfl,HC⟩:=hrel;by_cases hjl:j<2
    ·obtain⟨mm,hmm⟩:=HMc.out j hjl;have rm:=(HC.out.cell (p:=⟨zm,j,none⟩) hzm).trans hmm;have hj0:(0:Int)≤(j:Int):=by omega
     have hj2:(j:Int)<2:=by omega
     have K9:=Lh (K8.out.trans (HC.out.mono K8.out.size));have B9:=Lh (B8.out.below HC.out);have R9:=Lh (R8.out.below HC.out);clear hmm;obtain⟨x0,x1,xf,xl⟩:=B9.out;have cTo:=Lh (hTo.out pp mm t F _ wr K9.out R9.out HF.out HTL.out);have HTf:=Lh (toR_few (p:=pp) (m:=mm) (t:=t) HF.out.plain);have HFf:=Lh (fromR_few (p:=pp) (m:=mm) (t:=t) HF.out.plain);have crT:=Lh (fun X hv=>rto_calls pp mm t F (.slice A F.length cap) X hv HF.out HTL.out);have cFr:=Lh (fun X hX hv=>hFrom.out pp mm t F (.slice A F.length cap) X hX hv HF.out HTL.out);have crF:=Lh (fun X hv=>rfrom_calls pp mm t F (.slice A F.length cap) X hv HF.out HTL.out);generalize Lg.toR pp mm t (fms F)=rT at *;generalize Lg.fromR pp mm t (fms F)=rF at *;obtain⟨r1,⟨r2,r3⟩,rO⟩:=rT;obtain⟨q1,qO⟩:=rF;obtain⟨tT,htT⟩ : ∃z,z=tO rO t:=⟨_,rfl⟩
     obtain⟨tF,htF⟩ : ∃z,z=tO qO t:=⟨_,rfl⟩
     simp only[ToP,FromP,←htT,←htF] at cTo crT cFr crF;clear htT htF;go_wp2_with fail;refine cTo.out.mono ?_;rintro e wa ⟨⟨A1,n1,c1,F1,rfl,hr1,hf1⟩,b1⟩;have K10:=Lh (trans9 K9.out b1);obtain⟨e1,e2,b2⟩:=blk2_new wa (.cells #[.string (str tT),.slice A1 n1 c1] 24) (.cells #[.string (str r2),.string (str r3)] 30);have b3:=trans9 b1 b2;have Ka:=Lh (trans9 K9.out b3);have Ba:=Lh (B9.out.below b3);have Ra:=Lh (R9.out.below b3);have Xa:=Lh (bat_heap e1);have Ca:=Lh (bat_heap e2);have XRa:=Lh (hr1.below b2);have HCa:=Lh (trans9 HC.out b3);clear cTo b1 b2 b3 e1 e2 hr1 K9 K10 B9 R9 x0 x1 xf xl rm;obtain⟨x0,x1,xf,xl⟩:=Ba.out;go_wp2_with fail;refine(crT.out _ Ra.out).mono ?_;rintro e wb ⟨⟨A2,n2,c2,F2,rfl,hr2,hf2⟩,b1⟩;obtain⟨e1,e2,b2⟩:=blk2_new wb (.cells #[.string (str tT),.slice A2 n2 c2] 24) (.cells #[.string (str r2),.string (str r3)] 30);have b3:=trans9 b1 b2;have Kb:=Lh (trans9 Ka.out b3);have Bb:=Lh (Ba.out.below b3);have Rb:=Lh (Ra.out.below b3);have Xb:=Lh (Xa.out.below b3);have Cb:=Lh (Ca.out.below b3);have XRb:=Lh (XRa.out.below b3);have Yb:=Lh (bat_heap e1);have Db:=Lh (bat_heap e2);have YRb:=Lh (hr2.below b2);have HCb:=Lh (trans9 HCa.out b3);generalize wa.heap.size=z11 at *;clear crT b1 b2 b3 e1 e2 hr2 Ka Ba Ra Xa Ca XRa HCa x0 x1 xf xl;obtain⟨x0,x1,xf,xl⟩:=Bb.out;go_wp2_with fail;refine(cFr.out _ Kb.out Rb.out).mono ?_;rintro e wc ⟨⟨A3,n3,c3,F3,rfl,hr3,hf3⟩,b1⟩;have b2:=kp_alloc (Below.refl wc.heap.size wc) (.cells #[.string (str tF),.slice A3 n3 c3] 24);have b3:=trans9 b1 b2;have Kc:=Lh (trans9 Kb.out b3);have Bc:=Lh (Bb.out.below b3);have Rc:=Lh (Rb.out.below b3);have Xc:=Lh (Xb.out.below b3);have Cc:=Lh (Cb.out.below b3);have XRc:=Lh (XRb.out.below b3);have Yc:=Lh (Yb.out.below b3);have Dc':=Lh (Db.out.below b3);have YRc:=Lh (YRb.out.below b3);have Zc:=Lh (BatAt.new wc tF (.slice A3 n3 c3) 24);have ZRc:=Lh (hr3.below b2);have HCc:=Lh (trans9 HCb.out b3);generalize wb.heap.size=z14 at *;clear cFr b1 b2 b3 hr3 Kb Bb Rb Xb Cb XRb Yb Db YRb HCb x0 x1 xf xl;obtain⟨x0,x1,xf,xl⟩:=Bc.out;go_wp2_with fail;refine(crF.out _ Rc.out).mono ?_;rintro e wd ⟨⟨A4,n4,c4,F4,rfl,hr4,hf4⟩,b1⟩;have b2:=kp_alloc (Below.refl wd.heap.size wd) (.cells #[.string (str tF),.slice A4 n4 c4] 24);have b3:=trans9 b1 b2;have Kd:=Lh (trans9 Kc.out b3);have Bd:=Lh (Bc.out.below b3);have Rd:=Lh (Rc.out.below b3);have Xd:=Lh (Xc.out.below b3);have Cd:=Lh (Cc.out.below b3);have XRd:=Lh (XRc.out.below b3);have Yd:=Lh (Yc.out.below b3);have Dd:=Lh (Dc'.out.below b3);have YRd:=Lh (YRc.out.below b3);have Zd:=Lh (Zc.out.below b3);have ZRd:=Lh (ZRc.out.below b3);have Vd:=Lh (BatAt.new wd tF (.slice A4 n4 c4) 24);have VRd:=Lh (hr4.below b2);have HCd:=Lh (trans9 HCc.out b3);generalize wc.heap.size=z17 at *;clear crF b1 b2 b3 hr4 Kc Bc Rc Xc Cc XRc Yc Dc' YRc Zc ZRc HCc x0 x1 xf xl;go_upto_region 15 with fail;generalize wd.alloc (.cells #[.string (str tF),.slice A4 n4 c4] 24)=W1 at *;generalize wd.heap.size=z19 at *;obtain⟨a0,a1,_,al⟩:=Bd.out;obtain⟨a2,a3,_,am⟩:=Xd.out;obtain⟨a4,a5,_,an⟩:=Cd.out;obtain⟨a6,a7,_,ao⟩:=Yd.out;obtain⟨a8,a9,_,ap⟩:=Dd.out;obtain⟨a10,a11,_,aq⟩:=Zd.out;obtain⟨a12,a13,_,ar⟩:=Vd.out;have r0' : ∀y,Below W1.heap.size W1 y→y.cell? ⟨w.heap.size,0,none⟩=some (.string (str t)):=fun y h=>(h.cell (p:=⟨w.heap.size,0,none⟩) al).trans a0;have r1' : ∀y,Below W1.heap.size W1 y→y.cell? ⟨w.heap.size,1,none⟩=some (.slice A F.length cap):=fun y h=>(h.cell (p:=⟨w.heap.size,1,none⟩) al).trans a1;have r2' : ∀y,Below W1.heap.size W1 y→y.cell? ⟨z11,0,none⟩=some (.string (str tT)):=fun y h=>(h.cell (p:=⟨z11,0,none⟩) am).trans a2;have r3' : ∀y,Below W1.heap.size W1 y→y.cell? ⟨z11,1,none⟩=some (.slice A1 n1 c1):=fun y h=>(h.cell (p:=⟨z11,1,none⟩) am).trans a3;have r4' : ∀y,Below W1.heap.size W1 y→y.cell? ⟨z11+1,0,none⟩=some (.string (str r2)):=fun y h=>(h.cell (p:=⟨z11+1,0,none⟩) an).trans a4;have r5' : ∀y,Below W1.heap.size W1 y→y.cell? ⟨z11+1,1,none⟩=some (.string (str r3)):=fun y h=>(h.cell (p:=⟨z11+1,1,none⟩) an).trans a5;have r6' : ∀y,Below W1.heap.size W1 y→y.cell? ⟨z14,0,none⟩=some (.string (str tT)):=fun y h=>(h.cell (p:=⟨z14,0,none⟩) ao).trans a6;have r7' : ∀y,Below W1.heap.size W1 y→y.cell? ⟨z14,1,none⟩=some (.slice A2 n2 c2):=fun y h=>(h.cell (p:=⟨z14,1,none⟩) ao).trans a7;have r8' : ∀y,Below W1.heap.size W1 y→y.cell? ⟨z14+1,0,none⟩=some (.string (str r2)):=fun y h=>(h.cell (p:=⟨z14+1,0,none⟩) ap).trans a8;have r9' : ∀y,Below W1.heap.size W1 y→y.cell? ⟨z14+1,1,none⟩=some (.string (str r3)):=fun y h=>(h.cell (p:=⟨z14+1,1,none⟩) ap).trans a9;have r10' : ∀y,Below W1.heap.size W1 y→y.cell? ⟨z17,0,none⟩=some (.string (str tF)):=fun y h=>(h.cell (p:=⟨z17,0,none⟩) aq).trans a10;have r11' : ∀y,Below W1.heap.size W1 y→y.cell? ⟨z17,1,none⟩=some (.slice A3 n3 c3):=fun y h=>(h.cell (p:=⟨z17,1,none⟩) aq).trans a11;have r12' : ∀y,Below W1.heap.size W1 y→y.cell? ⟨z19,0,none⟩=some (.string (str tF)):=fun y h=>(h.cell (p:=⟨z19,0,none⟩) ar).trans a12;have r13' : ∀y,Below W1.heap.size W1 y→y.cell? ⟨z19,1,none⟩=some (.slice A4 n4 c4):=fun y h=>(h.cell (p:=⟨z19,1,none⟩) ar).trans a13;have cS1:=Lh (fun y (h:Below W1.heap.size W1 y)=>(show Calls Tryz.prog 13 #[batv tT (.slice A1 n1 c1),batv tT (.slice A2 n2 c2)] y fun e w'=>e = .returned (.bool true)∧Below y.heap.size y w' from by
      have:=brsame_calls tT tT F1 F2 (.slice A1 n1 c1) (.slice A2 n2 c2) y (XRd.out.below h) (YRd.out.below h) (FpFew.rows (by rw[hf1];exact HTf.out));rwa [hf1,hf2,sameB_refl] at this))
     have cS2:=Lh (fun y (h:Below W1.heap.size W1 y)=>(show Calls Tryz.prog 13 #[batv tF (.slice A3 n3 c3),batv tF (.slice A4 n4 c4)] y fun e w'=>e = .returned (.bool true)∧Below y.heap.size y w' from by
      have:=brsame_calls tF tF F3 F4 (.slice A3 n3 c3) (.slice A4 n4 c4) y (ZRd.out.below h) (VRd.out.below h) (FpFew.rows (by rw[hf3];exact HFf.out));rwa [hf3,hf4,sameB_refl] at this))
     have cI:=Lh (fun y (h:Below W1.heap.size W1 y)=>hIs.out pp t F _ y (Kd.out.trans (h.mono Kd.out.size)) (Rd.out.below h));have cN:=Lh (fun y (h:Below W1.heap.size W1 y)=>rnamed_calls pp t F _ y (Rd.out.below h) HF.out);have hq1:=neqc_self;generalize Lg.isB pp (fms F)=bI at *;have hn1:(r1 != r1)=false:=by simp
     have hn2:(q1 != q1)=false:=by simp
     have hn3:decide (r1=r1)=true:=by simp
     have hn4:decide (q1=q1)=true:=by simp
     have hn5:(bI != bI)=false:=by simp
     have hn6:(r1==r1)=true:=by simp
     have hn7:(q1==q1)=true:=by simp
     have hn8:(bI==bI)=true:=by simp
     clear hf1 hf2 hf3 hf4 Bd Rd Xd Cd XRd Yd Dd YRd Zd ZRd Vd VRd a0 a1 a2 a3 a4 a5 a6 a7 a8 a9 a10 a11 a12 a13 al am an ao ap aq ar HTf HFf
     go_region_held3 (fun y=>Below W1.heap.size W1 y)
      (((repeat' first|assumption|exact Below.refl _ _|exact Nat.le_refl _|apply kp_alloc|apply kp_set|apply Below.drew|omega);done))
      ((first
        | (go_at_call_of 13 (Value.agg #[Value.string (str tT),Value.slice A1 n1 c1]);refine(cS1.out _ kb9).mono ?_;rintro e w11 ⟨rfl,b11⟩;have k11:Below W1.heap.size W1 w11:=kd9 b11)
        | (go_at_call_of 13 (Value.agg #[Value.string (str tF),Value.slice A3 n3 c3]);refine(cS2.out _ kb9).mono ?_;rintro e w12 ⟨rfl,b12⟩;have k12:Below W1.heap.size W1 w12:=kd9 b12)
        | (go_at_call 14;refine(cI.out _ kb9).mono ?_;rintro e w13 ⟨rfl,b13⟩;have k13:Below W1.heap.size W1 w13:=kd9 b13)
        | (go_at_call 15;refine(cN.out _ kb9).mono ?_;rintro e w14 ⟨rfl,b14⟩;have k14:Below W1.heap.size W1 w14:=kd9 b14)))
     have HE:=Lh (trans9 HCd.out k14);clear k11 k12 k13 k14 b11 b12 b13 b14 r0' r1' r2' r3' r4' r5' r6' r7' r8' r9' r10' r11' r12' r13' cS1 cS2 cI cN;go_wp2_with fail;go_roundw;case rel=>exact ⟨j+1,by omega,by go_num,HE⟩
     case measure=>simp [intOf];omega
    ·obtain rfl:j=2:=by omega
     have HBx:=Lh (trans9 HB8.out HC.out);clear HC;go_wp2;go_roundw;case rel=>exact ⟨i+1,by omega,by go_num,HBx⟩
     case measure=>simp [intOf];omega
  ·obtain rfl:i=2:=by omega
   have KE:=Lh (K5.out.trans (HB.out.mono K5.out.size));go_wp2;go_ret;exact⟨rfl,KE.out⟩
end Go.Proofs.YtbapneipjmpcbaaGreatDoor
