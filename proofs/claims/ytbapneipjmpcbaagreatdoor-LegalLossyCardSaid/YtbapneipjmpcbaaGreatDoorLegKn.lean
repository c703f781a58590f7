import Derived.Test.YtbapneipjmpcbaaGreatDoorRlgA
import Derived.Test.YtbapneipjmpcbaaGreatDoorRlgB
import Derived.Test.YtbapneipjmpcbaaGreatDoorMrgWXY
import Derived.Deep.RegionHeld3
import Derived.Test.YtbapneipjmpcbaaGreatDoorLegT
import Derived.Test.YtbapneipjmpcbaaGreatDoorRfC
import Derived.Deep.DrawnRows
import Derived.Deep.DeepCutAuto
set_option maxHeartbeats 16000000
set_option maxRecDepth 100000
set_option linter.unusedVariables false
set_option linter.unusedSimpArgs false
namespace Go.Proofs.YtbapneipjmpcbaaGreatDoor
open Go.RowKit Go.Sort Dc
attribute [local go_sem ↓] Go.wp_at_zero Go.wp_at_succ
def fsN (n:List UInt8):Fs:=⟨⟨n,0,[],[]⟩,.slice none 0 0,[]⟩
def fpN (n:List UInt8):Fp:=(⟨n,0,[],[]⟩,[])
theorem fsN_in (w:World) {n:List UInt8} (h:n.length≤60):FsIn w (fsN n):=⟨PtRow.nil _,⟨by show n.length≤maxLen;unfold maxLen;omega,by show([]:List UInt8).length≤maxLen;unfold maxLen;simp,by show([]:List UInt8).length≤maxLen;unfold maxLen;simp,by show(-9223372036854775808:Int)≤0;decide,by show(0:Int)≤9223372036854775807;decide⟩⟩
theorem fsN_new (W:World) {n:List UInt8} (h:n.length≤60):KRow encF 5 (W.alloc (.cells #[.string (str n),.int .i64 0,.string ⟨#[]⟩,.string ⟨#[]⟩,.slice none 0 0] 51)) (.slice (some ⟨W.heap.size,0,none⟩) 1 1) [fsN n]:=(new_fs W (fsN n)).row
theorem of15_calls (l:List (List UInt8)) (u:Value) (es:Nat→ByteArray) (w:World) (hu:StrRow w u l.length es) (he : ∀i n,l[i]? = some n→es i=str n) (hl : ∀n∈l,n.length≤60) (h10:l.length≤10) :
 Calls Tryz.prog 22 #[u] w fun e w'=>(∃A m cap,e = .returned (batv [116] (.slice A m cap))∧FmRow w' (.slice A m cap) (l.map fsN))∧Below w.heap.size w w':=by
 obtain⟨B,capb,rfl,hlb,hcb,hrb⟩:=hu;unfold maxLen at hcb;have HRB:=Lh hrb;have k0:=kp_alloc (kp_alloc (Below.refl w.heap.size w) (.cells #[.string ⟨#[]⟩,.slice none 0 0] 24)) (.cells #[.string (str [116]),.slice none 0 0] 24);have R0:=(BatAt.new w [] (.slice none 0 0) 24).below (kp_alloc (Below.refl _ _) (.cells #[.string (str [116]),.slice none 0 0] 24));have S0:=BatAt.new (w.alloc (.cells #[.string ⟨#[]⟩,.slice none 0 0] 24)) [116] (.slice none 0 0) 24;rw[show(w.alloc (.cells #[.string ⟨#[]⟩,.slice none 0 0] 24)).heap.size=w.heap.size+1 by simp] at S0;clear hrb;go_enter Tryz.func22,Tryz.ntmps22;go_upto_region 2 with fail;obtain⟨W0,hW0⟩ : ∃W,W=(w.alloc (.cells #[.string ⟨#[]⟩,.slice none 0 0] 24)).alloc (.cells #[.string ⟨#[116]⟩,.slice none 0 0] 24):=⟨_,rfl⟩
 have HB:Hid (Below w.heap.size w W0):=Lh (by rw[hW0];exact k0);have HZ:Hid (W0.heap.size=w.heap.size+1+1):=Lh (by rw[hW0];simp);have HR0:Hid (BatAt W0 w.heap.size [] (.slice none 0 0)):=Lh (by rw[hW0];exact R0);have HS0:Hid (BatAt W0 (w.heap.size+1) [116] (.slice none 0 0)):=Lh (by rw[hW0];exact S0);rw[←hW0];clear hW0 k0 R0 S0;go_wp2_with fail;go_loopw [4] (fun i wr => ∃(k:Nat) (tv:Value),k≤l.length∧i = .int .i64 (k:Nat)∧Hid (FmOwn wr W0.heap.size tv ((l.take k).map fsN))∧Hid (BatAt wr (w.heap.size+1) [116] tv)∧Hid (Below (w.heap.size+1) W0 wr)) (fun i _=>l.length-(intOf i).toNat);case atStart=>exact ⟨0,_,Nat.zero_le _,rfl,Lh (KOwn.nil _ _ _ _ _),HS0,Lh (Below.refl _ _)⟩
 case round =>
  obtain⟨k,tv,hk,rfl,O2,A2,HB2⟩:=hrel;have hS1:=HB2.out.size;have hZ1:=HZ.out;have HBw:Hid (Below w.heap.size w wr):=Lh (HB.out.trans (HB2.out.mono (by omega)));by_cases hkl:k<l.length
  ·obtain⟨bb,offb,rfl,hbbs,hcc⟩:=HRB.out (by omega);have h1:=(hcc k hkl).1;rw[he k _ (List.getElem?_eq_getElem hkl)] at h1;have hn60:=hl _ (List.getElem_mem hkl);have hst:Hid ((l.take (k+1)).map fsN=(l.take k).map fsN++[fsN l[k]]):=Lh (by rw[List.take_succ_eq_append_getElem hkl,List.map_append];rfl);have hln:((l.take k).map fsN).length+([fsN l[k]]:List Fs).length≤2000:=by simp;omega
   generalize l[k]=nm at *;have hnew:=Lh (fun W=>fsN_new W hn60);have hone:=Lh (encF_one (fsN_in wr hn60));have HG1:Hid (∀z,Below (w.heap.size+1) wr z→z.cell? ⟨bb,offb+k,none⟩=some (.string (str nm))):=Lh (fun z hz=>((hz.cell (p:=⟨bb,offb+k,none⟩) (by show bb<_;omega)).trans (HBw.out.cell (p:=⟨bb,offb+k,none⟩) hbbs)).trans h1);have HS2:Hid (W0.heap.size≤wr.heap.size):=Lh hS1;have hk0:(0:Int)≤(k:Int):=by omega
   have hkb:(k:Int)<(l.length:Int):=by omega
   clear hcc h1 hS1 hZ1;go_wp2_with fail;generalize wr=W2 at *;refine wp_region_noPanic ?_;refine wp_region_held_drew (S:=fun X=>Below (w.heap.size+1) W2 X) (by kernel_rfl) ?_ (fun hHeld => ?_)
   ·exact Below.drew (Below.refl _ _)
   have kB:Below (w.heap.size+1) W2 W2.drew:=Below.drew (Below.refl _ _);clear hHeld;have kF:Below W2.heap.size W2 W2.drew:=Below.drew (Below.refl _ _);have kG:Below W0.heap.size W2 W2.drew:=Below.drew (Below.refl _ _);refine tk9 0 kB ?_;refine tk9 2 kB ?_;refine tk9 3 kB ?_;refine tk9 4 kB ?_;refine tk9 5 kB ?_ (hy:=Or.inl ⟨by rfl,by intro x hSw;(try dsimp only at hSw);have x1:=HG1.out x hSw;first|(go_simp;done)|(go_simp;with_reducible rfl)⟩);refine tk9 6 kB ?_;refine tk9 7 kB ?_;refine wpAnyH_ready (rs:=[1,8]) (by kernel_rfl) (by simp) ?_;refine AllReadyH.cons (by simp only[List.getElem?_toArray,List.getElem?_cons_succ,List.getElem?_cons_zero];rfl) (fun K hK => ?_) ?_
   ·have yA:=A2.out.belowB kG ((by have:=HZ.out;omega));obtain⟨z0,z1,zf,zl⟩:=A2.out;obtain⟨y0,y1,yf,yl⟩:=yA;go_simp;clear y0 y1 yf yl z0 z1 zf zl;refine hK.out _ _ kB (fun hHeld => ?_);clear hK K hHeld
    (try simp only[Act.put,sI,sZ,sS])
    refine wpAnyH_ready (rs:=[8]) (by kernel_rfl) (by simp) ?_;refine ar9 fun K hK => ?_;go_simp;have kX:KRow _ _ (W2.alloc (.cells #[.string (str nm),.int .i64 0,.string ⟨#[]⟩,.string ⟨#[]⟩,.slice none 0 0] 51)).drew (.slice (some ⟨W2.heap.size,0,none⟩) 1 1) [(fsN nm)]:=(hnew.out W2)
    replace kB:Below (w.heap.size+1) W2 ((W2.alloc (.cells #[.string (str nm),.int .i64 0,.string ⟨#[]⟩,.string ⟨#[]⟩,.slice none 0 0] 51)).drew):=Below.drew (kb_alloc (Below.refl _ _) (by have:=HZ.out;have:=HS2.out;omega) _);replace kF:Below W2.heap.size W2 ((W2.alloc (.cells #[.string (str nm),.int .i64 0,.string ⟨#[]⟩,.string ⟨#[]⟩,.slice none 0 0] 51)).drew):=Below.drew (kp_alloc (Below.refl _ _) _);replace kG:Below W0.heap.size W2 ((W2.alloc (.cells #[.string (str nm),.int .i64 0,.string ⟨#[]⟩,.string ⟨#[]⟩,.slice none 0 0] 51)).drew):=Below.drew (kb_alloc (Below.refl _ _) (HS2.out) _);obtain⟨W6,hW6⟩ : ∃X,X=(W2.alloc (.cells #[.string (str nm),.int .i64 0,.string ⟨#[]⟩,.string ⟨#[]⟩,.slice none 0 0] 51)).drew:=⟨_,rfl⟩
    rw[←hW6] at kB kF kG kX ⊢;clear hW6;obtain⟨xb,hxb⟩ : ∃X,X=W2.heap.size:=⟨_,rfl⟩
    have kX2:=kX;rw[←hxb] at kX2 ⊢;clear kX hxb;have kX:=kX2;clear kX2;refine hK.out _ _ kB (fun hHeld => ?_);clear hK K hHeld
    (try simp only[Act.put,sI,sZ,sS])
    refine wpAnyH_ready (rs:=[9]) (by kernel_rfl) (by simp) ?_;refine ar9 fun K hK => ?_;have o5:=(O2.out).below kF;refine step_append_krow fmTy encF_len (by rfl) (.tmp 13) (.tmp 20) (by rfl) W0.heap.size _ ((l.take k).map fsN) (by rfl) o5 _ [(fsN nm)] (by rfl) kX (fun z hz=>by rw[List.mem_singleton.1 hz];exact hone.out) hln (Nat.le_trans (HS2.out) kF.size) ?_;intro v7 w7 o7 g7;replace kB:=Below.grown kB g7 (Nat.le_trans (by have:=HZ.out;have:=HS2.out;omega) kF.size) (fun q hq=>Nat.le_trans (by have:=HZ.out;omega) (own_ge o5 q hq));replace kG:=Below.grown kG g7 (Nat.le_trans (HS2.out) kF.size) (fun q hq=>own_ge o5 q hq);have hl7:=g7.size;have hl8:=kF.size;clear o5 g7 kX kF;refine hK.out _ _ kB (fun hHeld => ?_);clear hK K hHeld
    (try simp only[Act.put,sI,sZ,sS])
    refine tk9 10 kB ?_;refine wpAnyH_ready (rs:=[11]) (by kernel_rfl) (by simp) ?_;refine ar9 fun K hK => ?_;obtain⟨As,ns,cs,rfl⟩ : ∃A n cap,v7 = .slice A n cap:=(by obtain⟨A,cap,he,_⟩:=KOwn.row encF_len o7;exact⟨A,_,cap,he⟩)
    have yA:=A2.out.belowB kG ((by have:=HZ.out;omega));have kA:=BatAt.set1 yA (u := .slice As ns cs);have kO:=KOwn.ofBlock (X:=w7.setCell ⟨(w.heap.size+1),1,none⟩ (.slice As ns cs)) o7 (fun q hq=>Below.heap_setCell _ _ _ _ (by have h1:=own_ge o7 q hq;have h2:(w.heap.size+1)<W0.heap.size:=(by have:=HZ.out;omega);show q≠(w.heap.size+1);omega));obtain⟨y0,y1,yf,yl⟩:=yA;go_simp;replace kB:=Below.setCell kB (p:=⟨(w.heap.size+1),1,none⟩) (by first|exact Nat.le_refl _|(show _≤_;omega)) (.slice As ns cs);clear y0 y1 yf yl o7 kG hl7 hl8;refine hK.out _ _ kB (fun hHeld => ?_);clear hK K hHeld
    (try simp only[Act.put,sI,sZ,sS])
    refine wpAnyH_done (by kernel_rfl) ?_ _;refine NoPanic.normal ?_;have HB8:=Lh (HB2.out.trans kB);go_wp2_with fail;go_roundw;case rel=>exact ⟨k+1,_,hkl,by go_num,Lh (by rw[hst.out];exact kO),Lh kA,HB8⟩
    case measure=>simp [intOf];omega
   refine ar9 fun K hK => ?_;go_simp;have kX:KRow _ _ (W2.alloc (.cells #[.string (str nm),.int .i64 0,.string ⟨#[]⟩,.string ⟨#[]⟩,.slice none 0 0] 51)).drew (.slice (some ⟨W2.heap.size,0,none⟩) 1 1) [(fsN nm)]:=(hnew.out W2)
   replace kB:Below (w.heap.size+1) W2 ((W2.alloc (.cells #[.string (str nm),.int .i64 0,.string ⟨#[]⟩,.string ⟨#[]⟩,.slice none 0 0] 51)).drew):=Below.drew (kb_alloc (Below.refl _ _) (by have:=HZ.out;have:=HS2.out;omega) _);replace kF:Below W2.heap.size W2 ((W2.alloc (.cells #[.string (str nm),.int .i64 0,.string ⟨#[]⟩,.string ⟨#[]⟩,.slice none 0 0] 51)).drew):=Below.drew (kp_alloc (Below.refl _ _) _);replace kG:Below W0.heap.size W2 ((W2.alloc (.cells #[.string (str nm),.int .i64 0,.string ⟨#[]⟩,.string ⟨#[]⟩,.slice none 0 0] 51)).drew):=Below.drew (kb_alloc (Below.refl _ _) (HS2.out) _);obtain⟨W6,hW6⟩ : ∃X,X=(W2.alloc (.cells #[.string (str nm),.int .i64 0,.string ⟨#[]⟩,.string ⟨#[]⟩,.slice none 0 0] 51)).drew:=⟨_,rfl⟩
   rw[←hW6] at kB kF kG kX ⊢;clear hW6;obtain⟨xb,hxb⟩ : ∃X,X=W2.heap.size:=⟨_,rfl⟩
   have kX2:=kX;rw[←hxb] at kX2 ⊢;clear kX hxb;have kX:=kX2;clear kX2;refine hK.out _ _ kB (fun hHeld => ?_);clear hK K hHeld
   (try simp only[Act.put,sI,sZ,sS])
   refine wpAnyH_ready (rs:=[1]) (by kernel_rfl) (by simp) ?_;refine ar9 fun K hK => ?_;have yA:=A2.out.belowB kG ((by have:=HZ.out;omega));obtain⟨z0,z1,zf,zl⟩:=A2.out;obtain⟨y0,y1,yf,yl⟩:=yA;go_simp;clear y0 y1 yf yl z0 z1 zf zl;refine hK.out _ _ kB (fun hHeld => ?_);clear hK K hHeld
   (try simp only[Act.put,sI,sZ,sS])
   refine wpAnyH_ready (rs:=[9]) (by kernel_rfl) (by simp) ?_;refine ar9 fun K hK => ?_;have o5:=(O2.out).below kF;refine step_append_krow fmTy encF_len (by rfl) (.tmp 13) (.tmp 20) (by rfl) W0.heap.size _ ((l.take k).map fsN) (by rfl) o5 _ [(fsN nm)] (by rfl) kX (fun z hz=>by rw[List.mem_singleton.1 hz];exact hone.out) hln (Nat.le_trans (HS2.out) kF.size) ?_;intro v7 w7 o7 g7;replace kB:=Below.grown kB g7 (Nat.le_trans (by have:=HZ.out;have:=HS2.out;omega) kF.size) (fun q hq=>Nat.le_trans (by have:=HZ.out;omega) (own_ge o5 q hq));replace kG:=Below.grown kG g7 (Nat.le_trans (HS2.out) kF.size) (fun q hq=>own_ge o5 q hq);have hl7:=g7.size;have hl8:=kF.size;clear o5 g7 kX kF;refine hK.out _ _ kB (fun hHeld => ?_);clear hK K hHeld
   (try simp only[Act.put,sI,sZ,sS])
   refine tk9 10 kB ?_;refine wpAnyH_ready (rs:=[11]) (by kernel_rfl) (by simp) ?_;refine ar9 fun K hK => ?_;obtain⟨As,ns,cs,rfl⟩ : ∃A n cap,v7 = .slice A n cap:=(by obtain⟨A,cap,he,_⟩:=KOwn.row encF_len o7;exact⟨A,_,cap,he⟩)
   have yA:=A2.out.belowB kG ((by have:=HZ.out;omega));have kA:=BatAt.set1 yA (u := .slice As ns cs);have kO:=KOwn.ofBlock (X:=w7.setCell ⟨(w.heap.size+1),1,none⟩ (.slice As ns cs)) o7 (fun q hq=>Below.heap_setCell _ _ _ _ (by have h1:=own_ge o7 q hq;have h2:(w.heap.size+1)<W0.heap.size:=(by have:=HZ.out;omega);show q≠(w.heap.size+1);omega));obtain⟨y0,y1,yf,yl⟩:=yA;go_simp;replace kB:=Below.setCell kB (p:=⟨(w.heap.size+1),1,none⟩) (by first|exact Nat.le_refl _|(show _≤_;omega)) (.slice As ns cs);clear y0 y1 yf yl o7 kG hl7 hl8;refine hK.out _ _ kB (fun hHeld => ?_);clear hK K hHeld
   (try simp only[Act.put,sI,sZ,sS])
   refine wpAnyH_done (by kernel_rfl) ?_ _;refine NoPanic.normal ?_;have HB8:=Lh (HB2.out.trans kB);go_wp2_with fail;go_roundw;case rel=>exact ⟨k+1,_,hkl,by go_num,Lh (by rw[hst.out];exact kO),Lh kA,HB8⟩
   case measure=>simp [intOf];omega
  ·have hall:l.take k=l:=List.take_of_length_le (by omega);rw[hall] at O2;obtain⟨A3,n3,cap3,ht3⟩ : ∃A n cap,tv = .slice A n cap:=by obtain⟨A,cap,he,_⟩:=KOwn.row encF_len O2.out;exact⟨A,_,cap,he⟩
   subst ht3;have HRr:Hid (BatAt wr w.heap.size [] (.slice none 0 0)):=Lh (HR0.out.belowB HB2.out (by omega));obtain⟨a0,a1,af,al⟩:=A2.out;obtain⟨y0,y1,yf,yl⟩:=HRr.out;have HKX:Hid (Below w.heap.size w ((wr.setCell ⟨w.heap.size,0,none⟩ (.string (str [116]))).setCell ⟨w.heap.size,1,none⟩ (.slice A3 n3 cap3))):=Lh ((HBw.out.setCell (by show w.heap.size≤w.heap.size;omega) _).setCell (by show w.heap.size≤w.heap.size;omega) _);have HRW:Hid (FmRow ((wr.setCell ⟨w.heap.size,0,none⟩ (.string (str [116]))).setCell ⟨w.heap.size,1,none⟩ (.slice A3 n3 cap3)) (.slice A3 n3 cap3) (l.map fsN)):=Lh (own_fm (O2.out.ofBlock (fun q hq=>by
    have h1:=own_ge O2.out q hq;have hne:q≠w.heap.size:=by omega
    rw[Below.heap_setCell _ _ _ _ hne,Below.heap_setCell _ _ _ _ hne])) (fun x hx=>by
     obtain⟨n,hn,rfl⟩:=List.mem_map.1 hx;exact fsN_in _ (hl n hn)) HKX.out)
   clear hall O2 A2 HRr;go_wp2;refine bodyPost_ret (v := .agg #[.string (str [116]),.slice A3 n3 cap3]) (by simp[results,Tryz.results22,go_sem,y0,y1]) rfl ⟨⟨A3,n3,cap3,rfl,HRW.out⟩,HKX.out⟩
abbrev kn1:List UInt8:=[97,45,98]
abbrev kn2:List UInt8:=[97,46,98]
abbrev km1:List UInt8:=[97,95,120,50,100,98]
abbrev km2:List UInt8:=[97,95,120,50,101,98]
abbrev KF:List Fp:=[fpN kn1,fpN kn2]
abbrev KM:List Fp:=[fpN km1,fpN km2]
theorem kf_chk:chk [116] KF=0:=by decide +kernel
theorem kf_few:FpFew KF:=⟨by decide,fun x hx=>by
 simp only[List.mem_cons,List.not_mem_nil,or_false] at hx;rcases hx with rfl|rfl <;> simp[fpN],fun x hx y hy=>by
 simp only[List.mem_cons,List.not_mem_nil,or_false] at hx;rcases hx with rfl|rfl <;> cases hy⟩
theorem km_few:FpFew KM:=⟨by decide,fun x hx=>by
 simp only[List.mem_cons,List.not_mem_nil,or_false] at hx;rcases hx with rfl|rfl <;> simp[fpN],fun x hx y hy=>by
 simp only[List.mem_cons,List.not_mem_nil,or_false] at hx;rcases hx with rfl|rfl <;> cases hy⟩
theorem k1_few:FpFew [fpN [97]]:=⟨by decide,fun x hx=>by
 rw[List.mem_singleton.1 hx];simp[fpN],fun x hx y hy=>by
 rw[List.mem_singleton.1 hx] at hy;cases hy⟩
namespace Ch
theorem k15a:esc 1 0 [97,45,98]=[97,95,120,50,100,98]:=by decide +kernel
theorem k15b:esc 1 0 [97,46,98]=[97,95,120,50,101,98]:=by decide +kernel
theorem k15c:Co.collO (loss 1 0) [[97,45,98],[97,46,98]]=some ([97,45,98],[97,46,98]):=by decide +kernel
end Ch
theorem kt_arg (m:Int) (h:m=0∨m=1):Lg.argOk 1 m [116] KF=true:=Lg.arg_ok kf_chk (by omega) h
theorem kt1:Lg.toR 1 0 [116] KF=(0,Lg.c0,some KM):=by
 have e:Lg.renB (Lg.nmF 1 0 0) (Lg.nmF 1 0 1) KF=KM:=by
  show [((⟨Ch.esc 1 0 kn1,0,[],[]⟩:Hd),([]:List Pt)),(⟨Ch.esc 1 0 kn2,0,[],[]⟩,[])]=KM;rw[Ch.k15a,Ch.k15b];rfl
 have h:Lg.toR 1 0 [116] KF=Lg.putR (Lg.renB (Lg.nmF 1 0 0) (Lg.nmF 1 0 1) KF):=by
  unfold Lg.toR;rw[if_pos (kt_arg 0 (Or.inl rfl))];rfl
 rw[h,e];refine Lg.putR_yes (by decide +kernel) (Lg.srtB_self (fun x hx => ?_) (by decide +kernel));simp only[List.mem_cons,List.not_mem_nil,or_false] at hx;rcases hx with rfl|rfl <;> exact List.Pairwise.nil
theorem kt2:Lg.toR 1 1 [116] KF=(16,(kn1,kn2),none):=by
 refine Lg.toR_clash (kt_arg 1 (Or.inr rfl)) ?_;unfold Lg.clB;show(Co.collO (Ch.loss 1 0) [kn1,kn2]).or _=_;rw[Ch.k15c];rfl
theorem kt3:Lg.fromR 1 0 [116] KM=(0,some KF)∧Lg.isB 1 KM=true:=by
 rcases Lg.to_esc (p:=1) (by omega) kf_chk with h|⟨M,h,h2,h3,_⟩
 ·rw[kt1] at h;cases h
 ·rw[kt1] at h;obtain rfl:M=KM:=by injection h with _ h;injection h with _ h;exact(Option.some.inj h).symm
  exact⟨h2,h3⟩
theorem kt4:Lg.toR 9 0 [116] [fpN [97]]=(19,Lg.c0,none):=Lg.toR_no (by
 cases e:Lg.argOk 9 0 [116] [fpN [97]] with
 | false=>rfl
 | true=>have:=(Lg.arg_of e).2.1;omega)
theorem kt6:Lg.isB 1 KF=false:=by
 cases h:Lg.isB 1 KF with
 | false=>rfl
 | true =>
   have:=(Lg.isB_iff.1 h).1 kn1 (by simp[Lg.famN,fpN]);exact absurd this (by decide +kernel)
theorem of15_at (l:List (List UInt8)) (hl : ∀n∈l,n.length≤60) (h10:l.length≤10) (w:World) (b:Nat) (hb:w.heap[b]? = some (.cells (l.map fun x=>Value.string (str x)).toArray 9 (0,0))) :
 Calls Tryz.prog 22 #[.slice (some ⟨b,0,none⟩) l.length l.length] w fun e w'=>(∃A m cap,e = .returned (batv [116] (.slice A m cap))∧FmRow w' (.slice A m cap) (l.map fsN))∧Below w.heap.size w w' :=
 of15_calls l _ (txl l) w (tx_row w b l _ rfl (by unfold maxLen;omega) (fun x hx=>by have:=hl x hx;unfold maxLen;omega) hb) (fun i n h=>by
  unfold txl;rw[List.getD_eq_getElem?_getD,h];rfl) hl h10
theorem of2_at (w:World) (b:Nat) (hb:w.heap[b]? = some (.cells #[.string ⟨#[97,45,98]⟩,.string ⟨#[97,46,98]⟩] 9 (0,0))) :
 Calls Tryz.prog 22 #[.slice (some ⟨b,0,none⟩) 2 2] w fun e w'=>(∃A m cap M,e = .returned (batv [116] (.slice A m cap))∧FmRow w' (.slice A m cap) M∧fms M=KF)∧Below w.heap.size w w' :=
 (of15_at [kn1,kn2] (fun n hn=>by
  simp only[List.mem_cons,List.not_mem_nil,or_false] at hn;rcases hn with rfl|rfl <;> decide) (by decide) w b hb).mono fun e w' ⟨⟨A,m,cap,h1,h2⟩,h3⟩=>⟨⟨A,m,cap,_,h1,h2,rfl⟩,h3⟩
theorem of1_at (w:World) (b:Nat) (hb:w.heap[b]? = some (.cells #[.string ⟨#[97]⟩] 9 (0,0))) :
 Calls Tryz.prog 22 #[.slice (some ⟨b,0,none⟩) 1 1] w fun e w'=>(∃A m cap M,e = .returned (batv [116] (.slice A m cap))∧FmRow w' (.slice A m cap) M∧fms M=[fpN [97]])∧Below w.heap.size w w' :=
 (of15_at [[97]] (fun n hn=>by
  rw[List.mem_singleton.1 hn];decide) (by decide) w b hb).mono fun e w' ⟨⟨A,m,cap,h1,h2⟩,h3⟩=>⟨⟨A,m,cap,_,h1,h2,rfl⟩,h3⟩
theorem fms_len2 {F:List Fs} (h:fms F=KM):F.length=2:=by
 have:=congrArg List.length h;rw[List.length_map] at this;exact this
theorem bat_heap {w:World} {b:Nat} {t:List UInt8} {v:Value} {ty:TypeId} (h:w.heap[b]? = some (.cells #[.string (str t),v] ty (0,0))):BatAt w b t v :=
 ⟨by rw[cell_of_row w b 0 _ _ _ h];rfl,by rw[cell_of_row w b 1 _ _ _ h];rfl,fun o=>Lib.frozen_of_heap h o,(Array.getElem?_eq_some_iff.1 h).1⟩
theorem lgknown_calls (w:World) (hT:ChT w) (hM:MxT w) (hS:ShPl w) :
 Calls Tryz.prog 7 #[] w fun e w'=>e = .returned (.bool true)∧Below w.heap.size w w':=by
 have H116:([116]:List UInt8).length≤maxLen:=by unfold maxLen;simp
 have hTo:=Lh (fun p m l (F:List Fs) v X (h:Below w.heap.size w X) (hv:FmRow X v F) (hf:fms F=l) (hw:FpFew l)=>legto_calls p m [116] F v X hv (FpFew.rows (by rw[hf];exact hw)) H116 (hT.below h) ⟨sh_below hS.1 h,hS.2.below h⟩);have hFrom:=Lh (fun p m l (F:List Fs) v X (h:Below w.heap.size w X) (hv:FmRow X v F) (hf:fms F=l) (hw:FpFew l)=>legfrom_calls p m [116] F v X hv (FpFew.rows (by rw[hf];exact hw)) H116 (hT.below h) (hM.below h) ⟨sh_below hS.1 h,hS.2.below h⟩);have hIs:=Lh (fun p (F:List Fs) v X (h:Below w.heap.size w X) (hv:FmRow X v F)=>isleg_calls p [116] F v X hv (hT.below h));clear hT hM hS;go_enter Tryz.func7,Tryz.ntmps7;go_wp2_with fail;refine(of2_at _ w.heap.size (heap_alloc_new w _)).mono ?_;rintro e w1 ⟨⟨A1,n1,c1,F1,rfl,hF1,hf1⟩,b1⟩;have B1:=Lh (trans9 (kp_alloc (Below.refl w.heap.size w) _) b1);have t1:=hTo.out 1 0 KF F1 _ w1 B1.out hF1 hf1 kf_few;rw[hf1,kt1] at t1;clear b1 hF1 hf1;go_wp2_with fail;refine t1.mono ?_;rintro e w2 ⟨⟨A2,n2,c2,F2,rfl,hF2,hf2⟩,b2⟩;simp only[tO,Lg.c0] at hf2 ⊢;replace hf2:fms F2=KM:=hf2;have B2:=Lh (trans9 B1.out b2);clear b2 t1;go_wp2_with fail;obtain⟨e1,e2,e3,s3,b3⟩:=three_new w2 (.cells #[.string (str [116]),.slice A2 n2 c2] 24) (.cells #[.string (str []),.string (str [])] 30) (.cells #[.string ⟨#[97,45,98]⟩,.string ⟨#[97,46,98]⟩] 9);have Z1:=Lh (bat_heap e1);have B3:=Lh (trans9 B2.out b3);have HR2:=Lh (hF2.below b3);have HF2:=Lh hf2;clear hF2 hf2 e1 e2 s3 b3 B2;generalize ((w2.alloc (.cells #[.string (str [116]),.slice A2 n2 c2] 24)).alloc (.cells #[.string (str []),.string (str [])] 30)).alloc (.cells #[.string ⟨#[97,45,98]⟩,.string ⟨#[97,46,98]⟩] 9)=w3 at *;generalize w2.heap.size=z1 at *;refine(of2_at w3 (z1+1+1) e3).mono ?_;rintro e w4 ⟨⟨A3,n3,c3,F3,rfl,hF3,hf3⟩,b4⟩;have B4:=Lh (trans9 B3.out b4);have t2:=hTo.out 1 1 KF F3 _ w4 B4.out hF3 hf3 kf_few;rw[hf3,kt2] at t2;replace Z1:=Lh (Z1.out.below b4);replace HR2:=Lh (HR2.out.below b4);clear b4 hF3 hf3 e3 B3;go_wp2_with fail;refine t2.mono ?_;rintro e w5 ⟨⟨A4,n4,c4,F4,rfl,hF4,hf4⟩,b5⟩;simp only[tO] at hf4 ⊢;have B5:=Lh (trans9 B4.out b5);replace Z1:=Lh (Z1.out.below b5);replace HR2:=Lh (HR2.out.below b5);obtain⟨e1,e2,b6⟩:=blk2_new w5 (.cells #[.string (str []),.slice A4 n4 c4] 24) (.cells #[.string (str kn1),.string (str kn2)] 30);have Z5:=Lh (bat_heap e2);have B6:=Lh (trans9 B5.out b6);replace Z1:=Lh (Z1.out.below b6);replace HR2:=Lh (HR2.out.below b6);clear t2 b5 hF4 hf4 e1 e2 b6 B4 B5;obtain⟨y0,y1,yf,yl⟩:=Z1.out;go_wp2_with fail;have t3:=hFrom.out 1 0 KM F2 _ _ B6.out HR2.out HF2.out km_few;rw[HF2.out,kt3.1] at t3;refine t3.mono ?_;rintro e w7 ⟨⟨A6,n6,c6,F6,rfl,hF6,hf6⟩,b7⟩;simp only[tO] at hf6 ⊢;replace hf6:fms F6=KF:=hf6;have B7:=Lh (trans9 B6.out b7);replace Z1:=Lh (Z1.out.below b7);replace HR2:=Lh (HR2.out.below b7);replace Z5:=Lh (Z5.out.below b7);generalize w5.heap.size=z4 at *;clear t3 b7 y0 y1 yf yl B6;go_wp2_with fail;obtain⟨e1,e3,b8⟩:=blk2_new w7 (.cells #[.string (str [116]),.slice A6 n6 c6] 24) (.cells #[.string ⟨#[97]⟩] 9);have Z7:=Lh (bat_heap e1);have B8:=Lh (trans9 B7.out b8);replace Z1:=Lh (Z1.out.below b8);replace HR2:=Lh (HR2.out.below b8);replace Z5:=Lh (Z5.out.below b8);have HR6:=Lh (hF6.below b8);have HF6:=Lh hf6;clear e1 b8 hF6 hf6 B7;generalize (w7.alloc (.cells #[.string (str [116]),.slice A6 n6 c6] 24)).alloc (.cells #[.string ⟨#[97]⟩] 9)=w8 at *;generalize w7.heap.size=z7 at *;refine(of1_at w8 (z7+1) e3).mono ?_;rintro e w9 ⟨⟨A8,n8,c8,F8,rfl,hF8,hf8⟩,b9⟩;have B9:=Lh (trans9 B8.out b9);have t4:=hTo.out 9 0 [fpN [97]] F8 _ w9 B9.out hF8 hf8 k1_few;rw[hf8,kt4] at t4;replace Z1:=Lh (Z1.out.below b9);replace HR2:=Lh (HR2.out.below b9);replace Z5:=Lh (Z5.out.below b9);replace Z7:=Lh (Z7.out.below b9);replace HR6:=Lh (HR6.out.below b9);clear b9 hF8 hf8 e3 B8;go_wp2_with fail;refine t4.mono ?_;rintro e wa ⟨⟨Aa,na,ca,Fa,rfl,hFa,hfa⟩,ba⟩;simp only[tO] at hfa ⊢;have Ba:=Lh (trans9 B9.out ba);replace Z1:=Lh (Z1.out.below ba);replace HR2:=Lh (HR2.out.below ba);replace Z5:=Lh (Z5.out.below ba);replace Z7:=Lh (Z7.out.below ba);replace HR6:=Lh (HR6.out.below ba);clear t4 ba hFa hfa B9;go_upto_region 5 with fail;obtain⟨_,_,bb⟩:=blk2_new wa (.cells #[.string (str []),.slice Aa na ca] 24) (.cells #[.string (str Lg.c0.1),.string (str Lg.c0.2)] 30);replace Z1:=Lh (Z1.out.below bb);replace HR2:=Lh (HR2.out.below bb);replace Z5:=Lh (Z5.out.below bb);replace Z7:=Lh (Z7.out.below bb);replace HR6:=Lh (HR6.out.below bb);have Bb:=Lh (trans9 Ba.out bb);generalize (wa.alloc (.cells #[.string (str []),.slice Aa na ca] 24)).alloc (.cells #[.string (str Lg.c0.1),.string (str Lg.c0.2)] 30)=W1 at *;have hlen:F2.length=2:=fms_len2 HF2.out;obtain⟨A',cap',he,_,_,_,hrow⟩:=HR2.out.1;simp only[Value.slice.injEq] at he;obtain⟨hA,hn,hc⟩:=he;subst hA hc;obtain rfl:n2=2:=by rw[hn];exact hlen
 obtain⟨fb,off,rfl,hlt,hcc⟩:=hrow (by rw[hlen];decide);obtain⟨x,hx,hxp⟩:=fs_get (F:=F2) (i:=0) (by rw[hlen];decide);have q0:=(fr_cells hcc hx).1;rw[HF2.out] at hxp;have e0:fpN km1=fm x:=by simpa using hxp
 rw[show x.hd=(fm x).1 from rfl,←e0,Nat.zero_mul,Nat.add_zero] at q0;replace q0:W1.cell? ⟨fb,off,none⟩=some (.string (str km1)):=q0;clear hrow hn hcc hx hxp e0 hlen;obtain⟨u10,u11,_,ul1⟩:=Z1.out;obtain⟨u50,u51,_,ul5⟩:=Z5.out;obtain⟨u70,u71,_,ul7⟩:=Z7.out;have r10 : ∀y,Below W1.heap.size W1 y→y.cell? ⟨z1,0,none⟩=some (.string (str [116])):=fun y h=>(h.cell (p:=⟨z1,0,none⟩) ul1).trans u10;have r11 : ∀y,Below W1.heap.size W1 y→y.cell? ⟨z1,1,none⟩=some (.slice (some ⟨fb,off,none⟩) 2 c2):=fun y h=>(h.cell (p:=⟨z1,1,none⟩) ul1).trans u11;have r50 : ∀y,Below W1.heap.size W1 y→y.cell? ⟨z4+1,0,none⟩=some (.string (str kn1)):=fun y h=>(h.cell (p:=⟨z4+1,0,none⟩) ul5).trans u50;have r51 : ∀y,Below W1.heap.size W1 y→y.cell? ⟨z4+1,1,none⟩=some (.string (str kn2)):=fun y h=>(h.cell (p:=⟨z4+1,1,none⟩) ul5).trans u51;have r70 : ∀y,Below W1.heap.size W1 y→y.cell? ⟨z7,0,none⟩=some (.string (str [116])):=fun y h=>(h.cell (p:=⟨z7,0,none⟩) ul7).trans u70;have r71 : ∀y,Below W1.heap.size W1 y→y.cell? ⟨z7,1,none⟩=some (.slice A6 n6 c6):=fun y h=>(h.cell (p:=⟨z7,1,none⟩) ul7).trans u71;have rq0 : ∀y,Below W1.heap.size W1 y→y.cell? ⟨fb,off,none⟩=some (.string (str km1)):=fun y h=>(h.cell (p:=⟨fb,off,none⟩) hlt).trans q0;have hI1:=Lh (fun y (h:Below W1.heap.size W1 y)=>(kt3.2 ▸ HF2.out ▸ hIs.out 1 F2 _ y (Bb.out.trans (h.mono Bb.out.size)) (HR2.out.below h):Calls Tryz.prog 14 #[.int .i64 1,batv [116] (.slice (some ⟨fb,off,none⟩) 2 c2)] y fun e w'=>e = .returned (.bool true)∧Below y.heap.size y w'));have hI7:=Lh (fun y (h:Below W1.heap.size W1 y)=>(kt6 ▸ HF6.out ▸ hIs.out 1 F6 _ y (Bb.out.trans (h.mono Bb.out.size)) (HR6.out.below h):Calls Tryz.prog 14 #[.int .i64 1,batv [116] (.slice A6 n6 c6)] y fun e w'=>e = .returned (.bool false)∧Below y.heap.size y w'));have hSm:=Lh (fun y (h:Below W1.heap.size W1 y) (M:List Fs) (u:Value) (hu:FmRow y u M) (hM:fms M=KF)=>(show Calls Tryz.prog 13 #[batv [116] (.slice A6 n6 c6),batv [116] u] y fun e w'=>e = .returned (.bool true)∧Below y.heap.size y w' from by
  have:=brsame_calls [116] [116] F6 M (.slice A6 n6 c6) u y (HR6.out.below h) hu (FpFew.rows (by rw[HF6.out];exact kf_few));rw[HF6.out,hM,sameB_refl] at this;exact this))
 have hq:=eqlc_self;clear hTo hFrom hIs HR2 HF2 HR6 HF6 Z1 Z5 Z7 u10 u11 u50 u51 u70 u71 q0 ul1 ul5 ul7 Ba bb hlt
 go_region_held3 (fun y=>Below W1.heap.size W1 y)
  (((repeat' first|assumption|exact Below.refl _ _|exact Nat.le_refl _|apply kp_alloc|apply kp_set|apply Below.drew|omega);done))
  ((first
    | (go_at_call 22;refine(of2_at _ _ (by first|exact heap_alloc_new _ _)).mono ?_;rintro e w9 ⟨⟨A9,n9,c9,F9,rfl,hF9,hf9⟩,b9⟩;have k9:Below W1.heap.size W1 w9:=kd9 b9)
    | (go_at_call 13;refine(hSm.out _ kb9 F9 _ (by first|exact hF9|exact hF9.below (Below.drew (Below.refl _ _))) hf9).mono ?_;rintro e w10 ⟨rfl,b10⟩;have k10:Below W1.heap.size W1 w10:=kd9 b10)
    | (go_at_call_of 14 (Value.agg #[Value.string (str [116]),Value.slice (some ⟨fb,off,none⟩) 2 c2]);refine(hI1.out _ kb9).mono ?_;rintro e w11 ⟨rfl,b11⟩;have k11:Below W1.heap.size W1 w11:=kd9 b11)
    | (go_at_call_of 14 (Value.agg #[Value.string (str [116]),Value.slice A6 n6 c6]);refine(hI7.out _ kb9).mono ?_;rintro e w12 ⟨rfl,b12⟩;have k12:Below W1.heap.size W1 w12:=kd9 b12)))
 have KE:=Lh (trans9 Bb.out k12);clear k9 k10 k11 k12 b9 b10 b11 b12 r10 r11 r50 r51 r70 r71 rq0 hF9 hf9;go_wp2_with fail;go_ret;exact⟨rfl,KE.out⟩
end Go.Proofs.YtbapneipjmpcbaaGreatDoor
