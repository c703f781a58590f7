import Derived.Test.YtbapneipjmpcbaaGreatDoorColB
import Derived.Test.YtbapneipjmpcbaaGreatDoorRefChW
import Derived.Deep.DeepCutAuto
import Derived.Deep.RegionHeld3
import Derived.BigQuiet
import Derived.Laws.Cover1
import Derived.Test.YtbapneipjmpcbaaGreatDoorRlgA
set_option maxHeartbeats 16000000
set_option maxRecDepth 100000
set_option linter.unusedVariables false
set_option linter.unusedSimpArgs false
namespace Go.Proofs.YtbapneipjmpcbaaGreatDoor
open Go.RowKit
def nms (n:Nat) (ls:Nat→Co.Bs):List Co.Bs:=(List.range n).map ls
theorem bl_lt (a b:Co.Bs):Op.bytesLess a b=decide (a<b):=bytesLess_eq a b
def rcV (f:Co.Bs→Co.Bs) (A Z:Co.Bs) (fo:Bool) (X Y:Co.Bs):Bool :=
 decide (X<Y)&&decide (f X=f Y)&&(!fo||decide (X<A)||(decide (X=A)&&decide (Y<Z)))
theorem rcV_is (f:Co.Bs→Co.Bs) (A Z:Co.Bs) (fo:Bool) (X Y:Co.Bs):rcV f A Z fo X Y=(decide (X<Y)&&decide (f X=f Y)&&(!fo||decide (X<A)||(decide (X=A)&&decide (Y<Z)))):=rfl
theorem rcV_step (f:Co.Bs→Co.Bs) (o:Option (Co.Bs×Co.Bs)) (X Y:Co.Bs):Co.step f o (X,Y)=if rcV f (pA o) (pB o) o.isSome X Y=true then some (X,Y) else o:=by
 have e:(Co.clash f (X,Y)∧Co.firstO o (X,Y)=true)↔rcV f (pA o) (pB o) o.isSome X Y=true:=by
  unfold rcV Co.clash
  cases o with
  | none=>simp [Co.firstO]
  | some d =>
    have h1:Co.firstO (some d) (X,Y)=true↔(X<d.1∨X=d.1∧Y<d.2):=decide_eq_true_iff;rw[h1];show _↔(decide (X<Y)&&decide (f X=f Y)&&(!true||decide (X<d.1)||(decide (X=d.1)&&decide (Y<d.2))))=true;simp only[Bool.not_true,Bool.false_or,Bool.and_eq_true,Bool.or_eq_true,decide_eq_true_eq]
 unfold Co.step;by_cases h:rcV f (pA o) (pB o) o.isSome X Y=true
 ·rw[if_pos h,if_pos (e.2 h)]
 ·rw[if_neg h,if_neg (fun k=>h (e.1 k))]
structure RC (w W:World) (o:Option (Co.Bs×Co.Bs)):Prop where
 e6:W.heap[w.heap.size]? = some (.cells #[.string ⟨#[]⟩,.string ⟨#[]⟩] 30 (0,0))
 e8:W.heap[w.heap.size+1]? = some (.cells #[.string (str (pA o)),.string (str (pB o))] 30 (0,0))
 bl:Below w.heap.size w W
theorem RC.below {w W W':World} {o:Option (Co.Bs×Co.Bs)} (h:RC w W o) (hb:Below W.heap.size W W'):RC w W' o :=
 ⟨by rw[hb.block _ (Array.getElem?_eq_some_iff.1 h.e6).1];exact h.e6,by rw[hb.block _ (Array.getElem?_eq_some_iff.1 h.e8).1];exact h.e8,trans9 h.bl hb⟩
theorem RC.put {w W:World} {o:Option (Co.Bs×Co.Bs)} (h:RC w W o) (X Y:Co.Bs):RC w ((W.setCell ⟨w.heap.size+1,0,none⟩ (.string (str X))).setCell ⟨w.heap.size+1,1,none⟩ (.string (str Y))) (some (X,Y)):=by
 refine⟨?_,set_heap _ _ 1 _ _ _ (.string (str Y)) (set_heap W _ 0 _ _ _ (.string (str X)) h.e8),(h.bl.setCell (p:=⟨w.heap.size+1,0,none⟩) (Nat.le_succ _) _).setCell (p:=⟨w.heap.size+1,1,none⟩) (Nat.le_succ _) _⟩;rw[heap_setCell_other _ _ _ _ (by show w.heap.size≠w.heap.size+1;omega),heap_setCell_other _ _ _ _ (by show w.heap.size≠w.heap.size+1;omega)];exact h.e6
theorem rcoll_calls (P S:Int) (v:Value) (n:Nat) (ls:Nat→Co.Bs) (w:World) (hn:n≤10000) (hr:StrRow w v n (fun i=>str (ls i))) (hs : ∀i,i<n→(ls i).length≤4194304) :
 Calls Tryz.prog 57 #[.int .i64 P,.int .i64 S,v] w fun e w'=>e = .returned (collV (Co.collO (Ch.loss P S) (nms n ls)))∧Below w.heap.size w w':=by
 obtain⟨a,cap,rfl,h1,h2,h3⟩:=hr;have Hcell:=Lh h3;have Hs:=Lh hs;have HL:=Lh (show(nms n ls).length=n by simp[nms]);have HG:=Lh (show ∀i,i<n→(nms n ls).getD i []=ls i from fun i hi=>by simp[nms,List.getD_eq_getElem?_getD,hi]);unfold maxLen at h2;clear h3 hs;go_enter Tryz.func57,Tryz.ntmps57;go_wp2_with fail;obtain⟨g1,g2,g3⟩:=blk2_new w (.cells #[.string ⟨#[]⟩,.string ⟨#[]⟩] 30) (.cells #[.string ⟨#[]⟩,.string ⟨#[]⟩] 30);have R0:=Lh (show RC w ((w.alloc (.cells #[.string ⟨#[]⟩,.string ⟨#[]⟩] 30)).alloc (.cells #[.string ⟨#[]⟩,.string ⟨#[]⟩] 30)) none from⟨g1,g2,g3⟩);clear g1 g2 g3;generalize (w.alloc (.cells #[.string ⟨#[]⟩,.string ⟨#[]⟩] 30)).alloc (.cells #[.string ⟨#[]⟩,.string ⟨#[]⟩] 30)=W0 at *;go_loopw [9,10] (fun sf s wr => ∃i:Nat,i≤n∧sf = .bool (Co.collTo (Ch.loss P S) (nms n ls) i 0).isSome∧s = .int .i64 (i:Nat)∧Hid (RC w wr (Co.collTo (Ch.loss P S) (nms n ls) i 0))) (fun _ s _=>n-(intOf s).toNat);case atStart=>exact ⟨0,by omega,rfl,rfl,R0.out⟩
 case round =>
  obtain⟨i,hi,rfl,rfl,H⟩:=hrel;by_cases hin:i<n
  ·obtain⟨b,off,rfl,hbs,hcs⟩:=Hcell.out (by omega);have Hcs:=Lh hcs;have d1:decide ((i:Int)<(n:Int))=true:=decide_eq_true (by omega);have d1':decide (i<n)=true:=decide_eq_true hin;have h0i:(0:Int)≤(i:Int):=by omega
   have hii:(i:Int)<(n:Int):=by omega
   have HX:=Lh (show ∃X,ls i=X from⟨_,rfl⟩);obtain⟨X,hX⟩:=HX.out;have HX:=Lh hX;clear hX hcs;go_wp2_with fail;go_loopw [9,11] (fun sf s wr => ∃k:Nat,k≤n∧sf = .bool (Co.collTo (Ch.loss P S) (nms n ls) i k).isSome∧s = .int .i64 (k:Nat)∧Hid (RC w wr (Co.collTo (Ch.loss P S) (nms n ls) i k))) (fun _ s _=>n-(intOf s).toNat);case atStart=>exact ⟨0,by omega,rfl,rfl,H.out⟩
   case round =>
    clear H;obtain⟨k,hk,rfl,rfl,H⟩:=hrel;by_cases hkn:k<n
    ·have d2:decide ((k:Int)<(n:Int))=true:=decide_eq_true (by omega);have d2':decide (k<n)=true:=decide_eq_true hkn;have h0k:(0:Int)≤(k:Int):=by omega
     have hki:(k:Int)<(n:Int):=by omega
     have c0:=(H.out.bl.cell (p:=⟨b,off+i,none⟩) hbs).trans (Hcs.out i hin).1;rw[HX.out] at c0;have HY:=Lh (show ∃Y,ls k=Y from⟨_,rfl⟩);obtain⟨Y,hY⟩:=HY.out;have HY:=Lh hY;clear hY;have c1:=(H.out.bl.cell (p:=⟨b,off+k,none⟩) hbs).trans (Hcs.out k hkn).1;rw[HY.out] at c1;have HK:=Lh (show X.length≤4194304∧Y.length≤4194304 from⟨by rw[←HX.out];exact Hs.out i hin,by rw[←HY.out];exact Hs.out k hkn⟩);have HS:=Lh (show Co.collTo (Ch.loss P S) (nms n ls) i (k+1)=if rcV (Ch.loss P S) (pA (Co.collTo (Ch.loss P S) (nms n ls) i k)) (pB (Co.collTo (Ch.loss P S) (nms n ls) i k)) (Co.collTo (Ch.loss P S) (nms n ls) i k).isSome X Y=true then some (X,Y) else Co.collTo (Ch.loss P S) (nms n ls) i k by
      rw[Co.collTo_put _ _ _ _ (by rw[HL.out];exact hkn),HG.out i hin,HG.out k hkn,HX.out,HY.out,rcV_step])
     generalize Co.collTo (Ch.loss P S) (nms n ls) i k=o at *;go_upto_region 9 with (fail)
     go_cut [12] (fun s wx => ∃bc:Nat,s = .pointer (some ⟨bc,0,none⟩)∧Hid (RC w wx o∧w.heap.size+1<bc∧wx.heap[bc]? = some (.cells #[.string (str X),.string (str Y)] 30 (0,0))))
     case first =>
      have hbw:b<wr.heap.size:=Nat.lt_of_lt_of_le hbs H.out.bl.size;have hz6:w.heap.size+1<wr.heap.size:=(Array.getElem?_eq_some_iff.1 H.out.e8).1
      go_region
      all_goals
       go_wp2_with fail
       go_meet
       exact⟨wr.heap.size,rfl,H.out.below (Below.drew (kp_alloc (Below.refl _ _) _)),hz6,heap_alloc_new wr _⟩
     case rest =>
      obtain⟨bc,rfl,HB⟩:=hcut;obtain⟨w9,hw9⟩ : ∃w9,w9=wc:=⟨_,rfl⟩
      subst hw9;have zbc:=(Array.getElem?_eq_some_iff.1 HB.out.2.2).1;have kbc0:w9.cell? ⟨bc,0,none⟩=some (.string (str X)):=by rw[cell_of_row _ _ 0 _ _ _ HB.out.2.2];rfl
      have kbc1:w9.cell? ⟨bc,1,none⟩=some (.string (str Y)):=by rw[cell_of_row _ _ 1 _ _ _ HB.out.2.2];rfl
      have hb8 : ∃b8,w.heap.size+1=b8:=⟨_,rfl⟩
      obtain⟨b8,hb8⟩:=hb8;have zb8:b8<w9.heap.size:=by rw[←hb8];exact(Array.getElem?_eq_some_iff.1 HB.out.1.e8).1
      have kb80:w9.cell? ⟨b8,0,none⟩=some (.string (str (pA o))):=by rw[←hb8,cell_of_row _ _ 0 _ _ _ HB.out.1.e8];rfl
      have kb81:w9.cell? ⟨b8,1,none⟩=some (.string (str (pB o))):=by rw[←hb8,cell_of_row _ _ 1 _ _ _ HB.out.1.e8];rfl
      have Hb8:=Lh hb8;rw[hb8];clear hb8 c0 c1 H;go_upto_region 10 with (fail)
      go_cut [76] (fun s wx=>s = .bool (rcV (Ch.loss P S) (pA o) (pB o) o.isSome X Y)∧Hid (Below w9.heap.size w9 wx))
      case first =>
       have Ho:=Lh (show ∃A Z fo,pA o=A∧pB o=Z∧o.isSome=fo from⟨_,_,_,rfl,rfl,rfl⟩);clear HB Hb8 HS HX HY;generalize pA o=A at *;generalize pB o=Z at *;generalize o.isSome=fo at *;clear Ho;have n1:=Lh (fun W=>rloss_calls P S X W (by have:=HK.out.1;omega));have n2:=Lh (fun W=>rloss_calls P S Y W (by have:=HK.out.2;omega));have HR0:=Lh (rcV_is (Ch.loss P S) A Z fo X Y);generalize Ch.loss P S X=fx at *;generalize Ch.loss P S Y=fy at *;by_cases hXY:X<Y
       ·have d1:Op.bytesLess X Y=true:=by rw[bl_lt];exact decide_eq_true hXY
        by_cases hff:fx=fy
        ·subst hff
         cases fo with
         | false =>
           have HR:=Lh (HR0.out.trans (show _=true from by simp[hXY]));clear hXY HR0;refine wp_region_noPanic ?_;refine wp_region_held_drew (S:=fun X=>Below w9.heap.size w9 X) (by kernel_rfl) ?_ (fun hHeld => ?_)
           ·exact Below.drew (Below.refl _ _)
           have kB:Below w9.heap.size w9 w9.drew:=Below.drew (Below.refl _ _);clear hHeld;refine tk9 0 kB ?_;refine tk9 1 kB ?_ (hy:=Or.inl ⟨by rfl,by intro x hSw;(try dsimp only at hSw);have y0:=(hSw.cell (p:=⟨bc,0,none⟩) zbc).trans kbc0;first|(go_simp;done)|(go_simp;with_reducible rfl)⟩);refine tk9 2 kB ?_;refine tk9 3 kB ?_ (hy:=Or.inl ⟨by rfl,by intro x hSw;(try dsimp only at hSw);have y0:=(hSw.cell (p:=⟨bc,1,none⟩) zbc).trans kbc1;first|(go_simp;done)|(go_simp;with_reducible rfl)⟩);refine tk9 4 kB ?_;refine tk9 5 kB ?_;refine tk9 6 kB ?_;refine tk9 7 kB ?_;refine tk9 8 kB ?_;refine tk9 9 kB ?_ (hy:=Or.inl ⟨by rfl,by intro x hSw;(try dsimp only at hSw);have y0:=(hSw.cell (p:=⟨bc,0,none⟩) zbc).trans kbc0;first|(go_simp;done)|(go_simp;with_reducible rfl)⟩);refine tk9 11 kB ?_;refine tk9 12 kB ?_;refine tk9 13 kB ?_;refine tk9 14 kB ?_ (hy:=Or.inl ⟨by rfl,by intro x hSw;(try dsimp only at hSw);have y0:=(hSw.cell (p:=⟨bc,1,none⟩) zbc).trans kbc1;first|(go_simp;done)|(go_simp;with_reducible rfl)⟩);refine wpAnyH_ready (rs:=[10]) (by kernel_rfl) (by simp) ?_;refine ar9 fun K hK => ?_
           try go_simp
           refine(n1.out _).mono ?_;rintro e w11 ⟨rfl,b11⟩;replace kB:=trans9 kB b11;refine hK.out _ _ kB (fun hHeld => ?_);clear hK K hHeld
           (try simp only[Act.put,sI,sZ,sS])
           refine wpAnyH_ready (rs:=[15]) (by kernel_rfl) (by simp) ?_;refine ar9 fun K hK => ?_
           try go_simp
           refine(n2.out _).mono ?_;rintro e w12 ⟨rfl,b12⟩;replace kB:=trans9 kB b12;refine hK.out _ _ kB (fun hHeld => ?_);clear hK K hHeld
           (try simp only[Act.put,sI,sZ,sS])
           refine tk9 16 kB ?_;refine tk9 17 kB ?_;refine tk9 18 kB ?_;refine tk9 19 kB ?_;refine tk9 20 kB ?_;refine tk9 21 kB ?_;refine tu9 22 kB ?_;refine tu9 23 kB ?_;refine tu9 24 kB ?_;refine tu9 25 kB ?_;refine tu9 26 kB ?_;refine tk9 27 kB ?_;refine tk9 28 kB ?_;refine tu9 29 kB ?_;refine tu9 30 kB ?_;refine tu9 31 kB ?_;refine tu9 32 kB ?_;refine tu9 33 kB ?_;refine tu9 34 kB ?_;refine tu9 35 kB ?_;refine tu9 36 kB ?_;refine tu9 37 kB ?_;refine tu9 38 kB ?_;refine tu9 39 kB ?_;refine tu9 40 kB ?_;refine tk9 41 kB ?_;refine tk9 42 kB ?_;refine wpAnyH_done (by kernel_rfl) ?_ _;refine NoPanic.normal ?_;go_wp2_with fail
           go_meet
           exact⟨by rw[HR.out],kB⟩
         | true =>
           by_cases hXA:X<A
           ·have d2:Op.bytesLess X A=true:=by rw[bl_lt];exact decide_eq_true hXA
            have HR:=Lh (HR0.out.trans (show _=true from by simp[hXY,hXA]));clear hXY hXA HR0;refine wp_region_noPanic ?_;refine wp_region_held_drew (S:=fun X=>Below w9.heap.size w9 X) (by kernel_rfl) ?_ (fun hHeld => ?_)
            ·exact Below.drew (Below.refl _ _)
            have kB:Below w9.heap.size w9 w9.drew:=Below.drew (Below.refl _ _);clear hHeld;refine tk9 0 kB ?_;refine tk9 1 kB ?_ (hy:=Or.inl ⟨by rfl,by intro x hSw;(try dsimp only at hSw);have y0:=(hSw.cell (p:=⟨bc,0,none⟩) zbc).trans kbc0;first|(go_simp;done)|(go_simp;with_reducible rfl)⟩);refine tk9 2 kB ?_;refine tk9 3 kB ?_ (hy:=Or.inl ⟨by rfl,by intro x hSw;(try dsimp only at hSw);have y0:=(hSw.cell (p:=⟨bc,1,none⟩) zbc).trans kbc1;first|(go_simp;done)|(go_simp;with_reducible rfl)⟩);refine tk9 4 kB ?_;refine tk9 5 kB ?_;refine tk9 6 kB ?_;refine tk9 7 kB ?_;refine tk9 8 kB ?_;refine tk9 9 kB ?_ (hy:=Or.inl ⟨by rfl,by intro x hSw;(try dsimp only at hSw);have y0:=(hSw.cell (p:=⟨bc,0,none⟩) zbc).trans kbc0;first|(go_simp;done)|(go_simp;with_reducible rfl)⟩);refine tk9 11 kB ?_;refine tk9 12 kB ?_;refine tk9 13 kB ?_;refine tk9 14 kB ?_ (hy:=Or.inl ⟨by rfl,by intro x hSw;(try dsimp only at hSw);have y0:=(hSw.cell (p:=⟨bc,1,none⟩) zbc).trans kbc1;first|(go_simp;done)|(go_simp;with_reducible rfl)⟩);refine wpAnyH_ready (rs:=[10]) (by kernel_rfl) (by simp) ?_;refine ar9 fun K hK => ?_
            try go_simp
            refine(n1.out _).mono ?_;rintro e w11 ⟨rfl,b11⟩;replace kB:=trans9 kB b11;refine hK.out _ _ kB (fun hHeld => ?_);clear hK K hHeld
            (try simp only[Act.put,sI,sZ,sS])
            refine wpAnyH_ready (rs:=[15]) (by kernel_rfl) (by simp) ?_;refine ar9 fun K hK => ?_
            try go_simp
            refine(n2.out _).mono ?_;rintro e w12 ⟨rfl,b12⟩;replace kB:=trans9 kB b12;refine hK.out _ _ kB (fun hHeld => ?_);clear hK K hHeld
            (try simp only[Act.put,sI,sZ,sS])
            refine tk9 16 kB ?_;refine tk9 17 kB ?_;refine tk9 18 kB ?_;refine tk9 19 kB ?_;refine tk9 20 kB ?_;refine tk9 21 kB ?_;refine tk9 22 kB ?_;refine tk9 23 kB ?_ (hy:=Or.inl ⟨by rfl,by intro x hSw;(try dsimp only at hSw);have y0:=(hSw.cell (p:=⟨bc,0,none⟩) zbc).trans kbc0;first|(go_simp;done)|(go_simp;with_reducible rfl)⟩);refine tk9 24 kB ?_;refine tk9 25 kB ?_ (hy:=Or.inl ⟨by rfl,by intro x hSw;(try dsimp only at hSw);have y0:=(hSw.cell (p:=⟨b8,0,none⟩) zb8).trans kb80;first|(go_simp;done)|(go_simp;with_reducible rfl)⟩);refine tk9 26 kB ?_;refine tk9 27 kB ?_;refine tk9 28 kB ?_;refine tu9 29 kB ?_;refine tu9 30 kB ?_;refine tu9 31 kB ?_;refine tu9 32 kB ?_;refine tu9 33 kB ?_;refine tu9 34 kB ?_;refine tu9 35 kB ?_;refine tu9 36 kB ?_;refine tu9 37 kB ?_;refine tu9 38 kB ?_;refine tu9 39 kB ?_;refine tu9 40 kB ?_;refine tk9 41 kB ?_;refine tk9 42 kB ?_;refine wpAnyH_done (by kernel_rfl) ?_ _;refine NoPanic.normal ?_;go_wp2_with fail
            go_meet
            exact⟨by rw[HR.out],kB⟩
           ·have d2:Op.bytesLess X A=false:=by rw[bl_lt];exact decide_eq_false hXA
            by_cases hE:X=A
            ·have e3:(X==A)=true:=beq_iff_eq.2 hE;by_cases hYZ:Y<Z
             ·have d3:Op.bytesLess Y Z=true:=by rw[bl_lt];exact decide_eq_true hYZ
              have HR:=Lh (HR0.out.trans (show _=true from by simp only[hXY,hXA,decide_true,decide_false,decide_eq_true hE,decide_eq_true hYZ];rfl));clear hXY hXA hE hYZ HR0;refine wp_region_noPanic ?_;refine wp_region_held_drew (S:=fun X=>Below w9.heap.size w9 X) (by kernel_rfl) ?_ (fun hHeld => ?_)
              ·exact Below.drew (Below.refl _ _)
              have kB:Below w9.heap.size w9 w9.drew:=Below.drew (Below.refl _ _);clear hHeld;refine tk9 0 kB ?_;refine tk9 1 kB ?_ (hy:=Or.inl ⟨by rfl,by intro x hSw;(try dsimp only at hSw);have y0:=(hSw.cell (p:=⟨bc,0,none⟩) zbc).trans kbc0;first|(go_simp;done)|(go_simp;with_reducible rfl)⟩);refine tk9 2 kB ?_;refine tk9 3 kB ?_ (hy:=Or.inl ⟨by rfl,by intro x hSw;(try dsimp only at hSw);have y0:=(hSw.cell (p:=⟨bc,1,none⟩) zbc).trans kbc1;first|(go_simp;done)|(go_simp;with_reducible rfl)⟩);refine tk9 4 kB ?_;refine tk9 5 kB ?_;refine tk9 6 kB ?_;refine tk9 7 kB ?_;refine tk9 8 kB ?_;refine tk9 9 kB ?_ (hy:=Or.inl ⟨by rfl,by intro x hSw;(try dsimp only at hSw);have y0:=(hSw.cell (p:=⟨bc,0,none⟩) zbc).trans kbc0;first|(go_simp;done)|(go_simp;with_reducible rfl)⟩);refine tk9 11 kB ?_;refine tk9 12 kB ?_;refine tk9 13 kB ?_;refine tk9 14 kB ?_ (hy:=Or.inl ⟨by rfl,by intro x hSw;(try dsimp only at hSw);have y0:=(hSw.cell (p:=⟨bc,1,none⟩) zbc).trans kbc1;first|(go_simp;done)|(go_simp;with_reducible rfl)⟩);refine wpAnyH_ready (rs:=[10]) (by kernel_rfl) (by simp) ?_;refine ar9 fun K hK => ?_
              try go_simp
              refine(n1.out _).mono ?_;rintro e w11 ⟨rfl,b11⟩;replace kB:=trans9 kB b11;refine hK.out _ _ kB (fun hHeld => ?_);clear hK K hHeld
              (try simp only[Act.put,sI,sZ,sS])
              refine wpAnyH_ready (rs:=[15]) (by kernel_rfl) (by simp) ?_;refine ar9 fun K hK => ?_
              try go_simp
              refine(n2.out _).mono ?_;rintro e w12 ⟨rfl,b12⟩;replace kB:=trans9 kB b12;refine hK.out _ _ kB (fun hHeld => ?_);clear hK K hHeld
              (try simp only[Act.put,sI,sZ,sS])
              refine tk9 16 kB ?_;refine tk9 17 kB ?_;refine tk9 18 kB ?_;refine tk9 19 kB ?_;refine tk9 20 kB ?_;refine tk9 21 kB ?_;refine tk9 22 kB ?_;refine tk9 23 kB ?_ (hy:=Or.inl ⟨by rfl,by intro x hSw;(try dsimp only at hSw);have y0:=(hSw.cell (p:=⟨bc,0,none⟩) zbc).trans kbc0;first|(go_simp;done)|(go_simp;with_reducible rfl)⟩);refine tk9 24 kB ?_;refine tk9 25 kB ?_ (hy:=Or.inl ⟨by rfl,by intro x hSw;(try dsimp only at hSw);have y0:=(hSw.cell (p:=⟨b8,0,none⟩) zb8).trans kb80;first|(go_simp;done)|(go_simp;with_reducible rfl)⟩);refine tk9 26 kB ?_;refine tk9 27 kB ?_;refine tk9 28 kB ?_;refine tk9 29 kB ?_;refine tk9 30 kB ?_ (hy:=Or.inl ⟨by rfl,by intro x hSw;(try dsimp only at hSw);have y0:=(hSw.cell (p:=⟨bc,0,none⟩) zbc).trans kbc0;first|(go_simp;done)|(go_simp;with_reducible rfl)⟩);refine tk9 31 kB ?_;refine tk9 32 kB ?_ (hy:=Or.inl ⟨by rfl,by intro x hSw;(try dsimp only at hSw);have y0:=(hSw.cell (p:=⟨b8,0,none⟩) zb8).trans kb80;first|(go_simp;done)|(go_simp;with_reducible rfl)⟩);refine tk9 33 kB ?_;refine tk9 34 kB ?_;refine tk9 35 kB ?_;refine tk9 36 kB ?_ (hy:=Or.inl ⟨by rfl,by intro x hSw;(try dsimp only at hSw);have y0:=(hSw.cell (p:=⟨bc,1,none⟩) zbc).trans kbc1;first|(go_simp;done)|(go_simp;with_reducible rfl)⟩);refine tk9 37 kB ?_;refine tk9 38 kB ?_ (hy:=Or.inl ⟨by rfl,by intro x hSw;(try dsimp only at hSw);have y0:=(hSw.cell (p:=⟨b8,1,none⟩) zb8).trans kb81;first|(go_simp;done)|(go_simp;with_reducible rfl)⟩);refine tk9 39 kB ?_;refine tk9 40 kB ?_;refine tk9 41 kB ?_;refine tk9 42 kB ?_;refine wpAnyH_done (by kernel_rfl) ?_ _;refine NoPanic.normal ?_;go_wp2_with fail
              go_meet
              exact⟨by rw[HR.out],kB⟩
             ·have d3:Op.bytesLess Y Z=false:=by rw[bl_lt];exact decide_eq_false hYZ
              have HR:=Lh (HR0.out.trans (show _=false from by simp only[hXY,hXA,decide_true,decide_false,decide_eq_true hE,decide_eq_false hYZ];rfl));clear hXY hXA hE hYZ HR0;refine wp_region_noPanic ?_;refine wp_region_held_drew (S:=fun X=>Below w9.heap.size w9 X) (by kernel_rfl) ?_ (fun hHeld => ?_)
              ·exact Below.drew (Below.refl _ _)
              have kB:Below w9.heap.size w9 w9.drew:=Below.drew (Below.refl _ _);clear hHeld;refine tk9 0 kB ?_;refine tk9 1 kB ?_ (hy:=Or.inl ⟨by rfl,by intro x hSw;(try dsimp only at hSw);have y0:=(hSw.cell (p:=⟨bc,0,none⟩) zbc).trans kbc0;first|(go_simp;done)|(go_simp;with_reducible rfl)⟩);refine tk9 2 kB ?_;refine tk9 3 kB ?_ (hy:=Or.inl ⟨by rfl,by intro x hSw;(try dsimp only at hSw);have y0:=(hSw.cell (p:=⟨bc,1,none⟩) zbc).trans kbc1;first|(go_simp;done)|(go_simp;with_reducible rfl)⟩);refine tk9 4 kB ?_;refine tk9 5 kB ?_;refine tk9 6 kB ?_;refine tk9 7 kB ?_;refine tk9 8 kB ?_;refine tk9 9 kB ?_ (hy:=Or.inl ⟨by rfl,by intro x hSw;(try dsimp only at hSw);have y0:=(hSw.cell (p:=⟨bc,0,none⟩) zbc).trans kbc0;first|(go_simp;done)|(go_simp;with_reducible rfl)⟩);refine tk9 11 kB ?_;refine tk9 12 kB ?_;refine tk9 13 kB ?_;refine tk9 14 kB ?_ (hy:=Or.inl ⟨by rfl,by intro x hSw;(try dsimp only at hSw);have y0:=(hSw.cell (p:=⟨bc,1,none⟩) zbc).trans kbc1;first|(go_simp;done)|(go_simp;with_reducible rfl)⟩);refine wpAnyH_ready (rs:=[10]) (by kernel_rfl) (by simp) ?_;refine ar9 fun K hK => ?_
              try go_simp
              refine(n1.out _).mono ?_;rintro e w11 ⟨rfl,b11⟩;replace kB:=trans9 kB b11;refine hK.out _ _ kB (fun hHeld => ?_);clear hK K hHeld
              (try simp only[Act.put,sI,sZ,sS])
              refine wpAnyH_ready (rs:=[15]) (by kernel_rfl) (by simp) ?_;refine ar9 fun K hK => ?_
              try go_simp
              refine(n2.out _).mono ?_;rintro e w12 ⟨rfl,b12⟩;replace kB:=trans9 kB b12;refine hK.out _ _ kB (fun hHeld => ?_);clear hK K hHeld
              (try simp only[Act.put,sI,sZ,sS])
              refine tk9 16 kB ?_;refine tk9 17 kB ?_;refine tk9 18 kB ?_;refine tk9 19 kB ?_;refine tk9 20 kB ?_;refine tk9 21 kB ?_;refine tk9 22 kB ?_;refine tk9 23 kB ?_ (hy:=Or.inl ⟨by rfl,by intro x hSw;(try dsimp only at hSw);have y0:=(hSw.cell (p:=⟨bc,0,none⟩) zbc).trans kbc0;first|(go_simp;done)|(go_simp;with_reducible rfl)⟩);refine tk9 24 kB ?_;refine tk9 25 kB ?_ (hy:=Or.inl ⟨by rfl,by intro x hSw;(try dsimp only at hSw);have y0:=(hSw.cell (p:=⟨b8,0,none⟩) zb8).trans kb80;first|(go_simp;done)|(go_simp;with_reducible rfl)⟩);refine tk9 26 kB ?_;refine tk9 27 kB ?_;refine tk9 28 kB ?_;refine tk9 29 kB ?_;refine tk9 30 kB ?_ (hy:=Or.inl ⟨by rfl,by intro x hSw;(try dsimp only at hSw);have y0:=(hSw.cell (p:=⟨bc,0,none⟩) zbc).trans kbc0;first|(go_simp;done)|(go_simp;with_reducible rfl)⟩);refine tk9 31 kB ?_;refine tk9 32 kB ?_ (hy:=Or.inl ⟨by rfl,by intro x hSw;(try dsimp only at hSw);have y0:=(hSw.cell (p:=⟨b8,0,none⟩) zb8).trans kb80;first|(go_simp;done)|(go_simp;with_reducible rfl)⟩);refine tk9 33 kB ?_;refine tk9 34 kB ?_;refine tk9 35 kB ?_;refine tk9 36 kB ?_ (hy:=Or.inl ⟨by rfl,by intro x hSw;(try dsimp only at hSw);have y0:=(hSw.cell (p:=⟨bc,1,none⟩) zbc).trans kbc1;first|(go_simp;done)|(go_simp;with_reducible rfl)⟩);refine tk9 37 kB ?_;refine tk9 38 kB ?_ (hy:=Or.inl ⟨by rfl,by intro x hSw;(try dsimp only at hSw);have y0:=(hSw.cell (p:=⟨b8,1,none⟩) zb8).trans kb81;first|(go_simp;done)|(go_simp;with_reducible rfl)⟩);refine tk9 39 kB ?_;refine tk9 40 kB ?_;refine tk9 41 kB ?_;refine tk9 42 kB ?_;refine wpAnyH_done (by kernel_rfl) ?_ _;refine NoPanic.normal ?_;go_wp2_with fail
              go_meet
              exact⟨by rw[HR.out],kB⟩
            ·have e3:(X==A)=false:=beq_eq_false_iff_ne.2 hE;have HR:=Lh (HR0.out.trans (show _=false from by simp only[hXY,hXA,decide_true,decide_false,decide_eq_false hE];rfl));clear hXY hXA hE HR0;refine wp_region_noPanic ?_;refine wp_region_held_drew (S:=fun X=>Below w9.heap.size w9 X) (by kernel_rfl) ?_ (fun hHeld => ?_)
             ·exact Below.drew (Below.refl _ _)
             have kB:Below w9.heap.size w9 w9.drew:=Below.drew (Below.refl _ _);clear hHeld;refine tk9 0 kB ?_;refine tk9 1 kB ?_ (hy:=Or.inl ⟨by rfl,by intro x hSw;(try dsimp only at hSw);have y0:=(hSw.cell (p:=⟨bc,0,none⟩) zbc).trans kbc0;first|(go_simp;done)|(go_simp;with_reducible rfl)⟩);refine tk9 2 kB ?_;refine tk9 3 kB ?_ (hy:=Or.inl ⟨by rfl,by intro x hSw;(try dsimp only at hSw);have y0:=(hSw.cell (p:=⟨bc,1,none⟩) zbc).trans kbc1;first|(go_simp;done)|(go_simp;with_reducible rfl)⟩);refine tk9 4 kB ?_;refine tk9 5 kB ?_;refine tk9 6 kB ?_;refine tk9 7 kB ?_;refine tk9 8 kB ?_;refine tk9 9 kB ?_ (hy:=Or.inl ⟨by rfl,by intro x hSw;(try dsimp only at hSw);have y0:=(hSw.cell (p:=⟨bc,0,none⟩) zbc).trans kbc0;first|(go_simp;done)|(go_simp;with_reducible rfl)⟩);refine tk9 11 kB ?_;refine tk9 12 kB ?_;refine tk9 13 kB ?_;refine tk9 14 kB ?_ (hy:=Or.inl ⟨by rfl,by intro x hSw;(try dsimp only at hSw);have y0:=(hSw.cell (p:=⟨bc,1,none⟩) zbc).trans kbc1;first|(go_simp;done)|(go_simp;with_reducible rfl)⟩);refine wpAnyH_ready (rs:=[10]) (by kernel_rfl) (by simp) ?_;refine ar9 fun K hK => ?_
             try go_simp
             refine(n1.out _).mono ?_;rintro e w11 ⟨rfl,b11⟩;replace kB:=trans9 kB b11;refine hK.out _ _ kB (fun hHeld => ?_);clear hK K hHeld
             (try simp only[Act.put,sI,sZ,sS])
             refine wpAnyH_ready (rs:=[15]) (by kernel_rfl) (by simp) ?_;refine ar9 fun K hK => ?_
             try go_simp
             refine(n2.out _).mono ?_;rintro e w12 ⟨rfl,b12⟩;replace kB:=trans9 kB b12;refine hK.out _ _ kB (fun hHeld => ?_);clear hK K hHeld
             (try simp only[Act.put,sI,sZ,sS])
             refine tk9 16 kB ?_;refine tk9 17 kB ?_;refine tk9 18 kB ?_;refine tk9 19 kB ?_;refine tk9 20 kB ?_;refine tk9 21 kB ?_;refine tk9 22 kB ?_;refine tk9 23 kB ?_ (hy:=Or.inl ⟨by rfl,by intro x hSw;(try dsimp only at hSw);have y0:=(hSw.cell (p:=⟨bc,0,none⟩) zbc).trans kbc0;first|(go_simp;done)|(go_simp;with_reducible rfl)⟩);refine tk9 24 kB ?_;refine tk9 25 kB ?_ (hy:=Or.inl ⟨by rfl,by intro x hSw;(try dsimp only at hSw);have y0:=(hSw.cell (p:=⟨b8,0,none⟩) zb8).trans kb80;first|(go_simp;done)|(go_simp;with_reducible rfl)⟩);refine tk9 26 kB ?_;refine tk9 27 kB ?_;refine tk9 28 kB ?_;refine tk9 29 kB ?_;refine tk9 30 kB ?_ (hy:=Or.inl ⟨by rfl,by intro x hSw;(try dsimp only at hSw);have y0:=(hSw.cell (p:=⟨bc,0,none⟩) zbc).trans kbc0;first|(go_simp;done)|(go_simp;with_reducible rfl)⟩);refine tk9 31 kB ?_;refine tk9 32 kB ?_ (hy:=Or.inl ⟨by rfl,by intro x hSw;(try dsimp only at hSw);have y0:=(hSw.cell (p:=⟨b8,0,none⟩) zb8).trans kb80;first|(go_simp;done)|(go_simp;with_reducible rfl)⟩);refine tk9 33 kB ?_;refine tk9 34 kB ?_;refine tu9 35 kB ?_;refine tu9 36 kB ?_;refine tu9 37 kB ?_;refine tu9 38 kB ?_;refine tu9 39 kB ?_;refine tk9 40 kB ?_;refine tk9 41 kB ?_;refine tk9 42 kB ?_;refine wpAnyH_done (by kernel_rfl) ?_ _;refine NoPanic.normal ?_;go_wp2_with fail
             go_meet
             exact⟨by rw[HR.out],kB⟩
        ·have e2:(fx==fy)=false:=beq_eq_false_iff_ne.2 hff;have HR:=Lh (HR0.out.trans (show _=false from by simp[hff]));clear hXY hff HR0;refine wp_region_noPanic ?_;refine wp_region_held_drew (S:=fun X=>Below w9.heap.size w9 X) (by kernel_rfl) ?_ (fun hHeld => ?_)
         ·exact Below.drew (Below.refl _ _)
         have kB:Below w9.heap.size w9 w9.drew:=Below.drew (Below.refl _ _);clear hHeld;refine tk9 0 kB ?_;refine tk9 1 kB ?_ (hy:=Or.inl ⟨by rfl,by intro x hSw;(try dsimp only at hSw);have y0:=(hSw.cell (p:=⟨bc,0,none⟩) zbc).trans kbc0;first|(go_simp;done)|(go_simp;with_reducible rfl)⟩);refine tk9 2 kB ?_;refine tk9 3 kB ?_ (hy:=Or.inl ⟨by rfl,by intro x hSw;(try dsimp only at hSw);have y0:=(hSw.cell (p:=⟨bc,1,none⟩) zbc).trans kbc1;first|(go_simp;done)|(go_simp;with_reducible rfl)⟩);refine tk9 4 kB ?_;refine tk9 5 kB ?_;refine tk9 6 kB ?_;refine tk9 7 kB ?_;refine tk9 8 kB ?_;refine tk9 9 kB ?_ (hy:=Or.inl ⟨by rfl,by intro x hSw;(try dsimp only at hSw);have y0:=(hSw.cell (p:=⟨bc,0,none⟩) zbc).trans kbc0;first|(go_simp;done)|(go_simp;with_reducible rfl)⟩);refine tk9 11 kB ?_;refine tk9 12 kB ?_;refine tk9 13 kB ?_;refine tk9 14 kB ?_ (hy:=Or.inl ⟨by rfl,by intro x hSw;(try dsimp only at hSw);have y0:=(hSw.cell (p:=⟨bc,1,none⟩) zbc).trans kbc1;first|(go_simp;done)|(go_simp;with_reducible rfl)⟩);refine wpAnyH_ready (rs:=[10]) (by kernel_rfl) (by simp) ?_;refine ar9 fun K hK => ?_
         try go_simp
         refine(n1.out _).mono ?_;rintro e w11 ⟨rfl,b11⟩;replace kB:=trans9 kB b11;refine hK.out _ _ kB (fun hHeld => ?_);clear hK K hHeld
         (try simp only[Act.put,sI,sZ,sS])
         refine wpAnyH_ready (rs:=[15]) (by kernel_rfl) (by simp) ?_;refine ar9 fun K hK => ?_
         try go_simp
         refine(n2.out _).mono ?_;rintro e w12 ⟨rfl,b12⟩;replace kB:=trans9 kB b12;refine hK.out _ _ kB (fun hHeld => ?_);clear hK K hHeld
         (try simp only[Act.put,sI,sZ,sS])
         refine tk9 16 kB ?_;refine tk9 17 kB ?_;refine tk9 18 kB ?_;refine tu9 19 kB ?_;refine tu9 20 kB ?_;refine tu9 21 kB ?_;refine tu9 22 kB ?_;refine tu9 23 kB ?_;refine tu9 24 kB ?_;refine tu9 25 kB ?_;refine tu9 26 kB ?_;refine tu9 27 kB ?_;refine tu9 28 kB ?_;refine tu9 29 kB ?_;refine tu9 30 kB ?_;refine tu9 31 kB ?_;refine tu9 32 kB ?_;refine tu9 33 kB ?_;refine tu9 34 kB ?_;refine tu9 35 kB ?_;refine tu9 36 kB ?_;refine tu9 37 kB ?_;refine tu9 38 kB ?_;refine tu9 39 kB ?_;refine tu9 40 kB ?_;refine tu9 41 kB ?_;refine tk9 42 kB ?_;refine wpAnyH_done (by kernel_rfl) ?_ _;refine NoPanic.normal ?_;go_wp2_with fail
         go_meet
         exact⟨by rw[HR.out],kB⟩
       ·have d1:Op.bytesLess X Y=false:=by rw[bl_lt];exact decide_eq_false hXY
        have HR:=Lh (HR0.out.trans (show _=false from by simp[hXY]));clear hXY HR0;refine wp_region_noPanic ?_;refine wp_region_held_drew (S:=fun X=>Below w9.heap.size w9 X) (by kernel_rfl) ?_ (fun hHeld => ?_)
        ·exact Below.drew (Below.refl _ _)
        have kB:Below w9.heap.size w9 w9.drew:=Below.drew (Below.refl _ _);clear hHeld;refine tk9 0 kB ?_;refine tk9 1 kB ?_ (hy:=Or.inl ⟨by rfl,by intro x hSw;(try dsimp only at hSw);have y0:=(hSw.cell (p:=⟨bc,0,none⟩) zbc).trans kbc0;first|(go_simp;done)|(go_simp;with_reducible rfl)⟩);refine tk9 2 kB ?_;refine tk9 3 kB ?_ (hy:=Or.inl ⟨by rfl,by intro x hSw;(try dsimp only at hSw);have y0:=(hSw.cell (p:=⟨bc,1,none⟩) zbc).trans kbc1;first|(go_simp;done)|(go_simp;with_reducible rfl)⟩);refine tk9 4 kB ?_;refine tk9 5 kB ?_;refine tu9 6 kB ?_;refine tu9 7 kB ?_;refine tu9 8 kB ?_;refine tu9 9 kB ?_;refine tu9 10 kB ?_;refine tu9 11 kB ?_;refine tu9 12 kB ?_;refine tu9 13 kB ?_;refine tu9 14 kB ?_;refine tu9 15 kB ?_;refine tu9 16 kB ?_;refine tk9 17 kB ?_;refine tk9 18 kB ?_;refine tu9 19 kB ?_;refine tu9 20 kB ?_;refine tu9 21 kB ?_;refine tu9 22 kB ?_;refine tu9 23 kB ?_;refine tu9 24 kB ?_;refine tu9 25 kB ?_;refine tu9 26 kB ?_;refine tu9 27 kB ?_;refine tu9 28 kB ?_;refine tu9 29 kB ?_;refine tu9 30 kB ?_;refine tu9 31 kB ?_;refine tu9 32 kB ?_;refine tu9 33 kB ?_;refine tu9 34 kB ?_;refine tu9 35 kB ?_;refine tu9 36 kB ?_;refine tu9 37 kB ?_;refine tu9 38 kB ?_;refine tu9 39 kB ?_;refine tu9 40 kB ?_;refine tu9 41 kB ?_;refine tk9 42 kB ?_;refine wpAnyH_done (by kernel_rfl) ?_ _;refine NoPanic.normal ?_;go_wp2_with fail
        go_meet
        exact⟨by rw[HR.out],kB⟩
      case rest =>
       obtain⟨rfl,HB2⟩:=hcut;have hb8:=Hb8.out;subst hb8;clear Hb8;have R2:=HB.out.1.below HB2.out;have ebc:=(HB2.out.block bc zbc).trans HB.out.2.2;clear kbc0 kbc1 kb80 kb81
       cases hv:rcV (Ch.loss P S) (pA o) (pB o) o.isSome X Y with
       | false =>
         have HS2:=Lh (show Co.collTo (Ch.loss P S) (nms n ls) i (k+1)=o by rw[HS.out,hv];rfl);have HR2:=Lh R2;clear hv R2 HS;go_wp2_with fail;go_roundw;case rel=>exact ⟨k+1,hkn,by rw[HS2.out],by go_num,by rw[HS2.out];exact HR2.out⟩
         case measure=>simp [intOf];omega
       | true =>
         have HS2:=Lh (show Co.collTo (Ch.loss P S) (nms n ls) i (k+1)=some (X,Y) by rw[HS.out,hv];rfl);have e8:=R2.e8;have kbc0:wc.cell? ⟨bc,0,none⟩=some (.string (str X)):=by rw[cell_of_row _ _ 0 _ _ _ ebc];rfl
         have kbc1:wc.cell? ⟨bc,1,none⟩=some (.string (str Y)):=by rw[cell_of_row _ _ 1 _ _ _ ebc];rfl
         have kb80:wc.cell? ⟨w.heap.size+1,0,none⟩=some (.string (str (pA o))):=by rw[cell_of_row _ _ 0 _ _ _ e8];rfl
         have kb81:wc.cell? ⟨w.heap.size+1,1,none⟩=some (.string (str (pB o))):=by rw[cell_of_row _ _ 1 _ _ _ e8];rfl
         have fb80:wc.frozen? ⟨w.heap.size+1,0,none⟩=false:=Lib.frozen_of_heap e8 0;have fb81:wc.frozen? ⟨w.heap.size+1,1,none⟩=false:=Lib.frozen_of_heap e8 1;have R3:=R2.put X Y;have HR2:=Lh R3;clear hv R2 R3 HS e8 ebc;go_wp2_with fail;go_roundw;case rel=>exact ⟨k+1,hkn,by rw[HS2.out];rfl,by go_num,by rw[HS2.out];exact HR2.out⟩
         case measure=>simp [intOf];omega
    ·obtain rfl:k=n:=by omega
     have d2:decide ((k:Int)<(k:Int))=false:=decide_eq_false (by omega);have d2':decide (k<k)=false:=decide_eq_false (by omega);have HS2:=Lh (show Co.collTo (Ch.loss P S) (nms k ls) (i+1) 0=Co.collTo (Ch.loss P S) (nms k ls) i k by rw[Co.collTo_next _ _ _ (by rw[HL.out];exact hin),HL.out]);go_wp2_with fail;go_roundw;case rel=>exact ⟨i+1,hin,by rw[HS2.out],by go_num,by rw[HS2.out];exact H.out⟩
     case measure=>simp [intOf];omega
  ·obtain rfl:i=n:=by omega
   have d1:decide ((i:Int)<(i:Int))=false:=decide_eq_false (by omega);have d1':decide (i<i)=false:=decide_eq_false (by omega);have HO:=Lh (show Co.collTo (Ch.loss P S) (nms i ls) i 0=Co.collO (Ch.loss P S) (nms i ls) by unfold Co.collO;rw[HL.out]);rw[HO.out] at H;rw[HO.out];have Hb8:=Lh (show ∃b8,w.heap.size+1=b8 from⟨_,rfl⟩);obtain⟨b8,hb8⟩:=Hb8.out;generalize hO:Co.collO (Ch.loss P S) (nms i ls)=o at *;have HOo:=Lh hO;clear hO;have e8:=H.out.e8;have e6:=H.out.e6;have kb80:wr.cell? ⟨w.heap.size+1,0,none⟩=some (.string (str (pA o))):=by rw[cell_of_row _ _ 0 _ _ _ e8];rfl
   have kb81:wr.cell? ⟨w.heap.size+1,1,none⟩=some (.string (str (pB o))):=by rw[cell_of_row _ _ 1 _ _ _ e8];rfl
   have kb60:wr.cell? ⟨w.heap.size,0,none⟩=some (.string ⟨#[]⟩):=by rw[cell_of_row _ _ 0 _ _ _ e6];rfl
   have kb61:wr.cell? ⟨w.heap.size,1,none⟩=some (.string ⟨#[]⟩):=by rw[cell_of_row _ _ 1 _ _ _ e6];rfl
   have fb60:wr.frozen? ⟨w.heap.size,0,none⟩=false:=Lib.frozen_of_heap e6 0;have fb61:wr.frozen? ⟨w.heap.size,1,none⟩=false:=Lib.frozen_of_heap e6 1;clear hb8;have e61:=set_heap _ w.heap.size 1 _ _ _ (.string (str (pB o))) (set_heap wr w.heap.size 0 _ _ _ (.string (str (pA o))) e6);have y0:((wr.setCell ⟨w.heap.size,0,none⟩ (.string (str (pA o)))).setCell ⟨w.heap.size,1,none⟩ (.string (str (pB o)))).cell? ⟨w.heap.size,0,none⟩=some (.string (str (pA o))):=by rw[cell_of_row _ _ 0 _ _ _ e61];rfl
   have y1:((wr.setCell ⟨w.heap.size,0,none⟩ (.string (str (pA o)))).setCell ⟨w.heap.size,1,none⟩ (.string (str (pB o)))).cell? ⟨w.heap.size,1,none⟩=some (.string (str (pB o))):=by rw[cell_of_row _ _ 1 _ _ _ e61];rfl
   have HE:=Lh e61;clear e61 e6 e8;go_wp2_with fail;refine bodyPost_ret (v := .tuple #[.agg #[.string (str (pA o)),.string (str (pB o))],.bool o.isSome]) (by simp[results,Tryz.results57,go_sem,y0,y1]) rfl ⟨by rw[HOo.out,collV_is],(H.out.bl.setCell (p:=⟨w.heap.size,0,none⟩) (Nat.le_refl _) _).setCell (p:=⟨w.heap.size,1,none⟩) (Nat.le_refl _) _⟩
end Go.Proofs.YtbapneipjmpcbaaGreatDoor
namespace Go.Proofs.YtbapneipjmpcbaaGreatDoor
open Go.RowKit Go.Sort Dc
attribute [local go_sem ↓] Go.wp_at_zero Go.wp_at_succ
structure Cl (W0 wr:World) (v6 v7:Value) (NF LA:List (List UInt8)):Prop where
 o6:Kt.Own wr W0.heap.size v6 NF
 o7:Kt.Own wr W0.heap.size v7 LA
 ap : ∀b,v6.ownBlock=some b→v7.ownBlock≠some b
 bl:Below W0.heap.size W0 wr
theorem Cl.nil (W0:World):Cl W0 W0 (.slice none 0 0) (.slice none 0 0) [] []:=⟨KOwn.nil _ _ _ _ _,KOwn.nil _ _ _ _ _,(fun b hb=>by cases hb),Below.refl _ _⟩
theorem Cl.add6 {W0 wr w5:World} {v6 v7 v5:Value} {NF LA N:List (List UInt8)} {o:Obj} (h:Cl W0 wr v6 v7 NF LA) (o5:Kt.Own w5 W0.heap.size v5 N) (g:(wr.alloc o).grownBy w5 v6.ownBlock) (p:v5.ownBlock=v6.ownBlock∨v5.ownBlock=some (wr.alloc o).heap.size):Cl W0 w5 v5 v7 N LA:=by
 have ka:=kp_alloc (Below.refl wr.heap.size wr) o;have hz:(wr.alloc o).heap.size=wr.heap.size+1:=by simp
 refine⟨o5,Kt.ofBlock h.o7 fun b hb => ?_,fun b hb => ?_,?_⟩
 ·have hlt:=own_lt h.o7 b hb;rw[g.block b (by omega) (fun e=>h.ap b e.symm hb)];exact ka.block b hlt
 ·rcases p with p|p
  ·exact h.ap b (by rw[←p];exact hb)
  ·intro e;have hlt:=own_lt h.o7 b e;rw[p] at hb;have:=Option.some.inj hb;omega
 ·exact Below.grown (kp_alloc h.bl o) g (Nat.le_trans h.bl.size ka.size) (fun q hq=>own_ge h.o6 q hq)
theorem Cl.add7 {W0 wr w5:World} {v6 v7 v5:Value} {NF LA N:List (List UInt8)} (h:Cl W0 wr v6 v7 NF LA) (o5:Kt.Own w5 W0.heap.size v5 N) (g:wr.grownBy w5 v7.ownBlock) (p:v5.ownBlock=v7.ownBlock ∨ ∃b,v5.ownBlock=some b∧wr.heap.size≤b):Cl W0 w5 v6 v5 NF N:=by
 refine⟨Kt.ofBlock h.o6 fun b hb => ?_,o5,fun b hb => ?_,Below.grown h.bl g h.bl.size (fun q hq=>own_ge h.o7 q hq)⟩
 ·exact g.block b (own_lt h.o6 b hb) (fun e=>h.ap b hb e.symm)
 ·rcases p with p|⟨c,p,hc⟩
  ·rw[p];exact h.ap b hb
  ·intro e;have hlt:=own_lt h.o6 b hb;rw[p] at e;have:=Option.some.inj e;omega
theorem mem_addL {R:List (List UInt8)} {s n:List UInt8}:n∈addL R s↔n∈R∨n=s:=by
 unfold addL;split
 ·rename_i h;exact⟨Or.inl,fun k=>k.elim id fun e=>by rw[e];exact h⟩
 ·rw[List.mem_append,List.mem_singleton]
theorem addL_len (R:List (List UInt8)) (s:List UInt8):(addL R s).length≤R.length+1:=by
 unfold addL;split
 ·omega
 ·simp
theorem famN_take {l:List Fp} {k:Nat} {x:Fp} (h:l[k]? = some x):Lg.famN (l.take (k+1))=Lg.famN (l.take k)++[x.1.n]:=by
 obtain⟨hk,rfl⟩:=List.getElem?_eq_some_iff.1 h;rw[List.take_succ_eq_append_getElem hk];unfold Lg.famN;rw[List.map_append];rfl
theorem labN_take {l:List Fp} {k:Nat} {x:Fp} (h:l[k]? = some x) {n:List UInt8}:n∈Lg.labN (l.take (k+1))↔n∈Lg.labN (l.take k)∨n∈Lg.labP x.2:=by
 obtain⟨hk,rfl⟩:=List.getElem?_eq_some_iff.1 h;rw[List.take_succ_eq_append_getElem hk];unfold Lg.labN;rw[List.flatMap_append,List.mem_append];simp
theorem labP_take {l:List Pt} {k:Nat} {x:Pt} (h:l[k]? = some x) {n:List UInt8}:n∈Lg.labP (l.take (k+1))↔n∈Lg.labP (l.take k)∨n∈Lg.labL x.l:=by
 obtain⟨hk,rfl⟩:=List.getElem?_eq_some_iff.1 h;rw[List.take_succ_eq_append_getElem hk];unfold Lg.labP;rw[List.flatMap_append,List.mem_append];simp
theorem labL_take {l:List Lb} {k:Nat} {x:Lb} (h:l[k]? = some x) {n:List UInt8}:n∈Lg.labL (l.take (k+1))↔n∈Lg.labL (l.take k)∨n=x.1:=by
 obtain⟨hk,rfl⟩:=List.getElem?_eq_some_iff.1 h;rw[List.take_succ_eq_append_getElem hk];unfold Lg.labL;rw[List.map_append,List.mem_append];simp
def met (F:List Fp) (P:List Pt) (l:List Lb) (R:List (List UInt8)):Prop := ∀n,n∈R↔n∈Lg.labN F∨n∈Lg.labP P∨n∈Lg.labL l
theorem met_zero:met [] [] [] []:=fun n=>by simp[Lg.labN,Lg.labP,Lg.labL]
theorem met_lab {F:List Fp} {P:List Pt} {l:List Lb} {R:List (List UInt8)} {k:Nat} {x:Lb} (h:met F P (l.take k) R) (hx:l[k]? = some x):met F P (l.take (k+1)) (addL R x.1):=fun n=>by
 rw[mem_addL,h n,labL_take hx,or_assoc,or_assoc]
theorem met_pt {F:List Fp} {P:List Pt} {R:List (List UInt8)} {k:Nat} {x:Pt} (h:met F (P.take k) x.l R) (hx:P[k]? = some x):met F (P.take (k+1)) [] R:=fun n=>by
 rw[h n,labP_take hx];simp[Lg.labL]
theorem met_fam {F:List Fp} {R:List (List UInt8)} {k:Nat} {x:Fp} (h:met (F.take k) x.2 [] R) (hx:F[k]? = some x):met (F.take (k+1)) [] [] R:=fun n=>by
 rw[h n,labN_take hx];simp[Lg.labL,Lg.labP]
theorem met_all {F:List Fp} {R:List (List UInt8)} (h:met F [] [] R) (f:Co.Bs→Co.Bs):Co.collO f R=Co.collO f (Lg.labN F):=Co.collO_same f fun n=>by
 rw[h n];simp[Lg.labL,Lg.labP]
theorem rclash_calls (p:Int) (t:List UInt8) (F:List Fs) (v:Value) (w:World) (hv:FmRow w v F) (hc:chk t (fms F)=0) :
 Calls Tryz.prog 30 #[.int .i64 p,batv t v] w fun e w'=>e = .returned (collV (Lg.clB p (fms F)))∧Below w.heap.size w w':=by
 have k0:=kp_alloc (kp_alloc (Below.refl w.heap.size w) (.cells #[.string (str t),v] 24)) (.cells #[.string ⟨#[]⟩,.string ⟨#[]⟩] 30);have F0:=(BatAt.new w t v 24).below (kp_alloc (Below.refl (w.alloc (.cells #[.string (str t),v] 24)).heap.size (w.alloc (.cells #[.string (str t),v] 24))) (.cells #[.string ⟨#[]⟩,.string ⟨#[]⟩] 30));have HP:=Lh hv.2;obtain⟨A,cap,rfl,hlc,hcm,hnil,hrow⟩:=hv.1;unfold maxLen at hcm;have HR:=Lh hrow;have HC:=Lh hc;have hF30:F.length≤30:=by have:=(chk_zero hc).2.1;rwa [List.length_map] at this
 have HNP:Hid (nPts (fms F)≤120):=Lh (chk_zero hc).2.2;have K0:=Lh k0;have HF0:=Lh F0;clear hnil hv hrow k0 F0 hc;go_enter Tryz.func30,Tryz.ntmps30;go_upto_region 1 with fail;obtain⟨W0,hW0⟩ : ∃W,W=(w.alloc (.cells #[.string (str t),.slice A F.length cap] 24)).alloc (.cells #[.string ⟨#[]⟩,.string ⟨#[]⟩] 30):=⟨_,rfl⟩
 have HF1:Hid (BatAt W0 w.heap.size t (.slice A F.length cap)):=Lh (by rw[hW0];exact HF0.out);have K1:Hid (Below w.heap.size w W0):=Lh (by rw[hW0];exact K0.out);have HG1:Hid (BatAt W0 (w.heap.size+1) [] (.string ⟨#[]⟩)):=Lh (by
  have h:=BatAt.new (w.alloc (.cells #[.string (str t),.slice A F.length cap] 24)) [] (.string ⟨#[]⟩) 30;rw[show(w.alloc (.cells #[.string (str t),.slice A F.length cap] 24)).heap.size=w.heap.size+1 by simp] at h;rw[hW0];exact h)
 rw[←hW0];clear hW0 HF0 K0;have HK:=Lh (fun X (h:Below W0.heap.size W0 X)=>show Below w.heap.size w X from trans9 K1.out h);go_wp2_with fail;go_loopw [6,7,8] (fun v6 v7 s wr => ∃(i:Nat) (p6 p7:Value) (LA:List (List UInt8)),p6=v6∧p7=v7∧i≤F.length∧s = .int .i64 (i:Nat)∧Hid (Cl W0 wr p6 p7 (Lg.famN ((fms F).take i)) LA)∧Hid (met ((fms F).take i) [] [] LA)∧Hid (LA.length≤8*nPts ((fms F).take i))) (fun _ _ s _=>F.length-(intOf s).toNat);case atStart=>exact ⟨0,_,_,[],rfl,rfl,Nat.zero_le _,rfl,Lh (Cl.nil W0),Lh met_zero,Lh (Nat.zero_le _)⟩
 case round =>
  obtain⟨i,p6,p7,LA,rfl,rfl,hi,rfl,HCl,HM,HLn⟩:=hrel;obtain⟨x0,x1,xf,xl⟩:=HF1.out.below HCl.out.bl;by_cases hil:i<F.length
  ·obtain⟨b,off,rfl,hbs,hcc⟩:=HR.out (by omega);obtain⟨x,hx,hxp⟩:=fs_get hil;have hmx:=List.mem_of_getElem? hx;have hxi:=HP.out x hmx;obtain⟨c0,_,_,_,c4⟩:=fr_cells hcc hx;obtain⟨A1,cap1,hx1,hlc1,hcm1,_,hrow1⟩:=hxi.1.1;unfold maxLen at hcm1;have HR1:=Lh hrow1;have HP1:=Lh hxi.1.2;have h8 : ∀y∈x.L,y.2.l.length≤8:=fun y hy=>(Lg.goodL_iff.1 (Lg.ptOk_iff.1 (Lg.chk_pt HC.out (List.mem_of_getElem? hxp) (List.mem_map_of_mem hy))).2.1).1;have H8:=Lh h8;have hfn:=famN_take hxp;have hnp:=nPts_take hxp;have hle:nPts ((fms F).take (i+1))≤120:=Nat.le_trans (by
    have h1:nPts (fms F)=nPts ((fms F).take (i+1))+nPts ((fms F).drop (i+1)):=by
     conv=>lhs;rw[←List.take_append_drop (i+1) (fms F)]
     unfold nPts;rw[List.map_append,List.sum_append]
    omega) HNP.out
   have hxl:(fm x).2.length=x.L.length:=by simp[pts]
   rw[hxl] at hnp;rw[hnp] at hle;have HNx:=Lh hnp;have HFN:=Lh hfn;have HXP:=Lh hxp;obtain⟨⟨xn,xk,xu,xh⟩,xv,L⟩:=x;simp only at hx1 hlc1 hcm1 c0 c4 HR1 HP1 H8 HNx hle;subst hx1;have HC4:=Lh (fun X (h:Below W0.heap.size W0 X)=>((HK.out _ h).cell (p:=⟨b,off+i*5+4,none⟩) hbs).trans c4);have r0:=((HK.out _ HCl.out.bl).cell (p:=⟨b,off+i*5,none⟩) hbs).trans c0;have ho:=own_alloc HCl.out.o6 (.cells #[.string (str xn)] 9);have hw:=Kt.new wr xn;have hlt1:(Lg.famN ((fms F).take i)).length+([xn]:List (List UInt8)).length≤2000:=by simp[Lg.famN,fms];omega
   have hlt2:W0.heap.size≤(wr.alloc (.cells #[.string (str xn)] 9)).heap.size:=by have:=HCl.out.bl.size;simp;omega
   have HLn2:Hid (LA.length≤8*nPts ((fms F).take i)):=HLn;generalize nPts ((fms F).take i)=q at *;clear hcc c0 c4 hx hxp hmx hxi hrow1 h8 hfn hnp hxl;go_wp2_with (at_builtin;refine Kt.wpList_append_knew Kt.ty Kt.len (by rfl) _ _ (by rfl) _ _ _ (by rfl) ho _ [xn] (by rfl) hw (by simp) (fun x hx=>Kt.one x) hlt1 hlt2 ?_;intro v5 w5 o5 g5 p5)
   have HC2:Hid (Cl W0 w5 v5 p7 (Lg.famN ((fms F).take (i+1))) LA):=Lh (by rw[HFN.out];exact HCl.out.add6 o5 g5 p5);clear o5 g5 p5 ho hw hlt1 hlt2 r0 x0 x1 xf xl HCl HFN;go_wp2_with fail;go_loopw [7,9] (fun v7 s wz => ∃(j:Nat) (p7:Value) (LA:List (List UInt8)),p7=v7∧j≤L.length∧s = .int .i64 (j:Nat)∧Hid (Cl W0 wz v5 p7 (Lg.famN ((fms F).take (i+1))) LA)∧Hid (met ((fms F).take i) ((pts L).take j) [] LA)∧Hid (LA.length≤8*q+8*j)) (fun _ s _=>L.length-(intOf s).toNat);case atStart=>exact ⟨0,_,LA,rfl,Nat.zero_le _,rfl,HC2,HM,Lh (by have:=HLn2.out;omega)⟩
   case round =>
    clear HC2 HM HLn2 HLn;obtain⟨j,p7,LA,rfl,hj,rfl,HCl,HM,HLn⟩:=hrel;obtain⟨x0,x1,xf,xl⟩:=HF1.out.below HCl.out.bl;have r4:=HC4.out _ HCl.out.bl;by_cases hjl:j<L.length
    ·obtain⟨b1,off1,rfl,hbs1,hc1⟩:=HR1.out (by omega);obtain⟨y,hy,hyp⟩:=ps_get hjl;have hmy:=List.mem_of_getElem? hy;have hyi:=HP1.out y hmy;obtain⟨e0,_⟩:=pr_cells hc1 hy;obtain⟨A2,cap2,hy1,hlc2,hcm2,_,hrow2⟩:=hyi.1;unfold maxLen at hcm2;rw[hy1] at e0;have hy8:=H8.out y hmy;have e0:=((HK.out _ HCl.out.bl).cell (p:=⟨b1,off1+j*9,none⟩) hbs1).trans e0;have HR2:=Lh hrow2;have HMP:=Lh (fun(R:List (List UInt8)) (h:met ((fms F).take i) ((pts L).take j) y.2.l R)=>met_pt h hyp);generalize y.2.l=ls at *;clear hy hy1 hyi hrow2 hc1 hyp hmy;go_wp2_with fail;clear x0 x1 xf xl r4 e0;go_loopw [7,11] (fun v7 s wz => ∃(k:Nat) (p7:Value) (LA:List (List UInt8)),p7=v7∧k≤ls.length∧s = .int .i64 (k:Nat)∧Hid (Cl W0 wz v5 p7 (Lg.famN ((fms F).take (i+1))) LA)∧Hid (met ((fms F).take i) ((pts L).take j) (ls.take k) LA)∧Hid (LA.length≤8*q+8*j+k)) (fun _ s _=>ls.length-(intOf s).toNat);case atStart=>exact ⟨0,_,LA,rfl,Nat.zero_le _,rfl,HCl,HM,Lh (by have:=HLn.out;omega)⟩
     case round =>
      clear HCl HM HLn;obtain⟨k,p7,LA,rfl,hk,rfl,HCl,HM,HLn⟩:=hrel;by_cases hkl:k<ls.length
      ·obtain⟨b2,off2,rfl,hbs2,hc2⟩:=HR2.out (by omega);obtain⟨g0,_⟩:=hc2 k (lbAt ls k) (at_get hkl);have g0:=((HK.out _ HCl.out.bl).cell (p:=⟨b2,off2+k*2,none⟩) hbs2).trans g0;have hM2:=Lh (met_lab HM.out (at_get hkl));have hL2:=Lh (addL_len LA (lbAt ls k).1);generalize lbAt ls k=X at *;obtain⟨X1,X2⟩:=X;simp only at g0 hM2 hL2;have hadd:=Lh (radd_calls LA p7 W0.heap.size X1 _ HCl.out.o7 HCl.out.bl.size (by have:=HLn.out;omega));clear hc2 HM;go_wp2_with fail;refine hadd.out.mono ?_;rintro e w6 ⟨v6,rfl,o6,g6,p6⟩;have HC3:=Lh (HCl.out.add7 o6 g6 p6);have HL3:Hid ((addL LA X1).length≤8*q+8*j+(k+1)):=Lh (by have h1:=HLn.out;have h2:=hL2.out;omega);clear o6 g6 p6 hadd HCl HLn hL2 g0;go_wp2;go_roundw;case rel=>exact ⟨k+1,_,_,rfl,hkl,by go_num,HC3,hM2,HL3⟩
       case measure=>simp [intOf];omega
      ·have hek:ls.take k=ls:=List.take_of_length_le (by omega);have hM2:=Lh (HMP.out LA (by have:=HM.out;rwa [hek] at this));have HL3:Hid (LA.length≤8*q+8*(j+1)):=Lh (by have h1:=HLn.out;omega);clear HM HLn hek;go_wp2;go_roundw;case rel=>exact ⟨j+1,_,_,rfl,hjl,by go_num,HCl,hM2,HL3⟩
       case measure=>simp [intOf];omega
    ·have hek:(pts L).take j=pts L:=List.take_of_length_le (by simp[pts];omega);have hM2:=Lh (met_fam (x:=(⟨xn,xk,xu,xh⟩,pts L)) (by have:=HM.out;rwa [hek] at this) HXP.out);have HL3:Hid (LA.length≤8*nPts ((fms F).take (i+1))):=Lh (by have h1:=HLn.out;rw[HNx.out];omega);clear HM HLn hek;go_wp2;go_roundw;case rel=>exact ⟨i+1,_,_,_,rfl,rfl,hil,by go_num,HCl,hM2,HL3⟩
     case measure=>simp [intOf];omega
  ·have hfull:(fms F).take i=fms F:=List.take_of_length_le (by simp[fms];omega);rw[hfull] at HCl HM HLn;have hnF : ∀n∈Lg.famN (fms F),n.length≤60:=fun n hn=>(Lg.nameOk_len (Lg.chk_fn HC.out hn)).2;have hnL : ∀n∈LA,n.length≤60:=fun n hn=>(Lg.nameOk_len (Lg.chk_ln HC.out (by
    rcases(HM.out n).1 hn with h|h|h
    ·exact h
    ·simp[Lg.labP] at h
    ·simp[Lg.labL] at h))).2
   have small : ∀ {R:List (List UInt8)},(∀n∈R,n.length≤60)→(∀x∈R,x.length≤maxLen) ∧ ∀i,i<R.length→(R.getD i []).length≤4194304:=fun {R} h=>⟨fun x hx=>by have:=h x hx;unfold maxLen;omega,fun i hi=>by
    rw[List.getD_eq_getElem?_getD,List.getElem?_eq_getElem hi];have:=h _ (List.getElem_mem hi);simp only[Option.getD_some];omega⟩
   have hfl:(Lg.famN (fms F)).length≤10000:=by simp[Lg.famN,fms];omega
   have hll:LA.length≤10000:=by have h1:=HLn.out;have h2:=HNP.out;omega
   have call1:=Lh (rcoll_calls p 0 p6 _ _ wr hfl (Kt.toStr (KOwn.row Kt.len HCl.out.o6) (small hnF).1) (small hnF).2);have call2:=Lh (fun W (hb:Below wr.heap.size wr W)=>rcoll_calls p 1 p7 _ _ W hll (Kt.toStr (KOwn.row Kt.len (HCl.out.o7.below hb)) (small hnL).1) (small hnL).2);rw[show nms (Lg.famN (fms F)).length (fun i=>(Lg.famN (fms F)).getD i [])=Lg.famN (fms F) from Kt.names _] at call1;rw[show nms LA.length (fun i=>LA.getD i [])=LA from Kt.names _,met_all HM.out] at call2;have HG2:=Lh (fun X (h:Below wr.heap.size wr X)=>HG1.out.below (trans9 HCl.out.bl h));have HKr:=Lh (fun X (h:Below wr.heap.size wr X)=>HK.out X (trans9 HCl.out.bl h));clear HCl HM HLn hnF hnL small hfl hll hfull;have hcl:Lg.clB p (fms F)=(Co.collO (Ch.loss p 0) (Lg.famN (fms F))).or (Co.collO (Ch.loss p 1) (Lg.labN (fms F))):=rfl;generalize Co.collO (Ch.loss p 0) (Lg.famN (fms F))=O1 at *;generalize Co.collO (Ch.loss p 1) (Lg.labN (fms F))=O2 at *;have HCL:=Lh hcl;clear hcl
   cases O1 with
   | some c =>
     obtain⟨cA,cB⟩:=c;simp only[collV] at call1;clear call2;go_wp2_with fail;refine call1.out.mono ?_;rintro e w2 ⟨rfl,b2⟩;clear x0 x1 xf xl;obtain⟨y0,y1,yf,yl⟩:=HG2.out _ b2;have KB:=Lh (HKr.out _ b2);clear b2 call1;go_wp2;refine bodyPost_ret (v := .tuple #[.agg #[.string (str cA),.string (str cB)],.bool true]) (by simp[results,Tryz.results30,go_sem,y0,y1,yl]) rfl ⟨by rw[HCL.out];rfl,?_⟩
     repeat(first|exact KB.out|apply kp_alloc|refine Below.setCell ?_ (by show w.heap.size≤w.heap.size+1;omega) _)
   | none =>
     simp only[collV] at call1;go_wp2_with fail;refine call1.out.mono ?_;rintro e w2 ⟨rfl,b2⟩;clear x0 x1 xf xl;obtain⟨y0,y1,yf,yl⟩:=HG2.out _ b2;have KB:=Lh (HKr.out _ b2);have B2:=Lh b2;clear b2 call1;have BR:=Lh (show wr.heap.size≤w2.heap.size from B2.out.size);go_wp2_with fail;refine(call2.out _ (by repeat(first|exact B2.out|apply kp_alloc|refine Below.setCell ?_ BR.out _))).mono ?_;rintro e w3 ⟨rfl,b3⟩;have KB3:=Lh (trans9 (HKr.out _ (by repeat(first|exact B2.out|apply kp_alloc|refine Below.setCell ?_ BR.out _))) b3);have G3:=HG2.out w3 (trans9 (by repeat(first|exact B2.out|apply kp_alloc|refine Below.setCell ?_ BR.out _)) b3);clear y0 y1 yf yl b3;obtain⟨y0,y1,yf,yl⟩:=G3
     cases O2 with
     | none =>
       simp only[collV];go_wp2;refine bodyPost_ret (v := .tuple #[.agg #[.string ⟨#[]⟩,.string ⟨#[]⟩],.bool false]) (by simp[results,Tryz.results30,go_sem,y0,y1,yl]) rfl ⟨by rw[HCL.out];rfl,?_⟩
       repeat(first|exact KB3.out|apply kp_alloc|refine Below.setCell ?_ (by show w.heap.size≤w.heap.size+1;omega) _)
     | some c =>
       obtain⟨cA,cB⟩:=c;simp only[collV];go_wp2;refine bodyPost_ret (v := .tuple #[.agg #[.string (str cA),.string (str cB)],.bool true]) (by simp[results,Tryz.results30,go_sem,y0,y1,yl]) rfl ⟨by rw[HCL.out];rfl,?_⟩
       repeat(first|exact KB3.out|apply kp_alloc|refine Below.setCell ?_ (by show w.heap.size≤w.heap.size+1;omega) _)
end Go.Proofs.YtbapneipjmpcbaaGreatDoor
