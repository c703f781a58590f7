import Derived.Test.YtbapneipjmpcbaaGreatDoorFamX
import Derived.Test.YtbapneipjmpcbaaGreatDoorRfA
import Derived.Test.YtbapneipjmpcbaaGreatDoorLabS
set_option maxHeartbeats 16000000
set_option maxRecDepth 100000
set_option linter.unusedVariables false
set_option linter.unusedSimpArgs false
namespace Go.Proofs.YtbapneipjmpcbaaGreatDoor
open Go.RowKit Go.Sort
theorem elem_label:Tryz.prog.elem 52=58:=by
 simp[Program.elem,Tryz.underlying52]
theorem under_label:Tryz.prog.underlying 52=some (.slice (Tryz.prog.elem 52)):=by rw[elem_label];exact Tryz.underlying52
theorem lb_to {w:World} {v:Value} {l:List Lb} (hv:LbRow w v l) (k:Nat) (hk:k≤l.length) :
 ∃u,(∀W,(Instr.slice 52 v none (some (.int .i64 (k:Int))) none).run Tryz.prog W = .ok u W) ∧ ∀X,LbRow X v l→LbRow X u (l.take k):=by
 obtain⟨A,cap,rfl,hlc,hcm,hnil,_⟩:=hv;refine⟨sliced A 0 k cap 2,fun W => ?_,fun X hX => ?_⟩
 ·rw[run_slice_h W 52 A l.length cap under_label .i64 (k:Int) (by omega) (by omega),elem_label,Tryz.sizeOf58 W];simp[Result.andThen]
 ·obtain⟨A',cap',he,_,_,hn,hr⟩:=hX;simp only[Value.slice.injEq] at he;obtain⟨hA,_,hc⟩:=he;subst hA hc;refine⟨_,_,by unfold sliced;rw[List.length_take,Nat.min_eq_left hk,Nat.sub_zero],by rw[List.length_take];omega,by omega,fun h => ?_,fun h0 => ?_⟩
  ·cases A with
   | none=>rw [hn rfl]
   | some a=>split at h <;> simp at h
  ·rw[List.length_take] at h0;obtain⟨b,off,rfl,hb,hc⟩:=hr (by omega);refine⟨b,off,?_,hb,fun i p hp=>hc i p ?_⟩
   ·split
    ·rfl
    ·simp[Go.WideShapes.add_plain]
   ·rw[List.getElem?_take] at hp;split at hp
    ·exact hp
    ·cases hp
theorem lb_from {w:World} {v:Value} {l:List Lb} (hv:LbRow w v l) (k:Nat) (hk:k≤l.length) :
 ∃u,(∀W,(Instr.slice 52 v (some (.int .i64 (k:Int))) none none).run Tryz.prog W = .ok u W) ∧ ∀X,LbRow X v l→LbRow X u (l.drop k):=by
 obtain⟨A,cap,rfl,hlc,hcm,hnil,_⟩:=hv;refine⟨sliced A k l.length cap 2,fun W => ?_,fun X hX => ?_⟩
 ·rw[run_slice_l W 52 A l.length cap under_label .i64 (k:Int) (by omega) (by omega),elem_label,Tryz.sizeOf58 W];simp[Result.andThen]
 ·obtain⟨A',cap',he,_,_,hn,hr⟩:=hX;simp only[Value.slice.injEq] at he;obtain⟨hA,_,hc⟩:=he;subst hA hc;refine⟨_,_,by unfold sliced;rw[List.length_drop],by rw[List.length_drop];exact Nat.sub_le_sub_right hlc k,Nat.le_trans (Nat.sub_le _ _) hcm,fun h => ?_,fun h0 => ?_⟩
  ·cases A with
   | none=>rw [hn rfl];omega
   | some a=>split at h <;> simp at h
  ·rw[List.length_drop] at h0;have hne : ¬cap=k:=fun e=>Nat.ne_of_gt h0 (Nat.sub_eq_zero_of_le (by rw[←e];exact hlc));obtain⟨b,off,rfl,hb,hc⟩:=hr (Nat.lt_of_lt_of_le h0 (Nat.sub_le _ _));refine⟨b,off+k*2,?_,hb,fun i p hp => ?_⟩
   ·rw[if_neg hne];simp[Go.WideShapes.add_plain]
   ·rw[List.getElem?_drop] at hp;have:=hc (k+i) p hp;rw[show off+k*2+i*2=off+(k+i)*2 by omega];exact this
theorem own_mono {w:World} {base base':Nat} {v:Value} {l:List Lb} (h:LbOwn w base v l) (hb:base'≤base):LbOwn w base' v l:=by
 obtain⟨hl,h⟩:=h;refine⟨hl,?_⟩;rcases h with h|⟨g,cap,cur,rfl,hg,h2⟩
 ·exact Or.inl h
 ·exact Or.inr ⟨g,cap,cur,rfl,Nat.le_trans hb hg,h2⟩
theorem run_append_row (w:World) (ty base:Nat) (v:Value) (R:List Lb) (hown:LbOwn w base v R) (u:Value) (N:List Lb) (hu:LbRow w u N) (hn:R.length+N.length≤2000) (hbase:base≤w.heap.size) :
 ∃v' w',(Builtin.append_ #[52,52] ty #[v,u]).run Tryz.prog w = .ok v' w'∧LbOwn w' base v' (R++N)∧w.grownBy w' v.ownBlock:=by
 obtain⟨i0,hi0,hz0,hz1,hz2⟩:=info_parts label_info;obtain⟨A,cap,rfl,hlc,hcm,hnil,hrow⟩:=hu
 cases A with
 | none =>
   have h0:N.length=0:=by
    rcases Nat.eq_zero_or_pos N.length with h|h
    ·exact h
    ·obtain⟨_,_,h,_⟩:=hrow h;cases h
   obtain rfl:N=[]:=List.eq_nil_of_length_eq_zero h0;obtain rfl:=hnil rfl;refine⟨v,w,run_append_owned_none w base 52 ty 58 i0 2 Tryz.underlying52 hi0 v R.length (lbCells R) hown,by rw[List.append_nil];exact hown,?_⟩;exact⟨rfl,rfl,rfl,Nat.le_refl _,fun _ _ _=>rfl⟩
 | some ad =>
   have hnews : ∀j u,(lbCells N)[j]? = some u→w.cell? (ad.add j)=some u:=by
    intro j u hu;have hpos:0<N.length:=by
     rcases Nat.eq_zero_or_pos N.length with h|h
     ·obtain rfl:=List.eq_nil_of_length_eq_zero h;simp[lbCells] at hu
     ·exact h
    obtain⟨b,off,he,hbs,hc⟩:=hrow hpos;obtain rfl:ad=⟨b,off,none⟩:=by simpa using he
    exact LbRow.news (n:=0) (cap:=0) hc j u hu
   obtain⟨v',w',hr,h2,h3,_⟩:=run_append_own_at (P:=Tryz.prog) w base 52 ty 58 i0 _ 2 32 Tryz.underlying52 hi0 hz0 hz1 hz2 rfl (by omega) v R.length (lbCells R) hown ad N.length cap (lbCells N) (lbCells_len N) hnews (lbCells_one N) (by unfold maxLen;omega) (by omega) hbase;refine⟨v',w',hr,?_,h3⟩;unfold LbOwn;rw[List.length_append,lbCells_app];exact h2
theorem wp_append_row {w:World} {o:Oper} {a:Act} {K:Act→World→Prop} {Q:Exit→Act→World→Prop} (s x:Operand)
 (ho:o.op = .call {callee := .builtin .append,args:=#[s,x],argTypes:=#[52,52]}) (base:Nat) (v:Value) (R:List Lb) (hs:a.eval s=v) (hown:LbOwn w base v R)
 (u:Value) (N:List Lb) (hx:a.eval x=u) (hu:LbRow w u N) (hn:R.length+N.length≤2000) (hbase:base≤w.heap.size)
 (h : ∀v' w',LbOwn w' base v' (R++N)→w.grownBy w' v.ownBlock→K (a.put o.dst v') w'):o.wp Tryz.prog a w K Q:=by
 obtain⟨v',w',hr,h2,h3⟩:=run_append_row w o.type base v R hown u N hu hn hbase;unfold Oper.wp execOp;simp only[ho,resolve,invoke,builtin,Sem.run_bind,Sem.run_pure,Result.andThen_ok,List.map_toArray,List.map_cons,List.map_nil,hs,hx,hr];exact h v' w' h2 h3
theorem step_append_lrow {w:World} {ops:Array Oper} {o:Oper} {a:Act} {K:Act→World→Prop} {Q:Exit→Act→World→Prop} {E:Prop} (hgd:o.guard=none) (s x:Operand)
 (ho:o.op = .call {callee := .builtin .append,args:=#[s,x],argTypes:=#[52,52]}) (base:Nat) (v:Value) (R:List Lb) (hs:a.eval s=v) (hown:LbOwn w base v R)
 (u:Value) (N:List Lb) (hx:a.eval x=u) (hu:LbRow w u N) (hn:R.length+N.length≤2000) (hbase:base≤w.heap.size)
 (h : ∀v' w',LbOwn w' base v' (R++N)→w.grownBy w' v.ownBlock→K (a.put o.dst v') w') :
 if Region.wanted o (yielded ops a.tmps)=true then Oper.wp Tryz.prog o a w K Q else E:=by
 have hw:Region.wanted o (yielded ops a.tmps)=true:=by simp[Region.wanted,hgd]
 rw[if_pos hw];exact wp_append_row s x ho base v R hs hown u N hx hu hn hbase h
theorem lb_one {w:World} {g:Nat} {X:Lb} (hg:g<w.heap.size) (h0:w.cell? ⟨g,0,none⟩=some (.string (str X.1))) (h1:w.cell? ⟨g,1,none⟩=some (.string (str X.2))):LbRow w (.slice (some ⟨g,0,none⟩) 1 1) [X] :=
 ⟨_,1,rfl,Nat.le_refl _,by unfold maxLen;omega,(by rintro ⟨⟩),fun _=>⟨g,0,rfl,hg,fun i p hp=>by
  match i,hp with
  | 0,hp=>obtain rfl:X=p:=by simpa using hp
          exact⟨h0,h1⟩
  | i+1,hp=>simp at hp⟩⟩
end Go.Proofs.YtbapneipjmpcbaaGreatDoor
namespace Go.Proofs.YtbapneipjmpcbaaGreatDoor
open Go.RowKit Go.Sort
attribute [local go_sem ↓] Go.wp_at_zero Go.wp_at_succ
theorem mem_take {R:List Lb} {k:Nat} {x:Lb} (h:x∈R.take k) : ∃j,j<k∧j<R.length∧x=lbAt R j:=by
 obtain⟨j,hj,e⟩:=List.mem_iff_getElem.1 h;rw[List.length_take] at hj;refine⟨j,by omega,by omega,?_⟩;rw[←e,List.getElem_take,lbAt_of (by omega)]
theorem mem_drop {R:List Lb} {k:Nat} {x:Lb} (h:x∈R.drop k) : ∃j,k≤j∧j<R.length∧x=lbAt R j:=by
 obtain⟨j,hj,e⟩:=List.mem_iff_getElem.1 h;rw[List.length_drop] at hj;refine⟨k+j,by omega,by omega,?_⟩;rw[←e,List.getElem_drop,lbAt_of (by omega)]
theorem lb_ins_strict {R:List Lb} {X:Lb} {k:Nat} (hs:StrictS R) (lo : ∀j,j<k→j<R.length→cb (lbAt R j).1 X.1<0) (hi : ∀j,k≤j→j<R.length→cb X.1 (lbAt R j).1<0):StrictS (R.take k++[X]++R.drop k):=by
 unfold StrictS at hs ⊢;have hcut:=hs;rw[←List.take_append_drop k R,List.pairwise_append] at hcut;rw[List.pairwise_append,List.pairwise_append];refine⟨⟨hcut.1,List.pairwise_singleton _ _,fun a ha c hc => ?_⟩,hcut.2.1,fun a ha c hc => ?_⟩
 ·obtain rfl:=List.mem_singleton.1 hc;obtain⟨j,h1,h2,rfl⟩:=mem_take ha;exact lo j h1 h2
 ·rcases List.mem_append.1 ha with ha|ha
  ·exact hcut.2.2 a ha c hc
  ·obtain rfl:=List.mem_singleton.1 ha;obtain⟨j,h1,h2,rfl⟩:=mem_drop hc;exact hi j h1 h2
theorem strict_at {R:List Lb} (hs:StrictS R) {i j:Nat} (h:i<j) (hj:j<R.length):cb (lbAt R i).1 (lbAt R j).1<0:=by
 unfold StrictS at hs;rw[List.pairwise_iff_getElem] at hs;rw[lbAt_of (by omega),lbAt_of hj];exact hs i j (by omega) hj h
theorem lo_of {R:List Lb} {X:Lb} {j:Nat} (hs:StrictS R) (hj:j<R.length) (h:cb (lbAt R j).1 X.1<0) : ∀i,i<j+1→i<R.length→cb (lbAt R i).1 X.1<0:=fun i hi hl=>by
 by_cases e:i=j
 ·subst e;exact h
 ·exact cb_trans _ _ _ (strict_at hs (by omega) hj) h
theorem ins_perm {R l:List Lb} {X:Lb} {i:Nat} (k:Nat) (hp:R.Perm (l.take i)) (hi:i<l.length) (hX:lbAt l i=X):(R.take k++[X]++R.drop k).Perm (l.take (i+1)):=by
 rw[List.take_succ_eq_append_getElem hi,←lbAt_of hi,hX];have h1:(R.take k++[X]++R.drop k).Perm (R++[X]):=by
  rw[List.append_assoc];have h2:(R.take k++([X]++R.drop k)).Perm (R.take k++(R.drop k++[X])):=(List.perm_append_comm).append_left _;rwa [←List.append_assoc,←List.append_assoc,List.take_append_drop,List.append_assoc] at h2
 exact h1.trans (hp.append_right _)
theorem nd_dup {R l:List Lb} {i j:Nat} (hp:R.Perm (l.take i)) (hi:i<l.length) (hj:j<R.length) (e:cb (lbAt R j).1 (lbAt l i).1=0) : ¬Nd l:=by
 intro n;unfold Nd at n;rw[List.nodup_iff_pairwise_ne,List.pairwise_map,List.pairwise_iff_getElem] at n;obtain⟨m,hm,hml,em⟩:=mem_take (hp.mem_iff.1 (at_mem hj));have:=n m i hml hi hm;rw[←lbAt_of hml,←lbAt_of hi,←em] at this;exact this (cb_eq _ _ e)
theorem own_drewN9 {w:World} {base:Nat} {v:Value} {l:List Lb} (h:LbOwn w base v l) (n:Nat):LbOwn (w.drewN n) base v l:=h
theorem rsort_own (l:List Lb) (v:Value) (w:World) (hv:LbRow w v l) (hn:l.length≤500) :
 Calls Tryz.prog 19 #[v] w fun e w' => ∃v',e = .returned (.tuple #[v',.bool (srt l).isSome])∧Below w.heap.size w w'∧LbOwn w' w.heap.size v' ((srt l).getD []):=by
 obtain⟨A,cap,rfl,hlc,hcm,hnil,hrow⟩:=hv;unfold maxLen at hcm;have HR:=Lh hrow;clear hrow hnil;go_enter Tryz.func19,Tryz.ntmps19;go_wp2_with fail;go_loopw [4,5] (fun q i wr => ∃(k:Nat) (p:Value) (R:List Lb),p=q∧k≤l.length∧i = .int .i64 (k:Nat)∧Hid (R.Perm (l.take k))∧Hid (StrictS R)∧Hid (LbOwn wr w.heap.size p R)∧Below w.heap.size w wr) (fun _ i _=>l.length-(intOf i).toNat);case atStart=>exact ⟨0,_,[],rfl,Nat.zero_le _,rfl,List.Perm.refl _,List.Pairwise.nil,LbOwn.nil _ _,Below.refl _ _⟩
 case round =>
  obtain⟨k,p,R,rfl,hk,rfl,HPm,HSt,H,hb⟩:=hrel;have hRk:Hid (R.length=k):=by have:=HPm.out.length_eq;rw[List.length_take] at this;show _=_;omega
  obtain⟨A2,cap2,rfl,hlc2,hcm2,_,hr2⟩:=LbOwn.row H.out;unfold maxLen at hcm2;by_cases hkl:k<l.length
  ·obtain⟨b,off,rfl,hbs,hc⟩:=HR.out (by omega);obtain⟨c0,c1⟩:=hc k (lbAt l k) (at_get hkl);have hdup:=Lh (fun j hj e=>srt_no (nd_dup (j:=j) HPm.out hkl hj e));obtain⟨⟨X1,X2⟩,hXX⟩ : ∃X,lbAt l k=X:=⟨_,rfl⟩
   rw[hXX] at c0 c1 hdup;have hX:=Lh hXX;clear hXX;simp only at c0 c1 hdup;have HC0:=Lh c0;have HC1:=Lh c1;have HB0:=Lh hb;have hk0:(0:Int)≤(k:Int):=by omega
   have hkb:(k:Int)<(l.length:Int):=by omega
   have HR2:=Lh hr2;clear c0 c1 hb hc hr2;go_wp2_with fail;generalize wr.heap.size=zz at *;go_loopw [6] (fun i wi => ∃m:Nat,m≤R.length∧i = .int .i64 (m:Nat)∧Hid (∀j,m≤j→j<R.length→cb X1 (lbAt R j).1<0)∧Hid (LbOwn wi w.heap.size (.slice A2 R.length cap2) R)∧Below w.heap.size w wi) (fun i _=>(intOf i).toNat);case atStart=>exact ⟨R.length,Nat.le_refl _,rfl,fun j h1 h2=>absurd h2 (by omega),H,HB0.out⟩
   case round =>
    obtain⟨m,hm,rfl,H3,H2,hb⟩:=hrel;have x0:=(hb.cell (p:=⟨b,off+k*2,none⟩) hbs).trans HC0.out;have x1:=(hb.cell (p:=⟨b,off+k*2+1,none⟩) hbs).trans HC1.out;by_cases hm0:m=0
    ·obtain rfl:=hm0;rw[show((0:Nat):Int)=0 from rfl];have e0:=below_drewN hb 0;clear hdup;go_wp2_with fail
     go_quiet (fail)
     have hb1:=below_drewN hb nq;have H21:=Lh (own_drewN9 H2.out nq);have x01:(wr.drewN nq).cell? ⟨b,off+k*2,none⟩=some (.string (str X1)):=x0;have x11:(wr.drewN nq).cell? ⟨b,off+k*2+1,none⟩=some (.string (str X2)):=x1;clear hb x0 x1 H2 e0;generalize wr.drewN nq=W1 at *;go_wp2_with fail
     go_quiet (fail)
     have hb:=below_drewN hb1 nq;have H2:=Lh (own_drewN9 H21.out nq);have x0:(W1.drewN nq).cell? ⟨b,off+k*2,none⟩=some (.string (str X1)):=x01;have x1:(W1.drewN nq).cell? ⟨b,off+k*2+1,none⟩=some (.string (str X2)):=x11;clear hb1 x01 x11 H21;generalize W1.drewN nq=wr at *;have HRo:=LbOwn.row H2.out;obtain⟨u1,eq1,row1⟩:=lb_to HRo 0 hm;obtain⟨u2,eq2,row2⟩:=lb_from HRo 0 hm;simp only[show((0:Nat):Int)=0 from rfl] at eq1 eq2;have HTO:=Lh (fun z (hz:Below wr.heap.size wr z)=>row1 z (HRo.below hz));have HFR:=Lh (fun z (hz:Below wr.heap.size wr z)=>row2 z (HRo.below hz));have hbz:b<wr.heap.size:=Nat.lt_of_lt_of_le hbs hb.size;have r0 : ∀z,Below wr.heap.size wr z→z.cell? ⟨b,off+k*2,none⟩=some (.string (str X1)):=fun z hz=>(hz.cell hbz).trans x0;have r1 : ∀z,Below wr.heap.size wr z→z.cell? ⟨b,off+k*2+1,none⟩=some (.string (str X2)):=fun z hz=>(hz.cell hbz).trans x1;have hns:=Lh (show StrictS (R.take 0++[(X1,X2)]++R.drop 0) from lb_ins_strict HSt.out (fun j h1 _=>absurd h1 (by omega)) H3.out);have hnp:=Lh (ins_perm 0 HPm.out hkl hX.out);have hlt1:(R.take 0).length+([(X1,X2)]:List Lb).length≤2000:=by have:=hRk.out;rw[List.length_take];simp
     have hlt2:(R.take 0++[(X1,X2)]).length+(R.drop 0).length≤2000:=by have:=hRk.out;rw[List.length_append,List.length_take,List.length_drop];simp;omega
     have hlt0:([]:List Lb).length+(R.take 0).length≤2000:=by have:=hRk.out;rw[List.length_take];simp
     have hzz:=hb.size;have HB:=Lh hb;clear row1 row2 HRo x0 x1 hbz hb H3;go_wp2_with fail
     go_region_held3 (fun z=>Below wr.heap.size wr z)
      (((repeat' first|assumption|exact Below.refl _ _|exact Nat.le_refl _|apply kp_alloc|apply kp_set|apply Below.drew|omega);done))
      ((first
        | (refine step_append_lrow (by rfl) (.const (.slice none 0 0)) (.tmp 51) (by rfl) wr.heap.size _ [] (by rfl) (LbOwn.nil _ _) _ _ (by rfl) (HTO.out _ (by(repeat' first|assumption|exact Below.refl _ _|exact Nat.le_refl _|apply kp_alloc|apply kp_set|apply Below.drew|omega))) hlt0 (Below.size (by(repeat' first|assumption|exact Below.refl _ _|exact Nat.le_refl _|apply kp_alloc|apply kp_set|apply Below.drew|omega))) ?_;intro v5 w5 o5 g5;have k5:Below wr.heap.size wr w5:=Below.grown (by(repeat' first|assumption|exact Below.refl _ _|exact Nat.le_refl _|apply kp_alloc|apply kp_set|apply Below.drew|omega)) g5 (Below.size (by(repeat' first|assumption|exact Below.refl _ _|exact Nat.le_refl _|apply kp_alloc|apply kp_set|apply Below.drew|omega))) (fun q hq=>by cases hq);obtain⟨c5,f5⟩:=bcell (Below.grown (Below.refl _ _) g5 (Nat.le_refl _) (fun q hq=>by cases hq));have z5:=g5.size;(try simp at z5))
        | (refine step_append_lrow (by rfl) (.tmp 52) (.tmp 57) (by rfl) wr.heap.size _ (R.take 0) (by rfl) (by first|exact o5|exact own_alloc o5 _|exact own_drew o5|exact own_drew (own_alloc o5 _)) _ [(X1,X2)] (by rfl) (lb_one (by first|(simp;done)|omega|fail "SIZE") (by first|(simp;done)|(go_simp;done)|fail "CELL0") (by first|(simp;done)|(go_simp;done)|fail "CELL1")) hlt1 (Below.size (by(repeat' first|assumption|exact Below.refl _ _|exact Nat.le_refl _|apply kp_alloc|apply kp_set|apply Below.drew|omega))) ?_;intro v6 w6 o6 g6;have k6:Below wr.heap.size wr w6:=Below.grown (by(repeat' first|assumption|exact Below.refl _ _|exact Nat.le_refl _|apply kp_alloc|apply kp_set|apply Below.drew|omega)) g6 (Below.size (by(repeat' first|assumption|exact Below.refl _ _|exact Nat.le_refl _|apply kp_alloc|apply kp_set|apply Below.drew|omega))) (fun q hq=>own_ge o5 q hq))
        | (refine step_append_lrow (by rfl) (.tmp 58) (.tmp 61) (by rfl) wr.heap.size _ (R.take 0++[(X1,X2)]) (by rfl) (by first|exact o6|exact own_drew o6) _ (R.drop 0) (by rfl) (HFR.out _ (by(repeat' first|assumption|exact Below.refl _ _|exact Nat.le_refl _|apply kp_alloc|apply kp_set|apply Below.drew|omega))) hlt2 (Below.size (by(repeat' first|assumption|exact Below.refl _ _|exact Nat.le_refl _|apply kp_alloc|apply kp_set|apply Below.drew|omega))) ?_;intro v7 w7 o7 g7;have k7:Below wr.heap.size wr w7:=Below.grown (by(repeat' first|assumption|exact Below.refl _ _|exact Nat.le_refl _|apply kp_alloc|apply kp_set|apply Below.drew|omega)) g7 (Below.size (by(repeat' first|assumption|exact Below.refl _ _|exact Nat.le_refl _|apply kp_alloc|apply kp_set|apply Below.drew|omega))) (fun q hq=>own_ge o6 q hq))))
     all_goals
      go_wp2_with fail;go_roundw;case rel=>exact ⟨k+1,_,_,rfl,hkl,by go_num,hnp.out,hns.out,own_mono o7 hzz,HB.out.trans (k7.mono hzz)⟩
      case measure=>simp [intOf];omega
    ·obtain⟨j,hj⟩ : ∃j,m=j+1:=⟨m-1,by omega⟩
     have hjR:j<R.length:=by omega
     have dm:decide ((0:Int)<(m:Int))=true:=by simp;omega
     have dm2:decide (0<m)=true:=by simp;omega
     have hmj:(m:Int)-1=(j:Int):=by omega
     have hw1:IntKind.i64.wrap (j:Int)=(j:Int):=IntWalk.i64_in _ (by omega);have hj0:(0:Int)≤(j:Int):=by omega
     have hj1:(j:Int)<(R.length:Int):=by omega
     have hjk:(j:Int)<(k:Int):=by have:=hRk.out;omega
     obtain⟨A3,cap3,he3,_,_,_,hr3⟩:=LbOwn.row H2.out;simp only[Value.slice.injEq] at he3;obtain⟨hA3,hq3,hc3⟩:=he3;subst hA3 hc3;clear hq3;obtain⟨g2,off2,rfl,hg2,hcc⟩:=hr3 (by omega);have y0:=(hcc j (lbAt R j) (at_get hjR)).1;have hbl:=bl_cb (lbAt R j).1 X1;have hd2:=Lh (hdup.out j hjR);have hY:Hid (lbAt R j=lbAt R j):=rfl;generalize hYY:lbAt R j=Y at y0 hbl hd2;have HYY:=Lh hYY;clear hYY hY;obtain⟨Y1,Y2⟩:=Y;simp only at y0 hbl hd2;clear hcc hr3;have Hj:=Lh hj;clear hj;by_cases hC:0<cb Y1 X1
     ·rw[decide_eq_false (show ¬cb Y1 X1<0 by omega)] at hbl;have heq:(Y1==X1)=false:=beq_eq_false_iff_ne.2 (fun e=>by rw[(cb_zero _ _).2 e] at hC;exact absurd hC (by decide));have hn3:=Lh (show ∀i,j≤i→i<R.length→cb X1 (lbAt R i).1<0 from fun i h1 h2=>by
       by_cases e:i=j
       ·subst e;rw[HYY.out,cb_neg];simp only;omega
       ·exact H3.out i (by omega) h2)
      have HB:=Lh hb;clear hC hb hd2;go_wp2_with fail
      go_quiet (fail)
      go_wp2_with fail;go_roundw;case rel=>exact ⟨j,by have:=Hj.out;omega,by go_num,hn3.out,H2.out,below_drewN HB.out _⟩
      case measure=>have:=Hj.out;simp[intOf];omega
     ·by_cases hC0:cb Y1 X1=0
      ·rw[decide_eq_false (show ¬cb Y1 X1<0 by omega)] at hbl;have heq:(Y1==X1)=true:=beq_iff_eq.2 (cb_eq _ _ hC0);have hr:=Lh (hd2.out hC0);clear hC hC0 hd2;go_wp2_with fail
       go_quiet (fail)
       have hb1:=below_drewN hb nq;have x01:(wr.drewN nq).cell? ⟨b,off+k*2,none⟩=some (.string (str X1)):=x0;have y01:(wr.drewN nq).cell? ⟨g2,off2+j*2,none⟩=some (.string (str Y1)):=y0;clear hb x0 x1 y0 H2;generalize wr.drewN nq=W1 at *;go_wp2_with fail
       go_quiet (fail)
       go_wp2_with fail
       go_ret2
       exact⟨_,by rw[hr.out];rfl,below_drewN hb1 _,by rw[hr.out];exact LbOwn.nil _ _⟩
      ·rw[decide_eq_true (show cb Y1 X1<0 by rcases cb_range Y1 X1 with q|q|q <;> omega)] at hbl;have heq:(Y1==X1)=false:=beq_eq_false_iff_ne.2 (fun e=>hC0 ((cb_zero _ _).2 e));have hlo:=Lh (lo_of (X:=(X1,X2)) (j:=j) HSt.out hjR (by rw[HYY.out];simp only;rcases cb_range Y1 X1 with q|q|q <;> omega));clear hC hC0 hd2;go_wp2_with fail
       go_quiet (fail)
       have hb1:=below_drewN hb nq;have H21:=Lh (own_drewN9 H2.out nq);have x01:(wr.drewN nq).cell? ⟨b,off+k*2,none⟩=some (.string (str X1)):=x0;have x11:(wr.drewN nq).cell? ⟨b,off+k*2+1,none⟩=some (.string (str X2)):=x1;have y01:(wr.drewN nq).cell? ⟨g2,off2+j*2,none⟩=some (.string (str Y1)):=y0;clear hb x0 x1 y0 H2;generalize wr.drewN nq=W1 at *;go_wp2_with fail
       go_quiet (fail)
       have hb:=below_drewN hb1 nq;have H2:=Lh (own_drewN9 H21.out nq);have x0:(W1.drewN nq).cell? ⟨b,off+k*2,none⟩=some (.string (str X1)):=x01;have x1:(W1.drewN nq).cell? ⟨b,off+k*2+1,none⟩=some (.string (str X2)):=x11;clear hb1 x01 x11 H21 y01;generalize W1.drewN nq=wr at *;have HRo:=LbOwn.row H2.out;obtain⟨u1,eq1,row1⟩:=lb_to HRo m hm;obtain⟨u2,eq2,row2⟩:=lb_from HRo m hm;have HTO:=Lh (fun z (hz:Below wr.heap.size wr z)=>row1 z (HRo.below hz));have HFR:=Lh (fun z (hz:Below wr.heap.size wr z)=>row2 z (HRo.below hz));have hbz:b<wr.heap.size:=Nat.lt_of_lt_of_le hbs hb.size;have r0 : ∀z,Below wr.heap.size wr z→z.cell? ⟨b,off+k*2,none⟩=some (.string (str X1)):=fun z hz=>(hz.cell hbz).trans x0;have r1 : ∀z,Below wr.heap.size wr z→z.cell? ⟨b,off+k*2+1,none⟩=some (.string (str X2)):=fun z hz=>(hz.cell hbz).trans x1;have hns:=Lh (show StrictS (R.take m++[(X1,X2)]++R.drop m) from lb_ins_strict HSt.out (by rw[Hj.out];exact hlo.out) H3.out);have hnp:=Lh (ins_perm m HPm.out hkl hX.out);have hlt1:(R.take m).length+([(X1,X2)]:List Lb).length≤2000:=by have:=hRk.out;rw[List.length_take];simp;omega
       have hlt2:(R.take m++[(X1,X2)]).length+(R.drop m).length≤2000:=by have:=hRk.out;rw[List.length_append,List.length_take,List.length_drop];simp;omega
       have hlt0:([]:List Lb).length+(R.take m).length≤2000:=by have:=hRk.out;rw[List.length_take];simp;omega
       have hzz:=hb.size;have HB:=Lh hb;clear row1 row2 HRo x0 x1 hbz hb H3;go_wp2_with fail
       go_region_held3 (fun z=>Below wr.heap.size wr z)
        (((repeat' first|assumption|exact Below.refl _ _|exact Nat.le_refl _|apply kp_alloc|apply kp_set|apply Below.drew|omega);done))
        ((first
          | (refine step_append_lrow (by rfl) (.const (.slice none 0 0)) (.tmp 51) (by rfl) wr.heap.size _ [] (by rfl) (LbOwn.nil _ _) _ _ (by rfl) (HTO.out _ (by(repeat' first|assumption|exact Below.refl _ _|exact Nat.le_refl _|apply kp_alloc|apply kp_set|apply Below.drew|omega))) hlt0 (Below.size (by(repeat' first|assumption|exact Below.refl _ _|exact Nat.le_refl _|apply kp_alloc|apply kp_set|apply Below.drew|omega))) ?_;intro v5 w5 o5 g5;have k5:Below wr.heap.size wr w5:=Below.grown (by(repeat' first|assumption|exact Below.refl _ _|exact Nat.le_refl _|apply kp_alloc|apply kp_set|apply Below.drew|omega)) g5 (Below.size (by(repeat' first|assumption|exact Below.refl _ _|exact Nat.le_refl _|apply kp_alloc|apply kp_set|apply Below.drew|omega))) (fun q hq=>by cases hq);obtain⟨c5,f5⟩:=bcell (Below.grown (Below.refl _ _) g5 (Nat.le_refl _) (fun q hq=>by cases hq));have z5:=g5.size;(try simp at z5))
          | (refine step_append_lrow (by rfl) (.tmp 52) (.tmp 57) (by rfl) wr.heap.size _ (R.take m) (by rfl) (by first|exact o5|exact own_alloc o5 _|exact own_drew o5|exact own_drew (own_alloc o5 _)) _ [(X1,X2)] (by rfl) (lb_one (by first|(simp;done)|omega|fail "SIZE") (by first|(simp;done)|(go_simp;done)|fail "CELL0") (by first|(simp;done)|(go_simp;done)|fail "CELL1")) hlt1 (Below.size (by(repeat' first|assumption|exact Below.refl _ _|exact Nat.le_refl _|apply kp_alloc|apply kp_set|apply Below.drew|omega))) ?_;intro v6 w6 o6 g6;have k6:Below wr.heap.size wr w6:=Below.grown (by(repeat' first|assumption|exact Below.refl _ _|exact Nat.le_refl _|apply kp_alloc|apply kp_set|apply Below.drew|omega)) g6 (Below.size (by(repeat' first|assumption|exact Below.refl _ _|exact Nat.le_refl _|apply kp_alloc|apply kp_set|apply Below.drew|omega))) (fun q hq=>own_ge o5 q hq))
          | (refine step_append_lrow (by rfl) (.tmp 58) (.tmp 61) (by rfl) wr.heap.size _ (R.take m++[(X1,X2)]) (by rfl) (by first|exact o6|exact own_drew o6) _ (R.drop m) (by rfl) (HFR.out _ (by(repeat' first|assumption|exact Below.refl _ _|exact Nat.le_refl _|apply kp_alloc|apply kp_set|apply Below.drew|omega))) hlt2 (Below.size (by(repeat' first|assumption|exact Below.refl _ _|exact Nat.le_refl _|apply kp_alloc|apply kp_set|apply Below.drew|omega))) ?_;intro v7 w7 o7 g7;have k7:Below wr.heap.size wr w7:=Below.grown (by(repeat' first|assumption|exact Below.refl _ _|exact Nat.le_refl _|apply kp_alloc|apply kp_set|apply Below.drew|omega)) g7 (Below.size (by(repeat' first|assumption|exact Below.refl _ _|exact Nat.le_refl _|apply kp_alloc|apply kp_set|apply Below.drew|omega))) (fun q hq=>own_ge o6 q hq))))
       all_goals
        go_wp2_with fail;go_roundw;case rel=>exact ⟨k+1,_,_,rfl,hkl,by go_num,hnp.out,hns.out,own_mono o7 hzz,HB.out.trans (k7.mono hzz)⟩
        case measure=>simp [intOf];omega
  ·have hr:=Lh (srt_is (l:=l) (d:=R) (by have:=HPm.out;rwa [List.take_of_length_le (by omega)] at this) HSt.out);have hown:=Lh H.out;go_wp2
   go_ret2
   exact⟨_,by rw[hr.out];rfl,hb,by rw[hr.out];exact hown.out⟩
end Go.Proofs.YtbapneipjmpcbaaGreatDoor
