import Derived.Test.YtbapneipjmpcbaaGreatDoorChP
import Derived.Test.YtbapneipjmpcbaaGreatDoorGrd
import Derived.Test.YtbapneipjmpcbaaGreatDoorEscW
import Derived.BigQuiet
import Derived.Test.YtbapneipjmpcbaaGreatDoorChW
import Derived.Laws.IdiomStrings
set_option maxHeartbeats 16000000
set_option maxRecDepth 100000
set_option linter.unusedVariables false
set_option linter.unusedSimpArgs false
namespace Go.Proofs.YtbapneipjmpcbaaGreatDoor
open Go.RowKit
theorem rletter_calls (c:UInt8) (w:World):Calls Tryz.prog 76 #[.int .u8 (c.toNat:Int)] w fun e w'=>e = .returned (.bool (Ch.letter c))∧w=w':=by
 have hr:=Lh (show Ch.letter c=((decide (97≤c.toNat)&&decide (c.toNat≤122))||(decide (65≤c.toNat)&&decide (c.toNat≤90))) from rfl);generalize c.toNat=n at *;generalize Ch.letter c=R at *;by_cases a_g97:(97:Int)≤(n:Int)
 ·have d_g97:decide ((97:Int)≤(n:Int))=true:=decide_eq_true a_g97;have n_g97:(97≤n):=by omega
  have e_g97:decide (97≤n)=true:=decide_eq_true n_g97;by_cases a_l122:(n:Int)≤122
  ·have d_l122:decide ((n:Int)≤122)=true:=decide_eq_true a_l122;have n_l122:(n≤122):=by omega
   have e_l122:decide (n≤122)=true:=decide_eq_true n_l122;have hv:=Lh (show R=true by rw[hr.out];simp only[e_g97,e_l122];rfl);go_enter Tryz.func76,Tryz.ntmps76;go_wp2;go_ret;exact⟨by rw[hv.out];rfl,rfl⟩
  ·have d_l122:decide ((n:Int)≤122)=false:=decide_eq_false a_l122;have n_l122 : ¬(n≤122):=by omega
   have e_l122:decide (n≤122)=false:=decide_eq_false n_l122;by_cases a_g65:(65:Int)≤(n:Int)
   ·have d_g65:decide ((65:Int)≤(n:Int))=true:=decide_eq_true a_g65;have n_g65:(65≤n):=by omega
    have e_g65:decide (65≤n)=true:=decide_eq_true n_g65;by_cases a_l90:(n:Int)≤90
    ·have d_l90:decide ((n:Int)≤90)=true:=decide_eq_true a_l90;have n_l90:(n≤90):=by omega
     have e_l90:decide (n≤90)=true:=decide_eq_true n_l90;have hv:=Lh (show R=true by rw[hr.out];simp only[e_g97,e_l122,e_g65,e_l90];rfl);go_enter Tryz.func76,Tryz.ntmps76;go_wp2;go_ret;exact⟨by rw[hv.out];rfl,rfl⟩
    ·have d_l90:decide ((n:Int)≤90)=false:=decide_eq_false a_l90;have n_l90 : ¬(n≤90):=by omega
     have e_l90:decide (n≤90)=false:=decide_eq_false n_l90;have hv:=Lh (show R=false by rw[hr.out];simp only[e_g97,e_l122,e_g65,e_l90];rfl);go_enter Tryz.func76,Tryz.ntmps76;go_wp2;go_ret;exact⟨by rw[hv.out];rfl,rfl⟩
   ·have d_g65:decide ((65:Int)≤(n:Int))=false:=decide_eq_false a_g65;have n_g65 : ¬(65≤n):=by omega
    have e_g65:decide (65≤n)=false:=decide_eq_false n_g65;have hv:=Lh (show R=false by rw[hr.out];simp only[e_g97,e_l122,e_g65];rfl);go_enter Tryz.func76,Tryz.ntmps76;go_wp2;go_ret;exact⟨by rw[hv.out];rfl,rfl⟩
 ·have d_g97:decide ((97:Int)≤(n:Int))=false:=decide_eq_false a_g97;have n_g97 : ¬(97≤n):=by omega
  have e_g97:decide (97≤n)=false:=decide_eq_false n_g97;by_cases a_g65:(65:Int)≤(n:Int)
  ·have d_g65:decide ((65:Int)≤(n:Int))=true:=decide_eq_true a_g65;have n_g65:(65≤n):=by omega
   have e_g65:decide (65≤n)=true:=decide_eq_true n_g65;by_cases a_l90:(n:Int)≤90
   ·have d_l90:decide ((n:Int)≤90)=true:=decide_eq_true a_l90;have n_l90:(n≤90):=by omega
    have e_l90:decide (n≤90)=true:=decide_eq_true n_l90;have hv:=Lh (show R=true by rw[hr.out];simp only[e_g97,e_g65,e_l90];rfl);go_enter Tryz.func76,Tryz.ntmps76;go_wp2;go_ret;exact⟨by rw[hv.out];rfl,rfl⟩
   ·have d_l90:decide ((n:Int)≤90)=false:=decide_eq_false a_l90;have n_l90 : ¬(n≤90):=by omega
    have e_l90:decide (n≤90)=false:=decide_eq_false n_l90;have hv:=Lh (show R=false by rw[hr.out];simp only[e_g97,e_g65,e_l90];rfl);go_enter Tryz.func76,Tryz.ntmps76;go_wp2;go_ret;exact⟨by rw[hv.out];rfl,rfl⟩
  ·have d_g65:decide ((65:Int)≤(n:Int))=false:=decide_eq_false a_g65;have n_g65 : ¬(65≤n):=by omega
   have e_g65:decide (65≤n)=false:=decide_eq_false n_g65;have hv:=Lh (show R=false by rw[hr.out];simp only[e_g97,e_g65];rfl);go_enter Tryz.func76,Tryz.ntmps76;go_wp2;go_ret;exact⟨by rw[hv.out];rfl,rfl⟩
theorem rdigit_calls (c:UInt8) (w:World):Calls Tryz.prog 77 #[.int .u8 (c.toNat:Int)] w fun e w'=>e = .returned (.bool (Ch.digit c))∧w=w':=by
 have hr:=Lh (show Ch.digit c=(decide (48≤c.toNat)&&decide (c.toNat≤57)) from rfl);generalize c.toNat=n at *;generalize Ch.digit c=R at *;by_cases a_g48:(48:Int)≤(n:Int)
 ·have d_g48:decide ((48:Int)≤(n:Int))=true:=decide_eq_true a_g48;have n_g48:(48≤n):=by omega
  have e_g48:decide (48≤n)=true:=decide_eq_true n_g48;by_cases a_l57:(n:Int)≤57
  ·have d_l57:decide ((n:Int)≤57)=true:=decide_eq_true a_l57;have n_l57:(n≤57):=by omega
   have e_l57:decide (n≤57)=true:=decide_eq_true n_l57;have hv:=Lh (show R=true by rw[hr.out];simp only[e_g48,e_l57];rfl);go_enter Tryz.func77,Tryz.ntmps77;go_wp2;go_ret;exact⟨by rw[hv.out];rfl,rfl⟩
  ·have d_l57:decide ((n:Int)≤57)=false:=decide_eq_false a_l57;have n_l57 : ¬(n≤57):=by omega
   have e_l57:decide (n≤57)=false:=decide_eq_false n_l57;have hv:=Lh (show R=false by rw[hr.out];simp only[e_g48,e_l57];rfl);go_enter Tryz.func77,Tryz.ntmps77;go_wp2;go_ret;exact⟨by rw[hv.out];rfl,rfl⟩
 ·have d_g48:decide ((48:Int)≤(n:Int))=false:=decide_eq_false a_g48;have n_g48 : ¬(48≤n):=by omega
  have e_g48:decide (48≤n)=false:=decide_eq_false n_g48;have hv:=Lh (show R=false by rw[hr.out];simp only[e_g48];rfl);go_enter Tryz.func77,Tryz.ntmps77;go_wp2;go_ret;exact⟨by rw[hv.out];rfl,rfl⟩
theorem rlegal_calls (p s:Int) (l:List UInt8) (i:Int) (w:World) (hl:l.length≤maxLen) :
 Calls Tryz.prog 44 #[.int .i64 p,.int .i64 s,.string (str l),.int .i64 i] w fun e w'=>e = .returned (.bool (Ch.legI p s l i))∧w=w':=by
 unfold maxLen at hl;have hsz:=str_size l;by_cases h0:i<0
 ·have d0:decide (i<0)=true:=decide_eq_true h0;have hr:=Lh (show Ch.legI p s l i=false by unfold Ch.legI;rw[decide_eq_false (by omega)];rfl);go_enter Tryz.func44,Tryz.ntmps44;go_wp2;go_ret;exact⟨by rw[hr.out];rfl,rfl⟩
 obtain⟨k,rfl⟩ : ∃k:Nat,i=k:=⟨i.toNat,by omega⟩
 have d0:decide ((k:Int)<0)=false:=decide_eq_false h0;by_cases h1:l.length≤k
 ·have d1:decide ((l.length:Int)≤(k:Int))=true:=decide_eq_true (by omega);have d1':decide (l.length≤k)=true:=decide_eq_true h1;have hr:=Lh (show Ch.legI p s l k=false by rw[Ch.legI_at,Ch.leg_out h1]);go_enter Tryz.func44,Tryz.ntmps44;go_wp2;go_ret;exact⟨by rw[hr.out];rfl,rfl⟩
 have hk:k<l.length:=by omega
 have hk2:k<(str l).size:=by rw[hsz];exact hk
 have d1:decide ((l.length:Int)≤(k:Int))=false:=decide_eq_false (by omega);have d1':decide (l.length≤k)=false:=decide_eq_false h1;have hlg:Ch.legI p s l k=Ch.legC p s (str l)[k] (decide (0<k)) (Ch.mid l k):=by rw[Ch.legI_at,Ch.leg_at hk];rfl
 have HL:=Lh hlg;clear hlg;by_cases hs : ¬s=0 ∧ ¬s=1
 ·obtain⟨n0,n1⟩:=hs;have e0:decide (s=0)=false:=decide_eq_false n0;have e1:decide (s=1)=false:=decide_eq_false n1;have hss:(s != 0&&s != 1)=true:=by simp[n0,n1]
  have hr:=Lh (show Ch.legI p s l k=false by rw[HL.out];exact Ch.legC_off (by omega));go_enter Tryz.func44,Tryz.ntmps44;go_wp2;go_ret;exact⟨by rw[hr.out];rfl,rfl⟩
 have hs2:s=0∨s=1:=by omega
 clear hs;have hso:=Lh (show(decide (s=0)||decide (s=1))=true by rcases hs2 with rfl|rfl <;> rfl);have hlt:=fun W=>rletter_calls (str l)[k] W;have hdg:=fun W=>rdigit_calls (str l)[k] W;obtain⟨n,hn⟩ : ∃n:Nat,(str l)[k].toNat=n:=⟨_,rfl⟩
 rw[hn] at hlt hdg;obtain⟨c,hcc⟩ : ∃c,(str l)[k]=c:=⟨_,rfl⟩
 have HN:=Lh (show c.toNat=n by rw[←hcc];exact hn);rw[hcc] at hlt hdg HL;clear hcc;rcases hs2 with rfl|rfl
 ·skip
  by_cases q1:p=1
  ·subst q1
   cases hb_lt:Ch.letter c
   ·by_cases a_x95:(n:Int)=95
    ·have d_x95:decide ((n:Int)=95)=true:=decide_eq_true a_x95;have b_x95:((n:Int)==95)=true:=by simpa using a_x95
     have n_x95:(n=95):=by omega
     have e_x95:decide (n=95)=true:=decide_eq_true n_x95;have hN_x95:=Lh n_x95;clear n_x95;have hA_x95:=Lh a_x95;clear a_x95;have hv:=Lh (show Ch.legI 1 0 l k=true by
      rw[HL.out,show ∀B Q,Ch.legC 1 0 c B Q=(((decide ((0:Int)=0)) || !(decide ((0:Int)=0)))&&(Ch.letter c||(decide (c.toNat=95))||(B&&Ch.digit c)||((decide ((0:Int)=0))&&(decide (c.toNat=58))))) from fun B Q=>by unfold Ch.legC;rfl]
      try simp only[HN.out,hb_lt,e_x95,Bool.true_or,Bool.or_true,Bool.false_or,Bool.or_false,Bool.true_and,Bool.and_true,Bool.false_and,Bool.and_false,Bool.not_true,Bool.not_false]
      try rfl)
     clear HL hso;rw[hb_lt] at hlt;go_enter Tryz.func44,Tryz.ntmps44;go_wp2_with (first|(go_at_call 76;refine(hlt _).mono ?_;rintro e w1 ⟨rfl,rfl⟩)|(go_at_call 77;refine(hdg _).mono ?_;rintro e w1 ⟨rfl,rfl⟩))
     go_ret;exact⟨by rw[hv.out];first|rfl|(simp only[bne,b_x95];rfl),rfl⟩
    ·have d_x95:decide ((n:Int)=95)=false:=decide_eq_false a_x95;have b_x95:((n:Int)==95)=false:=by simpa using a_x95
     have n_x95 : ¬(n=95):=by omega
     have e_x95:decide (n=95)=false:=decide_eq_false n_x95;by_cases a_b:(0:Int)<(k:Int)
     ·have d_b:decide ((0:Int)<(k:Int))=true:=decide_eq_true a_b;have n_b:(0<k):=by omega
      have e_b:decide (0<k)=true:=decide_eq_true n_b
      cases hb_dg:Ch.digit c
      ·by_cases a_x58:(n:Int)=58
       ·have d_x58:decide ((n:Int)=58)=true:=decide_eq_true a_x58;have b_x58:((n:Int)==58)=true:=by simpa using a_x58
        have n_x58:(n=58):=by omega
        have e_x58:decide (n=58)=true:=decide_eq_true n_x58;have hN_x58:=Lh n_x58;clear n_x58;have hA_x58:=Lh a_x58;clear a_x58;have hv:=Lh (show Ch.legI 1 0 l k=true by
         rw[HL.out,show ∀B Q,Ch.legC 1 0 c B Q=(((decide ((0:Int)=0)) || !(decide ((0:Int)=0)))&&(Ch.letter c||(decide (c.toNat=95))||(B&&Ch.digit c)||((decide ((0:Int)=0))&&(decide (c.toNat=58))))) from fun B Q=>by unfold Ch.legC;rfl]
         try simp only[HN.out,hb_lt,e_x95,e_b,hb_dg,e_x58,Bool.true_or,Bool.or_true,Bool.false_or,Bool.or_false,Bool.true_and,Bool.and_true,Bool.false_and,Bool.and_false,Bool.not_true,Bool.not_false]
         try rfl)
        clear HL hso;rw[hb_lt] at hlt;rw[hb_dg] at hdg;go_enter Tryz.func44,Tryz.ntmps44;go_wp2_with (first|(go_at_call 76;refine(hlt _).mono ?_;rintro e w1 ⟨rfl,rfl⟩)|(go_at_call 77;refine(hdg _).mono ?_;rintro e w1 ⟨rfl,rfl⟩))
        go_ret;exact⟨by rw[hv.out];first|rfl|(simp only[bne,b_x95,b_x58];rfl),rfl⟩
       ·have d_x58:decide ((n:Int)=58)=false:=decide_eq_false a_x58;have b_x58:((n:Int)==58)=false:=by simpa using a_x58
        have n_x58 : ¬(n=58):=by omega
        have e_x58:decide (n=58)=false:=decide_eq_false n_x58;have hv:=Lh (show Ch.legI 1 0 l k=false by
         rw[HL.out,show ∀B Q,Ch.legC 1 0 c B Q=(((decide ((0:Int)=0)) || !(decide ((0:Int)=0)))&&(Ch.letter c||(decide (c.toNat=95))||(B&&Ch.digit c)||((decide ((0:Int)=0))&&(decide (c.toNat=58))))) from fun B Q=>by unfold Ch.legC;rfl]
         try simp only[HN.out,hb_lt,e_x95,e_b,hb_dg,e_x58,Bool.true_or,Bool.or_true,Bool.false_or,Bool.or_false,Bool.true_and,Bool.and_true,Bool.false_and,Bool.and_false,Bool.not_true,Bool.not_false]
         try rfl)
        clear HL hso;rw[hb_lt] at hlt;rw[hb_dg] at hdg;go_enter Tryz.func44,Tryz.ntmps44;go_wp2_with (first|(go_at_call 76;refine(hlt _).mono ?_;rintro e w1 ⟨rfl,rfl⟩)|(go_at_call 77;refine(hdg _).mono ?_;rintro e w1 ⟨rfl,rfl⟩))
        go_ret;exact⟨by rw[hv.out];first|rfl|(simp only[bne,b_x95,b_x58];rfl),rfl⟩
      ·have hv:=Lh (show Ch.legI 1 0 l k=true by
        rw[HL.out,show ∀B Q,Ch.legC 1 0 c B Q=(((decide ((0:Int)=0)) || !(decide ((0:Int)=0)))&&(Ch.letter c||(decide (c.toNat=95))||(B&&Ch.digit c)||((decide ((0:Int)=0))&&(decide (c.toNat=58))))) from fun B Q=>by unfold Ch.legC;rfl]
        try simp only[HN.out,hb_lt,e_x95,e_b,hb_dg,Bool.true_or,Bool.or_true,Bool.false_or,Bool.or_false,Bool.true_and,Bool.and_true,Bool.false_and,Bool.and_false,Bool.not_true,Bool.not_false]
        try rfl)
       clear HL hso;rw[hb_lt] at hlt;rw[hb_dg] at hdg;go_enter Tryz.func44,Tryz.ntmps44;go_wp2_with (first|(go_at_call 76;refine(hlt _).mono ?_;rintro e w1 ⟨rfl,rfl⟩)|(go_at_call 77;refine(hdg _).mono ?_;rintro e w1 ⟨rfl,rfl⟩))
       go_ret;exact⟨by rw[hv.out];first|rfl|(simp only[bne,b_x95];rfl),rfl⟩
     ·have d_b:decide ((0:Int)<(k:Int))=false:=decide_eq_false a_b;have n_b : ¬(0<k):=by omega
      have e_b:decide (0<k)=false:=decide_eq_false n_b;by_cases a_x58:(n:Int)=58
      ·have d_x58:decide ((n:Int)=58)=true:=decide_eq_true a_x58;have b_x58:((n:Int)==58)=true:=by simpa using a_x58
       have n_x58:(n=58):=by omega
       have e_x58:decide (n=58)=true:=decide_eq_true n_x58;have hN_x58:=Lh n_x58;clear n_x58;have hA_x58:=Lh a_x58;clear a_x58;have hv:=Lh (show Ch.legI 1 0 l k=true by
        rw[HL.out,show ∀B Q,Ch.legC 1 0 c B Q=(((decide ((0:Int)=0)) || !(decide ((0:Int)=0)))&&(Ch.letter c||(decide (c.toNat=95))||(B&&Ch.digit c)||((decide ((0:Int)=0))&&(decide (c.toNat=58))))) from fun B Q=>by unfold Ch.legC;rfl]
        try simp only[HN.out,hb_lt,e_x95,e_b,e_x58,Bool.true_or,Bool.or_true,Bool.false_or,Bool.or_false,Bool.true_and,Bool.and_true,Bool.false_and,Bool.and_false,Bool.not_true,Bool.not_false]
        try rfl)
       clear HL hso;rw[hb_lt] at hlt;go_enter Tryz.func44,Tryz.ntmps44;go_wp2_with (first|(go_at_call 76;refine(hlt _).mono ?_;rintro e w1 ⟨rfl,rfl⟩)|(go_at_call 77;refine(hdg _).mono ?_;rintro e w1 ⟨rfl,rfl⟩))
       go_ret;exact⟨by rw[hv.out];first|rfl|(simp only[bne,b_x95,b_x58];rfl),rfl⟩
      ·have d_x58:decide ((n:Int)=58)=false:=decide_eq_false a_x58;have b_x58:((n:Int)==58)=false:=by simpa using a_x58
       have n_x58 : ¬(n=58):=by omega
       have e_x58:decide (n=58)=false:=decide_eq_false n_x58;have hv:=Lh (show Ch.legI 1 0 l k=false by
        rw[HL.out,show ∀B Q,Ch.legC 1 0 c B Q=(((decide ((0:Int)=0)) || !(decide ((0:Int)=0)))&&(Ch.letter c||(decide (c.toNat=95))||(B&&Ch.digit c)||((decide ((0:Int)=0))&&(decide (c.toNat=58))))) from fun B Q=>by unfold Ch.legC;rfl]
        try simp only[HN.out,hb_lt,e_x95,e_b,e_x58,Bool.true_or,Bool.or_true,Bool.false_or,Bool.or_false,Bool.true_and,Bool.and_true,Bool.false_and,Bool.and_false,Bool.not_true,Bool.not_false]
        try rfl)
       clear HL hso;rw[hb_lt] at hlt;go_enter Tryz.func44,Tryz.ntmps44;go_wp2_with (first|(go_at_call 76;refine(hlt _).mono ?_;rintro e w1 ⟨rfl,rfl⟩)|(go_at_call 77;refine(hdg _).mono ?_;rintro e w1 ⟨rfl,rfl⟩))
       go_ret;exact⟨by rw[hv.out];first|rfl|(simp only[bne,b_x95,b_x58];rfl),rfl⟩
   ·have hv:=Lh (show Ch.legI 1 0 l k=true by
     rw[HL.out,show ∀B Q,Ch.legC 1 0 c B Q=(((decide ((0:Int)=0)) || !(decide ((0:Int)=0)))&&(Ch.letter c||(decide (c.toNat=95))||(B&&Ch.digit c)||((decide ((0:Int)=0))&&(decide (c.toNat=58))))) from fun B Q=>by unfold Ch.legC;rfl]
     try simp only[HN.out,hb_lt,Bool.true_or,Bool.or_true,Bool.false_or,Bool.or_false,Bool.true_and,Bool.and_true,Bool.false_and,Bool.and_false,Bool.not_true,Bool.not_false]
     try rfl)
    clear HL hso;rw[hb_lt] at hlt;go_enter Tryz.func44,Tryz.ntmps44;go_wp2_with (first|(go_at_call 76;refine(hlt _).mono ?_;rintro e w1 ⟨rfl,rfl⟩)|(go_at_call 77;refine(hdg _).mono ?_;rintro e w1 ⟨rfl,rfl⟩))
    go_ret;exact⟨by rw[hv.out];first|rfl|(simp only[bne];rfl),rfl⟩
  by_cases q2:p=2
  ·subst q2;by_cases a_g32:(32:Int)≤(n:Int)
   ·have d_g32:decide ((32:Int)≤(n:Int))=true:=decide_eq_true a_g32;have n_g32:(32≤n):=by omega
    have e_g32:decide (32≤n)=true:=decide_eq_true n_g32;by_cases a_l126:(n:Int)≤126
    ·have d_l126:decide ((n:Int)≤126)=true:=decide_eq_true a_l126;have n_l126:(n≤126):=by omega
     have e_l126:decide (n≤126)=true:=decide_eq_true n_l126;by_cases a_x92:(n:Int)=92
     ·have d_x92:decide ((n:Int)=92)=true:=decide_eq_true a_x92;have b_x92:((n:Int)==92)=true:=by simpa using a_x92
      have n_x92:(n=92):=by omega
      have e_x92:decide (n=92)=true:=decide_eq_true n_x92;have hN_x92:=Lh n_x92;clear n_x92;have hA_x92:=Lh a_x92;clear a_x92;have hv:=Lh (show Ch.legI 2 0 l k=false by
       rw[HL.out,show ∀B Q,Ch.legC 2 0 c B Q=(((decide ((0:Int)=0)) || !(decide ((0:Int)=0)))&&(((decide (32≤c.toNat))&&(decide (c.toNat≤126)) && !(decide (c.toNat=92))) && !(!B&&(decide (c.toNat=35))&&(decide ((0:Int)=0))))) from fun B Q=>by unfold Ch.legC Ch.line;rfl]
       try simp only[HN.out,e_g32,e_l126,e_x92,Bool.true_or,Bool.or_true,Bool.false_or,Bool.or_false,Bool.true_and,Bool.and_true,Bool.false_and,Bool.and_false,Bool.not_true,Bool.not_false]
       try rfl)
      clear HL hso;go_enter Tryz.func44,Tryz.ntmps44;go_wp2_with (first|(go_at_call 76;refine(hlt _).mono ?_;rintro e w1 ⟨rfl,rfl⟩)|(go_at_call 77;refine(hdg _).mono ?_;rintro e w1 ⟨rfl,rfl⟩))
      go_ret;exact⟨by rw[hv.out];first|rfl|(simp only[bne,b_x92];rfl),rfl⟩
     ·have d_x92:decide ((n:Int)=92)=false:=decide_eq_false a_x92;have b_x92:((n:Int)==92)=false:=by simpa using a_x92
      have n_x92 : ¬(n=92):=by omega
      have e_x92:decide (n=92)=false:=decide_eq_false n_x92;by_cases a_z:(k:Int)=0
      ·have d_z:decide ((k:Int)=0)=true:=decide_eq_true a_z;have b_z:((k:Int)==0)=true:=by simpa using a_z
       have n_z:(k=0):=by omega
       have e_z:decide (k=0)=true:=decide_eq_true n_z;have hN_z:=Lh n_z;clear n_z;have hA_z:=Lh a_z;clear a_z;have eb_z:decide (0<k)=false:=decide_eq_false (by have:=hN_z.out;omega);by_cases a_x35:(n:Int)=35
       ·have d_x35:decide ((n:Int)=35)=true:=decide_eq_true a_x35;have b_x35:((n:Int)==35)=true:=by simpa using a_x35
        have n_x35:(n=35):=by omega
        have e_x35:decide (n=35)=true:=decide_eq_true n_x35;have hN_x35:=Lh n_x35;clear n_x35;have hA_x35:=Lh a_x35;clear a_x35;have hv:=Lh (show Ch.legI 2 0 l k=false by
         rw[HL.out,show ∀B Q,Ch.legC 2 0 c B Q=(((decide ((0:Int)=0)) || !(decide ((0:Int)=0)))&&(((decide (32≤c.toNat))&&(decide (c.toNat≤126)) && !(decide (c.toNat=92))) && !(!B&&(decide (c.toNat=35))&&(decide ((0:Int)=0))))) from fun B Q=>by unfold Ch.legC Ch.line;rfl]
         try simp only[HN.out,e_g32,e_l126,e_x92,eb_z,e_x35,Bool.true_or,Bool.or_true,Bool.false_or,Bool.or_false,Bool.true_and,Bool.and_true,Bool.false_and,Bool.and_false,Bool.not_true,Bool.not_false]
         try rfl)
        clear HL hso;go_enter Tryz.func44,Tryz.ntmps44;go_wp2_with (first|(go_at_call 76;refine(hlt _).mono ?_;rintro e w1 ⟨rfl,rfl⟩)|(go_at_call 77;refine(hdg _).mono ?_;rintro e w1 ⟨rfl,rfl⟩))
        go_ret;exact⟨by rw[hv.out];first|rfl|(simp only[bne,b_x92,b_z,b_x35];rfl),rfl⟩
       ·have d_x35:decide ((n:Int)=35)=false:=decide_eq_false a_x35;have b_x35:((n:Int)==35)=false:=by simpa using a_x35
        have n_x35 : ¬(n=35):=by omega
        have e_x35:decide (n=35)=false:=decide_eq_false n_x35;have hv:=Lh (show Ch.legI 2 0 l k=true by
         rw[HL.out,show ∀B Q,Ch.legC 2 0 c B Q=(((decide ((0:Int)=0)) || !(decide ((0:Int)=0)))&&(((decide (32≤c.toNat))&&(decide (c.toNat≤126)) && !(decide (c.toNat=92))) && !(!B&&(decide (c.toNat=35))&&(decide ((0:Int)=0))))) from fun B Q=>by unfold Ch.legC Ch.line;rfl]
         try simp only[HN.out,e_g32,e_l126,e_x92,eb_z,e_x35,Bool.true_or,Bool.or_true,Bool.false_or,Bool.or_false,Bool.true_and,Bool.and_true,Bool.false_and,Bool.and_false,Bool.not_true,Bool.not_false]
         try rfl)
        clear HL hso;go_enter Tryz.func44,Tryz.ntmps44;go_wp2_with (first|(go_at_call 76;refine(hlt _).mono ?_;rintro e w1 ⟨rfl,rfl⟩)|(go_at_call 77;refine(hdg _).mono ?_;rintro e w1 ⟨rfl,rfl⟩))
        go_ret;exact⟨by rw[hv.out];first|rfl|(simp only[bne,b_x92,b_z,b_x35];rfl),rfl⟩
      ·have d_z:decide ((k:Int)=0)=false:=decide_eq_false a_z;have b_z:((k:Int)==0)=false:=by simpa using a_z
       have n_z : ¬(k=0):=by omega
       have e_z:decide (k=0)=false:=decide_eq_false n_z;have eb_z:decide (0<k)=true:=decide_eq_true (by omega);have hv:=Lh (show Ch.legI 2 0 l k=true by
        rw[HL.out,show ∀B Q,Ch.legC 2 0 c B Q=(((decide ((0:Int)=0)) || !(decide ((0:Int)=0)))&&(((decide (32≤c.toNat))&&(decide (c.toNat≤126)) && !(decide (c.toNat=92))) && !(!B&&(decide (c.toNat=35))&&(decide ((0:Int)=0))))) from fun B Q=>by unfold Ch.legC Ch.line;rfl]
        try simp only[HN.out,e_g32,e_l126,e_x92,eb_z,Bool.true_or,Bool.or_true,Bool.false_or,Bool.or_false,Bool.true_and,Bool.and_true,Bool.false_and,Bool.and_false,Bool.not_true,Bool.not_false]
        try rfl)
       clear HL hso;go_enter Tryz.func44,Tryz.ntmps44;go_wp2_with (first|(go_at_call 76;refine(hlt _).mono ?_;rintro e w1 ⟨rfl,rfl⟩)|(go_at_call 77;refine(hdg _).mono ?_;rintro e w1 ⟨rfl,rfl⟩))
       go_ret;exact⟨by rw[hv.out];first|rfl|(simp only[bne,b_x92,b_z];rfl),rfl⟩
    ·have d_l126:decide ((n:Int)≤126)=false:=decide_eq_false a_l126;have n_l126 : ¬(n≤126):=by omega
     have e_l126:decide (n≤126)=false:=decide_eq_false n_l126;have hv:=Lh (show Ch.legI 2 0 l k=false by
      rw[HL.out,show ∀B Q,Ch.legC 2 0 c B Q=(((decide ((0:Int)=0)) || !(decide ((0:Int)=0)))&&(((decide (32≤c.toNat))&&(decide (c.toNat≤126)) && !(decide (c.toNat=92))) && !(!B&&(decide (c.toNat=35))&&(decide ((0:Int)=0))))) from fun B Q=>by unfold Ch.legC Ch.line;rfl]
      try simp only[HN.out,e_g32,e_l126,Bool.true_or,Bool.or_true,Bool.false_or,Bool.or_false,Bool.true_and,Bool.and_true,Bool.false_and,Bool.and_false,Bool.not_true,Bool.not_false]
      try rfl)
     clear HL hso;go_enter Tryz.func44,Tryz.ntmps44;go_wp2_with (first|(go_at_call 76;refine(hlt _).mono ?_;rintro e w1 ⟨rfl,rfl⟩)|(go_at_call 77;refine(hdg _).mono ?_;rintro e w1 ⟨rfl,rfl⟩))
     go_ret;exact⟨by rw[hv.out];first|rfl|(simp only[bne];rfl),rfl⟩
   ·have d_g32:decide ((32:Int)≤(n:Int))=false:=decide_eq_false a_g32;have n_g32 : ¬(32≤n):=by omega
    have e_g32:decide (32≤n)=false:=decide_eq_false n_g32;have hv:=Lh (show Ch.legI 2 0 l k=false by
     rw[HL.out,show ∀B Q,Ch.legC 2 0 c B Q=(((decide ((0:Int)=0)) || !(decide ((0:Int)=0)))&&(((decide (32≤c.toNat))&&(decide (c.toNat≤126)) && !(decide (c.toNat=92))) && !(!B&&(decide (c.toNat=35))&&(decide ((0:Int)=0))))) from fun B Q=>by unfold Ch.legC Ch.line;rfl]
     try simp only[HN.out,e_g32,Bool.true_or,Bool.or_true,Bool.false_or,Bool.or_false,Bool.true_and,Bool.and_true,Bool.false_and,Bool.and_false,Bool.not_true,Bool.not_false]
     try rfl)
    clear HL hso;go_enter Tryz.func44,Tryz.ntmps44;go_wp2_with (first|(go_at_call 76;refine(hlt _).mono ?_;rintro e w1 ⟨rfl,rfl⟩)|(go_at_call 77;refine(hdg _).mono ?_;rintro e w1 ⟨rfl,rfl⟩))
    go_ret;exact⟨by rw[hv.out];first|rfl|(simp only[bne];rfl),rfl⟩
  by_cases q3:p=3
  ·subst q3;by_cases a_x46:(n:Int)=46
   ·have d_x46:decide ((n:Int)=46)=true:=decide_eq_true a_x46;have b_x46:((n:Int)==46)=true:=by simpa using a_x46
    have n_x46:(n=46):=by omega
    have e_x46:decide (n=46)=true:=decide_eq_true n_x46;have hN_x46:=Lh n_x46;clear n_x46;have hA_x46:=Lh a_x46;clear a_x46;by_cases a_b:(0:Int)<(k:Int)
    ·have d_b:decide ((0:Int)<(k:Int))=true:=decide_eq_true a_b;have n_b:(0<k):=by omega
     have e_b:decide (0<k)=true:=decide_eq_true n_b;have hat:k-1<(str l).size:=by rw[hsz];omega
     have hjk:(k:Int)-1=((k-1:Nat):Int):=by omega
     by_cases a_k1:(k:Int)<(l.length:Int)-1
     ·have d_k1:decide ((k:Int)<(l.length:Int)-1)=true:=decide_eq_true a_k1;have n_k1:(k+1<l.length):=by omega
      have e_k1:decide (k+1<l.length)=true:=decide_eq_true n_k1;by_cases a_m46:((str l)[k-1].toNat:Int)=46
      ·have d_m46:decide (((str l)[k-1].toNat:Int)=46)=true:=decide_eq_true a_m46;have b_m46:(((str l)[k-1].toNat:Int)==46)=true:=by simpa using a_m46
       have hA_m46:=Lh a_m46;clear a_m46;have hm46:=Lh (show((l.getD (k-1) 0).toNat=46) by
        have hh:(l.getD (k-1) 0).toNat=(str l)[k-1].toNat:=by rw[List.getD_eq_getElem?_getD,List.getElem?_eq_getElem (by rw[hsz] at hat;exact hat)];rfl
        rw[hh];have:=hA_m46.out;omega)
       have hmid:=Lh (show Ch.mid l k=false by unfold Ch.mid;rw[decide_eq_true n_b,decide_eq_true n_k1,decide_eq_true hm46.out];rfl);have hv:=Lh (show Ch.legI 3 0 l k=false by
        rw[HL.out,show ∀B Q,Ch.legC 3 0 c B Q=(((decide ((0:Int)=0)) || !(decide ((0:Int)=0)))&&(if c.toNat=46 then (decide ((0:Int)=0))&&Q else Ch.letter c||Ch.digit c||(decide (c.toNat=95))||(decide (c.toNat=45))||(decide (c.toNat=58)))) from fun B Q=>by unfold Ch.legC;rfl];rw[if_pos (show c.toNat=46 from by rw[HN.out];exact hN_x46.out)]
        try simp only[HN.out,hmid.out,Bool.true_or,Bool.or_true,Bool.false_or,Bool.or_false,Bool.true_and,Bool.and_true,Bool.false_and,Bool.and_false,Bool.not_true,Bool.not_false]
        try rfl)
       clear HL hso;go_enter Tryz.func44,Tryz.ntmps44;go_wp2_with (first|(go_at_call 76;refine(hlt _).mono ?_;rintro e w1 ⟨rfl,rfl⟩)|(go_at_call 77;refine(hdg _).mono ?_;rintro e w1 ⟨rfl,rfl⟩))
       go_ret;exact⟨by rw[hv.out];first|rfl|(simp only[bne,b_x46,b_m46];rfl),rfl⟩
      ·have d_m46:decide (((str l)[k-1].toNat:Int)=46)=false:=decide_eq_false a_m46;have b_m46:(((str l)[k-1].toNat:Int)==46)=false:=by simpa using a_m46
       have hm46:=Lh (show ¬((l.getD (k-1) 0).toNat=46) by
        have hh:(l.getD (k-1) 0).toNat=(str l)[k-1].toNat:=by rw[List.getD_eq_getElem?_getD,List.getElem?_eq_getElem (by rw[hsz] at hat;exact hat)];rfl
        rw[hh];have:=a_m46;omega)
       have hmid:=Lh (show Ch.mid l k=true by unfold Ch.mid;rw[decide_eq_true n_b,decide_eq_true n_k1,decide_eq_false hm46.out];rfl);have hv:=Lh (show Ch.legI 3 0 l k=true by
        rw[HL.out,show ∀B Q,Ch.legC 3 0 c B Q=(((decide ((0:Int)=0)) || !(decide ((0:Int)=0)))&&(if c.toNat=46 then (decide ((0:Int)=0))&&Q else Ch.letter c||Ch.digit c||(decide (c.toNat=95))||(decide (c.toNat=45))||(decide (c.toNat=58)))) from fun B Q=>by unfold Ch.legC;rfl];rw[if_pos (show c.toNat=46 from by rw[HN.out];exact hN_x46.out)]
        try simp only[HN.out,hmid.out,Bool.true_or,Bool.or_true,Bool.false_or,Bool.or_false,Bool.true_and,Bool.and_true,Bool.false_and,Bool.and_false,Bool.not_true,Bool.not_false]
        try rfl)
       clear HL hso;go_enter Tryz.func44,Tryz.ntmps44;go_wp2_with (first|(go_at_call 76;refine(hlt _).mono ?_;rintro e w1 ⟨rfl,rfl⟩)|(go_at_call 77;refine(hdg _).mono ?_;rintro e w1 ⟨rfl,rfl⟩))
       go_ret;exact⟨by rw[hv.out];first|rfl|(simp only[bne,b_x46,b_m46];rfl),rfl⟩
     ·have d_k1:decide ((k:Int)<(l.length:Int)-1)=false:=decide_eq_false a_k1;have n_k1 : ¬(k+1<l.length):=by omega
      have e_k1:decide (k+1<l.length)=false:=decide_eq_false n_k1;have hmid:=Lh (show Ch.mid l k=false by unfold Ch.mid;rw[decide_eq_false n_k1];simp);have hv:=Lh (show Ch.legI 3 0 l k=false by
       rw[HL.out,show ∀B Q,Ch.legC 3 0 c B Q=(((decide ((0:Int)=0)) || !(decide ((0:Int)=0)))&&(if c.toNat=46 then (decide ((0:Int)=0))&&Q else Ch.letter c||Ch.digit c||(decide (c.toNat=95))||(decide (c.toNat=45))||(decide (c.toNat=58)))) from fun B Q=>by unfold Ch.legC;rfl];rw[if_pos (show c.toNat=46 from by rw[HN.out];exact hN_x46.out)]
       try simp only[HN.out,hmid.out,Bool.true_or,Bool.or_true,Bool.false_or,Bool.or_false,Bool.true_and,Bool.and_true,Bool.false_and,Bool.and_false,Bool.not_true,Bool.not_false]
       try rfl)
      clear HL hso;go_enter Tryz.func44,Tryz.ntmps44;go_wp2_with (first|(go_at_call 76;refine(hlt _).mono ?_;rintro e w1 ⟨rfl,rfl⟩)|(go_at_call 77;refine(hdg _).mono ?_;rintro e w1 ⟨rfl,rfl⟩))
      go_ret;exact⟨by rw[hv.out];first|rfl|(simp only[bne,b_x46];rfl),rfl⟩
    ·have d_b:decide ((0:Int)<(k:Int))=false:=decide_eq_false a_b;have n_b : ¬(0<k):=by omega
     have e_b:decide (0<k)=false:=decide_eq_false n_b;have hmid:=Lh (show Ch.mid l k=false by unfold Ch.mid;rw[decide_eq_false n_b];rfl);have hv:=Lh (show Ch.legI 3 0 l k=false by
      rw[HL.out,show ∀B Q,Ch.legC 3 0 c B Q=(((decide ((0:Int)=0)) || !(decide ((0:Int)=0)))&&(if c.toNat=46 then (decide ((0:Int)=0))&&Q else Ch.letter c||Ch.digit c||(decide (c.toNat=95))||(decide (c.toNat=45))||(decide (c.toNat=58)))) from fun B Q=>by unfold Ch.legC;rfl];rw[if_pos (show c.toNat=46 from by rw[HN.out];exact hN_x46.out)]
      try simp only[HN.out,hmid.out,Bool.true_or,Bool.or_true,Bool.false_or,Bool.or_false,Bool.true_and,Bool.and_true,Bool.false_and,Bool.and_false,Bool.not_true,Bool.not_false]
      try rfl)
     clear HL hso;go_enter Tryz.func44,Tryz.ntmps44;go_wp2_with (first|(go_at_call 76;refine(hlt _).mono ?_;rintro e w1 ⟨rfl,rfl⟩)|(go_at_call 77;refine(hdg _).mono ?_;rintro e w1 ⟨rfl,rfl⟩))
     go_ret;exact⟨by rw[hv.out];first|rfl|(simp only[bne,b_x46];rfl),rfl⟩
   ·have d_x46:decide ((n:Int)=46)=false:=decide_eq_false a_x46;have b_x46:((n:Int)==46)=false:=by simpa using a_x46
    have n_x46 : ¬(n=46):=by omega
    have e_x46:decide (n=46)=false:=decide_eq_false n_x46
    cases hb_lt:Ch.letter c
    ·cases hb_dg:Ch.digit c
     ·by_cases a_x95:(n:Int)=95
      ·have d_x95:decide ((n:Int)=95)=true:=decide_eq_true a_x95;have b_x95:((n:Int)==95)=true:=by simpa using a_x95
       have n_x95:(n=95):=by omega
       have e_x95:decide (n=95)=true:=decide_eq_true n_x95;have hN_x95:=Lh n_x95;clear n_x95;have hA_x95:=Lh a_x95;clear a_x95;have hv:=Lh (show Ch.legI 3 0 l k=true by
        rw[HL.out,show ∀B Q,Ch.legC 3 0 c B Q=(((decide ((0:Int)=0)) || !(decide ((0:Int)=0)))&&(if c.toNat=46 then (decide ((0:Int)=0))&&Q else Ch.letter c||Ch.digit c||(decide (c.toNat=95))||(decide (c.toNat=45))||(decide (c.toNat=58)))) from fun B Q=>by unfold Ch.legC;rfl];rw[if_neg (show ¬c.toNat=46 from by rw[HN.out];exact n_x46)]
        try simp only[HN.out,hb_lt,hb_dg,e_x95,Bool.true_or,Bool.or_true,Bool.false_or,Bool.or_false,Bool.true_and,Bool.and_true,Bool.false_and,Bool.and_false,Bool.not_true,Bool.not_false]
        try rfl)
       clear HL hso;rw[hb_lt] at hlt;rw[hb_dg] at hdg;go_enter Tryz.func44,Tryz.ntmps44;go_wp2_with (first|(go_at_call 76;refine(hlt _).mono ?_;rintro e w1 ⟨rfl,rfl⟩)|(go_at_call 77;refine(hdg _).mono ?_;rintro e w1 ⟨rfl,rfl⟩))
       go_ret;exact⟨by rw[hv.out];first|rfl|(simp only[bne,b_x46,b_x95];rfl),rfl⟩
      ·have d_x95:decide ((n:Int)=95)=false:=decide_eq_false a_x95;have b_x95:((n:Int)==95)=false:=by simpa using a_x95
       have n_x95 : ¬(n=95):=by omega
       have e_x95:decide (n=95)=false:=decide_eq_false n_x95;by_cases a_x45:(n:Int)=45
       ·have d_x45:decide ((n:Int)=45)=true:=decide_eq_true a_x45;have b_x45:((n:Int)==45)=true:=by simpa using a_x45
        have n_x45:(n=45):=by omega
        have e_x45:decide (n=45)=true:=decide_eq_true n_x45;have hN_x45:=Lh n_x45;clear n_x45;have hA_x45:=Lh a_x45;clear a_x45;have hv:=Lh (show Ch.legI 3 0 l k=true by
         rw[HL.out,show ∀B Q,Ch.legC 3 0 c B Q=(((decide ((0:Int)=0)) || !(decide ((0:Int)=0)))&&(if c.toNat=46 then (decide ((0:Int)=0))&&Q else Ch.letter c||Ch.digit c||(decide (c.toNat=95))||(decide (c.toNat=45))||(decide (c.toNat=58)))) from fun B Q=>by unfold Ch.legC;rfl];rw[if_neg (show ¬c.toNat=46 from by rw[HN.out];exact n_x46)]
         try simp only[HN.out,hb_lt,hb_dg,e_x95,e_x45,Bool.true_or,Bool.or_true,Bool.false_or,Bool.or_false,Bool.true_and,Bool.and_true,Bool.false_and,Bool.and_false,Bool.not_true,Bool.not_false]
         try rfl)
        clear HL hso;rw[hb_lt] at hlt;rw[hb_dg] at hdg;go_enter Tryz.func44,Tryz.ntmps44;go_wp2_with (first|(go_at_call 76;refine(hlt _).mono ?_;rintro e w1 ⟨rfl,rfl⟩)|(go_at_call 77;refine(hdg _).mono ?_;rintro e w1 ⟨rfl,rfl⟩))
        go_ret;exact⟨by rw[hv.out];first|rfl|(simp only[bne,b_x46,b_x95,b_x45];rfl),rfl⟩
       ·have d_x45:decide ((n:Int)=45)=false:=decide_eq_false a_x45;have b_x45:((n:Int)==45)=false:=by simpa using a_x45
        have n_x45 : ¬(n=45):=by omega
        have e_x45:decide (n=45)=false:=decide_eq_false n_x45;by_cases a_x58:(n:Int)=58
        ·have d_x58:decide ((n:Int)=58)=true:=decide_eq_true a_x58;have b_x58:((n:Int)==58)=true:=by simpa using a_x58
         have n_x58:(n=58):=by omega
         have e_x58:decide (n=58)=true:=decide_eq_true n_x58;have hN_x58:=Lh n_x58;clear n_x58;have hA_x58:=Lh a_x58;clear a_x58;have hv:=Lh (show Ch.legI 3 0 l k=true by
          rw[HL.out,show ∀B Q,Ch.legC 3 0 c B Q=(((decide ((0:Int)=0)) || !(decide ((0:Int)=0)))&&(if c.toNat=46 then (decide ((0:Int)=0))&&Q else Ch.letter c||Ch.digit c||(decide (c.toNat=95))||(decide (c.toNat=45))||(decide (c.toNat=58)))) from fun B Q=>by unfold Ch.legC;rfl];rw[if_neg (show ¬c.toNat=46 from by rw[HN.out];exact n_x46)]
          try simp only[HN.out,hb_lt,hb_dg,e_x95,e_x45,e_x58,Bool.true_or,Bool.or_true,Bool.false_or,Bool.or_false,Bool.true_and,Bool.and_true,Bool.false_and,Bool.and_false,Bool.not_true,Bool.not_false]
          try rfl)
         clear HL hso;rw[hb_lt] at hlt;rw[hb_dg] at hdg;go_enter Tryz.func44,Tryz.ntmps44;go_wp2_with (first|(go_at_call 76;refine(hlt _).mono ?_;rintro e w1 ⟨rfl,rfl⟩)|(go_at_call 77;refine(hdg _).mono ?_;rintro e w1 ⟨rfl,rfl⟩))
         go_ret;exact⟨by rw[hv.out];first|rfl|(simp only[bne,b_x46,b_x95,b_x45,b_x58];rfl),rfl⟩
        ·have d_x58:decide ((n:Int)=58)=false:=decide_eq_false a_x58;have b_x58:((n:Int)==58)=false:=by simpa using a_x58
         have n_x58 : ¬(n=58):=by omega
         have e_x58:decide (n=58)=false:=decide_eq_false n_x58;have hv:=Lh (show Ch.legI 3 0 l k=false by
          rw[HL.out,show ∀B Q,Ch.legC 3 0 c B Q=(((decide ((0:Int)=0)) || !(decide ((0:Int)=0)))&&(if c.toNat=46 then (decide ((0:Int)=0))&&Q else Ch.letter c||Ch.digit c||(decide (c.toNat=95))||(decide (c.toNat=45))||(decide (c.toNat=58)))) from fun B Q=>by unfold Ch.legC;rfl];rw[if_neg (show ¬c.toNat=46 from by rw[HN.out];exact n_x46)]
          try simp only[HN.out,hb_lt,hb_dg,e_x95,e_x45,e_x58,Bool.true_or,Bool.or_true,Bool.false_or,Bool.or_false,Bool.true_and,Bool.and_true,Bool.false_and,Bool.and_false,Bool.not_true,Bool.not_false]
          try rfl)
         clear HL hso;rw[hb_lt] at hlt;rw[hb_dg] at hdg;go_enter Tryz.func44,Tryz.ntmps44;go_wp2_with (first|(go_at_call 76;refine(hlt _).mono ?_;rintro e w1 ⟨rfl,rfl⟩)|(go_at_call 77;refine(hdg _).mono ?_;rintro e w1 ⟨rfl,rfl⟩))
         go_ret;exact⟨by rw[hv.out];first|rfl|(simp only[bne,b_x46,b_x95,b_x45,b_x58];rfl),rfl⟩
     ·have hv:=Lh (show Ch.legI 3 0 l k=true by
       rw[HL.out,show ∀B Q,Ch.legC 3 0 c B Q=(((decide ((0:Int)=0)) || !(decide ((0:Int)=0)))&&(if c.toNat=46 then (decide ((0:Int)=0))&&Q else Ch.letter c||Ch.digit c||(decide (c.toNat=95))||(decide (c.toNat=45))||(decide (c.toNat=58)))) from fun B Q=>by unfold Ch.legC;rfl];rw[if_neg (show ¬c.toNat=46 from by rw[HN.out];exact n_x46)]
       try simp only[HN.out,hb_lt,hb_dg,Bool.true_or,Bool.or_true,Bool.false_or,Bool.or_false,Bool.true_and,Bool.and_true,Bool.false_and,Bool.and_false,Bool.not_true,Bool.not_false]
       try rfl)
      clear HL hso;rw[hb_lt] at hlt;rw[hb_dg] at hdg;go_enter Tryz.func44,Tryz.ntmps44;go_wp2_with (first|(go_at_call 76;refine(hlt _).mono ?_;rintro e w1 ⟨rfl,rfl⟩)|(go_at_call 77;refine(hdg _).mono ?_;rintro e w1 ⟨rfl,rfl⟩))
      go_ret;exact⟨by rw[hv.out];first|rfl|(simp only[bne,b_x46];rfl),rfl⟩
    ·have hv:=Lh (show Ch.legI 3 0 l k=true by
      rw[HL.out,show ∀B Q,Ch.legC 3 0 c B Q=(((decide ((0:Int)=0)) || !(decide ((0:Int)=0)))&&(if c.toNat=46 then (decide ((0:Int)=0))&&Q else Ch.letter c||Ch.digit c||(decide (c.toNat=95))||(decide (c.toNat=45))||(decide (c.toNat=58)))) from fun B Q=>by unfold Ch.legC;rfl];rw[if_neg (show ¬c.toNat=46 from by rw[HN.out];exact n_x46)]
      try simp only[HN.out,hb_lt,Bool.true_or,Bool.or_true,Bool.false_or,Bool.or_false,Bool.true_and,Bool.and_true,Bool.false_and,Bool.and_false,Bool.not_true,Bool.not_false]
      try rfl)
     clear HL hso;rw[hb_lt] at hlt;go_enter Tryz.func44,Tryz.ntmps44;go_wp2_with (first|(go_at_call 76;refine(hlt _).mono ?_;rintro e w1 ⟨rfl,rfl⟩)|(go_at_call 77;refine(hdg _).mono ?_;rintro e w1 ⟨rfl,rfl⟩))
     go_ret;exact⟨by rw[hv.out];first|rfl|(simp only[bne,b_x46];rfl),rfl⟩
  by_cases q4:p=4
  ·subst q4
   cases hb_lt:Ch.letter c
   ·cases hb_dg:Ch.digit c
    ·by_cases a_x95:(n:Int)=95
     ·have d_x95:decide ((n:Int)=95)=true:=decide_eq_true a_x95;have b_x95:((n:Int)==95)=true:=by simpa using a_x95
      have n_x95:(n=95):=by omega
      have e_x95:decide (n=95)=true:=decide_eq_true n_x95;have hN_x95:=Lh n_x95;clear n_x95;have hA_x95:=Lh a_x95;clear a_x95;have hv:=Lh (show Ch.legI 4 0 l k=true by
       rw[HL.out,show ∀B Q,Ch.legC 4 0 c B Q=(((decide ((0:Int)=0)) || !(decide ((0:Int)=0)))&&(Ch.letter c||Ch.digit c||(decide (c.toNat=95))||(decide (c.toNat=45))||(decide (c.toNat=46)))) from fun B Q=>by unfold Ch.legC;rfl]
       try simp only[HN.out,hb_lt,hb_dg,e_x95,Bool.true_or,Bool.or_true,Bool.false_or,Bool.or_false,Bool.true_and,Bool.and_true,Bool.false_and,Bool.and_false,Bool.not_true,Bool.not_false]
       try rfl)
      clear HL hso;rw[hb_lt] at hlt;rw[hb_dg] at hdg;go_enter Tryz.func44,Tryz.ntmps44;go_wp2_with (first|(go_at_call 76;refine(hlt _).mono ?_;rintro e w1 ⟨rfl,rfl⟩)|(go_at_call 77;refine(hdg _).mono ?_;rintro e w1 ⟨rfl,rfl⟩))
      go_ret;exact⟨by rw[hv.out];first|rfl|(simp only[bne,b_x95];rfl),rfl⟩
     ·have d_x95:decide ((n:Int)=95)=false:=decide_eq_false a_x95;have b_x95:((n:Int)==95)=false:=by simpa using a_x95
      have n_x95 : ¬(n=95):=by omega
      have e_x95:decide (n=95)=false:=decide_eq_false n_x95;by_cases a_x45:(n:Int)=45
      ·have d_x45:decide ((n:Int)=45)=true:=decide_eq_true a_x45;have b_x45:((n:Int)==45)=true:=by simpa using a_x45
       have n_x45:(n=45):=by omega
       have e_x45:decide (n=45)=true:=decide_eq_true n_x45;have hN_x45:=Lh n_x45;clear n_x45;have hA_x45:=Lh a_x45;clear a_x45;have hv:=Lh (show Ch.legI 4 0 l k=true by
        rw[HL.out,show ∀B Q,Ch.legC 4 0 c B Q=(((decide ((0:Int)=0)) || !(decide ((0:Int)=0)))&&(Ch.letter c||Ch.digit c||(decide (c.toNat=95))||(decide (c.toNat=45))||(decide (c.toNat=46)))) from fun B Q=>by unfold Ch.legC;rfl]
        try simp only[HN.out,hb_lt,hb_dg,e_x95,e_x45,Bool.true_or,Bool.or_true,Bool.false_or,Bool.or_false,Bool.true_and,Bool.and_true,Bool.false_and,Bool.and_false,Bool.not_true,Bool.not_false]
        try rfl)
       clear HL hso;rw[hb_lt] at hlt;rw[hb_dg] at hdg;go_enter Tryz.func44,Tryz.ntmps44;go_wp2_with (first|(go_at_call 76;refine(hlt _).mono ?_;rintro e w1 ⟨rfl,rfl⟩)|(go_at_call 77;refine(hdg _).mono ?_;rintro e w1 ⟨rfl,rfl⟩))
       go_ret;exact⟨by rw[hv.out];first|rfl|(simp only[bne,b_x95,b_x45];rfl),rfl⟩
      ·have d_x45:decide ((n:Int)=45)=false:=decide_eq_false a_x45;have b_x45:((n:Int)==45)=false:=by simpa using a_x45
       have n_x45 : ¬(n=45):=by omega
       have e_x45:decide (n=45)=false:=decide_eq_false n_x45;by_cases a_x46:(n:Int)=46
       ·have d_x46:decide ((n:Int)=46)=true:=decide_eq_true a_x46;have b_x46:((n:Int)==46)=true:=by simpa using a_x46
        have n_x46:(n=46):=by omega
        have e_x46:decide (n=46)=true:=decide_eq_true n_x46;have hN_x46:=Lh n_x46;clear n_x46;have hA_x46:=Lh a_x46;clear a_x46;have hv:=Lh (show Ch.legI 4 0 l k=true by
         rw[HL.out,show ∀B Q,Ch.legC 4 0 c B Q=(((decide ((0:Int)=0)) || !(decide ((0:Int)=0)))&&(Ch.letter c||Ch.digit c||(decide (c.toNat=95))||(decide (c.toNat=45))||(decide (c.toNat=46)))) from fun B Q=>by unfold Ch.legC;rfl]
         try simp only[HN.out,hb_lt,hb_dg,e_x95,e_x45,e_x46,Bool.true_or,Bool.or_true,Bool.false_or,Bool.or_false,Bool.true_and,Bool.and_true,Bool.false_and,Bool.and_false,Bool.not_true,Bool.not_false]
         try rfl)
        clear HL hso;rw[hb_lt] at hlt;rw[hb_dg] at hdg;go_enter Tryz.func44,Tryz.ntmps44;go_wp2_with (first|(go_at_call 76;refine(hlt _).mono ?_;rintro e w1 ⟨rfl,rfl⟩)|(go_at_call 77;refine(hdg _).mono ?_;rintro e w1 ⟨rfl,rfl⟩))
        go_ret;exact⟨by rw[hv.out];first|rfl|(simp only[bne,b_x95,b_x45,b_x46];rfl),rfl⟩
       ·have d_x46:decide ((n:Int)=46)=false:=decide_eq_false a_x46;have b_x46:((n:Int)==46)=false:=by simpa using a_x46
        have n_x46 : ¬(n=46):=by omega
        have e_x46:decide (n=46)=false:=decide_eq_false n_x46;have hv:=Lh (show Ch.legI 4 0 l k=false by
         rw[HL.out,show ∀B Q,Ch.legC 4 0 c B Q=(((decide ((0:Int)=0)) || !(decide ((0:Int)=0)))&&(Ch.letter c||Ch.digit c||(decide (c.toNat=95))||(decide (c.toNat=45))||(decide (c.toNat=46)))) from fun B Q=>by unfold Ch.legC;rfl]
         try simp only[HN.out,hb_lt,hb_dg,e_x95,e_x45,e_x46,Bool.true_or,Bool.or_true,Bool.false_or,Bool.or_false,Bool.true_and,Bool.and_true,Bool.false_and,Bool.and_false,Bool.not_true,Bool.not_false]
         try rfl)
        clear HL hso;rw[hb_lt] at hlt;rw[hb_dg] at hdg;go_enter Tryz.func44,Tryz.ntmps44;go_wp2_with (first|(go_at_call 76;refine(hlt _).mono ?_;rintro e w1 ⟨rfl,rfl⟩)|(go_at_call 77;refine(hdg _).mono ?_;rintro e w1 ⟨rfl,rfl⟩))
        go_ret;exact⟨by rw[hv.out];first|rfl|(simp only[bne,b_x95,b_x45,b_x46];rfl),rfl⟩
    ·have hv:=Lh (show Ch.legI 4 0 l k=true by
      rw[HL.out,show ∀B Q,Ch.legC 4 0 c B Q=(((decide ((0:Int)=0)) || !(decide ((0:Int)=0)))&&(Ch.letter c||Ch.digit c||(decide (c.toNat=95))||(decide (c.toNat=45))||(decide (c.toNat=46)))) from fun B Q=>by unfold Ch.legC;rfl]
      try simp only[HN.out,hb_lt,hb_dg,Bool.true_or,Bool.or_true,Bool.false_or,Bool.or_false,Bool.true_and,Bool.and_true,Bool.false_and,Bool.and_false,Bool.not_true,Bool.not_false]
      try rfl)
     clear HL hso;rw[hb_lt] at hlt;rw[hb_dg] at hdg;go_enter Tryz.func44,Tryz.ntmps44;go_wp2_with (first|(go_at_call 76;refine(hlt _).mono ?_;rintro e w1 ⟨rfl,rfl⟩)|(go_at_call 77;refine(hdg _).mono ?_;rintro e w1 ⟨rfl,rfl⟩))
     go_ret;exact⟨by rw[hv.out];first|rfl|(simp only[bne];rfl),rfl⟩
   ·have hv:=Lh (show Ch.legI 4 0 l k=true by
     rw[HL.out,show ∀B Q,Ch.legC 4 0 c B Q=(((decide ((0:Int)=0)) || !(decide ((0:Int)=0)))&&(Ch.letter c||Ch.digit c||(decide (c.toNat=95))||(decide (c.toNat=45))||(decide (c.toNat=46)))) from fun B Q=>by unfold Ch.legC;rfl]
     try simp only[HN.out,hb_lt,Bool.true_or,Bool.or_true,Bool.false_or,Bool.or_false,Bool.true_and,Bool.and_true,Bool.false_and,Bool.and_false,Bool.not_true,Bool.not_false]
     try rfl)
    clear HL hso;rw[hb_lt] at hlt;go_enter Tryz.func44,Tryz.ntmps44;go_wp2_with (first|(go_at_call 76;refine(hlt _).mono ?_;rintro e w1 ⟨rfl,rfl⟩)|(go_at_call 77;refine(hdg _).mono ?_;rintro e w1 ⟨rfl,rfl⟩))
    go_ret;exact⟨by rw[hv.out];first|rfl|(simp only[bne];rfl),rfl⟩
  have hr:=Lh (show Ch.legI p 0 l k=false by rw[HL.out];exact Ch.legC_off (by omega));have f1:decide (p=1)=false:=decide_eq_false q1;have f2:decide (p=2)=false:=decide_eq_false q2;have f3:decide (p=3)=false:=decide_eq_false q3;have f4:decide (p=4)=false:=decide_eq_false q4;clear HL hso;go_enter Tryz.func44,Tryz.ntmps44;go_wp2;go_ret;exact⟨by rw[hr.out];rfl,rfl⟩
 ·skip
  by_cases q1:p=1
  ·subst q1
   cases hb_lt:Ch.letter c
   ·by_cases a_x95:(n:Int)=95
    ·have d_x95:decide ((n:Int)=95)=true:=decide_eq_true a_x95;have b_x95:((n:Int)==95)=true:=by simpa using a_x95
     have n_x95:(n=95):=by omega
     have e_x95:decide (n=95)=true:=decide_eq_true n_x95;have hN_x95:=Lh n_x95;clear n_x95;have hA_x95:=Lh a_x95;clear a_x95;have hv:=Lh (show Ch.legI 1 1 l k=true by
      rw[HL.out,show ∀B Q,Ch.legC 1 1 c B Q=(((decide ((1:Int)=0)) || !(decide ((1:Int)=0)))&&(Ch.letter c||(decide (c.toNat=95))||(B&&Ch.digit c)||((decide ((1:Int)=0))&&(decide (c.toNat=58))))) from fun B Q=>by unfold Ch.legC;rfl]
      try simp only[HN.out,hb_lt,e_x95,Bool.true_or,Bool.or_true,Bool.false_or,Bool.or_false,Bool.true_and,Bool.and_true,Bool.false_and,Bool.and_false,Bool.not_true,Bool.not_false]
      try rfl)
     clear HL hso;rw[hb_lt] at hlt;go_enter Tryz.func44,Tryz.ntmps44;go_wp2_with (first|(go_at_call 76;refine(hlt _).mono ?_;rintro e w1 ⟨rfl,rfl⟩)|(go_at_call 77;refine(hdg _).mono ?_;rintro e w1 ⟨rfl,rfl⟩))
     go_ret;exact⟨by rw[hv.out];first|rfl|(simp only[bne,b_x95];rfl),rfl⟩
    ·have d_x95:decide ((n:Int)=95)=false:=decide_eq_false a_x95;have b_x95:((n:Int)==95)=false:=by simpa using a_x95
     have n_x95 : ¬(n=95):=by omega
     have e_x95:decide (n=95)=false:=decide_eq_false n_x95;by_cases a_b:(0:Int)<(k:Int)
     ·have d_b:decide ((0:Int)<(k:Int))=true:=decide_eq_true a_b;have n_b:(0<k):=by omega
      have e_b:decide (0<k)=true:=decide_eq_true n_b
      cases hb_dg:Ch.digit c
      ·have hv:=Lh (show Ch.legI 1 1 l k=false by
        rw[HL.out,show ∀B Q,Ch.legC 1 1 c B Q=(((decide ((1:Int)=0)) || !(decide ((1:Int)=0)))&&(Ch.letter c||(decide (c.toNat=95))||(B&&Ch.digit c)||((decide ((1:Int)=0))&&(decide (c.toNat=58))))) from fun B Q=>by unfold Ch.legC;rfl]
        try simp only[HN.out,hb_lt,e_x95,e_b,hb_dg,Bool.true_or,Bool.or_true,Bool.false_or,Bool.or_false,Bool.true_and,Bool.and_true,Bool.false_and,Bool.and_false,Bool.not_true,Bool.not_false]
        try rfl)
       clear HL hso;rw[hb_lt] at hlt;rw[hb_dg] at hdg;go_enter Tryz.func44,Tryz.ntmps44;go_wp2_with (first|(go_at_call 76;refine(hlt _).mono ?_;rintro e w1 ⟨rfl,rfl⟩)|(go_at_call 77;refine(hdg _).mono ?_;rintro e w1 ⟨rfl,rfl⟩))
       go_ret;exact⟨by rw[hv.out];first|rfl|(simp only[bne,b_x95];rfl),rfl⟩
      ·have hv:=Lh (show Ch.legI 1 1 l k=true by
        rw[HL.out,show ∀B Q,Ch.legC 1 1 c B Q=(((decide ((1:Int)=0)) || !(decide ((1:Int)=0)))&&(Ch.letter c||(decide (c.toNat=95))||(B&&Ch.digit c)||((decide ((1:Int)=0))&&(decide (c.toNat=58))))) from fun B Q=>by unfold Ch.legC;rfl]
        try simp only[HN.out,hb_lt,e_x95,e_b,hb_dg,Bool.true_or,Bool.or_true,Bool.false_or,Bool.or_false,Bool.true_and,Bool.and_true,Bool.false_and,Bool.and_false,Bool.not_true,Bool.not_false]
        try rfl)
       clear HL hso;rw[hb_lt] at hlt;rw[hb_dg] at hdg;go_enter Tryz.func44,Tryz.ntmps44;go_wp2_with (first|(go_at_call 76;refine(hlt _).mono ?_;rintro e w1 ⟨rfl,rfl⟩)|(go_at_call 77;refine(hdg _).mono ?_;rintro e w1 ⟨rfl,rfl⟩))
       go_ret;exact⟨by rw[hv.out];first|rfl|(simp only[bne,b_x95];rfl),rfl⟩
     ·have d_b:decide ((0:Int)<(k:Int))=false:=decide_eq_false a_b;have n_b : ¬(0<k):=by omega
      have e_b:decide (0<k)=false:=decide_eq_false n_b;have hv:=Lh (show Ch.legI 1 1 l k=false by
       rw[HL.out,show ∀B Q,Ch.legC 1 1 c B Q=(((decide ((1:Int)=0)) || !(decide ((1:Int)=0)))&&(Ch.letter c||(decide (c.toNat=95))||(B&&Ch.digit c)||((decide ((1:Int)=0))&&(decide (c.toNat=58))))) from fun B Q=>by unfold Ch.legC;rfl]
       try simp only[HN.out,hb_lt,e_x95,e_b,Bool.true_or,Bool.or_true,Bool.false_or,Bool.or_false,Bool.true_and,Bool.and_true,Bool.false_and,Bool.and_false,Bool.not_true,Bool.not_false]
       try rfl)
      clear HL hso;rw[hb_lt] at hlt;go_enter Tryz.func44,Tryz.ntmps44;go_wp2_with (first|(go_at_call 76;refine(hlt _).mono ?_;rintro e w1 ⟨rfl,rfl⟩)|(go_at_call 77;refine(hdg _).mono ?_;rintro e w1 ⟨rfl,rfl⟩))
      go_ret;exact⟨by rw[hv.out];first|rfl|(simp only[bne,b_x95];rfl),rfl⟩
   ·have hv:=Lh (show Ch.legI 1 1 l k=true by
     rw[HL.out,show ∀B Q,Ch.legC 1 1 c B Q=(((decide ((1:Int)=0)) || !(decide ((1:Int)=0)))&&(Ch.letter c||(decide (c.toNat=95))||(B&&Ch.digit c)||((decide ((1:Int)=0))&&(decide (c.toNat=58))))) from fun B Q=>by unfold Ch.legC;rfl]
     try simp only[HN.out,hb_lt,Bool.true_or,Bool.or_true,Bool.false_or,Bool.or_false,Bool.true_and,Bool.and_true,Bool.false_and,Bool.and_false,Bool.not_true,Bool.not_false]
     try rfl)
    clear HL hso;rw[hb_lt] at hlt;go_enter Tryz.func44,Tryz.ntmps44;go_wp2_with (first|(go_at_call 76;refine(hlt _).mono ?_;rintro e w1 ⟨rfl,rfl⟩)|(go_at_call 77;refine(hdg _).mono ?_;rintro e w1 ⟨rfl,rfl⟩))
    go_ret;exact⟨by rw[hv.out];first|rfl|(simp only[bne];rfl),rfl⟩
  by_cases q2:p=2
  ·subst q2;by_cases a_g32:(32:Int)≤(n:Int)
   ·have d_g32:decide ((32:Int)≤(n:Int))=true:=decide_eq_true a_g32;have n_g32:(32≤n):=by omega
    have e_g32:decide (32≤n)=true:=decide_eq_true n_g32;by_cases a_l126:(n:Int)≤126
    ·have d_l126:decide ((n:Int)≤126)=true:=decide_eq_true a_l126;have n_l126:(n≤126):=by omega
     have e_l126:decide (n≤126)=true:=decide_eq_true n_l126;by_cases a_x92:(n:Int)=92
     ·have d_x92:decide ((n:Int)=92)=true:=decide_eq_true a_x92;have b_x92:((n:Int)==92)=true:=by simpa using a_x92
      have n_x92:(n=92):=by omega
      have e_x92:decide (n=92)=true:=decide_eq_true n_x92;have hN_x92:=Lh n_x92;clear n_x92;have hA_x92:=Lh a_x92;clear a_x92;have hv:=Lh (show Ch.legI 2 1 l k=false by
       rw[HL.out,show ∀B Q,Ch.legC 2 1 c B Q=(((decide ((1:Int)=0)) || !(decide ((1:Int)=0)))&&(((decide (32≤c.toNat))&&(decide (c.toNat≤126)) && !(decide (c.toNat=92))) && !(!B&&(decide (c.toNat=35))&&(decide ((1:Int)=0))))) from fun B Q=>by unfold Ch.legC Ch.line;rfl]
       try simp only[HN.out,e_g32,e_l126,e_x92,Bool.true_or,Bool.or_true,Bool.false_or,Bool.or_false,Bool.true_and,Bool.and_true,Bool.false_and,Bool.and_false,Bool.not_true,Bool.not_false]
       try rfl)
      clear HL hso;go_enter Tryz.func44,Tryz.ntmps44;go_wp2_with (first|(go_at_call 76;refine(hlt _).mono ?_;rintro e w1 ⟨rfl,rfl⟩)|(go_at_call 77;refine(hdg _).mono ?_;rintro e w1 ⟨rfl,rfl⟩))
      go_ret;exact⟨by rw[hv.out];first|rfl|(simp only[bne,b_x92];rfl),rfl⟩
     ·have d_x92:decide ((n:Int)=92)=false:=decide_eq_false a_x92;have b_x92:((n:Int)==92)=false:=by simpa using a_x92
      have n_x92 : ¬(n=92):=by omega
      have e_x92:decide (n=92)=false:=decide_eq_false n_x92;by_cases a_z:(k:Int)=0
      ·have d_z:decide ((k:Int)=0)=true:=decide_eq_true a_z;have b_z:((k:Int)==0)=true:=by simpa using a_z
       have n_z:(k=0):=by omega
       have e_z:decide (k=0)=true:=decide_eq_true n_z;have hN_z:=Lh n_z;clear n_z;have hA_z:=Lh a_z;clear a_z;have eb_z:decide (0<k)=false:=decide_eq_false (by have:=hN_z.out;omega);by_cases a_x35:(n:Int)=35
       ·have d_x35:decide ((n:Int)=35)=true:=decide_eq_true a_x35;have b_x35:((n:Int)==35)=true:=by simpa using a_x35
        have n_x35:(n=35):=by omega
        have e_x35:decide (n=35)=true:=decide_eq_true n_x35;have hN_x35:=Lh n_x35;clear n_x35;have hA_x35:=Lh a_x35;clear a_x35;have hv:=Lh (show Ch.legI 2 1 l k=true by
         rw[HL.out,show ∀B Q,Ch.legC 2 1 c B Q=(((decide ((1:Int)=0)) || !(decide ((1:Int)=0)))&&(((decide (32≤c.toNat))&&(decide (c.toNat≤126)) && !(decide (c.toNat=92))) && !(!B&&(decide (c.toNat=35))&&(decide ((1:Int)=0))))) from fun B Q=>by unfold Ch.legC Ch.line;rfl]
         try simp only[HN.out,e_g32,e_l126,e_x92,eb_z,e_x35,Bool.true_or,Bool.or_true,Bool.false_or,Bool.or_false,Bool.true_and,Bool.and_true,Bool.false_and,Bool.and_false,Bool.not_true,Bool.not_false]
         try rfl)
        clear HL hso;go_enter Tryz.func44,Tryz.ntmps44;go_wp2_with (first|(go_at_call 76;refine(hlt _).mono ?_;rintro e w1 ⟨rfl,rfl⟩)|(go_at_call 77;refine(hdg _).mono ?_;rintro e w1 ⟨rfl,rfl⟩))
        go_ret;exact⟨by rw[hv.out];first|rfl|(simp only[bne,b_x92,b_z,b_x35];rfl),rfl⟩
       ·have d_x35:decide ((n:Int)=35)=false:=decide_eq_false a_x35;have b_x35:((n:Int)==35)=false:=by simpa using a_x35
        have n_x35 : ¬(n=35):=by omega
        have e_x35:decide (n=35)=false:=decide_eq_false n_x35;have hv:=Lh (show Ch.legI 2 1 l k=true by
         rw[HL.out,show ∀B Q,Ch.legC 2 1 c B Q=(((decide ((1:Int)=0)) || !(decide ((1:Int)=0)))&&(((decide (32≤c.toNat))&&(decide (c.toNat≤126)) && !(decide (c.toNat=92))) && !(!B&&(decide (c.toNat=35))&&(decide ((1:Int)=0))))) from fun B Q=>by unfold Ch.legC Ch.line;rfl]
         try simp only[HN.out,e_g32,e_l126,e_x92,eb_z,e_x35,Bool.true_or,Bool.or_true,Bool.false_or,Bool.or_false,Bool.true_and,Bool.and_true,Bool.false_and,Bool.and_false,Bool.not_true,Bool.not_false]
         try rfl)
        clear HL hso;go_enter Tryz.func44,Tryz.ntmps44;go_wp2_with (first|(go_at_call 76;refine(hlt _).mono ?_;rintro e w1 ⟨rfl,rfl⟩)|(go_at_call 77;refine(hdg _).mono ?_;rintro e w1 ⟨rfl,rfl⟩))
        go_ret;exact⟨by rw[hv.out];first|rfl|(simp only[bne,b_x92,b_z,b_x35];rfl),rfl⟩
      ·have d_z:decide ((k:Int)=0)=false:=decide_eq_false a_z;have b_z:((k:Int)==0)=false:=by simpa using a_z
       have n_z : ¬(k=0):=by omega
       have e_z:decide (k=0)=false:=decide_eq_false n_z;have eb_z:decide (0<k)=true:=decide_eq_true (by omega);have hv:=Lh (show Ch.legI 2 1 l k=true by
        rw[HL.out,show ∀B Q,Ch.legC 2 1 c B Q=(((decide ((1:Int)=0)) || !(decide ((1:Int)=0)))&&(((decide (32≤c.toNat))&&(decide (c.toNat≤126)) && !(decide (c.toNat=92))) && !(!B&&(decide (c.toNat=35))&&(decide ((1:Int)=0))))) from fun B Q=>by unfold Ch.legC Ch.line;rfl]
        try simp only[HN.out,e_g32,e_l126,e_x92,eb_z,Bool.true_or,Bool.or_true,Bool.false_or,Bool.or_false,Bool.true_and,Bool.and_true,Bool.false_and,Bool.and_false,Bool.not_true,Bool.not_false]
        try rfl)
       clear HL hso;go_enter Tryz.func44,Tryz.ntmps44;go_wp2_with (first|(go_at_call 76;refine(hlt _).mono ?_;rintro e w1 ⟨rfl,rfl⟩)|(go_at_call 77;refine(hdg _).mono ?_;rintro e w1 ⟨rfl,rfl⟩))
       go_ret;exact⟨by rw[hv.out];first|rfl|(simp only[bne,b_x92,b_z];rfl),rfl⟩
    ·have d_l126:decide ((n:Int)≤126)=false:=decide_eq_false a_l126;have n_l126 : ¬(n≤126):=by omega
     have e_l126:decide (n≤126)=false:=decide_eq_false n_l126;have hv:=Lh (show Ch.legI 2 1 l k=false by
      rw[HL.out,show ∀B Q,Ch.legC 2 1 c B Q=(((decide ((1:Int)=0)) || !(decide ((1:Int)=0)))&&(((decide (32≤c.toNat))&&(decide (c.toNat≤126)) && !(decide (c.toNat=92))) && !(!B&&(decide (c.toNat=35))&&(decide ((1:Int)=0))))) from fun B Q=>by unfold Ch.legC Ch.line;rfl]
      try simp only[HN.out,e_g32,e_l126,Bool.true_or,Bool.or_true,Bool.false_or,Bool.or_false,Bool.true_and,Bool.and_true,Bool.false_and,Bool.and_false,Bool.not_true,Bool.not_false]
      try rfl)
     clear HL hso;go_enter Tryz.func44,Tryz.ntmps44;go_wp2_with (first|(go_at_call 76;refine(hlt _).mono ?_;rintro e w1 ⟨rfl,rfl⟩)|(go_at_call 77;refine(hdg _).mono ?_;rintro e w1 ⟨rfl,rfl⟩))
     go_ret;exact⟨by rw[hv.out];first|rfl|(simp only[bne];rfl),rfl⟩
   ·have d_g32:decide ((32:Int)≤(n:Int))=false:=decide_eq_false a_g32;have n_g32 : ¬(32≤n):=by omega
    have e_g32:decide (32≤n)=false:=decide_eq_false n_g32;have hv:=Lh (show Ch.legI 2 1 l k=false by
     rw[HL.out,show ∀B Q,Ch.legC 2 1 c B Q=(((decide ((1:Int)=0)) || !(decide ((1:Int)=0)))&&(((decide (32≤c.toNat))&&(decide (c.toNat≤126)) && !(decide (c.toNat=92))) && !(!B&&(decide (c.toNat=35))&&(decide ((1:Int)=0))))) from fun B Q=>by unfold Ch.legC Ch.line;rfl]
     try simp only[HN.out,e_g32,Bool.true_or,Bool.or_true,Bool.false_or,Bool.or_false,Bool.true_and,Bool.and_true,Bool.false_and,Bool.and_false,Bool.not_true,Bool.not_false]
     try rfl)
    clear HL hso;go_enter Tryz.func44,Tryz.ntmps44;go_wp2_with (first|(go_at_call 76;refine(hlt _).mono ?_;rintro e w1 ⟨rfl,rfl⟩)|(go_at_call 77;refine(hdg _).mono ?_;rintro e w1 ⟨rfl,rfl⟩))
    go_ret;exact⟨by rw[hv.out];first|rfl|(simp only[bne];rfl),rfl⟩
  by_cases q3:p=3
  ·subst q3;by_cases a_x46:(n:Int)=46
   ·have d_x46:decide ((n:Int)=46)=true:=decide_eq_true a_x46;have b_x46:((n:Int)==46)=true:=by simpa using a_x46
    have n_x46:(n=46):=by omega
    have e_x46:decide (n=46)=true:=decide_eq_true n_x46;have hN_x46:=Lh n_x46;clear n_x46;have hA_x46:=Lh a_x46;clear a_x46;have hv:=Lh (show Ch.legI 3 1 l k=false by
     rw[HL.out,show ∀B Q,Ch.legC 3 1 c B Q=(((decide ((1:Int)=0)) || !(decide ((1:Int)=0)))&&(if c.toNat=46 then (decide ((1:Int)=0))&&Q else Ch.letter c||Ch.digit c||(decide (c.toNat=95))||(decide (c.toNat=45))||(decide (c.toNat=58)))) from fun B Q=>by unfold Ch.legC;rfl];rw[if_pos (show c.toNat=46 from by rw[HN.out];exact hN_x46.out)]
     try simp only[HN.out,Bool.true_or,Bool.or_true,Bool.false_or,Bool.or_false,Bool.true_and,Bool.and_true,Bool.false_and,Bool.and_false,Bool.not_true,Bool.not_false]
     try rfl)
    clear HL hso;go_enter Tryz.func44,Tryz.ntmps44;go_wp2_with (first|(go_at_call 76;refine(hlt _).mono ?_;rintro e w1 ⟨rfl,rfl⟩)|(go_at_call 77;refine(hdg _).mono ?_;rintro e w1 ⟨rfl,rfl⟩))
    go_ret;exact⟨by rw[hv.out];first|rfl|(simp only[bne,b_x46];rfl),rfl⟩
   ·have d_x46:decide ((n:Int)=46)=false:=decide_eq_false a_x46;have b_x46:((n:Int)==46)=false:=by simpa using a_x46
    have n_x46 : ¬(n=46):=by omega
    have e_x46:decide (n=46)=false:=decide_eq_false n_x46
    cases hb_lt:Ch.letter c
    ·cases hb_dg:Ch.digit c
     ·by_cases a_x95:(n:Int)=95
      ·have d_x95:decide ((n:Int)=95)=true:=decide_eq_true a_x95;have b_x95:((n:Int)==95)=true:=by simpa using a_x95
       have n_x95:(n=95):=by omega
       have e_x95:decide (n=95)=true:=decide_eq_true n_x95;have hN_x95:=Lh n_x95;clear n_x95;have hA_x95:=Lh a_x95;clear a_x95;have hv:=Lh (show Ch.legI 3 1 l k=true by
        rw[HL.out,show ∀B Q,Ch.legC 3 1 c B Q=(((decide ((1:Int)=0)) || !(decide ((1:Int)=0)))&&(if c.toNat=46 then (decide ((1:Int)=0))&&Q else Ch.letter c||Ch.digit c||(decide (c.toNat=95))||(decide (c.toNat=45))||(decide (c.toNat=58)))) from fun B Q=>by unfold Ch.legC;rfl];rw[if_neg (show ¬c.toNat=46 from by rw[HN.out];exact n_x46)]
        try simp only[HN.out,hb_lt,hb_dg,e_x95,Bool.true_or,Bool.or_true,Bool.false_or,Bool.or_false,Bool.true_and,Bool.and_true,Bool.false_and,Bool.and_false,Bool.not_true,Bool.not_false]
        try rfl)
       clear HL hso;rw[hb_lt] at hlt;rw[hb_dg] at hdg;go_enter Tryz.func44,Tryz.ntmps44;go_wp2_with (first|(go_at_call 76;refine(hlt _).mono ?_;rintro e w1 ⟨rfl,rfl⟩)|(go_at_call 77;refine(hdg _).mono ?_;rintro e w1 ⟨rfl,rfl⟩))
       go_ret;exact⟨by rw[hv.out];first|rfl|(simp only[bne,b_x46,b_x95];rfl),rfl⟩
      ·have d_x95:decide ((n:Int)=95)=false:=decide_eq_false a_x95;have b_x95:((n:Int)==95)=false:=by simpa using a_x95
       have n_x95 : ¬(n=95):=by omega
       have e_x95:decide (n=95)=false:=decide_eq_false n_x95;by_cases a_x45:(n:Int)=45
       ·have d_x45:decide ((n:Int)=45)=true:=decide_eq_true a_x45;have b_x45:((n:Int)==45)=true:=by simpa using a_x45
        have n_x45:(n=45):=by omega
        have e_x45:decide (n=45)=true:=decide_eq_true n_x45;have hN_x45:=Lh n_x45;clear n_x45;have hA_x45:=Lh a_x45;clear a_x45;have hv:=Lh (show Ch.legI 3 1 l k=true by
         rw[HL.out,show ∀B Q,Ch.legC 3 1 c B Q=(((decide ((1:Int)=0)) || !(decide ((1:Int)=0)))&&(if c.toNat=46 then (decide ((1:Int)=0))&&Q else Ch.letter c||Ch.digit c||(decide (c.toNat=95))||(decide (c.toNat=45))||(decide (c.toNat=58)))) from fun B Q=>by unfold Ch.legC;rfl];rw[if_neg (show ¬c.toNat=46 from by rw[HN.out];exact n_x46)]
         try simp only[HN.out,hb_lt,hb_dg,e_x95,e_x45,Bool.true_or,Bool.or_true,Bool.false_or,Bool.or_false,Bool.true_and,Bool.and_true,Bool.false_and,Bool.and_false,Bool.not_true,Bool.not_false]
         try rfl)
        clear HL hso;rw[hb_lt] at hlt;rw[hb_dg] at hdg;go_enter Tryz.func44,Tryz.ntmps44;go_wp2_with (first|(go_at_call 76;refine(hlt _).mono ?_;rintro e w1 ⟨rfl,rfl⟩)|(go_at_call 77;refine(hdg _).mono ?_;rintro e w1 ⟨rfl,rfl⟩))
        go_ret;exact⟨by rw[hv.out];first|rfl|(simp only[bne,b_x46,b_x95,b_x45];rfl),rfl⟩
       ·have d_x45:decide ((n:Int)=45)=false:=decide_eq_false a_x45;have b_x45:((n:Int)==45)=false:=by simpa using a_x45
        have n_x45 : ¬(n=45):=by omega
        have e_x45:decide (n=45)=false:=decide_eq_false n_x45;by_cases a_x58:(n:Int)=58
        ·have d_x58:decide ((n:Int)=58)=true:=decide_eq_true a_x58;have b_x58:((n:Int)==58)=true:=by simpa using a_x58
         have n_x58:(n=58):=by omega
         have e_x58:decide (n=58)=true:=decide_eq_true n_x58;have hN_x58:=Lh n_x58;clear n_x58;have hA_x58:=Lh a_x58;clear a_x58;have hv:=Lh (show Ch.legI 3 1 l k=true by
          rw[HL.out,show ∀B Q,Ch.legC 3 1 c B Q=(((decide ((1:Int)=0)) || !(decide ((1:Int)=0)))&&(if c.toNat=46 then (decide ((1:Int)=0))&&Q else Ch.letter c||Ch.digit c||(decide (c.toNat=95))||(decide (c.toNat=45))||(decide (c.toNat=58)))) from fun B Q=>by unfold Ch.legC;rfl];rw[if_neg (show ¬c.toNat=46 from by rw[HN.out];exact n_x46)]
          try simp only[HN.out,hb_lt,hb_dg,e_x95,e_x45,e_x58,Bool.true_or,Bool.or_true,Bool.false_or,Bool.or_false,Bool.true_and,Bool.and_true,Bool.false_and,Bool.and_false,Bool.not_true,Bool.not_false]
          try rfl)
         clear HL hso;rw[hb_lt] at hlt;rw[hb_dg] at hdg;go_enter Tryz.func44,Tryz.ntmps44;go_wp2_with (first|(go_at_call 76;refine(hlt _).mono ?_;rintro e w1 ⟨rfl,rfl⟩)|(go_at_call 77;refine(hdg _).mono ?_;rintro e w1 ⟨rfl,rfl⟩))
         go_ret;exact⟨by rw[hv.out];first|rfl|(simp only[bne,b_x46,b_x95,b_x45,b_x58];rfl),rfl⟩
        ·have d_x58:decide ((n:Int)=58)=false:=decide_eq_false a_x58;have b_x58:((n:Int)==58)=false:=by simpa using a_x58
         have n_x58 : ¬(n=58):=by omega
         have e_x58:decide (n=58)=false:=decide_eq_false n_x58;have hv:=Lh (show Ch.legI 3 1 l k=false by
          rw[HL.out,show ∀B Q,Ch.legC 3 1 c B Q=(((decide ((1:Int)=0)) || !(decide ((1:Int)=0)))&&(if c.toNat=46 then (decide ((1:Int)=0))&&Q else Ch.letter c||Ch.digit c||(decide (c.toNat=95))||(decide (c.toNat=45))||(decide (c.toNat=58)))) from fun B Q=>by unfold Ch.legC;rfl];rw[if_neg (show ¬c.toNat=46 from by rw[HN.out];exact n_x46)]
          try simp only[HN.out,hb_lt,hb_dg,e_x95,e_x45,e_x58,Bool.true_or,Bool.or_true,Bool.false_or,Bool.or_false,Bool.true_and,Bool.and_true,Bool.false_and,Bool.and_false,Bool.not_true,Bool.not_false]
          try rfl)
         clear HL hso;rw[hb_lt] at hlt;rw[hb_dg] at hdg;go_enter Tryz.func44,Tryz.ntmps44;go_wp2_with (first|(go_at_call 76;refine(hlt _).mono ?_;rintro e w1 ⟨rfl,rfl⟩)|(go_at_call 77;refine(hdg _).mono ?_;rintro e w1 ⟨rfl,rfl⟩))
         go_ret;exact⟨by rw[hv.out];first|rfl|(simp only[bne,b_x46,b_x95,b_x45,b_x58];rfl),rfl⟩
     ·have hv:=Lh (show Ch.legI 3 1 l k=true by
       rw[HL.out,show ∀B Q,Ch.legC 3 1 c B Q=(((decide ((1:Int)=0)) || !(decide ((1:Int)=0)))&&(if c.toNat=46 then (decide ((1:Int)=0))&&Q else Ch.letter c||Ch.digit c||(decide (c.toNat=95))||(decide (c.toNat=45))||(decide (c.toNat=58)))) from fun B Q=>by unfold Ch.legC;rfl];rw[if_neg (show ¬c.toNat=46 from by rw[HN.out];exact n_x46)]
       try simp only[HN.out,hb_lt,hb_dg,Bool.true_or,Bool.or_true,Bool.false_or,Bool.or_false,Bool.true_and,Bool.and_true,Bool.false_and,Bool.and_false,Bool.not_true,Bool.not_false]
       try rfl)
      clear HL hso;rw[hb_lt] at hlt;rw[hb_dg] at hdg;go_enter Tryz.func44,Tryz.ntmps44;go_wp2_with (first|(go_at_call 76;refine(hlt _).mono ?_;rintro e w1 ⟨rfl,rfl⟩)|(go_at_call 77;refine(hdg _).mono ?_;rintro e w1 ⟨rfl,rfl⟩))
      go_ret;exact⟨by rw[hv.out];first|rfl|(simp only[bne,b_x46];rfl),rfl⟩
    ·have hv:=Lh (show Ch.legI 3 1 l k=true by
      rw[HL.out,show ∀B Q,Ch.legC 3 1 c B Q=(((decide ((1:Int)=0)) || !(decide ((1:Int)=0)))&&(if c.toNat=46 then (decide ((1:Int)=0))&&Q else Ch.letter c||Ch.digit c||(decide (c.toNat=95))||(decide (c.toNat=45))||(decide (c.toNat=58)))) from fun B Q=>by unfold Ch.legC;rfl];rw[if_neg (show ¬c.toNat=46 from by rw[HN.out];exact n_x46)]
      try simp only[HN.out,hb_lt,Bool.true_or,Bool.or_true,Bool.false_or,Bool.or_false,Bool.true_and,Bool.and_true,Bool.false_and,Bool.and_false,Bool.not_true,Bool.not_false]
      try rfl)
     clear HL hso;rw[hb_lt] at hlt;go_enter Tryz.func44,Tryz.ntmps44;go_wp2_with (first|(go_at_call 76;refine(hlt _).mono ?_;rintro e w1 ⟨rfl,rfl⟩)|(go_at_call 77;refine(hdg _).mono ?_;rintro e w1 ⟨rfl,rfl⟩))
     go_ret;exact⟨by rw[hv.out];first|rfl|(simp only[bne,b_x46];rfl),rfl⟩
  by_cases q4:p=4
  ·subst q4
   cases hb_lt:Ch.letter c
   ·cases hb_dg:Ch.digit c
    ·by_cases a_x95:(n:Int)=95
     ·have d_x95:decide ((n:Int)=95)=true:=decide_eq_true a_x95;have b_x95:((n:Int)==95)=true:=by simpa using a_x95
      have n_x95:(n=95):=by omega
      have e_x95:decide (n=95)=true:=decide_eq_true n_x95;have hN_x95:=Lh n_x95;clear n_x95;have hA_x95:=Lh a_x95;clear a_x95;have hv:=Lh (show Ch.legI 4 1 l k=true by
       rw[HL.out,show ∀B Q,Ch.legC 4 1 c B Q=(((decide ((1:Int)=0)) || !(decide ((1:Int)=0)))&&(Ch.letter c||Ch.digit c||(decide (c.toNat=95))||(decide (c.toNat=45))||(decide (c.toNat=46)))) from fun B Q=>by unfold Ch.legC;rfl]
       try simp only[HN.out,hb_lt,hb_dg,e_x95,Bool.true_or,Bool.or_true,Bool.false_or,Bool.or_false,Bool.true_and,Bool.and_true,Bool.false_and,Bool.and_false,Bool.not_true,Bool.not_false]
       try rfl)
      clear HL hso;rw[hb_lt] at hlt;rw[hb_dg] at hdg;go_enter Tryz.func44,Tryz.ntmps44;go_wp2_with (first|(go_at_call 76;refine(hlt _).mono ?_;rintro e w1 ⟨rfl,rfl⟩)|(go_at_call 77;refine(hdg _).mono ?_;rintro e w1 ⟨rfl,rfl⟩))
      go_ret;exact⟨by rw[hv.out];first|rfl|(simp only[bne,b_x95];rfl),rfl⟩
     ·have d_x95:decide ((n:Int)=95)=false:=decide_eq_false a_x95;have b_x95:((n:Int)==95)=false:=by simpa using a_x95
      have n_x95 : ¬(n=95):=by omega
      have e_x95:decide (n=95)=false:=decide_eq_false n_x95;by_cases a_x45:(n:Int)=45
      ·have d_x45:decide ((n:Int)=45)=true:=decide_eq_true a_x45;have b_x45:((n:Int)==45)=true:=by simpa using a_x45
       have n_x45:(n=45):=by omega
       have e_x45:decide (n=45)=true:=decide_eq_true n_x45;have hN_x45:=Lh n_x45;clear n_x45;have hA_x45:=Lh a_x45;clear a_x45;have hv:=Lh (show Ch.legI 4 1 l k=true by
        rw[HL.out,show ∀B Q,Ch.legC 4 1 c B Q=(((decide ((1:Int)=0)) || !(decide ((1:Int)=0)))&&(Ch.letter c||Ch.digit c||(decide (c.toNat=95))||(decide (c.toNat=45))||(decide (c.toNat=46)))) from fun B Q=>by unfold Ch.legC;rfl]
        try simp only[HN.out,hb_lt,hb_dg,e_x95,e_x45,Bool.true_or,Bool.or_true,Bool.false_or,Bool.or_false,Bool.true_and,Bool.and_true,Bool.false_and,Bool.and_false,Bool.not_true,Bool.not_false]
        try rfl)
       clear HL hso;rw[hb_lt] at hlt;rw[hb_dg] at hdg;go_enter Tryz.func44,Tryz.ntmps44;go_wp2_with (first|(go_at_call 76;refine(hlt _).mono ?_;rintro e w1 ⟨rfl,rfl⟩)|(go_at_call 77;refine(hdg _).mono ?_;rintro e w1 ⟨rfl,rfl⟩))
       go_ret;exact⟨by rw[hv.out];first|rfl|(simp only[bne,b_x95,b_x45];rfl),rfl⟩
      ·have d_x45:decide ((n:Int)=45)=false:=decide_eq_false a_x45;have b_x45:((n:Int)==45)=false:=by simpa using a_x45
       have n_x45 : ¬(n=45):=by omega
       have e_x45:decide (n=45)=false:=decide_eq_false n_x45;by_cases a_x46:(n:Int)=46
       ·have d_x46:decide ((n:Int)=46)=true:=decide_eq_true a_x46;have b_x46:((n:Int)==46)=true:=by simpa using a_x46
        have n_x46:(n=46):=by omega
        have e_x46:decide (n=46)=true:=decide_eq_true n_x46;have hN_x46:=Lh n_x46;clear n_x46;have hA_x46:=Lh a_x46;clear a_x46;have hv:=Lh (show Ch.legI 4 1 l k=true by
         rw[HL.out,show ∀B Q,Ch.legC 4 1 c B Q=(((decide ((1:Int)=0)) || !(decide ((1:Int)=0)))&&(Ch.letter c||Ch.digit c||(decide (c.toNat=95))||(decide (c.toNat=45))||(decide (c.toNat=46)))) from fun B Q=>by unfold Ch.legC;rfl]
         try simp only[HN.out,hb_lt,hb_dg,e_x95,e_x45,e_x46,Bool.true_or,Bool.or_true,Bool.false_or,Bool.or_false,Bool.true_and,Bool.and_true,Bool.false_and,Bool.and_false,Bool.not_true,Bool.not_false]
         try rfl)
        clear HL hso;rw[hb_lt] at hlt;rw[hb_dg] at hdg;go_enter Tryz.func44,Tryz.ntmps44;go_wp2_with (first|(go_at_call 76;refine(hlt _).mono ?_;rintro e w1 ⟨rfl,rfl⟩)|(go_at_call 77;refine(hdg _).mono ?_;rintro e w1 ⟨rfl,rfl⟩))
        go_ret;exact⟨by rw[hv.out];first|rfl|(simp only[bne,b_x95,b_x45,b_x46];rfl),rfl⟩
       ·have d_x46:decide ((n:Int)=46)=false:=decide_eq_false a_x46;have b_x46:((n:Int)==46)=false:=by simpa using a_x46
        have n_x46 : ¬(n=46):=by omega
        have e_x46:decide (n=46)=false:=decide_eq_false n_x46;have hv:=Lh (show Ch.legI 4 1 l k=false by
         rw[HL.out,show ∀B Q,Ch.legC 4 1 c B Q=(((decide ((1:Int)=0)) || !(decide ((1:Int)=0)))&&(Ch.letter c||Ch.digit c||(decide (c.toNat=95))||(decide (c.toNat=45))||(decide (c.toNat=46)))) from fun B Q=>by unfold Ch.legC;rfl]
         try simp only[HN.out,hb_lt,hb_dg,e_x95,e_x45,e_x46,Bool.true_or,Bool.or_true,Bool.false_or,Bool.or_false,Bool.true_and,Bool.and_true,Bool.false_and,Bool.and_false,Bool.not_true,Bool.not_false]
         try rfl)
        clear HL hso;rw[hb_lt] at hlt;rw[hb_dg] at hdg;go_enter Tryz.func44,Tryz.ntmps44;go_wp2_with (first|(go_at_call 76;refine(hlt _).mono ?_;rintro e w1 ⟨rfl,rfl⟩)|(go_at_call 77;refine(hdg _).mono ?_;rintro e w1 ⟨rfl,rfl⟩))
        go_ret;exact⟨by rw[hv.out];first|rfl|(simp only[bne,b_x95,b_x45,b_x46];rfl),rfl⟩
    ·have hv:=Lh (show Ch.legI 4 1 l k=true by
      rw[HL.out,show ∀B Q,Ch.legC 4 1 c B Q=(((decide ((1:Int)=0)) || !(decide ((1:Int)=0)))&&(Ch.letter c||Ch.digit c||(decide (c.toNat=95))||(decide (c.toNat=45))||(decide (c.toNat=46)))) from fun B Q=>by unfold Ch.legC;rfl]
      try simp only[HN.out,hb_lt,hb_dg,Bool.true_or,Bool.or_true,Bool.false_or,Bool.or_false,Bool.true_and,Bool.and_true,Bool.false_and,Bool.and_false,Bool.not_true,Bool.not_false]
      try rfl)
     clear HL hso;rw[hb_lt] at hlt;rw[hb_dg] at hdg;go_enter Tryz.func44,Tryz.ntmps44;go_wp2_with (first|(go_at_call 76;refine(hlt _).mono ?_;rintro e w1 ⟨rfl,rfl⟩)|(go_at_call 77;refine(hdg _).mono ?_;rintro e w1 ⟨rfl,rfl⟩))
     go_ret;exact⟨by rw[hv.out];first|rfl|(simp only[bne];rfl),rfl⟩
   ·have hv:=Lh (show Ch.legI 4 1 l k=true by
     rw[HL.out,show ∀B Q,Ch.legC 4 1 c B Q=(((decide ((1:Int)=0)) || !(decide ((1:Int)=0)))&&(Ch.letter c||Ch.digit c||(decide (c.toNat=95))||(decide (c.toNat=45))||(decide (c.toNat=46)))) from fun B Q=>by unfold Ch.legC;rfl]
     try simp only[HN.out,hb_lt,Bool.true_or,Bool.or_true,Bool.false_or,Bool.or_false,Bool.true_and,Bool.and_true,Bool.false_and,Bool.and_false,Bool.not_true,Bool.not_false]
     try rfl)
    clear HL hso;rw[hb_lt] at hlt;go_enter Tryz.func44,Tryz.ntmps44;go_wp2_with (first|(go_at_call 76;refine(hlt _).mono ?_;rintro e w1 ⟨rfl,rfl⟩)|(go_at_call 77;refine(hdg _).mono ?_;rintro e w1 ⟨rfl,rfl⟩))
    go_ret;exact⟨by rw[hv.out];first|rfl|(simp only[bne];rfl),rfl⟩
  have hr:=Lh (show Ch.legI p 1 l k=false by rw[HL.out];exact Ch.legC_off (by omega));have f1:decide (p=1)=false:=decide_eq_false q1;have f2:decide (p=2)=false:=decide_eq_false q2;have f3:decide (p=3)=false:=decide_eq_false q3;have f4:decide (p=4)=false:=decide_eq_false q4;clear HL hso;go_enter Tryz.func44,Tryz.ntmps44;go_wp2;go_ret;exact⟨by rw[hr.out];rfl,rfl⟩
theorem hex_cut : ∀(k:Nat) (h:k<16) (W:World),(Instr.slice 9 (.string ⟨#[48,49,50,51,52,53,54,55,56,57,97,98,99,100,101,102]⟩) (some (.int .u8 (k:Int))) (some (.int .u8 ((k:Int)+1))) none).run Tryz.prog W = .ok (.string (str [Ch.hexD k])) W
 | 0,_=>fun _=>by kernel_rfl
 | 1,_=>fun _=>by kernel_rfl
 | 2,_=>fun _=>by kernel_rfl
 | 3,_=>fun _=>by kernel_rfl
 | 4,_=>fun _=>by kernel_rfl
 | 5,_=>fun _=>by kernel_rfl
 | 6,_=>fun _=>by kernel_rfl
 | 7,_=>fun _=>by kernel_rfl
 | 8,_=>fun _=>by kernel_rfl
 | 9,_=>fun _=>by kernel_rfl
 | 10,_=>fun _=>by kernel_rfl
 | 11,_=>fun _=>by kernel_rfl
 | 12,_=>fun _=>by kernel_rfl
 | 13,_=>fun _=>by kernel_rfl
 | 14,_=>fun _=>by kernel_rfl
 | 15,_=>fun _=>by kernel_rfl
 | k+16,h=>absurd h (by omega)
theorem cut_one (l:List UInt8) (k:Nat) (h:k<l.length) (W:World):(Instr.slice 9 (.string (str l)) (some (.int .i64 (k:Int))) (some (.int .i64 ((k:Int)+1))) none).run Tryz.prog W = .ok (.string (str [l[k]])) W:=by
 rw[run_slice_string W 9 (str l) .i64 .i64 (k:Int) ((k:Int)+1) Tryz.underlying9 (by omega) (by omega) (by rw[str_size];omega)];congr 2;refine str_ext ?_;rw[ext_list,show(k:Int).toNat=k by omega,show((k:Int)+1).toNat=k+1 by omega,show(str l).data.toList=l from rfl,List.take_succ_eq_append_getElem h,List.drop_left' (by rw[List.length_take];omega)]
namespace Ch
theorem isX_at {l:List UInt8} {k:Nat} (h:k<l.length):isX (l.drop k)=(decide (l[k]=95)&&decide (l[k+1]? = some 120)):=by
 rw[List.drop_eq_getElem_cons h,isX_cons];unfold isUx;rw[List.head?_drop]
end Ch
theorem rescape_calls (p s:Int) (l:List UInt8) (w:World) (hl:l.length≤4194304) :
 Calls Tryz.prog 98 #[.int .i64 p,.int .i64 s,.string (str l)] w fun e w'=>e = .returned (.string (str (Ch.esc p s l)))∧Below w.heap.size w w':=by
 have hsz:=str_size l;go_enter Tryz.func98,Tryz.ntmps98;go_wp2_with fail;go_loopw [7,8] (fun vo v wr => ∃(k:Nat) (out:List UInt8),k≤l.length∧out.length≤4*k∧v = .int .i64 (k:Nat)∧vo = .string (str out)∧Hid (Ch.esc p s l=out++Ch.escL p s (l.take k).getLast? (l.drop k)∧Below w.heap.size w wr)) (fun _ v _=>l.length-(intOf v).toNat);case atStart=>exact ⟨0,[],by omega,by simp,rfl,rfl,rfl,Below.refl _ _⟩
 case round =>
  obtain⟨k,out,hk,ho,rfl,rfl,H⟩:=hrel;by_cases h:k<l.length
  ·have hk2:k<(str l).size:=by rw[hsz];exact h
   have hlt:decide ((k:Int)<(l.length:Int))=true:=by simp;omega
   have hlt':decide (k<l.length)=true:=decide_eq_true h;have hc:=rlegal_calls p s l (k:Int) wr (by unfold maxLen;omega);rw[Ch.legI_at] at hc;have hR:=Lh (Ch.esc_round p s l k h);have hX:=Lh (Ch.isX_at h);have hone:=cut_one l k h;have hadd1:=add_str out [l[k]] (by simp;omega);have hbyte:(str l)[k]=l[k]:=rfl;obtain⟨n,hn⟩ : ∃n:Nat,l[k].toNat=n:=⟨_,rfl⟩
   have hn256:n<256:=by rw[←hn];exact l[k].toNat_lt
   have hcut1:=hex_cut (n/16) (by omega);have hcut2:=hex_cut (n%16) (by omega);have hadd2:=add_str [95,120] [Ch.hexD (n/16)] (by simp);have hadd3:=add_str ([95,120]++[Ch.hexD (n/16)]) [Ch.hexD (n%16)] (by simp);have hadd4:=add_str out (([95,120]++[Ch.hexD (n/16)])++[Ch.hexD (n%16)]) (by simp;omega);have hcode:=Lh (show Ch.code l[k]=([95,120]++[Ch.hexD (n/16)])++[Ch.hexD (n%16)] by rw[←hn];rfl);have hbn:(l[k].toNat:Int)=(n:Int):=by rw[hn]
   have HN:=Lh hn;rw[show((n/16:Nat):Int)=(n:Int)/16 by omega] at hcut1;rw[show((n%16:Nat):Int)=(n:Int)%16 by omega] at hcut2;generalize Ch.hexD (n/16)=dx at *;generalize Ch.hexD (n%16)=dy at *;generalize hbx:str [dx]=sx at *;clear hbx;generalize hby:str [dy]=sy at *;clear hby;generalize str ([95,120]++[dx])=s2 at *;have hn95:(n=95)↔l[k]=95:=by
    rw[←hn];constructor
    ·intro e;exact UInt8.toNat_inj.1 e
    ·intro e;rw[e];rfl
   have H95:=Lh hn95;clear hn hn95
   cases hg:Ch.leg p s l k
   ·rw[hg] at hc;have HE:=Lh (show Ch.esc p s l=(out++Ch.code l[k])++Ch.escL p s (l.take (k+1)).getLast? (l.drop (k+1)) by
     rw[H.out.1,hR.out,hg,List.append_assoc];rfl)
    clear hR hX;clear hg;go_wp2_with fail;refine hc.mono ?_;rintro e w1 ⟨rfl,rfl⟩;go_wp2_with fail
    go_quiet (fail)
    go_wp2_with fail;go_roundw;case rel=>exact ⟨k+1,out++Ch.code l[k],h,by rw[List.length_append,Ch.code_len];omega,by go_num,by rw[hcode.out,←str_app];rfl,HE.out,below_drewN H.out.2 _⟩
    case measure=>simp [intOf];omega
   ·rw[hg] at hc;by_cases a1:n=95
    ·have e1:decide ((n:Int)=95)=true:=decide_eq_true (by omega);have e1':decide (n=95)=true:=decide_eq_true a1;have e1b:((n:Int)==95)=true:=by simp;omega
     have e1c:(n==95)=true:=by simpa using a1
     have HL:=Lh (H95.out.1 a1);clear a1;by_cases a2:k+1<l.length
     ·have e2:decide ((k:Int)+1<(l.length:Int))=true:=decide_eq_true (by omega);have e2':decide (k+1<l.length)=true:=decide_eq_true a2;have hk3:k+1<(str l).size:=by rw[hsz];exact a2
      have hbyte2:(str l)[k+1]=l[k+1]:=rfl;obtain⟨m,hm⟩ : ∃m:Nat,l[k+1].toNat=m:=⟨_,rfl⟩
      have hbm:(l[k+1].toNat:Int)=(m:Int):=by rw[hm]
      have hm120:(m=120)↔l[k+1]=120:=by
       rw[←hm];constructor
       ·intro e;exact UInt8.toNat_inj.1 e
       ·intro e;rw[e];rfl
      have H120:=Lh hm120;clear hm hm120;by_cases a3:m=120
      ·have e3:decide ((m:Int)=120)=true:=decide_eq_true (by omega);have e3':decide (m=120)=true:=decide_eq_true a3;have e3b:((m:Int)==120)=true:=by simp;omega
       have e3c:(m==120)=true:=by simpa using a3
       have HM:=Lh (H120.out.1 a3);clear a3;have hx:=Lh (show Ch.isX (l.drop k)=true by rw[hX.out,decide_eq_true HL.out,List.getElem?_eq_getElem a2,HM.out];rfl);have HE:=Lh (show Ch.esc p s l=(out++Ch.code l[k])++Ch.escL p s (l.take (k+1)).getLast? (l.drop (k+1)) by
        rw[H.out.1,hR.out,hg,hx.out,List.append_assoc];rfl)
       clear hR hX;clear hg hx;go_wp2_with fail;refine hc.mono ?_;rintro e w1 ⟨rfl,rfl⟩;go_wp2_with fail
       go_quiet (fail)
       go_wp2_with fail;go_roundw;case rel=>exact ⟨k+1,out++Ch.code l[k],h,by rw[List.length_append,Ch.code_len];omega,by go_num,by rw[hcode.out,←str_app];rfl,HE.out,below_drewN H.out.2 _⟩
       case measure=>simp [intOf];omega
      ·have e3:decide ((m:Int)=120)=false:=decide_eq_false (by omega);have e3':decide (m=120)=false:=decide_eq_false a3;have e3b:((m:Int)==120)=false:=beq_eq_false_iff_ne.2 (by omega);have e3c:(m==120)=false:=by simpa using a3
       have HM:=Lh (fun e=>a3 (H120.out.2 e));clear a3;have hx:=Lh (show Ch.isX (l.drop k)=false by rw[hX.out,List.getElem?_eq_getElem a2,decide_eq_false (p:=some l[k+1]=some 120) (fun e=>HM.out (Option.some.inj e)),Bool.and_false]);have HE:=Lh (show Ch.esc p s l=(out++[l[k]])++Ch.escL p s (l.take (k+1)).getLast? (l.drop (k+1)) by
        rw[H.out.1,hR.out,hg,hx.out,List.append_assoc];rfl)
       clear hR hX;clear hg hx;go_wp2_with fail;refine hc.mono ?_;rintro e w1 ⟨rfl,rfl⟩;go_wp2_with fail;go_roundw;case rel=>exact ⟨k+1,out++[l[k]],h,by rw[List.length_append];simp;omega,by go_num,rfl,HE.out,H.out.2⟩
       case measure=>simp [intOf];omega
     ·have e2:decide ((k:Int)+1<(l.length:Int))=false:=decide_eq_false (by omega);have e2':decide (k+1<l.length)=false:=decide_eq_false a2;have hx:=Lh (show Ch.isX (l.drop k)=false by rw[hX.out,List.getElem?_eq_none (by omega)];simp);have HE:=Lh (show Ch.esc p s l=(out++[l[k]])++Ch.escL p s (l.take (k+1)).getLast? (l.drop (k+1)) by
       rw[H.out.1,hR.out,hg,hx.out,List.append_assoc];rfl)
      clear hR hX;clear hg hx;go_wp2_with fail;refine hc.mono ?_;rintro e w1 ⟨rfl,rfl⟩;go_wp2_with fail;go_roundw;case rel=>exact ⟨k+1,out++[l[k]],h,by rw[List.length_append];simp;omega,by go_num,rfl,HE.out,H.out.2⟩
      case measure=>simp [intOf];omega
    ·have e1:decide ((n:Int)=95)=false:=decide_eq_false (by omega);have e1':decide (n=95)=false:=decide_eq_false a1;have e1b:((n:Int)==95)=false:=beq_eq_false_iff_ne.2 (by omega);have e1c:(n==95)=false:=by simpa using a1
     have hx:=Lh (show Ch.isX (l.drop k)=false by rw[hX.out,decide_eq_false (fun e=>a1 (H95.out.2 e)),Bool.false_and]);have HE:=Lh (show Ch.esc p s l=(out++[l[k]])++Ch.escL p s (l.take (k+1)).getLast? (l.drop (k+1)) by
      rw[H.out.1,hR.out,hg,hx.out,List.append_assoc];rfl)
     clear hR hX;clear hg hx;go_wp2_with fail;refine hc.mono ?_;rintro e w1 ⟨rfl,rfl⟩;go_wp2_with fail;go_roundw;case rel=>exact ⟨k+1,out++[l[k]],h,by rw[List.length_append];simp;omega,by go_num,rfl,HE.out,H.out.2⟩
     case measure=>simp [intOf];omega
  ·have hlt:decide ((k:Int)<(l.length:Int))=false:=by simp;omega
   have hlt':decide (k<l.length)=false:=decide_eq_false h;have he:k=l.length:=by omega
   have HE:=Lh (show Ch.esc p s l=out by rw[H.out.1,he,Ch.esc_stop,List.append_nil]);clear he;go_wp2;go_ret;exact⟨by rw[HE.out];rfl,H.out.2⟩
theorem rhex_calls (c:UInt8) (w:World):Calls Tryz.prog 125 #[.int .u8 (c.toNat:Int)] w fun e w'=>e = .returned (.int .i64 (Ch.hexI c))∧w=w':=by
 have hc:=c.toNat_lt;have hd:=rdigit_calls c;have hdg:Ch.digit c=(decide (48≤c.toNat)&&decide (c.toNat≤57)):=rfl;have hu:Ch.unhex c=if 48≤c.toNat∧c.toNat≤57 then some (c.toNat-48) else if 97≤c.toNat∧c.toNat≤102 then some (c.toNat-87) else none:=rfl
 by_cases h1:48≤c.toNat∧c.toNat≤57
 ·rw[if_pos h1] at hu;have hr:=Lh (Ch.hexI_some hu);rw[show Ch.digit c=true by rw[hdg,decide_eq_true h1.1,decide_eq_true h1.2];rfl] at hd;clear hdg hu;generalize Ch.hexI c=R at *;generalize c.toNat=n at *;have hn1:48≤n:=h1.1;have hn2:n≤57:=h1.2;clear h1;obtain⟨m,rfl⟩ : ∃m,n=48+m:=⟨n-48,by omega⟩
  go_enter Tryz.func125,Tryz.ntmps125;go_wp2_with fail;refine(hd _).mono ?_;rintro e w1 ⟨rfl,rfl⟩;go_wp2;go_ret;refine⟨?_,rfl⟩;rw[hr.out];refine ret_int ?_;omega
 ·rw[if_neg h1] at hu;rw[show Ch.digit c=false by
   rw[hdg];by_cases a:48≤c.toNat
   ·rw[decide_eq_true a,decide_eq_false (fun b=>h1 ⟨a,b⟩)];rfl
   ·rw[decide_eq_false a];rfl] at hd
  clear hdg h1;by_cases h2:97≤c.toNat
  ·have e1:decide ((97:Int)≤(c.toNat:Int))=true:=decide_eq_true (by omega);have e1':decide (97≤c.toNat)=true:=decide_eq_true h2;by_cases h3:c.toNat≤102
   ·have e2:decide ((c.toNat:Int)≤102)=true:=decide_eq_true (by omega);have e2':decide (c.toNat≤102)=true:=decide_eq_true h3;rw[if_pos ⟨h2,h3⟩] at hu;have hr:=Lh (Ch.hexI_some hu);clear hu;generalize Ch.hexI c=R at *;generalize c.toNat=n at *;go_enter Tryz.func125,Tryz.ntmps125;go_wp2_with fail;refine(hd _).mono ?_;rintro e w1 ⟨rfl,rfl⟩;go_wp2;go_ret;refine⟨?_,rfl⟩;rw[hr.out];refine ret_int ?_;omega
   ·have e2:decide ((c.toNat:Int)≤102)=false:=decide_eq_false (by omega);have e2':decide (c.toNat≤102)=false:=decide_eq_false h3;rw[if_neg (fun h=>h3 h.2)] at hu;have hr:=Lh (Ch.hexI_none hu);clear hu;generalize Ch.hexI c=R at *;generalize c.toNat=n at *;go_enter Tryz.func125,Tryz.ntmps125;go_wp2_with fail;refine(hd _).mono ?_;rintro e w1 ⟨rfl,rfl⟩;go_wp2;go_ret;exact⟨by rw[hr.out];rfl,rfl⟩
  ·have e1:decide ((97:Int)≤(c.toNat:Int))=false:=decide_eq_false (by omega);have e1':decide (97≤c.toNat)=false:=decide_eq_false h2;rw[if_neg (fun h=>h2 h.1)] at hu;have hr:=Lh (Ch.hexI_none hu);clear hu;generalize Ch.hexI c=R at *;generalize c.toNat=n at *;go_enter Tryz.func125,Tryz.ntmps125;go_wp2_with fail;refine(hd _).mono ?_;rintro e w1 ⟨rfl,rfl⟩;go_wp2;go_ret;exact⟨by rw[hr.out];rfl,rfl⟩
namespace Ch
theorem undo_stay {l:List UInt8} {k:Nat} (h:k<l.length) (hx:isX (l.drop k)=false):undo (l.drop k)=(undo (l.drop (k+1))).map (l[k] :: ·):=by
 have e:=List.drop_eq_getElem_cons h;rw[e,isX_cons] at hx;rw[e];exact undo_keep _ _ hx
theorem undo_two {l:List UInt8} {k:Nat} (h:k+1<l.length) (h1:l[k]=95) (h2:l[k+1]=120):undo (l.drop k)=match byteO (l.drop (k+2)) with|none=>none|some c=>(undo (l.drop (k+4))).map (c :: ·):=by
 have e:l.drop k=95::120::l.drop (k+2):=by
  rw[List.drop_eq_getElem_cons (by omega),h1,List.drop_eq_getElem_cons h,h2]
 rw[e,undo_x,List.drop_drop];rfl
theorem byteO_at {l:List UInt8} {k:Nat} (h:k+3<l.length):byteO (l.drop (k+2))=byteO (l[k+2]::l[k+3]::l.drop (k+4)):=by
 rw[List.drop_eq_getElem_cons (by omega),List.drop_eq_getElem_cons (by omega)]
end Ch
theorem rundo_calls (l:List UInt8) (w:World) (hl:l.length≤4194304) :
 Calls Tryz.prog 97 #[.string (str l)] w fun e w'=>e = .returned (undoV (Ch.undo l))∧Below w.heap.size w w':=by
 have hsz:=str_size l;obtain⟨i0,hi,hz0,hz1,hz2⟩:=info_parts (P:=Tryz.prog) (t:=5) (z := .int .u8 0) (n:=1) (m:=1) (by kernel_rfl);have Hi:=Lh (And.intro hi (And.intro hz0 (And.intro hz1 hz2)));clear hi hz0 hz1 hz2;go_enter Tryz.func97,Tryz.ntmps97;go_wp2_with fail;go_loopw [4,5] (fun vo v wr => ∃(k:Nat) (out:List UInt8),k≤l.length∧out.length≤k∧v = .int .i64 (k:Nat)∧Hid (Ch.undo l=(Ch.undo (l.drop k)).map (out ++ ·)∧Below w.heap.size w wr∧wr.ownsRow w.heap.size 5 1 vo out.length (Lib.byteCells out))) (fun _ v _=>l.length-(intOf v).toNat);case atStart=>exact ⟨0,[],by omega,by simp,rfl,by rw[List.drop_zero];cases Ch.undo l <;> rfl,Below.refl _ _,World.ownsRow_nil w w.heap.size 5 1⟩
 case round =>
  obtain⟨k,out,hk,ho,rfl,H⟩:=hrel;by_cases h:k<l.length
  ·have hk2:k<(str l).size:=by rw[hsz];exact h
   have hlt:decide ((k:Int)<(l.length:Int))=true:=decide_eq_true (by omega);have hlt':decide (k<l.length)=true:=decide_eq_true h;have hX:=Lh (Ch.isX_at h);have hS:=Lh (fun e=>Ch.undo_stay (l:=l) (k:=k) h e);have hbyte:(str l)[k]=l[k]:=rfl;have hw:=H.out.2.1.size;obtain⟨n,hn⟩ : ∃n:Nat,l[k].toNat=n:=⟨_,rfl⟩
   have hbn:(l[k].toNat:Int)=(n:Int):=by rw[hn]
   have HN:=Lh hn;have hn95:(n=95)↔l[k]=95:=by
    rw[←hn];constructor
    ·intro e;exact UInt8.toNat_inj.1 e
    ·intro e;rw[e];rfl
   have H95:=Lh hn95;clear hn hn95;by_cases a1:n=95
   ·have e1:decide ((n:Int)=95)=true:=decide_eq_true (by omega);have e1':decide (n=95)=true:=decide_eq_true a1;have e1b:((n:Int)==95)=true:=by simp;omega
    have e1c:(n==95)=true:=by simpa using a1
    have e1d:((n:Int) != 95)=false:=by simp;omega
    have HL:=Lh (H95.out.1 a1);clear a1;by_cases a2:k+1<l.length
    ·have e2:decide ((l.length:Int)≤(k:Int)+1)=false:=decide_eq_false (by omega);have e2':decide (l.length≤k+1)=false:=decide_eq_false (by omega);have hk3:k+1<(str l).size:=by rw[hsz];exact a2
     have hbyte2:(str l)[k+1]=l[k+1]:=rfl;obtain⟨m,hm⟩ : ∃m:Nat,l[k+1].toNat=m:=⟨_,rfl⟩
     have hbm:(l[k+1].toNat:Int)=(m:Int):=by rw[hm]
     have hm120:(m=120)↔l[k+1]=120:=by
      rw[←hm];constructor
      ·intro e;exact UInt8.toNat_inj.1 e
      ·intro e;rw[e];rfl
     have H120:=Lh hm120;clear hm hm120;by_cases a3:m=120
     ·have e3:decide ((m:Int)=120)=true:=decide_eq_true (by omega);have e3':decide (m=120)=true:=decide_eq_true a3;have e3b:((m:Int)==120)=true:=by simp;omega
      have e3c:(m==120)=true:=by simpa using a3
      have e3d:((m:Int) != 120)=false:=by simp;omega
      have HM:=Lh (H120.out.1 a3);clear a3;have hU:=Lh (Ch.undo_two (l:=l) (k:=k) a2 HL.out HM.out);clear hX hS;by_cases a4:k+3<l.length
      ·have e4:decide ((l.length:Int)≤(k:Int)+3)=false:=decide_eq_false (by omega);have e4':decide (l.length≤k+3)=false:=decide_eq_false (by omega);have hk5:k+2<(str l).size:=by rw[hsz];omega
       have hk6:k+3<(str l).size:=by rw[hsz];omega
       have hb5:(str l)[k+2]=l[k+2]:=rfl;have hb6:(str l)[k+3]=l[k+3]:=rfl;have hBA:=Lh (Ch.byteO_at (l:=l) (k:=k) a4);have c0:=rhex_calls l[k+2];have c1:=rhex_calls l[k+3]
       cases he:Ch.unhex l[k+2] with
       | none =>
         rw[Ch.hexI_none he] at c0;have hB:=Lh (show Ch.byteO (l.drop (k+2))=none by rw[hBA.out];exact Ch.byteO_none (Or.inl he));clear he hBA;have HR:=Lh (show Ch.undo l=none by rw[H.out.1,hU.out,hB.out];rfl);clear hU hB;go_wp2_with fail;refine(c0 _).mono ?_;rintro e w1 ⟨rfl,rfl⟩;go_wp2_with fail
         go_ret2
         exact⟨by rw[HR.out];rfl,H.out.2.1⟩
       | some x =>
         rw[Ch.hexI_some he] at c0;have hx16:=Ch.unhex_lt _ _ he;have x1:decide ((x:Int)<0)=false:=by simp
         cases hf:Ch.unhex l[k+3] with
         | none =>
           rw[Ch.hexI_none hf] at c1;have hB:=Lh (show Ch.byteO (l.drop (k+2))=none by rw[hBA.out];exact Ch.byteO_none (Or.inr hf));clear he hf hBA;have HR:=Lh (show Ch.undo l=none by rw[H.out.1,hU.out,hB.out];rfl);clear hU hB;go_wp2_with fail;refine(c0 _).mono ?_;rintro e w1 ⟨rfl,rfl⟩;go_wp2_with fail;refine(c1 _).mono ?_;rintro e w1 ⟨rfl,rfl⟩;go_wp2_with fail
           go_ret2
           exact⟨by rw[HR.out];rfl,H.out.2.1⟩
         | some y =>
           rw[Ch.hexI_some hf] at c1;have hy16:=Ch.unhex_lt _ _ hf;have y1:decide ((y:Int)<0)=false:=by simp
           obtain⟨c,hcc⟩ : ∃c,c=UInt8.ofNat (16*x+y):=⟨_,rfl⟩
           have hcn:(c.toNat:Int)=16*(x:Int)+(y:Int):=by
            rw[hcc,UInt8.toNat_ofNat',Nat.mod_eq_of_lt (by show _<256;omega)];omega
           have HE:=Lh (show Ch.undo l=(Ch.undo (l.drop (k+4))).map ((out++[c]) ++ ·) by
            rw[H.out.1,hU.out,hBA.out,Ch.byteO_some he hf,←hcc,map_put])
           have HC:=Lh hcn;clear hcc hcn he hf hBA hU;go_wp2_with fail;refine(c0 _).mono ?_;rintro e w1 ⟨rfl,rfl⟩;go_wp2_with fail;refine(c1 _).mono ?_;rintro e w1 ⟨rfl,rfl⟩;go_wp2_with fail;have q1:IntKind.i64.wrap ((k:Int)+2)=(k:Int)+2:=IntWalk.i64_in _ (by omega);have q2:IntKind.i64.wrap ((k:Int)+3)=(k:Int)+3:=IntWalk.i64_in _ (by omega);have q3:(0:Int)≤(k:Int)+2:=by omega
           have q4:(k:Int)+2<(l.length:Int):=by omega
           have q5:(0:Int)≤(k:Int)+3:=by omega
           have q6:(k:Int)+3<(l.length:Int):=by omega
           have q7:((k:Int)+2).toNat=k+2:=by omega
           have q8:((k:Int)+3).toNat=k+3:=by omega
           have q9:IntKind.i64.wrap (16*(x:Int))=16*(x:Int):=IntWalk.i64_in _ (by omega);have q10:IntKind.i64.wrap (16*(x:Int)+(y:Int))=16*(x:Int)+(y:Int):=IntWalk.i64_in _ (by omega);have q11:IntKind.u8.wrap (16*(x:Int)+(y:Int))=16*(x:Int)+(y:Int):=by
            show(16*(x:Int)+(y:Int))%_=_;exact Int.emod_eq_of_lt (by omega) (by show _<(256:Int);omega)
           refine wp_region_noPanic ?_;refine wp_region_held_drew (S:=fun X=>Below w.heap.size wr X) (by kernel_rfl) ?_ (fun hHeld => ?_)
           ·exact Below.drew (Below.refl _ _)
           have kB:Below w.heap.size wr wr.drew:=Below.drew (Below.refl _ _);clear hHeld;refine tk9 0 kB ?_;refine tk9 1 kB ?_;refine tk9 2 kB ?_;refine tk9 3 kB ?_;refine tk9 4 kB ?_;refine tk9 7 kB ?_;refine tk9 8 kB ?_;refine tk9 9 kB ?_;refine tk9 10 kB ?_;refine wpAnyH_ready (rs:=[5]) (by kernel_rfl) (by simp) ?_;refine ar9 fun K hK => ?_
           try go_simp
           refine(c0 _).mono ?_;rintro e w1 ⟨rfl,rfl⟩;refine hK.out _ _ kB (fun hHeld => ?_);clear hK K hHeld
           (try simp only[Act.put,sI,sZ,sS])
           refine tk9 6 kB ?_;refine wpAnyH_ready (rs:=[11]) (by kernel_rfl) (by simp) ?_;refine ar9 fun K hK => ?_
           try go_simp
           refine(c1 _).mono ?_;rintro e w1 ⟨rfl,rfl⟩;refine hK.out _ _ kB (fun hHeld => ?_);clear hK K hHeld
           (try simp only[Act.put,sI,sZ,sS])
           refine tk9 12 kB ?_;refine tk9 13 kB ?_;refine wpAnyH_ready (rs:=[14]) (by kernel_rfl) (by simp) ?_;refine ar9 fun K hK => ?_;go_simp;replace kB:Below w.heap.size wr ((wr.alloc (.cells #[.int .u8 (16*(x:Int)+(y:Int))] 5)).drew):=Below.drew (kb_alloc (Below.refl _ _) hw _);refine hK.out _ _ kB (fun hHeld => ?_);clear hK K hHeld
           (try simp only[Act.put,sI,sZ,sS])
           refine wpAnyH_ready (rs:=[15]) (by kernel_rfl) (by simp) ?_;refine ar9 fun K hK => ?_;refine step_append_lies _ (by rfl) _ _ _ (by rfl) w.heap.size 5 i0 _ 1 1 Tryz.underlying85 Hi.out.1 Hi.out.2.1 Hi.out.2.2.1 Hi.out.2.2.2 rfl (by omega) _ out.length _ (by rfl) (own_drew (own_alloc H.out.2.2 _)) _ 1 1 [.int .u8 (16*(x:Int)+(y:Int))] (by rfl) rfl (World.news_of_block (heap_new wr _)) (by intro u hu;simp at hu;subst hu;rfl) (by omega) (by unfold maxLen;omega) (by omega) (by simp;omega) _ rfl ?_;intro g cap w3 hown hgrow hat hlt3;replace kB:=Below.grown kB hgrow (by simp;omega) (own_ge H.out.2.2);refine hK.out _ _ kB (fun hHeld => ?_);clear hK K hHeld
           (try simp only[Act.put,sI,sZ,sS])
           refine tk9 16 kB ?_;refine wpAnyH_done (by kernel_rfl) ?_ _;refine NoPanic.normal ?_;go_wp2_with fail;go_roundw;case rel=>exact ⟨k+4,out++[c],by omega,by simp;omega,by go_num,HE.out,(H.out.2.1).trans kB,by
            have e:(out++[c]).length=out.length+1:=by simp
            rw[e];refine own_put ?_;rw[HC.out];exact hown⟩
           case measure=>simp [intOf];omega
      ·have e4:decide ((l.length:Int)≤(k:Int)+3)=true:=decide_eq_true (by omega);have e4':decide (l.length≤k+3)=true:=decide_eq_true (by omega);have hB:=Lh (show Ch.byteO (l.drop (k+2))=none from Ch.byteO_short (by rw[List.length_drop];omega));have HR:=Lh (show Ch.undo l=none by rw[H.out.1,hU.out,hB.out];rfl);clear hU hB;go_wp2_with fail
       go_ret2
       exact⟨by rw[HR.out];rfl,H.out.2.1⟩
     ·have e3:decide ((m:Int)=120)=false:=decide_eq_false (by omega);have e3':decide (m=120)=false:=decide_eq_false a3;have e3b:((m:Int)==120)=false:=beq_eq_false_iff_ne.2 (by omega);have e3c:(m==120)=false:=by simpa using a3
      have e3d:((m:Int) != 120)=true:=by simp;omega
      have HM:=Lh (fun e=>a3 (H120.out.2 e));clear a3;have hx:=Lh (show Ch.isX (l.drop k)=false by rw[hX.out,List.getElem?_eq_getElem a2,decide_eq_false (p:=some l[k+1]=some 120) (fun e=>HM.out (Option.some.inj e)),Bool.and_false]);have HE:=Lh (show Ch.undo l=(Ch.undo (l.drop (k+1))).map ((out++[l[k]]) ++ ·) by rw[H.out.1,hS.out hx.out,map_put]);clear hS hX hx;go_wp2_with (first
       | (at_builtin
          refine wpList_append_lies _ rfl _ _ _ (by rfl) w.heap.size 5 i0 _ 1 1 Tryz.underlying85 Hi.out.1 Hi.out.2.1 Hi.out.2.2.1 Hi.out.2.2.2 rfl (by omega) _ out.length _ (by rfl) (own_alloc H.out.2.2 _) _ 1 1 [.int .u8 (n:Int)] (by rfl) rfl (World.news_of_block (heap_new _ _)) (by intro u hu;simp at hu;subst hu;rfl) (by omega) (by unfold maxLen;omega) (by omega) (by simp;omega) _ rfl ?_;intro g cap w3 hown hgrow hat hlt3)
       | fail)
      go_roundw;case rel=>exact ⟨k+1,out++[l[k]],h,by simp;omega,by go_num,HE.out,Below.grown (kb_alloc H.out.2.1 (Nat.le_refl _) _) hgrow (by simp;omega) (own_ge H.out.2.2),by
       have e:(out++[l[k]]).length=out.length+1:=by simp
       rw[e];refine own_put ?_;rw[HN.out];exact hown⟩
      case measure=>simp [intOf];omega
    ·have e2:decide ((l.length:Int)≤(k:Int)+1)=true:=decide_eq_true (by omega);have e2':decide (l.length≤k+1)=true:=decide_eq_true (by omega);have hx:=Lh (show Ch.isX (l.drop k)=false by rw[hX.out,List.getElem?_eq_none (by omega)];simp);have HE:=Lh (show Ch.undo l=(Ch.undo (l.drop (k+1))).map ((out++[l[k]]) ++ ·) by rw[H.out.1,hS.out hx.out,map_put]);clear hS hX hx;go_wp2_with (first
      | (at_builtin
         refine wpList_append_lies _ rfl _ _ _ (by rfl) w.heap.size 5 i0 _ 1 1 Tryz.underlying85 Hi.out.1 Hi.out.2.1 Hi.out.2.2.1 Hi.out.2.2.2 rfl (by omega) _ out.length _ (by rfl) (own_alloc H.out.2.2 _) _ 1 1 [.int .u8 (n:Int)] (by rfl) rfl (World.news_of_block (heap_new _ _)) (by intro u hu;simp at hu;subst hu;rfl) (by omega) (by unfold maxLen;omega) (by omega) (by simp;omega) _ rfl ?_;intro g cap w3 hown hgrow hat hlt3)
      | fail)
     go_roundw;case rel=>exact ⟨k+1,out++[l[k]],h,by simp;omega,by go_num,HE.out,Below.grown (kb_alloc H.out.2.1 (Nat.le_refl _) _) hgrow (by simp;omega) (own_ge H.out.2.2),by
      have e:(out++[l[k]]).length=out.length+1:=by simp
      rw[e];refine own_put ?_;rw[HN.out];exact hown⟩
     case measure=>simp [intOf];omega
   ·have e1:decide ((n:Int)=95)=false:=decide_eq_false (by omega);have e1':decide (n=95)=false:=decide_eq_false a1;have e1b:((n:Int)==95)=false:=beq_eq_false_iff_ne.2 (by omega);have e1c:(n==95)=false:=by simpa using a1
    have e1d:((n:Int) != 95)=true:=by simp;omega
    have hx:=Lh (show Ch.isX (l.drop k)=false by rw[hX.out,decide_eq_false (fun e=>a1 (H95.out.2 e)),Bool.false_and]);have HE:=Lh (show Ch.undo l=(Ch.undo (l.drop (k+1))).map ((out++[l[k]]) ++ ·) by rw[H.out.1,hS.out hx.out,map_put]);clear hS hX hx;go_wp2_with (first
     | (at_builtin
        refine wpList_append_lies _ rfl _ _ _ (by rfl) w.heap.size 5 i0 _ 1 1 Tryz.underlying85 Hi.out.1 Hi.out.2.1 Hi.out.2.2.1 Hi.out.2.2.2 rfl (by omega) _ out.length _ (by rfl) (own_alloc H.out.2.2 _) _ 1 1 [.int .u8 (n:Int)] (by rfl) rfl (World.news_of_block (heap_new _ _)) (by intro u hu;simp at hu;subst hu;rfl) (by omega) (by unfold maxLen;omega) (by omega) (by simp;omega) _ rfl ?_;intro g cap w3 hown hgrow hat hlt3)
     | fail)
    go_roundw;case rel=>exact ⟨k+1,out++[l[k]],h,by simp;omega,by go_num,HE.out,Below.grown (kb_alloc H.out.2.1 (Nat.le_refl _) _) hgrow (by simp;omega) (own_ge H.out.2.2),by
     have e:(out++[l[k]]).length=out.length+1:=by simp
     rw[e];refine own_put ?_;rw[HN.out];exact hown⟩
    case measure=>simp [intOf];omega
  ·have hlt:decide ((k:Int)<(l.length:Int))=false:=decide_eq_false (by omega);have hlt':decide (k<l.length)=false:=decide_eq_false h;have he:k=l.length:=by omega
   have HE:=Lh (show Ch.undo l=some out by rw[H.out.1,he,List.drop_length];simp[Ch.undo]);have hconv:=econv_own H.out.2.2;clear he;go_wp2
   go_ret2
   exact⟨by rw[HE.out];rfl,H.out.2.1⟩
theorem rback_calls (p s:Int) (l:List UInt8) (w:World) (hl:l.length≤4194304) :
 Calls Tryz.prog 58 #[.int .i64 p,.int .i64 s,.string (str l)] w fun e w'=>e = .returned (.string (str (Ch.back p s l)))∧Below w.heap.size w w':=by
 have hu:=rundo_calls l w hl
 cases ht:Ch.undo l with
 | none =>
   rw[ht,show undoV none = .tuple #[.string ⟨#[]⟩,.bool false] from rfl] at hu;have HR:=Lh (Ch.back_none (p:=p) (w:=s) ht);go_enter Tryz.func58,Tryz.ntmps58;go_wp2_with fail;refine hu.mono ?_;rintro e w1 ⟨rfl,b1⟩;go_wp2;go_ret;exact⟨by rw[HR.out];rfl,b1⟩
 | some t =>
   rw[ht,show undoV (some t) = .tuple #[.string (str t),.bool true] from rfl] at hu;have htl:=Ch.undo_len _ l t (Nat.le_refl _) ht;have he:=fun W=>rescape_calls p s t W (by omega);by_cases hq:Ch.esc p s t=l
   ·have HR:=Lh (Ch.back_yes ht hq);rw[hq] at he;clear ht hq;go_enter Tryz.func58,Tryz.ntmps58;go_wp2_with fail;refine hu.mono ?_;rintro e w1 ⟨rfl,b1⟩;have B1:=Lh b1;clear b1;go_wp2_with fail;refine(he _).mono ?_;rintro e w2 ⟨rfl,b2⟩;have B2:=Lh (trans9 B1.out b2);clear b2;go_wp2;go_ret;exact⟨by rw[HR.out];rfl,B2.out⟩
   ·have HR:=Lh (Ch.back_no ht hq);have q1:(Ch.esc p s t==l)=false:=beq_eq_false_iff_ne.2 hq;generalize Ch.esc p s t=x at *;clear ht;go_enter Tryz.func58,Tryz.ntmps58;go_wp2_with fail;refine hu.mono ?_;rintro e w1 ⟨rfl,b1⟩;have B1:=Lh b1;clear b1;go_wp2_with fail;refine(he _).mono ?_;rintro e w2 ⟨rfl,b2⟩;have B2:=Lh (trans9 B1.out b2);clear b2;go_wp2;go_ret;exact⟨by rw[HR.out];rfl,B2.out⟩
theorem rloss_calls (p s:Int) (l:List UInt8) (w:World) (hl:l.length≤4194304) :
 Calls Tryz.prog 18 #[.int .i64 p,.int .i64 s,.string (str l)] w fun e w'=>e = .returned (.string (str (Ch.loss p s l)))∧Below w.heap.size w w':=by
 have hsz:=str_size l;have hlm:l.length≤maxLen:=by unfold maxLen;omega
 obtain⟨i0,hi,hz0,hz1,hz2⟩:=info_parts (P:=Tryz.prog) (t:=5) (z := .int .u8 0) (n:=1) (m:=1) (by kernel_rfl);have Hi:=Lh (And.intro hi (And.intro hz0 (And.intro hz1 hz2)));clear hi hz0 hz1 hz2;have HL:=Lh (Ch.loss_len p s l);go_enter Tryz.func18,Tryz.ntmps18;go_wp2_with fail;go_loopw [7,8] (fun vo v wr => ∃(k:Nat),k≤l.length∧v = .int .i64 (k:Nat)∧Hid (Below w.heap.size w wr∧wr.ownsRow w.heap.size 5 1 vo k (Lib.byteCells ((Ch.loss p s l).take k)))) (fun _ v _=>l.length-(intOf v).toNat);case atStart=>exact ⟨0,by omega,rfl,Below.refl _ _,World.ownsRow_nil w w.heap.size 5 1⟩
 case round =>
  obtain⟨k,hk,rfl,H⟩:=hrel;by_cases h:k<l.length
  ·have hk2:k<(str l).size:=by rw[hsz];exact h
   have hlt:decide ((k:Int)<(l.length:Int))=true:=decide_eq_true (by omega);have hlt':decide (k<l.length)=true:=decide_eq_true h;have hbyte:(str l)[k]=l[k]:=rfl;have hw:=H.out.1.size;obtain⟨n,hn⟩ : ∃n:Nat,l[k].toNat=n:=⟨_,rfl⟩
   have hbn:(l[k].toNat:Int)=(n:Int):=by rw[hn]
   have HN:=Lh hn;clear hn;have hP:=Lh (Ch.loss_put p s l k h);have hc:=rlegal_calls p s l (k:Int) wr hlm;rw[Ch.legI_at] at hc
   cases hg:Ch.leg p s l k
   ·rw[hg] at hc;have HB:=Lh (show(95:Int)=((Ch.lossB p s l k).toNat:Int) by unfold Ch.lossB;rw[hg];rfl);go_wp2_with fail;refine hc.mono ?_;rintro e w1 ⟨rfl,rfl⟩;go_wp2_with (first
     | (at_builtin
        refine wpList_append_lies _ rfl _ _ _ (by rfl) w.heap.size 5 i0 _ 1 1 Tryz.underlying85 Hi.out.1 Hi.out.2.1 Hi.out.2.2.1 Hi.out.2.2.2 rfl (by omega) _ k _ (by rfl) (own_alloc H.out.2 _) _ 1 1 [.int .u8 95] (by rfl) rfl (World.news_of_block (heap_new _ _)) (by intro u hu;simp at hu;subst hu;rfl) (by omega) (by unfold maxLen;omega) (by omega) (by simp;omega) _ rfl ?_;intro g cap w3 hown hgrow hat hlt3)
     | fail)
    go_roundw;case rel=>exact ⟨k+1,h,by go_num,Below.grown (kb_alloc H.out.1 (Nat.le_refl _) _) hgrow (by simp;omega) (own_ge H.out.2),by
     rw[←hP.out];refine own_put ?_;rw[←HB.out];exact hown⟩
    case measure=>simp [intOf];omega
   ·rw[hg] at hc;have HB:=Lh (show(n:Int)=((Ch.lossB p s l k).toNat:Int) by
     unfold Ch.lossB;rw[hg,if_pos rfl,List.getD_eq_getElem?_getD,List.getElem?_eq_getElem h,←HN.out];rfl)
    go_wp2_with fail;refine hc.mono ?_;rintro e w1 ⟨rfl,rfl⟩;go_wp2_with (first
     | (at_builtin
        refine wpList_append_lies _ rfl _ _ _ (by rfl) w.heap.size 5 i0 _ 1 1 Tryz.underlying85 Hi.out.1 Hi.out.2.1 Hi.out.2.2.1 Hi.out.2.2.2 rfl (by omega) _ k _ (by rfl) (own_alloc H.out.2 _) _ 1 1 [.int .u8 (n:Int)] (by rfl) rfl (World.news_of_block (heap_new _ _)) (by intro u hu;simp at hu;subst hu;rfl) (by omega) (by unfold maxLen;omega) (by omega) (by simp;omega) _ rfl ?_;intro g cap w3 hown hgrow hat hlt3)
     | fail)
    go_roundw;case rel=>exact ⟨k+1,h,by go_num,Below.grown (kb_alloc H.out.1 (Nat.le_refl _) _) hgrow (by simp;omega) (own_ge H.out.2),by
     rw[←hP.out];refine own_put ?_;rw[←HB.out];exact hown⟩
    case measure=>simp [intOf];omega
  ·have hlt:decide ((k:Int)<(l.length:Int))=false:=decide_eq_false (by omega);have hlt':decide (k<l.length)=false:=decide_eq_false h;have he:k=l.length:=by omega
   have hE:(Ch.loss p s l).take k=Ch.loss p s l:=by rw[he,←HL.out,List.take_length]
   have hR:=H.out.2;rw[hE] at hR;have hconv:=econv_own hR;clear he hE hR;go_wp2;go_ret;exact⟨rfl,H.out.1⟩
theorem rbadc_calls (p s:Int) (l:List UInt8) (w:World) (hl:l.length≤maxLen) :
 Calls Tryz.prog 70 #[.int .i64 p,.int .i64 s,.string (str l)] w fun e w'=>e = .returned (.int .i64 (Ch.bad p s l))∧w=w':=by
 have hl':=hl;unfold maxLen at hl';have hsz:=str_size l;go_enter Tryz.func70,Tryz.ntmps70;go_wp2_with fail;go_loopw [7] (fun v wr => ∃k:Nat,k≤l.length∧Hid (Ch.bad p s l=Ch.badGo p s l (l.length-k) k)∧v = .int .i64 (k:Nat)∧w=wr) (fun v _=>l.length-(intOf v).toNat);case atStart=>exact ⟨0,by omega,rfl,rfl,rfl⟩
 case round =>
  obtain⟨k,hk,H,rfl,rfl⟩:=hrel;by_cases h:k<l.length
  ·have hc:=rlegal_calls p s l (k:Int) w hl;rw[Ch.legI_at] at hc;have hB:=Lh (show Ch.badGo p s l (l.length-k) k=if Ch.leg p s l k then Ch.badGo p s l (l.length-(k+1)) (k+1) else (k:Int) by
    rw[show l.length-k=(l.length-(k+1))+1 by omega];rfl)
   cases hg:Ch.leg p s l k
   ·have hr:=Lh (show Ch.bad p s l=(k:Int) by rw[H.out,hB.out,hg];rfl);rw[hg] at hc;go_wp2_with fail;refine hc.mono ?_;rintro e w1 ⟨rfl,rfl⟩;go_wp2;go_ret;exact⟨by rw[hr.out];rfl,rfl⟩
   ·have hr:=Lh (show Ch.bad p s l=Ch.badGo p s l (l.length-(k+1)) (k+1) by rw[H.out,hB.out,hg];rfl);rw[hg] at hc;go_wp2_with fail;refine hc.mono ?_;rintro e w1 ⟨rfl,rfl⟩;go_wp2;go_roundw;case rel=>exact ⟨k+1,h,hr.out,by go_num,trivial⟩
    case measure=>simp [intOf];omega
  ·have hr:=Lh (show Ch.bad p s l = -1 by rw[H.out,show l.length-k=0 by omega];rfl);go_wp2;go_ret;exact⟨by rw[hr.out];rfl,rfl⟩
theorem risc_calls (p s:Int) (l:List UInt8) (w:World) (hl:l.length≤maxLen) :
 Calls Tryz.prog 40 #[.int .i64 p,.int .i64 s,.string (str l)] w fun e w'=>e = .returned (.bool (Ch.isName p s l))∧w=w':=by
 have hsz:=str_size l;have hb:=rbadc_calls p s l w hl;have HR:=Lh (Ch.isName_ref p s l);unfold maxLen at hl;by_cases h1:1≤l.length
 ·have d1:decide ((1:Int)≤(l.length:Int))=true:=decide_eq_true (by omega);have d1':decide (1≤l.length)=true:=decide_eq_true h1;by_cases h2:l.length≤60
  ·have d2:decide ((l.length:Int)≤60)=true:=decide_eq_true (by omega);have d2':decide (l.length≤60)=true:=decide_eq_true h2;by_cases h3:1≤p
   ·have d3:decide (1≤p)=true:=decide_eq_true h3;by_cases h4:p≤4
    ·have d4:decide (p≤4)=true:=decide_eq_true h4;by_cases hs:s=0∨s=1
     ·have hr:=Lh (show Ch.isName p s l=decide (Ch.bad p s l<0) by
       rw[HR.out,d1',d2',d3,d4,show(decide (s=0)||decide (s=1))=true by rcases hs with rfl|rfl <;> rfl];rfl)
      generalize Ch.bad p s l=z at *;rcases hs with rfl|rfl
      all_goals
       go_enter Tryz.func40,Tryz.ntmps40;go_wp2_with fail;refine hb.mono ?_;rintro e w1 ⟨rfl,rfl⟩;go_wp2;go_ret;exact⟨by rw[hr.out];rfl,rfl⟩
     ·have n0 : ¬s=0:=fun e=>hs (Or.inl e);have n1 : ¬s=1:=fun e=>hs (Or.inr e);have e0:decide (s=0)=false:=decide_eq_false n0;have e1:decide (s=1)=false:=decide_eq_false n1;have b0:(s==0)=false:=by simpa using n0
      have b1:(s==1)=false:=by simpa using n1
      have bb:(s==0||s==1)=false:=by rw[b0,b1];rfl
      have hr:=Lh (show Ch.isName p s l=false by rw[HR.out,e0,e1];simp);go_enter Tryz.func40,Tryz.ntmps40;go_wp2_with (refine hb.mono ?_;rintro e w1 ⟨rfl,rfl⟩)
      go_ret;exact⟨by rw[hr.out];rfl,rfl⟩
    ·have d4:decide (p≤4)=false:=decide_eq_false h4;have hr:=Lh (show Ch.isName p s l=false by rw[HR.out,d4];simp);go_enter Tryz.func40,Tryz.ntmps40;go_wp2;go_ret;exact⟨by rw[hr.out];rfl,rfl⟩
   ·have d3:decide (1≤p)=false:=decide_eq_false h3;have hr:=Lh (show Ch.isName p s l=false by rw[HR.out,d3];simp);go_enter Tryz.func40,Tryz.ntmps40;go_wp2;go_ret;exact⟨by rw[hr.out];rfl,rfl⟩
  ·have d2:decide ((l.length:Int)≤60)=false:=decide_eq_false (by omega);have d2':decide (l.length≤60)=false:=decide_eq_false h2;have hr:=Lh (show Ch.isName p s l=false by rw[HR.out,d2'];simp);go_enter Tryz.func40,Tryz.ntmps40;go_wp2;go_ret;exact⟨by rw[hr.out];rfl,rfl⟩
 ·have d1:decide ((1:Int)≤(l.length:Int))=false:=decide_eq_false (by omega);have d1':decide (1≤l.length)=false:=decide_eq_false h1;have hr:=Lh (show Ch.isName p s l=false by rw[HR.out,d1'];rfl);go_enter Tryz.func40,Tryz.ntmps40;go_wp2;go_ret;exact⟨by rw[hr.out];rfl,rfl⟩
end Go.Proofs.YtbapneipjmpcbaaGreatDoor
