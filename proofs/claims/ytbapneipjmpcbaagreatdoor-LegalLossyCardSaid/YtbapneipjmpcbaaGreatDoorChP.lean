import Derived.Test.YtbapneipjmpcbaaGreatDoorGrd
import Derived.Sort.Walk0
import Derived.Lib.SlicesCompact
set_option maxRecDepth 100000
set_option linter.unusedVariables false
set_option linter.unusedSimpArgs false
namespace Go.Proofs.YtbapneipjmpcbaaGreatDoor
namespace Ch
def letter (c:UInt8):Bool:=(decide (97≤c.toNat)&&decide (c.toNat≤122))||(decide (65≤c.toNat)&&decide (c.toNat≤90))
def digit (c:UInt8):Bool:=decide (48≤c.toNat)&&decide (c.toNat≤57)
def line (c:UInt8):Bool:=decide (32≤c.toNat)&&decide (c.toNat≤126) && !decide (c.toNat=92)
def legC (p w:Int) (c:UInt8) (b q:Bool):Bool :=
 (decide (w=0)||decide (w=1)) &&
 (if p=1 then letter c||decide (c.toNat=95)||(b&&digit c)||(decide (w=0)&&decide (c.toNat=58))
  else if p=2 then line c && !(!b&&decide (c.toNat=35)&&decide (w=0))
  else if p=3 then (if c.toNat=46 then decide (w=0)&&q else letter c||digit c||decide (c.toNat=95)||decide (c.toNat=45)||decide (c.toNat=58))
  else if p=4 then letter c||digit c||decide (c.toNat=95)||decide (c.toNat=45)||decide (c.toNat=46)
  else false)
def mid (l:List UInt8) (k:Nat):Bool:=decide (0<k)&&decide (k+1<l.length) && !decide ((l.getD (k-1) 0).toNat=46)
def leg (p w:Int) (l:List UInt8) (k:Nat):Bool:=match l[k]? with|none=>false|some c=>legC p w c (decide (0<k)) (mid l k)
def legI (p w:Int) (l:List UInt8) (i:Int):Bool:=decide (0≤i)&&leg p w l i.toNat
def badGo (p w:Int) (l:List UInt8):Nat→Nat→Int
 | 0,_ => -1
 | n+1,k=>if leg p w l k then badGo p w l n (k+1) else (k:Int)
def bad (p w:Int) (l:List UInt8):Int:=badGo p w l l.length 0
def isName (p w:Int) (l:List UInt8):Bool:=decide (1≤l.length)&&decide (l.length≤60)&&decide (bad p w l<0)
def spans:List (Nat×Nat×Nat):=[(32,34,128),(35,35,64),(36,44,128),(45,45,8),(46,46,32),(47,47,128),(48,57,2),(58,58,16),(59,64,128),(65,90,1),(91,91,128),(93,94,128),(95,95,4),(96,96,128),(97,122,1),(123,126,128)]
def clsF:List (Nat×Nat×Nat)→Nat→Nat
 | [],_=>0
 | (lo,hi,cl)::r,n=>if n≤hi then (if n<lo then 0 else cl) else clsF r n
def cls (c:UInt8):Nat:=clsF spans c.toNat
def setN (p w:Int):Nat :=
 if w=0 then (if p=1 then 23 else if p=2 then 255 else if p=3 then 63 else if p=4 then 47 else 0)
 else if w=1 then (if p=1 then 7 else if p=2 then 255 else if p=3 then 31 else if p=4 then 47 else 0)
 else 0
def plC (p w:Int) (cl:Nat) (b q:Bool):Bool :=
 if cl=2 then !decide (p=1)||b else if cl=64 then !decide (w=0)||b else if cl=32 then !decide (p=3)||q else true
def codC (p w:Int) (c:UInt8) (b q:Bool):Bool:=decide (setN p w &&& cls c≠0)&&plC p w (cls c) b q
theorem all_bytes {P:UInt8→Prop} (h : ∀n:Fin 256,P (UInt8.ofNat n.val)) (c:UInt8):P c:=by
 have:=h ⟨c.toNat,c.toNat_lt⟩;simpa using this
theorem cod_leg (p w:Int) (c:UInt8) (b q:Bool):codC p w c b q=legC p w c b q:=by
 revert b q;revert c;by_cases h0:w=0
 ·subst h0;by_cases h1:p=1
  ·subst h1;exact all_bytes (by decide +kernel)
  by_cases h2:p=2
  ·subst h2;exact all_bytes (by decide +kernel)
  by_cases h3:p=3
  ·subst h3;exact all_bytes (by decide +kernel)
  by_cases h4:p=4
  ·subst h4;exact all_bytes (by decide +kernel)
  intro c b q;simp[codC,legC,setN,h1,h2,h3,h4]
 ·by_cases h:w=1
  ·subst h;by_cases h1:p=1
   ·subst h1;exact all_bytes (by decide +kernel)
   by_cases h2:p=2
   ·subst h2;exact all_bytes (by decide +kernel)
   by_cases h3:p=3
   ·subst h3;exact all_bytes (by decide +kernel)
   by_cases h4:p=4
   ·subst h4;exact all_bytes (by decide +kernel)
   intro c b q;simp[codC,legC,setN,h1,h2,h3,h4]
  ·intro c b q;simp[codC,legC,setN,h0,h]
theorem setN_lt (p w:Int):setN p w<256:=by
 unfold setN
 repeat' split
 all_goals omega
theorem setN_off {p w:Int} (h : ¬(1≤p∧p≤4)):setN p w=0:=by
 unfold setN;have h1 : ¬p=1:=by omega
 have h2 : ¬p=2:=by omega
 have h3 : ¬p=3:=by omega
 have h4 : ¬p=4:=by omega
 simp[h1,h2,h3,h4]
theorem cls_lt (c:UInt8):cls c<256:=by
 revert c;exact all_bytes (by decide +kernel)
theorem leg_at {p w:Int} {l:List UInt8} {k:Nat} (h:k<l.length):leg p w l k=legC p w l[k] (decide (0<k)) (mid l k):=by
 unfold leg;rw[List.getElem?_eq_getElem h]
theorem leg_out {p w:Int} {l:List UInt8} {k:Nat} (h:l.length≤k):leg p w l k=false:=by
 unfold leg;rw[List.getElem?_eq_none h]
theorem legI_at {p w:Int} {l:List UInt8} (k:Nat):legI p w l (k:Int)=leg p w l k:=by
 unfold legI;simp
theorem badGo_neg (p w:Int) (l:List UInt8) : ∀n k,badGo p w l n k<0 ↔ ∀j,k≤j→j<k+n→leg p w l j=true
 | 0,k=>by simp only[badGo];exact⟨fun _ j h1 h2=>absurd h2 (by omega),fun _=>by omega⟩
 | n+1,k=>by
   simp only[badGo];split
   ·rename_i h;rw[badGo_neg p w l n (k+1)];constructor
    ·intro H j h1 h2;by_cases e:j=k
     ·subst e;exact h
     ·exact H j (by omega) (by omega)
    ·intro H j h1 h2;exact H j (by omega) (by omega)
   ·rename_i h;constructor
    ·intro h3;omega
    ·intro H;exact absurd (H k (Nat.le_refl _) (by omega)) h
theorem bad_neg {p w:Int} {l:List UInt8}:bad p w l<0 ↔ ∀j,j<l.length→leg p w l j=true:=by
 unfold bad;rw[badGo_neg];exact⟨fun H j h=>H j (Nat.zero_le _) (by omega),fun H j _ h=>H j (by omega)⟩
theorem legC_off {p w:Int} {c:UInt8} {b q:Bool} (h : ¬(1≤p∧p≤4∧(w=0∨w=1))):legC p w c b q=false:=by
 unfold legC;by_cases hw:w=0∨w=1
 ·rw[if_neg (by omega),if_neg (by omega),if_neg (by omega),if_neg (by omega),Bool.and_false]
 ·have h0:decide (w=0)=false:=decide_eq_false (fun e=>hw (Or.inl e));have h1:decide (w=1)=false:=decide_eq_false (fun e=>hw (Or.inr e));rw[h0,h1];rfl
theorem bad_off {p w:Int} {l:List UInt8} (h : ¬(1≤p∧p≤4∧(w=0∨w=1))) (hl:0<l.length) : ¬bad p w l<0:=by
 intro hb;have:=bad_neg.1 hb 0 hl;rw[leg_at hl,legC_off h] at this
 cases this
theorem isName_ref (p w:Int) (l:List UInt8) :
 isName p w l=(decide (1≤l.length)&&decide (l.length≤60)&&decide (1≤p)&&decide (p≤4)&&(decide (w=0)||decide (w=1))&&decide (bad p w l<0)):=by
 unfold isName;by_cases h:1≤p∧p≤4∧(w=0∨w=1)
 ·obtain⟨h1,h2,h3⟩:=h;have e:(decide (w=0)||decide (w=1))=true:=by rw[Bool.or_eq_true];exact h3.imp decide_eq_true decide_eq_true
  rw[decide_eq_true h1,decide_eq_true h2,e];simp
 ·by_cases hl:1≤l.length
  ·rw[decide_eq_false (bad_off h hl)];simp
  ·rw[decide_eq_false hl];simp
theorem legC_mono {p w:Int} {c:UInt8} {b q b' q':Bool} (hb:b=true→b'=true) (hq:q=true→q'=true) (h:legC p w c b q=true):legC p w c b' q'=true:=by
 by_cases ho:1≤p∧p≤4∧(w=0∨w=1)
 ·obtain⟨h1,h2,h3⟩:=ho;revert h hq hb;revert b q b' q';revert c;have hp:p=1∨p=2∨p=3∨p=4:=by omega
  rcases h3 with rfl|rfl <;> rcases hp with rfl|rfl|rfl|rfl <;> exact all_bytes (by decide +kernel)
 ·rw[legC_off ho] at h;cases h
end Ch
namespace Ch
def midP (prev:Option UInt8) (r:List UInt8):Bool:=match prev with|none=>false|some d => !r.isEmpty && !decide (d.toNat=46)
theorem leg_split (p w:Int) (a:List UInt8) (c:UInt8) (r:List UInt8):leg p w (a++c::r) a.length=legC p w c a.getLast?.isSome (midP a.getLast? r):=by
 have hk:a.length<(a++c::r).length:=by simp
 rw[leg_at hk];have e1:(a++c::r)[a.length]'hk=c:=by simp
 rw[e1];congr 1
 ·rcases List.eq_nil_or_concat a with rfl|⟨a,d,rfl⟩
  ·rfl
  ·simp
 ·unfold mid midP;rcases List.eq_nil_or_concat a with rfl|⟨a,d,rfl⟩
  ·rfl
  ·rw[List.concat_eq_append];have h1:((a++[d])++c::r).getD ((a++[d]).length-1) 0=d:=by
    rw[List.getD_eq_getElem?_getD,List.append_assoc,List.getElem?_append_right (by simp)];simp
   rw[h1];simp only[List.getLast?_append,List.getLast?_singleton,Option.some_or]
   cases r
   ·simp
   ·simp;omega
def hexD (n:Nat):UInt8:=if n<10 then UInt8.ofNat (48+n) else UInt8.ofNat (87+n)
def code (c:UInt8):List UInt8:=[95,120,hexD (c.toNat/16),hexD (c.toNat%16)]
def isUx (c:UInt8) (r:List UInt8):Bool:=decide (c=95)&&decide (r.head? = some 120)
def escL (p w:Int):Option UInt8→List UInt8→List UInt8
 | _,[]=>[]
 | prev,c::r=>(if legC p w c prev.isSome (midP prev r) && !isUx c r then [c] else code c)++escL p w (some c) r
def esc (p w:Int) (l:List UInt8):List UInt8:=escL p w none l
def unhex (c:UInt8):Option Nat :=
 if 48≤c.toNat∧c.toNat≤57 then some (c.toNat-48) else if 97≤c.toNat∧c.toNat≤102 then some (c.toNat-87) else none
def undo:List UInt8→Option (List UInt8)
 | []=>some []
 | [c]=>some [c]
 | [c,d]=>if c=95∧d=120 then none else (undo [d]).map (c :: ·)
 | [c,d,e]=>if c=95∧d=120 then none else (undo [d,e]).map (c :: ·)
 | c::d::e::f::r =>
   if c=95∧d=120 then
    match unhex e,unhex f with
    | some x,some y=>(undo r).map (UInt8.ofNat (16*x+y) :: ·)
    | _,_=>none
   else (undo (d::e::f::r)).map (c :: ·)
def back (p w:Int) (s:List UInt8):List UInt8:=match undo s with|some t=>if esc p w t=s then t else s|none=>s
theorem unhex_hexD : ∀n:Fin 16,unhex (hexD n.val)=some n.val:=by decide +kernel
theorem code_back (c:UInt8):unhex (hexD (c.toNat/16))=some (c.toNat/16)∧unhex (hexD (c.toNat%16))=some (c.toNat%16)∧UInt8.ofNat (16*(c.toNat/16)+c.toNat%16)=c:=by
 refine⟨unhex_hexD ⟨c.toNat/16,by have:=c.toNat_lt;omega⟩,unhex_hexD ⟨c.toNat%16,by omega⟩,?_⟩;rw[show 16*(c.toNat/16)+c.toNat%16=c.toNat by omega];simp
theorem undo_code (c:UInt8) (r:List UInt8):undo (code c++r)=(undo r).map (c :: ·):=by
 obtain⟨h1,h2,h3⟩:=code_back c;show undo (95::120::hexD (c.toNat/16)::hexD (c.toNat%16)::r)=_
 conv=>lhs;rw[undo]
 rw[if_pos ⟨rfl,rfl⟩,h1,h2];simp only[h3]
theorem undo_keep (c:UInt8) (r:List UInt8) (h:isUx c r=false):undo (c::r)=(undo r).map (c :: ·):=by
 have hn : ∀d,r.head? = some d → ¬(c=95∧d=120):=by
  intro d hd ⟨h1,h2⟩;subst h2;unfold isUx at h;rw[h1,hd] at h;simp at h
 match r,hn with
 | [],_=>rfl
 | [d],hn=>conv=>lhs;rw[undo,if_neg (hn d rfl)]
 | [d,e],hn=>conv=>lhs;rw[undo,if_neg (hn d rfl)]
 | d::e::f::r,hn=>conv=>lhs;rw[undo,if_neg (hn d rfl)]
theorem escL_head (p w:Int) (prev:Option UInt8) (l:List UInt8):(escL p w prev l).head? = none∧l=[]∨(∃c r,l=c::r∧((escL p w prev l).head? = some c∨(escL p w prev l).head? = some 95)):=by
 cases l with
 | nil=>exact Or.inl ⟨rfl,rfl⟩
 | cons c r =>
   refine Or.inr ⟨c,r,rfl,?_⟩;unfold escL;split
   ·exact Or.inl rfl
   ·exact Or.inr rfl
theorem undo_escL (p w:Int) : ∀(l:List UInt8) (prev:Option UInt8),undo (escL p w prev l)=some l
 | [],_=>rfl
 | c::r,prev=>by
   have ih:=undo_escL p w r (some c);unfold escL;split
   ·rename_i hk;rw[Bool.and_eq_true] at hk;have hx:isUx c r=false:=by simpa using hk.2
    have:isUx c (escL p w (some c) r)=false:=by
     rcases escL_head p w (some c) r with ⟨h,_⟩|⟨d,r',rfl,h|h⟩
     ·unfold isUx;rw[h];simp
     ·unfold isUx at hx ⊢;rw[h];exact hx
     ·unfold isUx;rw[h];simp
    rw[List.singleton_append,undo_keep c _ this,ih];rfl
   ·rw[undo_code,ih];rfl
theorem undo_esc (p w:Int) (l:List UInt8):undo (esc p w l)=some l:=undo_escL p w l none
theorem back_esc (p w:Int) (l:List UInt8):back p w (esc p w l)=l:=by
 unfold back;rw[undo_esc];simp
theorem esc_inj {p w:Int} {a b:List UInt8} (h:esc p w a=esc p w b):a=b:=by
 have:=undo_esc p w a;rw[h,undo_esc] at this;exact(Option.some.inj this).symm
def escN (p w:Int):Option UInt8→List UInt8→Nat
 | _,[]=>0
 | prev,c::r=>(if legC p w c prev.isSome (midP prev r) && !isUx c r then 0 else 1)+escN p w (some c) r
theorem escL_len (p w:Int) : ∀(l:List UInt8) (prev:Option UInt8),(escL p w prev l).length=l.length+3*escN p w prev l
 | [],_=>rfl
 | c::r,prev=>by
   unfold escL escN;rw[List.length_append,escL_len p w r (some c)];split
   ·simp;omega
   ·simp[code];omega
def legP (p w:Int):Option UInt8→List UInt8→Bool
 | _,[]=>true
 | prev,c::r=>legC p w c prev.isSome (midP prev r)&&legP p w (some c) r
theorem legP_iff (p w:Int) : ∀(r a:List UInt8),legP p w a.getLast? r=true ↔ ∀j,a.length≤j→j<(a++r).length→leg p w (a++r) j=true
 | [],a=>by
   simp only[legP,List.append_nil];exact⟨fun _ j h1 h2=>absurd h2 (by omega),fun _=>trivial⟩
 | c::r,a=>by
   have ih:=legP_iff p w r (a++[c]);rw[List.getLast?_append,List.getLast?_singleton,Option.some_or,List.append_assoc,List.singleton_append] at ih;unfold legP;rw[Bool.and_eq_true,ih,←leg_split];constructor
   ·rintro ⟨h1,h2⟩ j hj hl;by_cases e:j=a.length
    ·rw[e];exact h1
    ·exact h2 j (by simp;omega) hl
   ·intro h;exact⟨h a.length (Nat.le_refl _) (by simp),fun j h1 h2=>h j (by simp at h1;omega) h2⟩
theorem bad_legP (p w:Int) (l:List UInt8):bad p w l<0↔legP p w none l=true:=by
 rw[bad_neg,show(none:Option UInt8)=([]:List UInt8).getLast? from rfl,legP_iff];exact⟨fun h j _ hl=>h j hl,fun h j hl=>h j (Nat.zero_le _) hl⟩
theorem signs {p w:Int} (h:1≤p∧p≤4∧(w=0∨w=1)):(∀b q,legC p w 95 b q=true)∧(∀b q,legC p w 120 b q=true) ∧ ∀n:Fin 16,∀q,legC p w (hexD n.val) true q=true:=by
 obtain⟨h1,h2,h3⟩:=h;have hp:p=1∨p=2∨p=3∨p=4:=by omega
 rcases h3 with rfl|rfl <;> rcases hp with rfl|rfl|rfl|rfl <;> exact⟨by decide +kernel,by decide +kernel,by decide +kernel⟩
theorem hexD_dot : ∀n:Fin 16,¬(hexD n.val).toNat=46:=by decide +kernel
theorem escL_legal {p w:Int} (h:1≤p∧p≤4∧(w=0∨w=1)) : ∀(l:List UInt8) (pl pr:Option UInt8),(pl.isSome=true→pr.isSome=true)→(∀d,pl=some d → ¬d.toNat=46 → ∀e,pr=some e → ¬e.toNat=46) →
 legP p w pr (escL p w pl l)=true
 | [],_,_,_,_=>rfl
 | c::r,pl,pr,h1,h2=>by
   obtain⟨s1,s2,s3⟩:=signs h;unfold escL;split
   ·rename_i hk;rw[Bool.and_eq_true] at hk;rw[List.singleton_append];unfold legP;rw[Bool.and_eq_true];refine⟨legC_mono h1 ?_ hk.1,escL_legal h r (some c) (some c) (fun _=>rfl) fun d hd hn e he=>by cases hd;cases he;exact hn⟩;intro hm
    cases pl with
    | none=>cases hm
    | some d =>
      unfold midP at hm;simp only[Bool.and_eq_true] at hm;obtain⟨e,rfl⟩ : ∃e,pr=some e:=Option.isSome_iff_exists.1 (h1 rfl);have hd : ¬d.toNat=46:=by simpa using hm.2
      have he:=h2 d rfl hd e rfl;unfold midP;simp only[Bool.and_eq_true];refine⟨?_,by simpa using he⟩
      cases r with
      | nil=>simp at hm
      | cons c2 r2 =>
        unfold escL;split <;> simp[code]
   ·show legP p w pr (95::120::hexD (c.toNat/16)::hexD (c.toNat%16)::escL p w (some c) r)=true;have hc:=c.toNat_lt;unfold legP legP legP legP;rw[s1,s2];simp only[Option.isSome_some,Bool.true_and];rw[s3 ⟨c.toNat/16,by omega⟩,s3 ⟨c.toNat%16,by omega⟩,Bool.true_and,Bool.true_and];exact escL_legal h r (some c) _ (fun _=>rfl) fun d hd hn e he=>by cases he;exact hexD_dot ⟨c.toNat%16,by omega⟩
theorem esc_legal {p w:Int} (h:1≤p∧p≤4∧(w=0∨w=1)) (l:List UInt8):bad p w (esc p w l)<0:=by
 rw[bad_legP];exact escL_legal h l none none (fun e=>e) fun d hd=>by cases hd
end Ch
namespace Ch
def lossL (p w:Int):Option UInt8→List UInt8→List UInt8
 | _,[]=>[]
 | prev,c::r=>(if legC p w c prev.isSome (midP prev r) then c else 95)::lossL p w (some c) r
def loss (p w:Int) (l:List UInt8):List UInt8:=lossL p w none l
theorem lossL_len (p w:Int) : ∀(l:List UInt8) (prev:Option UInt8),(lossL p w prev l).length=l.length
 | [],_=>rfl
 | c::r,prev=>by unfold lossL;rw[List.length_cons,List.length_cons,lossL_len p w r (some c)]
theorem loss_len (p w:Int) (l:List UInt8):(loss p w l).length=l.length:=lossL_len p w l none
theorem lossL_legal {p w:Int} (h:1≤p∧p≤4∧(w=0∨w=1)) : ∀(l:List UInt8) (pl pr:Option UInt8),pl.isSome=pr.isSome→(∀d,pl=some d → ¬d.toNat=46 → ∀e,pr=some e → ¬e.toNat=46) →
 legP p w pr (lossL p w pl l)=true
 | [],_,_,_,_=>rfl
 | c::r,pl,pr,h1,h2=>by
   obtain⟨s1,_,_⟩:=signs h;unfold lossL legP;rw[Bool.and_eq_true];split
   ·rename_i hk;refine⟨legC_mono (fun e=>by rw[←h1];exact e) ?_ hk,lossL_legal h r (some c) (some c) rfl fun d hd hn e he=>by cases hd;cases he;exact hn⟩;intro hm
    cases pl with
    | none=>cases hm
    | some d =>
      unfold midP at hm;simp only[Bool.and_eq_true] at hm;obtain⟨e,rfl⟩ : ∃e,pr=some e:=Option.isSome_iff_exists.1 (by rw[←h1];rfl);have hd : ¬d.toNat=46:=by simpa using hm.2
      have he:=h2 d rfl hd e rfl;unfold midP;simp only[Bool.and_eq_true];refine⟨?_,by simpa using he⟩
      cases r with
      | nil=>simp at hm
      | cons c2 r2=>simp [lossL]
   ·exact⟨s1 _ _,lossL_legal h r (some c) (some 95) rfl fun d hd hn e he=>by cases he;decide⟩
theorem loss_legal {p w:Int} (h:1≤p∧p≤4∧(w=0∨w=1)) (l:List UInt8):bad p w (loss p w l)<0:=by
 rw[bad_legP];exact lossL_legal h l none none rfl fun d hd=>by cases hd
end Ch
namespace Co
abbrev Bs:=List UInt8
theorem lt_irrefl (a:Bs) : ¬a<a:=List.lt_irrefl a
theorem lt_trans {a b c:Bs} (h:a<b) (k:b<c):a<c:=List.lt_trans h k
theorem lt_asymm {a b:Bs} (h:a<b) : ¬b<a:=fun k=>lt_irrefl a (lt_trans h k)
theorem lt_tri (a b:Bs):a<b∨a=b∨b<a:=by
 by_cases h:a<b
 ·exact Or.inl h
 ·by_cases k:b<a
  ·exact Or.inr (Or.inr k)
  ·exact Or.inr (Or.inl (List.le_antisymm (List.not_lt.1 k) (List.not_lt.1 h)))
def ahead (c d:Bs×Bs):Prop:=c.1<d.1∨(c.1=d.1∧c.2<d.2)
instance (c d:Bs×Bs):Decidable (ahead c d):=by unfold ahead;infer_instance
theorem ahead_irrefl (c:Bs×Bs) : ¬ahead c c:=fun h=>by
 rcases h with h|h
 ·exact lt_irrefl _ h
 ·exact lt_irrefl _ h.2
theorem ahead_trans {a b c:Bs×Bs} (h:ahead a b) (k:ahead b c):ahead a c:=by
 rcases h with h|⟨e,h⟩
 ·rcases k with k|⟨f,k⟩
  ·exact Or.inl (lt_trans h k)
  ·exact Or.inl (by rw[←f];exact h)
 ·rcases k with k|⟨f,k⟩
  ·exact Or.inl (by rw[e];exact k)
  ·exact Or.inr ⟨e.trans f,lt_trans h k⟩
theorem ahead_tri (a b:Bs×Bs):ahead a b∨a=b∨ahead b a:=by
 rcases lt_tri a.1 b.1 with h|h|h
 ·exact Or.inl (Or.inl h)
 ·rcases lt_tri a.2 b.2 with k|k|k
  ·exact Or.inl (Or.inr ⟨h,k⟩)
  ·exact Or.inr (Or.inl (Prod.ext h k))
  ·exact Or.inr (Or.inr (Or.inr ⟨h.symm,k⟩))
 ·exact Or.inr (Or.inr (Or.inl h))
def clash (f:Bs→Bs) (c:Bs×Bs):Prop:=c.1<c.2∧f c.1=f c.2
instance (f:Bs→Bs) (c:Bs×Bs):Decidable (clash f c):=by unfold clash;infer_instance
def ClashOf (f:Bs→Bs) (S:Bs×Bs→Prop):Option (Bs×Bs)→Prop
 | none => ∀c,S c → ¬clash f c
 | some d=>S d∧clash f d ∧ ∀c,S c→clash f c → ¬ahead c d
theorem clash_one {f:Bs→Bs} {S T:Bs×Bs→Prop} (hST : ∀c,S c↔T c) : ∀ {o o':Option (Bs×Bs)},ClashOf f S o→ClashOf f T o'→o=o'
 | none,none,_,_=>rfl
 | none,some d,h,k=>absurd k.2.1 (h d ((hST d).2 k.1))
 | some d,none,h,k=>absurd h.2.1 (k d ((hST d).1 h.1))
 | some d,some e,h,k=>by
   rcases ahead_tri d e with q|q|q
   ·exact absurd q (k.2.2 d ((hST d).1 h.1) h.2.1)
   ·rw[q]
   ·exact absurd q (h.2.2 e ((hST e).2 k.1) k.2.1)
def firstO:Option (Bs×Bs)→Bs×Bs→Bool
 | none,_=>true
 | some d,c=>decide (ahead c d)
def step (f:Bs→Bs) (o:Option (Bs×Bs)) (c:Bs×Bs):Option (Bs×Bs):=if clash f c∧firstO o c=true then some c else o
theorem step_of {f:Bs→Bs} {S:Bs×Bs→Prop} {o:Option (Bs×Bs)} (h:ClashOf f S o) (c:Bs×Bs):ClashOf f (fun x=>S x∨x=c) (step f o c):=by
 unfold step
 cases o with
 | none =>
   split
   ·rename_i hc;exact⟨Or.inr rfl,hc.1,fun x hx hcx=>by
     rcases hx with hx|rfl
     ·exact absurd hcx (h x hx)
     ·exact ahead_irrefl _⟩
   ·rename_i hc;intro x hx;rcases hx with hx|rfl
    ·exact h x hx
    ·exact fun k=>hc ⟨k,rfl⟩
 | some d =>
   split
   ·rename_i hc;exact⟨Or.inr rfl,hc.1,fun x hx hcx=>by
     rcases hx with hx|rfl
     ·exact fun k=>h.2.2 x hx hcx (ahead_trans k (of_decide_eq_true hc.2))
     ·exact ahead_irrefl _⟩
   ·rename_i hc;exact⟨Or.inl h.1,h.2.1,fun x hx hcx=>by
     rcases hx with hx|rfl
     ·exact h.2.2 x hx hcx
     ·exact fun k=>hc ⟨hcx,decide_eq_true k⟩⟩
theorem fold_of {f:Bs→Bs} : ∀(l:List (Bs×Bs)) {S:Bs×Bs→Prop} {o:Option (Bs×Bs)},ClashOf f S o→ClashOf f (fun x=>S x∨x∈l) (l.foldl (step f) o)
 | [],S,o,h=>by
   have e:(fun x=>S x∨x∈([]:List (Bs×Bs)))=S:=by funext x;simp
   rw[e];exact h
 | c::l,S,o,h=>by
   have:=fold_of l (step_of h c);have e:(fun x=>(S x∨x=c)∨x∈l)=(fun x=>S x∨x∈c::l):=by funext x;simp[or_assoc]
   rw[e] at this;exact this
def seen (L:List Bs) (i k:Nat):List (Bs×Bs):=(L.take i).flatMap (fun a=>L.map (fun b=>(a,b)))++(L.take k).map (fun b=>(L.getD i [],b))
theorem seen_put (L:List Bs) (i k:Nat) (h:k<L.length):seen L i (k+1)=seen L i k++[(L.getD i [],L.getD k [])]:=by
 unfold seen;have e:L.getD k []=L[k]:=by rw[List.getD_eq_getElem?_getD,List.getElem?_eq_getElem h];rfl
 rw[List.take_succ_eq_append_getElem h,List.map_append,←List.append_assoc,e];rfl
theorem seen_next (L:List Bs) (i:Nat) (h:i<L.length):seen L (i+1) 0=seen L i L.length:=by
 unfold seen;have e:L.getD i []=L[i]:=by rw[List.getD_eq_getElem?_getD,List.getElem?_eq_getElem h];rfl
 rw[List.take_succ_eq_append_getElem h,List.flatMap_append,List.take_zero,List.take_length,e];simp
def collTo (f:Bs→Bs) (L:List Bs) (i k:Nat):Option (Bs×Bs):=(seen L i k).foldl (step f) none
theorem collTo_put (f:Bs→Bs) (L:List Bs) (i k:Nat) (h:k<L.length):collTo f L i (k+1)=step f (collTo f L i k) (L.getD i [],L.getD k []):=by
 unfold collTo;rw[seen_put L i k h,List.foldl_append];rfl
theorem collTo_next (f:Bs→Bs) (L:List Bs) (i:Nat) (h:i<L.length):collTo f L (i+1) 0=collTo f L i L.length:=by
 unfold collTo;rw[seen_next L i h]
def collO (f:Bs→Bs) (L:List Bs):Option (Bs×Bs):=collTo f L L.length 0
theorem collO_of (f:Bs→Bs) (L:List Bs):ClashOf f (fun c=>c.1∈L∧c.2∈L) (collO f L):=by
 have h:ClashOf f (fun _=>False) none:=fun c hc=>hc.elim;have:=fold_of (seen L L.length 0) h;have e:(fun x=>False∨x∈seen L L.length 0)=(fun c=>c.1∈L∧c.2∈L):=by
  funext x;obtain⟨a,b⟩:=x;unfold seen;simp
 rw[e] at this;exact this
theorem collO_same (f:Bs→Bs) {L M:List Bs} (h : ∀x,x∈L↔x∈M):collO f L=collO f M :=
 clash_one (fun c=>by rw[h,h]) (collO_of f L) (collO_of f M)
def back (f:Bs→Bs):List Bs→Option (Bs×Bs)
 | []=>none
 | s::r=>match r.find? (fun t=>decide (f t=f s)) with|some t=>some (s,t)|none=>back f r
theorem back_of (f:Bs→Bs) : ∀(S:List Bs),S.Pairwise (· < ·)→ClashOf f (fun c=>c.1∈S∧c.2∈S) (back f S)
 | [],_=>fun c hc=>by simp at hc
 | s::r,hp=>by
   obtain⟨h1,h2⟩:=List.pairwise_cons.1 hp;have ih:=back_of f r h2;unfold back
   cases hf:r.find? (fun t=>decide (f t=f s)) with
   | some t =>
     have ht:=List.mem_of_find?_eq_some hf;have he:f t=f s:=by simpa using List.find?_some hf
     obtain⟨a,b,hab,hnot⟩:=(List.find?_eq_some_iff_append.1 hf).2;refine⟨⟨List.mem_cons_self,List.mem_cons_of_mem _ ht⟩,⟨h1 t ht,he.symm⟩,fun c hc hcl hah => ?_⟩;obtain⟨x,y⟩:=c;rcases hah with hah|⟨hx,hy⟩
     ·rcases List.mem_cons.1 hc.1 with rfl|hx
      ·exact lt_irrefl _ hah
      ·exact lt_asymm hah (h1 x hx)
     ·obtain rfl:x=s:=hx;have hyr:y∈r:=by
       rcases List.mem_cons.1 hc.2 with e|h
       ·exact absurd hcl.1 (by rw[show y=x from e];exact lt_irrefl x)
       ·exact h
      rw[hab] at hyr h2;rcases List.mem_append.1 hyr with hy1|hy1
      ·have:=hnot y hy1;simp[hcl.2] at this
      ·rcases List.mem_cons.1 hy1 with rfl|hy2
       ·exact lt_irrefl _ hy
       ·exact lt_asymm hy ((List.pairwise_cons.1 (List.pairwise_append.1 h2).2.1).1 y hy2)
   | none =>
     have hn : ∀t∈r,f t≠f s:=fun t ht=>by simpa using List.find?_eq_none.1 hf t ht
     have hno : ∀c:Bs×Bs,c.1∈s::r∧c.2∈s::r→clash f c→c.1∈r∧c.2∈r:=fun c hc hcl=>by
      obtain⟨x,y⟩:=c;rcases List.mem_cons.1 hc.1 with e|hx
      ·obtain rfl:x=s:=e;rcases List.mem_cons.1 hc.2 with e|hy
       ·exact absurd hcl.1 (by rw[show y=x from e];exact lt_irrefl x)
       ·exact absurd hcl.2.symm (hn y hy)
      ·rcases List.mem_cons.1 hc.2 with e|hy
       ·obtain rfl:y=s:=e;exact absurd (h1 x hx) (lt_asymm hcl.1)
       ·exact⟨hx,hy⟩
     show ClashOf f (fun c=>c.1∈s::r∧c.2∈s::r) (back f r)
     cases hb:back f r with
     | none=>rw [hb] at ih;exact fun c hc hcl=>ih c (hno c hc hcl) hcl
     | some d =>
       rw[hb] at ih;exact⟨⟨List.mem_cons_of_mem _ ih.1.1,List.mem_cons_of_mem _ ih.1.2⟩,ih.2.1,fun c hc hcl=>ih.2.2 c (hno c hc hcl) hcl⟩
theorem up_rises (d:Array Bs) (hs : ∀i j,i<j→j<d.size → ¬d[j]!<d[i]!) : ∀m,m≤d.size →
 (Lib.compactUpTo d m).Pairwise (· < ·)∧(∀x,x∈Lib.compactUpTo d m ↔ ∃j,j<m∧x=d[j]!)∧(0<m→d[m-1]! ∈ Lib.compactUpTo d m)
 | 0,_=>⟨List.Pairwise.nil,fun x=>⟨fun h=>by simp[Lib.compactUpTo] at h,fun⟨j,h,_⟩=>absurd h (by omega)⟩,fun h=>absurd h (by omega)⟩
 | m+1,hm=>by
   obtain⟨h1,h2,h3⟩:=up_rises d hs m (by omega);rw[Lib.compactUpTo_succ]
   cases hk:Lib.keeps d m with
   | true =>
     simp only[if_pos];have hkk:m=0∨d[m]! ≠ d[m-1]!:=by simpa[Lib.keeps] using hk
     have hall : ∀x∈Lib.compactUpTo d m,x<d[m]!:=fun x hx=>by
      obtain⟨j,hj,rfl⟩:=(h2 x).1 hx;have hne:d[m]! ≠ d[m-1]!:=by
       rcases hkk with e|e
       ·omega
       ·exact e
      have hl:d[m-1]!<d[m]!:=by
       rcases lt_tri d[m-1]! d[m]! with q|q|q
       ·exact q
       ·exact absurd q.symm hne
       ·exact absurd q (hs (m-1) m (by omega) (by omega))
      by_cases e:j=m-1
      ·rw[e];exact hl
      ·rcases lt_tri d[j]! d[m-1]! with q|q|q
       ·exact lt_trans q hl
       ·rw[q];exact hl
       ·exact absurd q (hs j (m-1) (by omega) (by omega))
     refine⟨List.pairwise_append.2 ⟨h1,List.pairwise_singleton _ _,fun a ha b hb=>by rw[List.mem_singleton.1 hb];exact hall a ha⟩,fun x => ?_,fun _=>by simp⟩;rw[List.mem_append,h2,List.mem_singleton];constructor
     ·rintro (⟨j,hj,rfl⟩|rfl)
      ·exact⟨j,by omega,rfl⟩
      ·exact⟨m,by omega,rfl⟩
     ·rintro ⟨j,hj,rfl⟩;by_cases e:j=m
      ·exact Or.inr (by rw[e])
      ·exact Or.inl ⟨j,by omega,rfl⟩
   | false =>
     have hkk:m≠0∧d[m]! = d[m-1]!:=by simpa[Lib.keeps] using hk
     have e0:Lib.compactUpTo d m++(if false=true then [d[m]!] else [])=Lib.compactUpTo d m:=by simp
     rw[e0];refine⟨h1,fun x => ?_,fun _=>by rw[show m+1-1=m from rfl,hkk.2];exact h3 (by omega)⟩;rw[h2];constructor
     ·rintro ⟨j,hj,rfl⟩;exact⟨j,by omega,rfl⟩
     ·rintro ⟨j,hj,rfl⟩;by_cases e:j=m
      ·exact⟨m-1,by omega,by rw[e,hkk.2]⟩
      ·exact⟨j,by omega,rfl⟩
theorem sort_rises (L:List Bs) : ∀i j,i<j→j<(L.mergeSort fun x y=>decide (x≤y)).toArray.size → ¬(L.mergeSort fun x y=>decide (x≤y)).toArray[j]!<(L.mergeSort fun x y=>decide (x≤y)).toArray[i]!:=by
 have hp:=List.pairwise_mergeSort (le:=fun x y:Bs=>decide (x≤y)) (fun a b c h k=>by simp only[decide_eq_true_eq] at *;exact List.le_trans h k) (fun a b=>by simp only[Bool.or_eq_true,decide_eq_true_eq];exact List.le_total a b) L;intro i j hij hj;have hj':j<(L.mergeSort fun x y=>decide (x≤y)).length:=by simpa using hj
 have:=List.pairwise_iff_getElem.1 hp i j (by omega) hj' hij;rw[getElem!_pos _ j (by simpa using hj'),getElem!_pos _ i (by simp;simp at hj';omega)];simp only[decide_eq_true_eq] at this;simpa using this
def once (L:List Bs):List Bs:=Lib.compactUpTo (L.mergeSort fun x y=>decide (x≤y)).toArray L.length
theorem once_rises (L:List Bs):(once L).Pairwise (· < ·):=(up_rises _ (sort_rises L) L.length (by simp)).1
theorem once_mem (L:List Bs) (x:Bs):x∈once L↔x∈L:=by
 unfold once;rw[(up_rises _ (sort_rises L) L.length (by simp)).2.1 x,←(List.mergeSort_perm L (fun x y=>decide (x≤y))).mem_iff,List.mem_iff_getElem];constructor
 ·rintro ⟨j,hj,rfl⟩;exact⟨j,by simpa using hj,by rw[getElem!_pos _ j (by simpa using hj)];simp⟩
 ·rintro ⟨j,hj,rfl⟩;have hj':j<L.length:=by simpa using hj
  exact⟨j,hj',by rw[getElem!_pos _ j (by simpa using hj')];simp⟩
theorem back_once (f:Bs→Bs) (L:List Bs):back f (once L)=collO f L :=
 clash_one (fun c=>by rw[once_mem,once_mem]) (back_of f _ (once_rises L)) (collO_of f L)
end Co
end Go.Proofs.YtbapneipjmpcbaaGreatDoor
