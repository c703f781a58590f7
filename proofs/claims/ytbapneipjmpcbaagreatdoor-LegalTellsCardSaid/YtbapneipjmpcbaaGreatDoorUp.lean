import Derived.Calls
import Derived.Below
import Derived.Deep.Draws
import Derived.Sort.Grow
set_option maxRecDepth 100000
set_option linter.unusedVariables false
set_option linter.unusedSimpArgs false
namespace Go.Proofs.YtbapneipjmpcbaaGreatDoor.Up
open Go Go.Sort
def Result.up {α:Type} (w:World):Result α→Prop
 | .ok _ w'=>w.drawn≤w'.drawn
 | .halt _ w'=>w.drawn≤w'.drawn
theorem ask_up {α:Type} (a:Ask α) : ∀w:World,w.drawn≤(w.ask a).2.drawn:=by
 induction a with
 | done a=>intro w;exact Nat.le_refl _
 | ask what range k ih =>
   intro w;unfold World.ask;simp only;split
   ·exact ih _ w
   ·exact Nat.le_trans (Nat.le_succ w.drawn) (ih _ {w with drawn:=w.drawn+1})
theorem sys_up (w:World) (c:Sys):w.drawn≤(w.sys c).2.drawn:=by
 unfold World.sys;have h:=ask_up (Kernel.perform c w.os) w;split
 ·exact Nat.le_refl _
 ·rename_i r os w' hne he;rw[he] at h;exact h
theorem view_up {p:Program} {w:World} {at_:Addr} {u:TypeId} {a:Addr} {v:Value} {b:Bool} {r:World×List Addr} (h:w.viewStore p at_ u a v b = .ok r):w.drawn≤r.1.drawn:=by
 unfold World.viewStore at h;simp only[bind,Except.bind,pure,Except.pure,throw,throwThe,MonadExceptOf.throw] at h
 repeat' split at h
 all_goals first|(cases h;done)|(cases h;exact Nat.le_refl _)
theorem far_up {p:Program} {w:World} {a:Addr} {v:Value} {b:Bool} {r:World×List Addr} (h:w.farStore p a v b = .ok r):w.drawn≤r.1.drawn:=by
 unfold World.farStore at h;split at h
 ·split at h
  ·cases h;exact view_up ‹_›
  ·cases h
 ·cases h
theorem up_of {α:Type} {w w1:World} {r:Result α} (h:w.drawn≤w1.drawn) (k:Result.up w1 r):Result.up w r:=by
 cases r <;> exact Nat.le_trans h k
theorem freeze_up (w:World) (a:Addr) (n:Nat):w.drawn≤(w.freeze a n).drawn:=by
 unfold World.freeze
 first|exact Nat.le_refl _|(split <;> exact Nat.le_refl _)
theorem run_up {α:Type} (p:Program) (s:Sem α) (w:World):Result.up w (s.run p w):=by
 fun_induction Sem.run p s w
 all_goals first
  | assumption
  | exact Nat.le_refl _
  | exact up_of (far_up ‹_›) ‹_›
  | exact up_of (sys_up _ _) ‹_›
  | exact up_of (Nat.le_refl _) ‹_›
  | exact up_of (freeze_up _ _ _) ‹_›
  | exact up_of (Nat.le_succ _) ‹_›
theorem runT_up {α:Type} (p:Program) (s:Sem α) (w:World) (es:Array Event):Result.up w (s.runT p w es).1:=by
 fun_induction Sem.runT p s w es
 all_goals first
  | assumption
  | exact Nat.le_refl _
  | exact up_of (far_up ‹_›) ‹_›
  | exact up_of (sys_up _ _) ‹_›
  | exact up_of (Nat.le_refl _) ‹_›
  | exact up_of (freeze_up _ _ _) ‹_›
  | exact up_of (Nat.le_succ _) ‹_›
def gw:GStep→World
 | .go _ w _=>w
 | .comm _ _ _ _ w _=>w
 | .spawn _ _ w _=>w
 | .count _ w _=>w
 | .timer _ _ w _=>w
 | .alone _ _ w _=>w
 | .newcoro _ _ _ w _=>w
 | .coroswitch _ _ _ w _=>w
 | .collect _ w _=>w
 | .watch _ w _=>w
 | .ended _ w _=>w
def GUp (w:World) (s:GStep):Prop:=w.drawn≤(gw s).drawn
theorem gup_after {w:World} {s:GStep} (es:Array Event) (h:GUp w s):GUp w (GStep.after es s):=by
 cases s <;> exact h
theorem gup_of {w w1:World} {s:GStep} (h:w.drawn≤w1.drawn) (k:GUp w1 s):GUp w s:=Nat.le_trans h k
theorem up_ok {α:Type} {w w1:World} {r:Result α} {a:α} (h:Result.up w r) (e:r = .ok a w1):w.drawn≤w1.drawn:=by rw[e] at h;exact h
theorem up_halt {α:Type} {w w1:World} {r:Result α} {a:Halt} (h:Result.up w r) (e:r = .halt a w1):w.drawn≤w1.drawn:=by rw[e] at h;exact h
theorem upT_ok {α:Type} {p:Program} {s:Sem α} {w w1:World} {es es':Array Event} {a:α} (e:s.runT p w es=(.ok a w1,es')):w.drawn≤w1.drawn:=by
 have h:=runT_up p s w es;rw[e] at h;exact h
theorem upT_halt {α:Type} {p:Program} {s:Sem α} {w w1:World} {es es':Array Event} {a:Halt} (e:s.runT p w es=(.halt a w1,es')):w.drawn≤w1.drawn:=by
 have h:=runT_up p s w es;rw[e] at h;exact h
theorem gup_ite {c:Prop} [Decidable c] {w:World} {a b:GStep} (ha:GUp w a) (hb:GUp w b):GUp w (if c then a else b):=by
 split
 ·exact ha
 ·exact hb
theorem endWith_up (w:World) (fd:Nat) (t:ByteArray) (o:Outcome):GUp w (endWith w fd t o):=by
 have h:=sys_up w (.write fd t);unfold endWith
 extract_lets cannot
 have hc : ∀w1,w.drawn≤w1.drawn→GUp w (cannot w1):=fun _ h=>h;split <;> rename_i he <;> rw[he] at h
 ·exact gup_ite h (hc _ h)
 ·exact h
 ·exact hc _ h
theorem dieOf_up (fr:Frame) (ahead:List ByteArray) (m:String) (b:Bool) (w:World):GUp w (dieOf fr ahead m b w):=Nat.le_refl _
theorem endThrow_up (fr:Frame) (m:String) (w:World):GUp w (endThrow fr m w):=Nat.le_refl _
theorem endPrinting_up (p:Program) (fr:Frame) (v:Value) (w:World):GUp w (endPrinting p fr v w):=by
 unfold endPrinting;simp only
 repeat' split
 all_goals exact Nat.le_refl _
theorem endFatal_up (p:Program) (fr:Frame) (callers:List Frame) (dying:Option Dying) (m:String) (w:World):GUp w (endFatal p fr callers dying m w):=by
 unfold endFatal
 extract_lets
 split <;> rename_i he
 ·exact gup_of (up_ok (run_up _ _ _) he) (dieOf_up _ _ _ _ _)
 ·exact up_halt (run_up _ _ _) he
 ·exact up_halt (run_up _ _ _) he
theorem writeOn_up (p:Program) (fr:Frame) (d:Dying) (f:Fatal) (w:World):GUp w (writeOn p fr d f w):=by
 unfold writeOn
 extract_lets on
 split
 ·exact Nat.le_refl _
 ·extract_lets
  split <;> first|exact upT_ok ‹_› | exact upT_halt ‹_›
theorem die_up (p:Program) (fr:Frame) (d:Dying) (w:World):GUp w (die p fr d w):=by
 unfold die;split
 ·exact writeOn_up _ _ _ _ _
 ·split
  ·split
   ·exact Nat.le_refl _
   ·exact endWith_up _ _ _ _
  ·extract_lets d'
   split
   ·exact Nat.le_refl _
   ·split <;> rename_i he
    ·exact up_ok (run_up _ _ _) he
    ·exact up_halt (run_up _ _ _) he
   ·rename_i t recv name _;have h:=runT_up p (invoke (.fn (.method name) #[]) #[.iface t recv]) w #[];generalize (invoke (.fn (.method name) #[]) #[.iface t recv]).runT p w #[]=q at *;obtain⟨r,es⟩:=q;simp only at h ⊢;refine gup_after _ ?_;split <;> first
     | exact h
     | exact gup_of h (endPrinting_up _ _ _ _)
     | exact Nat.le_refl _
   ·exact Nat.le_refl _
theorem doReturn_up (p:Program) (main:Bool) (fr:Frame) (callers:List Frame) (dying:Option Dying) (v:Value) (w:World):GUp w (doReturn p main fr callers dying v w):=by
 unfold doReturn
 repeat' split
 all_goals exact Nat.le_refl _
theorem callDeferred_up (p:Program) (fr:Frame) (callers:List Frame) (dying:Option Dying) (d:Deferred) (w:World):GUp w (callDeferred p fr callers dying d w):=by
 unfold callDeferred;refine gup_ite (Nat.le_refl _) ?_
 ·have h:=runT_up p (invoke d.target d.args) w #[];generalize (invoke d.target d.args).runT p w #[]=q at *;obtain⟨r,es⟩:=q;simp only at h ⊢;refine gup_after _ ?_
  repeat' split
  all_goals first
   | exact h
   | exact gup_of h (endFatal_up _ _ _ _ _ _)
   | exact gup_of h (endThrow_up _ _ _)
theorem unwind_up (p:Program) (main:Bool) (fr:Frame) (callers:List Frame) (dying:Option Dying) (w:World):GUp w (unwind p main fr callers dying w):=by
 unfold unwind;split
 ·rename_i block _ ds _;have h:=runT_up p (Instr.takeDeferred block) w #[];generalize (Instr.takeDeferred block).runT p w #[]=q at *;obtain⟨r,es⟩:=q;simp only at h ⊢;refine gup_after _ ?_;split <;> exact h
 ·exact callDeferred_up _ _ _ _ _ _
 ·split
  ·exact Nat.le_refl _
  ·repeat' split
   all_goals first
    | exact Nat.le_refl _
    | exact endPrinting_up _ _ _ _
    | exact up_ok (run_up _ _ _) ‹_›
    | exact up_halt (run_up _ _ _) ‹_›
  ·split
   ·exact doReturn_up _ _ _ _ _ _ _
   ·rename_i fn _;have h:=runT_up p (results fn fr.tmps) w #[];generalize (results fn fr.tmps).runT p w #[]=q at *;obtain⟨r,es⟩:=q;simp only at h ⊢;refine gup_after _ ?_;split
    ·exact gup_of h (doReturn_up _ _ _ _ _ _ _)
    ·exact h
    ·exact h
theorem early_up (p:Program) (fr:Frame) (callers:List Frame) (dying:Option Dying) (g:Nat) (w:World):GUp w (early p fr callers dying g w):=by
 unfold early
 extract_lets refuse notYet
 have hn : ∀w1,w.drawn≤w1.drawn→GUp w (notYet w1):=fun w1 h=>by
  simp only[notYet];split <;> exact h
 have hr:GUp w refuse:=Nat.le_refl _;have hnw:=hn w (Nat.le_refl _);refine gup_ite hnw ?_;split
 ·exact hr
 ·extract_lets there
  have ht : ∀w1,w.drawn≤w1.drawn→GUp w (there w1):=fun w1 h=>h;have htw:=ht w (Nat.le_refl _);refine gup_ite hnw (gup_ite hnw ?_);split
  ·exact hr
  ·exact htw
  ·exact hr
  ·exact hnw
  ·refine gup_ite htw (gup_ite hnw ?_);split
   ·exact hn _ (up_ok (run_up _ _ _) ‹_›)
   ·exact ht _ (up_ok (run_up _ _ _) ‹_›)
   ·exact up_halt (run_up _ _ _) ‹_›
theorem apply_up (p:Program) (b:Bool) (fr:Frame) (callers:List Frame) (dying:Option Dying) (s:Sem Next) (w:World):GUp w (stepG.apply p b fr callers dying s w):=by
 unfold stepG.apply
 extract_lets go kind
 have hq : ∃q,q=(if b=true then s.runT p w #[] else (s.run p w,#[])):=⟨_,rfl⟩
 obtain⟨q,hq⟩:=hq;rw[←hq];have h:Result.up w q.1:=by
  rw[hq];split
  ·exact runT_up _ _ _ _
  ·exact run_up _ _ _
 clear hq;obtain⟨r,es⟩:=q;simp only at h ⊢;refine gup_after _ ?_
 repeat' split
 all_goals first
  | exact h
  | exact gup_of h (endFatal_up _ _ _ _ _ _)
  | exact gup_of h (endThrow_up _ _ _)
  | exact gup_of h (early_up _ _ _ _ _ _)
theorem oper_up (p:Program) (b:Bool) (fr:Frame) (callers:List Frame) (dying:Option Dying) (w:World):GUp w (stepG.oper p b fr callers dying w):=by
 unfold stepG.oper
 repeat' split
 all_goals first
  | exact Nat.le_refl _
  | exact apply_up _ _ _ _ _ _ _
theorem exec_up (p:Program) (m b:Bool) (fr:Frame) (callers:List Frame) (dying:Option Dying) (w:World):GUp w (stepG.exec p m b fr callers dying w):=by
 unfold stepG.exec
 extract_lets go to lost leave
 have hgo : ∀f,GUp w (go f w):=fun f=>Nat.le_refl _;have hgo2 : ∀f w1,w.drawn≤w1.drawn→GUp w (go f w1):=fun f w1 h=>h;have hto : ∀f,GUp w (to f):=fun f=>Nat.le_refl _;have hlost : ∀f,GUp w (lost f):=fun f=>Nat.le_refl _;have hleave : ∀j,GUp w (leave j):=fun j=>by
  simp only[leave];split
  ·exact gup_ite (Nat.le_refl _) (Nat.le_refl _)
  ·rename_i l _;have h:=runT_up p (Instr.endRound l j) w #[];generalize (Instr.endRound l j).runT p w #[]=q at *;obtain⟨r,es⟩:=q;simp only at h ⊢;refine gup_after _ ?_;split
   ·exact gup_of h (doReturn_up _ _ _ _ _ _ _)
   ·exact h
 clear_value leave
 clear_value to lost
 clear_value go
 split
 all_goals first
  | exact hto _
  | exact hleave _
  | exact hlost _
  | exact Nat.le_refl _
  | exact apply_up _ _ _ _ _ _ _
  | exact oper_up _ _ _ _ _ _
  | skip
 ·split
  ·exact hto _
  ·exact hlost _
 ·rename_i id k _
  cases exitTo id k with
  | none=>exact hleave _
  | some t=>exact hto t
 ·rename_i l k _
  cases gotoIn l k with
  | none=>exact hleave _
  | some t=>exact hto t
 ·rename_i f params assign body k _;have h:=runT_up p (Instr.enterLoop fr.fn fr.tmps params assign body fr.roundOf) w #[];generalize (Instr.enterLoop fr.fn fr.tmps params assign body fr.roundOf).runT p w #[]=q at *;obtain⟨r,es⟩:=q;simp only at h ⊢;refine gup_after _ ?_;split
  ·exact gup_of h (apply_up _ _ _ _ _ _ _)
  ·exact h
 ·rename_i l k _;have h:=runT_up p (Instr.endLoop l) w #[];generalize (Instr.endLoop l).runT p w #[]=q at *;obtain⟨r,es⟩:=q;simp only at h ⊢;refine gup_after _ ?_;split
  ·exact hgo2 _ _ h
  ·exact hgo2 _ _ h
  ·exact h
 ·rename_i row args _ _
  cases Extern.next row with
  | none=>exact hlost _
  | some e=>exact apply_up _ _ _ _ _ _ _
 ·refine gup_ite (hto _) ?_;split
  ·exact hgo2 _ _ (up_ok (run_up _ _ _) ‹_›)
  ·exact up_halt (run_up _ _ _) ‹_›
 ·exact gup_ite (oper_up _ _ _ _ _ _) (hgo _)
theorem stepG_up (p:Program) (m b:Bool) (g:Goroutine) (w:World):GUp w (stepG p m g w b):=by
 unfold stepG
 repeat' split
 all_goals first
  | exact die_up _ _ _ _
  | exact exec_up _ _ _ _ _ _ _
  | exact unwind_up _ _ _ _ _ _
def SUp (w:World):Stepped→Prop
 | .next m=>w.drawn≤m.world.drawn
 | .ended .. => True
theorem sup_of {w w1:World} {s:Stepped} (h:w.drawn≤w1.drawn) (k:SUp w1 s):SUp w s:=by
 cases s with
 | next m=>exact Nat.le_trans h k
 | ended=>trivial
theorem sup_ite {c:Prop} [Decidable c] {w:World} {a b:Stepped} (ha:SUp w a) (hb:SUp w b):SUp w (if c then a else b):=by
 split
 ·exact ha
 ·exact hb
theorem sup_ite2 {c:Prop} [Decidable c] {β:Type} {w:World} {a b:Stepped×β} (ha:SUp w a.1) (hb:SUp w b.1):SUp w (if c then a else b).1:=by
 split
 ·exact ha
 ·exact hb
theorem waiting_up {rest:Rest} {cases:Array CommCase} {w w1:World} (h:waitingAt rest cases w=some w1):w.drawn≤w1.drawn:=by
 unfold waitingAt at h
 repeat' split at h
 all_goals first|(cases h;done)|(cases h;exact Nat.le_refl _)
theorem communicate_up (p:Program) (rest:Rest) (gs:Array Goroutine) (i:Nat) (g:Goroutine) (cases:Array CommCase) (blocking:Bool) (shape:CommShape) (w:World) :
 SUp w (communicate p rest gs i g cases blocking shape w).1:=by
 unfold communicate
 extract_lets put illMade me other
 have hp : ∀g gs w1 ops,w.drawn≤w1.drawn→SUp w (put g gs w1 ops).1:=fun _ _ _ _ h=>h;refine sup_ite2 trivial ?_
 extract_lets
 refine sup_ite2 (sup_ite2 ?_ ?_) ?_
 ·split
  ·exact waiting_up ‹_›
  ·trivial
 ·exact hp _ _ _ _ (Nat.le_refl _)
 ·extract_lets
  split
  ·trivial
  ·have h:=up_ok (run_up _ _ _) ‹_›
   extract_lets r
   repeat' split
   all_goals first
    | trivial
    | exact hp _ _ _ _ h
    | exact hp _ _ _ _ (Nat.le_trans h (up_ok (run_up _ _ _) ‹_›))
    | exact hp _ _ _ _ (Nat.le_trans h (up_halt (run_up _ _ _) ‹_›))
    | (have h2:=up_ok (run_up _ _ _) ‹Sem.run _ _ _=Result.ok _ _›;exact hp _ _ _ _ (Nat.le_trans h h2))
theorem look_up (p:Program) (gs:Array Goroutine) (rest:Rest) (w:World):SUp w (look p gs rest w):=by
 unfold look
 repeat' first
  | (refine sup_ite trivial ?_)
  | (exact trivial)
  | (extract_lets;skip)
  | split
 all_goals first
  | exact up_ok (run_up _ _ _) ‹_›
  | (have h2:=up_ok (run_up _ _ _) ‹Sem.run _ _ _=Result.ok _ _›;exact h2)
theorem drain_up (w:World) (c:Nat):w.drawn≤(drain w c).2.drawn:=by
 unfold drain;split <;> exact Nat.le_refl _
theorem retime_up (m:Machine) (k:Nat) (t:Timer) (a b:Nat):m.world.drawn≤(retime m k t a b).2.world.drawn:=by
 unfold retime
 cases t.chan with
 | none=>exact Nat.le_refl _
 | some c=>exact drain_up _ _
theorem named_up {m:Machine} {var:Addr} {f:Nat→Timer→Value×Machine} {w:World} (hf : ∀k t,w.drawn≤(f k t).2.world.drawn) {v:Value} {m':Machine} (h:timerOp.named m var f = .ok (v,m')):w.drawn≤m'.world.drawn:=by
 unfold timerOp.named at h;split at h
 ·have:=hf ‹_› (m.rest.timers.getD ‹_› default)
  cases hk:f ‹_› (m.rest.timers.getD ‹_› default)
  rw[hk] at h this
  cases h
  exact this
 ·cases h
theorem timerOp_up (m:Machine) (op:TimerOp) {v:Value} {m':Machine} (h:timerOp m op = .ok (v,m')):m.world.drawn≤m'.world.drawn:=by
 unfold timerOp at h;split at h
 ·repeat' split at h
  all_goals first|(cases h;done)|(cases h;exact Nat.le_refl _)
 ·exact named_up (fun _ _=>retime_up _ _ _ _ _) h
 ·split at h
  ·rename_i m1 ho;refine Nat.le_trans ?_ (named_up (w:=m1.world) (fun _ _=>retime_up _ _ _ _ _) h);unfold timerOp.opened at ho
   repeat' split at ho
   all_goals first|(cases ho;done)|(cases ho;exact Nat.le_refl _)
  ·cases h
 ·cases h
  exact Nat.le_refl _
theorem serve_up (p:Program) (m:Machine) (k:Nat):SUp m.world (serve p m k):=by
 unfold serve;split
 ·trivial
 ·exact Nat.le_refl _
 ·extract_lets
  split
  ·trivial
  ·exact Nat.le_refl _
theorem runT_m_up (p:Program) (m:Machine) (i:Nat) (b:Bool):SUp m.world (runT p m i b).1:=by
 unfold runT
 extract_lets rest world
 split;rename_i g gs _
 extract_lets wake fn pos s ops done
 have h:GUp world s:=stepG_up _ _ _ _ _
 clear_value s
 cases s with
 | ended o w es=>trivial
 | comm g cases blocking shape w es=>exact sup_of h (communicate_up _ _ _ _ _ _ _ _ _)
 | go g w es=>exact h
 | spawn g child w es=>exact h
 | count g w es=>exact sup_ite trivial h
 | alone g on w es=>exact h
 | collect g w es=>exact sup_of h (look_up _ _ _ _)
 | watch g w es=>exact h
 | newcoro g c d w es=>exact h
 | coroswitch g c exit w es =>
   simp only[done];split
   ·exact h
   ·exact h
   ·trivial
 | timer g op w es =>
   simp only[done];split
   ·exact Nat.le_trans h (timerOp_up _ _ ‹_›)
   ·split
    ·rename_i he;have h2:=endThrow_up g.frame ‹String› w;rw[he] at h2;exact Nat.le_trans h h2
    ·trivial
   ·trivial
   ·trivial
def MUp (w:World):Move→Prop
 | .goroutine m _=>w.drawn≤m.world.drawn
 | .machine s _=>SUp w s
theorem mup_ite {c:Prop} [Decidable c] {w:World} {a b:Move} (ha:MUp w a) (hb:MUp w b):MUp w (if c then a else b):=by
 split
 ·exact ha
 ·exact hb
theorem mup_of {w w1:World} {s:Move} (h:w.drawn≤w1.drawn) (k:MUp w1 s):MUp w s:=by
 cases s with
 | goroutine m i=>exact Nat.le_trans h k
 | machine s o=>exact sup_of h k
theorem askOn_up (p:Program) (m:Machine):MUp m.world (askOn p m):=by
 unfold askOn
 extract_lets mono rs ds pick
 have hp : ∀m1:Machine,MUp m1.world (pick m1):=fun m1=>by
  simp only[pick];split
  ·trivial
  ·have h:=up_ok (run_up _ _ _) ‹_›;refine mup_ite h ?_;split
   ·trivial
   ·have h2:=up_ok (run_up _ _ _) ‹Sem.run p (choose (Question.extern "sched.slice" 65536)) _=Result.ok _ _›;exact Nat.le_trans h h2
 clear_value pick
 split
 ·trivial
 ·have h:=up_ok (run_up _ _ _) ‹_›
  extract_lets m1
  refine mup_ite (sup_of h (serve_up p m1 _)) ?_
  clear_value rs
  cases rs with
  | nil =>
    simp only;split
    ·exact h
    ·refine mup_ite h ?_
     extract_lets
     split <;> trivial
  | cons r rs =>
    simp only;split
    ·exact mup_of h (hp m1)
    ·split
     ·trivial
     ·have h2:=up_ok (run_up _ _ _) ‹Sem.run p (choose (Question.extern "clock.wait" _)) _=Result.ok _ _›;exact mup_of (Nat.le_trans h h2) (hp _)
     ·have h2:=up_ok (run_up _ _ _) ‹Sem.run p (choose (Question.extern "clock.wait" _)) _=Result.ok _ _›;exact Nat.le_trans h h2
     ·have h2:=up_ok (run_up _ _ _) ‹Sem.run p (choose (Question.extern "clock.wait" _)) _=Result.ok _ _›;exact mup_of (Nat.le_trans h h2) (hp _)
theorem ask_m_up (p:Program) (m:Machine):MUp m.world (ask p m):=by
 unfold ask;refine mup_ite ?_ (askOn_up p m);split
 ·trivial
 ·have h:=up_ok (run_up _ _ _) ‹_›;have hl:=look_up p m.gs m.rest ‹World›;split
  ·rename_i he;rw[he] at hl;exact mup_of (Nat.le_trans h hl) (askOn_up p _)
  ·exact sup_of h hl
 ·have h:=up_ok (run_up _ _ _) ‹_›;exact mup_of h (askOn_up p _)
theorem move_up (p:Program) (m:Machine):MUp m.world (move p m):=by
 unfold move;split
 ·exact mup_ite (Nat.le_refl _) trivial
 ·split
  ·exact mup_ite (Nat.le_refl _) (ask_m_up p _)
  ·exact ask_m_up p m
theorem step_up (p:Program) (m:Machine):SUp m.world (step p m):=by
 have h:=move_up p m;unfold step stepT
 cases hm:move p m with
 | goroutine m1 i=>rw [hm] at h;exact sup_of h (runT_m_up p m1 i true)
 | machine s o=>rw [hm] at h;exact h
theorem runN_up (p:Program) : ∀(n:Nat) (m m':Machine),runN p n m = .next m'→m.world.drawn≤m'.world.drawn
 | 0,m,m',h=>by
   unfold runN at h
   cases h
   exact Nat.le_refl _
 | n+1,m,m',h=>by
   unfold runN at h;have hs:=step_up p m
   cases hm:step p m with
   | next m1 =>
     rw[hm] at h hs;exact Nat.le_trans hs (runN_up p n m1 m' h)
   | ended o w=>rw [hm] at h;cases h
theorem calls_up {P:Program} {f:FuncId} {args:Array Value} {w:World} {R:Ending→World→Prop} (h:Calls P f args w R) :
 Calls P f args w fun e w'=>R e w'∧((∃v,e = .returned v)→w.drawn≤w'.drawn):=fun cs=>by
 obtain⟨e,w',fr,hr,hc,hx⟩:=h cs;refine⟨e,w',fr,⟨hr,?_⟩,hc,hx⟩;rintro ⟨v,rfl⟩;obtain⟨n,hn⟩:=hc;exact runN_up P n _ _ hn
open Go.RowKit in
theorem grow_of {w w':World} (h:Below w.heap.size w w') (hd:w.drawn≤w'.drawn) : ∃q os,w'=grow (w.drewN q) os:=by
 refine⟨w'.drawn-w.drawn,w'.heap.extract w.heap.size w'.heap.size,?_⟩;have hh:w'.heap=w.heap++w'.heap.extract w.heap.size w'.heap.size:=by
  apply Array.ext_getElem?;intro i;by_cases hi:i<w.heap.size
  ·rw[h.block i hi,Array.getElem?_append_left hi]
  ·rw[Array.getElem?_append_right (by omega),Array.getElem?_extract];have:=h.size;split
   ·congr 1;omega
   ·exact Array.getElem?_eq_none (by omega)
 have e1:=h.os;have e2:=h.tape;have e3:=h.output;obtain⟨hp,tp,dr,os,out⟩:=w';simp only at hh e1 e2 e3 hd;unfold grow World.drewN;simp only[World.mk.injEq];exact⟨hh,e2,by omega,e1,e3⟩
end Go.Proofs.YtbapneipjmpcbaaGreatDoor.Up
