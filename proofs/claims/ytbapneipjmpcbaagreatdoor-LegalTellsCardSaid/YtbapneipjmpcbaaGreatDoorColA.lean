import Derived.Test.YtbapneipjmpcbaaGreatDoorChecked
import Derived.Shelf.SortM.SortNone
import Derived.Shelf.SlicesG.Clone
import Derived.Shelf.SlicesG.CompactS
import Derived.Test.YtbapneipjmpcbaaGreatDoorChP
import Derived.Test.YtbapneipjmpcbaaGreatDoorGrd
import Derived.Sort.OwnSorted
import Derived.Sort.EveryDepth
import Derived.Shelf.SortM.AssemblysIn
import Derived.RangeFuncBox
import Derived.RangeFuncLeaves
import Derived.RangeFuncWrites
import Derived.Shelf.Abstract
import Derived.WalkKit
import Derived.OwnWalkIn
import Derived.TacticsInMore
import Derived.LoopNIn
import Derived.LoopIn
import Derived.Lib.Hide
import Derived.Maps.OwnIn
set_option maxHeartbeats 16000000
set_option maxRecDepth 100000
set_option linter.unusedVariables false
set_option linter.unusedSimpArgs false
namespace Go.Proofs.YtbapneipjmpcbaaGreatDoor
open Go.Shelf
def sortSt_ren:Go.Shelf.Ren:=⟨fun|6=>88|8=>119|9=>118|19=>145|20=>146|21=>136|22=>137|23=>138|24=>139|25=>140|26=>141|27=>142|28=>143|29=>144|36=>175|31=>176|32=>177|37=>178|38=>179|39=>180|41=>205|n=>n,fun|27=>65|29=>9|3=>3|32=>27|26=>65|0=>0|44=>180|46=>171|4=>4|36=>174|35=>173|41=>131|5=>5|9=>9|53=>196|57=>200|63=>214|64=>215|n=>n,fun|n=>n⟩
theorem sortSt:SlLaysM.n6 Tryz.prog sortSt_ren := {
 mixed:=by kernel_rfl,
 f6:=⟨Tryz.f88.name,by decide,Tryz.func88.trans (congrArg some (by kernel_rfl))⟩,
 f8:=Tryz.func119.trans (congrArg some (by kernel_rfl)),
 f9:=⟨Tryz.f118.name,by decide,Tryz.func118.trans (congrArg some (by kernel_rfl))⟩,
 f19:=Tryz.func145.trans (congrArg some (by kernel_rfl)),
 f20:=Tryz.func146.trans (congrArg some (by kernel_rfl)),
 f21:=⟨Tryz.f136.name,by decide,Tryz.func136.trans (congrArg some (by kernel_rfl))⟩,
 f22:=⟨Tryz.f137.name,by decide,Tryz.func137.trans (congrArg some (by kernel_rfl))⟩,
 f23:=⟨Tryz.f138.name,by decide,Tryz.func138.trans (congrArg some (by kernel_rfl))⟩,
 f24:=⟨Tryz.f139.name,by decide,Tryz.func139.trans (congrArg some (by kernel_rfl))⟩,
 f25:=⟨Tryz.f140.name,by decide,Tryz.func140.trans (congrArg some (by kernel_rfl))⟩,
 f26:=⟨Tryz.f141.name,by decide,Tryz.func141.trans (congrArg some (by kernel_rfl))⟩,
 f27:=⟨Tryz.f142.name,by decide,Tryz.func142.trans (congrArg some (by kernel_rfl))⟩,
 f28:=⟨Tryz.f143.name,by decide,Tryz.func143.trans (congrArg some (by kernel_rfl))⟩,
 f29:=⟨Tryz.f144.name,by decide,Tryz.func144.trans (congrArg some (by kernel_rfl))⟩,
 f31:=Tryz.func176.trans (congrArg some (by kernel_rfl)),
 f32:=Tryz.func177.trans (congrArg some (by kernel_rfl)),
 f36:=⟨Tryz.f175.name,by decide,Tryz.func175.trans (congrArg some (by kernel_rfl))⟩,
 f37:=⟨Tryz.f178.name,by decide,Tryz.func178.trans (congrArg some (by kernel_rfl))⟩,
 f38:=⟨Tryz.f179.name,by decide,Tryz.func179.trans (congrArg some (by kernel_rfl))⟩,
 f39:=⟨Tryz.f180.name,by decide,Tryz.func180.trans (congrArg some (by kernel_rfl))⟩,
 f41:=⟨Tryz.f205.name,by decide,Tryz.func205.trans (congrArg some (by kernel_rfl))⟩,
 t0:=Tryz.underlying0,
 a0:=Tryz.isAgg0,
 z0:=Tryz.sizeOf0,
 v0:=Tryz.zeroValue0,
 t3:=Tryz.underlying3,
 a3:=Tryz.isAgg3,
 z3:=Tryz.sizeOf3,
 v3:=Tryz.zeroValue3,
 t4:=Tryz.underlying4,
 a4:=Tryz.isAgg4,
 z4:=Tryz.sizeOf4,
 v4:=Tryz.zeroValue4,
 t5:=Tryz.underlying5,
 a5:=Tryz.isAgg5,
 z5:=Tryz.sizeOf5,
 v5:=Tryz.zeroValue5,
 t9:=Tryz.underlying9,
 a9:=Tryz.isAgg9,
 z9:=Tryz.sizeOf9,
 v9:=Tryz.zeroValue9,
 t26:=Tryz.underlying65,
 a26:=Tryz.isAgg65,
 z26:=Tryz.sizeOf65,
 v26:=Tryz.zeroValue65,
 t27:=Tryz.underlying65,
 a27:=Tryz.isAgg65,
 z27:=Tryz.sizeOf65,
 v27:=Tryz.zeroValue65,
 t29:=Tryz.underlying9,
 a29:=Tryz.isAgg9,
 z29:=Tryz.sizeOf9,
 v29:=Tryz.zeroValue9,
 t32:=Tryz.underlying27,
 a32:=Tryz.isAgg27,
 z32:=Tryz.sizeOf27,
 v32:=Tryz.zeroValue27,
 t35:=Tryz.underlying173,
 a35:=Tryz.isAgg173,
 z35:=Tryz.sizeOf173,
 v35:=Tryz.zeroValue173,
 t36:=Tryz.underlying174,
 a36:=Tryz.isAgg174,
 z36:=Tryz.sizeOf174,
 v36:=Tryz.zeroValue174,
 t41:=Tryz.underlying131,
 a41:=Tryz.isAgg131,
 z41:=Tryz.sizeOf131,
 v41:=Tryz.zeroValue131,
 t44:=Tryz.underlying180,
 a44:=Tryz.isAgg180,
 z44:=Tryz.sizeOf180,
 v44:=Tryz.zeroValue180,
 t46:=Tryz.underlying171,
 a46:=Tryz.isAgg171,
 z46:=Tryz.sizeOf171,
 v46:=Tryz.zeroValue171,
 t53:=Tryz.underlying196,
 a53:=Tryz.isAgg196,
 z53:=Tryz.sizeOf196,
 v53:=Tryz.zeroValue196,
 t57:=Tryz.underlying200,
 a57:=Tryz.isAgg200,
 z57:=Tryz.sizeOf200,
 v57:=Tryz.zeroValue200,
 t63:=Tryz.underlying214,
 a63:=Tryz.isAgg214,
 z63:=Tryz.sizeOf214,
 v63:=Tryz.zeroValue214,
 t64:=Tryz.underlying215,
 a64:=Tryz.isAgg215,
 z64:=Tryz.sizeOf215,
 v64:=Tryz.zeroValue215}
def cloneSt_ren:Go.Shelf.Ren:=⟨fun|42=>87|n=>n,fun|25=>65|26=>9|4=>4|n=>n,fun|n=>n⟩
theorem cloneSt:SlLaysN.n42 Tryz.prog cloneSt_ren := {
 mixed:=by kernel_rfl,
 f42:=⟨Tryz.f87.name,by decide,Tryz.func87.trans (congrArg some (by kernel_rfl))⟩,
 t4:=Tryz.underlying4,
 a4:=Tryz.isAgg4,
 z4:=Tryz.sizeOf4,
 v4:=Tryz.zeroValue4,
 t25:=Tryz.underlying65,
 a25:=Tryz.isAgg65,
 z25:=Tryz.sizeOf65,
 v25:=Tryz.zeroValue65,
 t26:=Tryz.underlying9,
 a26:=Tryz.isAgg9,
 z26:=Tryz.sizeOf9,
 v26:=Tryz.zeroValue9,
 i26:=by kernel_rfl}
def compactSt_ren:Go.Shelf.Ren:=⟨fun|44=>89|n=>n,fun|25=>65|26=>9|3=>3|4=>4|0=>0|n=>n,fun|n=>n⟩
theorem compactSt:SlLaysN.n44 Tryz.prog compactSt_ren := {
 mixed:=by kernel_rfl,
 f44:=⟨Tryz.f89.name,by decide,Tryz.func89.trans (congrArg some (by kernel_rfl))⟩,
 t0:=Tryz.underlying0,
 a0:=Tryz.isAgg0,
 z0:=Tryz.sizeOf0,
 v0:=Tryz.zeroValue0,
 t3:=Tryz.underlying3,
 a3:=Tryz.isAgg3,
 z3:=Tryz.sizeOf3,
 v3:=Tryz.zeroValue3,
 t4:=Tryz.underlying4,
 a4:=Tryz.isAgg4,
 z4:=Tryz.sizeOf4,
 v4:=Tryz.zeroValue4,
 t25:=Tryz.underlying65,
 a25:=Tryz.isAgg65,
 z25:=Tryz.sizeOf65,
 v25:=Tryz.zeroValue65,
 t26:=Tryz.underlying9,
 a26:=Tryz.isAgg9,
 z26:=Tryz.sizeOf9,
 v26:=Tryz.zeroValue9,
 i26:=by kernel_rfl}
end Go.Proofs.YtbapneipjmpcbaaGreatDoor
namespace Go.Proofs.YtbapneipjmpcbaaGreatDoor
open Go.RowKit Go.Sort
theorem same_grown (w:World) (row:Option Nat):w.grownBy w row:=⟨rfl,rfl,rfl,Nat.le_refl _,fun _ _ _=>rfl⟩
theorem grow_none (w:World):grow w #[]=w:=by unfold grow;simp
def txs (n:Nat) (es:Nat→ByteArray):List Co.Bs:=(List.range n).map (fun i=>(es i).data.toList)
theorem txs_len (n:Nat) (es:Nat→ByteArray):(txs n es).length=n:=by simp[txs]
abbrev TRow (w:World) (base:Nat) (v:Value) (L:List Co.Bs):Prop:=w.ownsRow base 9 1 v L.length (L.map encStr)
theorem sclone_calls (nv:Value) (n:Nat) (es:Nat→ByteArray) (w:World) (hn:n≤20000) (hr:StrRow w nv n es) :
 Calls Tryz.prog 87 #[nv] w fun e w' => ∃v,e = .returned v∧TRow w' w.heap.size v (txs n es)∧Below w.heap.size w w':=by
 obtain⟨a,cap,rfl,h1,h2,h3⟩:=hr;unfold TRow;rw[txs_len];by_cases h0:0<n
 ·obtain⟨b,off,rfl,hb,hc⟩:=h3 h0;have h:=AnyG.slices_Clone_string cloneSt b off n cap ((List.range n).map es) w (by simp) (by omega) (fun j hj=>by
   have hj':j<n:=by simpa using hj
   rw[(hc j hj').1];simp[List.getD_eq_getElem?_getD,hj'])
  refine Calls.mono h ?_;rintro e w' ⟨v,rfl,h5,_,h6⟩;refine⟨v,rfl,?_,h6⟩;have e1:((List.range n).map es).take n=(List.range n).map es:=List.take_of_length_le (by simp);rw[e1,List.map_map] at h5;have e2:(txs n es).map encStr=(List.range n).map (Value.string∘es):=by
   unfold txs;rw[List.map_map];apply List.map_congr_left;intro i _;show Value.string ⟨(es i).data.toList.toArray⟩=Value.string (es i);rw[Array.toArray_toList]
  rw[e2];exact h5
 ·obtain rfl:n=0:=by omega
  cases a with
  | none =>
    refine Calls.mono (AnyG.slices_Clone_string_nil cloneSt 0 cap w) ?_;rintro e w' ⟨rfl,rfl⟩;exact⟨_,rfl,World.ownsRow_nil _ _ _ _,Below.refl _ _⟩
  | some a =>
    refine Calls.mono (AnyG.slices_Clone_string_zero cloneSt a cap w) ?_;rintro e w' ⟨v,rfl,h5,_,h6⟩;exact⟨v,rfl,h5,h6⟩
abbrev sorted (L:List Co.Bs):List Co.Bs:=L.mergeSort fun x y=>decide (x≤y)
theorem ssort_plain (g cap:Nat) (L:List Co.Bs) (w:World) (hH:Holds encStr w g 0 L.toArray) (hblk:g<w.heap.size) (hsz:L.length<4611686018427387904) :
 Calls Tryz.prog 88 #[.slice (some ⟨g,0,none⟩) L.length cap] w fun e w'=>e = .returned (.tuple #[]) ∧ ∃n os,w'=grow (putRow encStr (Sort.ahead w n) g 0 (sorted L).toArray) os :=
 calls_of_every_depth fun D=>AnySM.slices_Sort_string_in sortSt D g 0 cap L w hH hblk hsz
theorem ssort_calls (v:Value) (L:List Co.Bs) (base:Nat) (w:World) (hn:L.length≤20000) (hr:TRow w base v L) :
 Calls Tryz.prog 88 #[v] w fun e w'=>e = .returned (.tuple #[])∧TRow w' base v (sorted L)∧w.grownBy w' v.ownBlock:=by
 have hl:(sorted L).length=L.length:=List.length_mergeSort L;unfold TRow;rw[hl];rcases hr.2 with ⟨rfl,h0⟩|⟨g,cap,cur,rfl,hg,hc,h1,h2,h3,h4⟩
 ·have hL:L=[]:=List.eq_nil_of_length_eq_zero h0;subst hL;refine Calls.mono (AnyM.slices_Sort_string_none sortSt none 0 w) ?_;rintro e w' ⟨rfl,rfl⟩;have e0:sorted []=[]:=List.eq_nil_of_length_eq_zero hl;rw[e0];exact⟨rfl,World.ownsRow_nil _ _ _ _,same_grown _ _⟩
 ·refine Calls.mono (ssort_plain g cap L w (holds_of_block hc (by simpa using h4)) (Array.getElem?_eq_some_iff.1 hc).1 (by omega)) ?_;rintro e w' ⟨rfl,n,os,rfl⟩;exact⟨rfl,ownsRow_sorted hl hg hc h1 h2 h3,grownBy_sorted _⟩
theorem compact_len (d:Array Co.Bs) (m:Nat):(Lib.compactUpTo d m).length≤m:=by
 unfold Lib.compactUpTo;rw[List.length_map];exact Nat.le_trans (List.length_filter_le _ _) (by simp)
theorem scompact_calls (v:Value) (L:List Co.Bs) (base:Nat) (w:World) (hn:L.length≤20000) (hr:TRow w base v L) :
 Calls Tryz.prog 89 #[v] w fun e w' => ∃v',e = .returned v'∧TRow w' base v' (Lib.compactUpTo L.toArray L.length)∧w.grownBy w' v.ownBlock∧v'.ownBlock=v.ownBlock:=by
 rcases hr.2 with ⟨rfl,h0⟩|⟨g,cap,cur,rfl,hg,hc,h1,h2,h3,h4⟩
 ·have hL:L=[]:=List.eq_nil_of_length_eq_zero h0;subst hL;go_enter Tryz.func89,Tryz.ntmps89;go_wp2;go_ret;exact⟨_,rfl,World.ownsRow_nil _ _ _ _,same_grown _ _,rfl⟩
 ·have hH:=holds_of_block hc (ss:=L) (by simpa using h4);have h:=AnyG.slices_Compact_string_arr compactSt g 0 cap L.toArray w hH (by simp;omega) (by simpa using h1);have hm:=compact_len L.toArray L.length;simp only[List.size_toArray] at h;refine Calls.mono h ?_;rintro e w' ⟨rfl,q,rfl⟩;refine⟨_,rfl,⟨by simp,Or.inr ⟨g,cap,putCells encStr 0 (Lib.compactUpTo L.toArray L.length++List.replicate (L.length-(Lib.compactUpTo L.toArray L.length).length) []).toArray cur,rfl,hg,?_,by omega,h2,by simp[putCells,h3],?_⟩⟩,?_,rfl⟩
  ·have:=heap_sorted (n:=q) (os:=#[]) (Lib.compactUpTo L.toArray L.length++List.replicate (L.length-(Lib.compactUpTo L.toArray L.length).length) []).toArray hc;rw[grow_none] at this;exact this
  ·have:=take_putCells cur (Lib.compactUpTo L.toArray L.length++List.replicate (L.length-(Lib.compactUpTo L.toArray L.length).length) []) (by simp;omega);rw[Nat.mul_one];have e2:=congrArg (List.take (Lib.compactUpTo L.toArray L.length).length) this;rw[List.take_take,Nat.min_eq_left (by simp),←List.map_take,List.take_left'] at e2
   ·exact e2
   ·rfl
  ·have:=grownBy_sorted (w:=w) (g:=g) (n:=q) (os:=#[]) (Lib.compactUpTo L.toArray L.length++List.replicate (L.length-(Lib.compactUpTo L.toArray L.length).length) []).toArray;rw[grow_none] at this;exact this
end Go.Proofs.YtbapneipjmpcbaaGreatDoor
namespace Go.Proofs.YtbapneipjmpcbaaGreatDoor
open Go.RowKit Go.Shelf
attribute [local go_sem] Oper.semAt_some
def upto {α:Type} (f:Nat→α) (k:Nat):List α:=(List.range k).map f
theorem upto_succ {α:Type} (f:Nat→α) (k:Nat):upto f (k+1)=upto f k++[f k]:=by simp[upto,List.range_succ]
theorem upto_length {α:Type} (f:Nat→α) (k:Nat):(upto f k).length=k:=by simp[upto]
def Kq (x y:Nat) (W W':World):Prop:=W'.heap[x]? = W.heap[x]?∧W'.heap[y]? = W.heap[y]?
theorem Kq.refl (x y:Nat) (W:World):Kq x y W W:=⟨rfl,rfl⟩
theorem Kq.trans {x y:Nat} {A B C:World} (h:Kq x y A B) (k:Kq x y B C):Kq x y A C:=⟨k.1.trans h.1,k.2.trans h.2⟩
theorem kq_put {x y n:Nat} (hx:x<n) (hy:y<n) : ∀(W:World) (l:Nat) (o o':Obj),n≤l→W.heap[l]? = some o→o.isCells=false→o.isWalk=false→Kq x y W (W.putObj l o') :=
 fun W l o o' hl _ _ _=>⟨World.putObj_heap_other (by omega),World.putObj_heap_other (by omega)⟩
theorem Kq.cell1 {x y:Nat} {A B:World} (h:Kq x y A B) (i:Nat):B.cell? ⟨x,i,none⟩=A.cell? ⟨x,i,none⟩:=World.cell?_of_block (w:=A) h.1
theorem Kq.cell2 {x y:Nat} {A B:World} (h:Kq x y A B) (i:Nat):B.cell? ⟨y,i,none⟩=A.cell? ⟨y,i,none⟩:=World.cell?_of_block (w:=A) h.2
def BRow (b:Nat) (W:World) (sv:Value) (n:Nat) (s:Nat→ByteArray):Prop :=
 (sv = .slice none 0 0∧n=0) ∨ ∃cap,sv = .slice (some ⟨b,0,none⟩) n cap ∧ ∀j,j<n→W.cell? ⟨b,j,none⟩=some (.string (s j))
theorem BRow.below {b:Nat} {A B:World} (h:Below A.heap.size A B) (hb:b<A.heap.size) {sv:Value} {n:Nat} {s:Nat→ByteArray}:BRow b A sv n s→BRow b B sv n s
 | .inl e => .inl e
 | .inr ⟨cap,e,hc⟩ => .inr ⟨cap,e,fun j hj=>(h.cell (p:=⟨b,j,none⟩) hb).trans (hc j hj)⟩
theorem backw_in (F:Fence) (n:Nat) (h7:F.fn 120) (hro:F.round=none) (hn:1≤n) (l Bs b len cap:Nat) (s:Nat→ByteArray) (hreach:len≤20000) (J Jx:List Nat→World→Prop)
 (hY : ∀pre (x:Nat) W,J pre W→pre.length<len→YieldAt F (n-1) Tryz.prog l #[.int .i64 ((min x (len-1):Nat):Int),.string (s (min x (len-1)))] W fun e W' =>
  (e = .returned (.bool true)∧J (pre++[x]) W'∧Kq Bs b W W')∨(e = .returned (.bool false)∧Jx (pre++[x]) W'))
 (W:World) (hBs:W.cell? ⟨Bs,0,none⟩=some (.slice (some ⟨b,0,none⟩) len cap)) (hc : ∀j,j<len→W.cell? ⟨b,j,none⟩=some (.string (s j))) (h0:J [] W) :
 CallsIn F n Tryz.prog 120 #[.func (.yield l) #[] #[],.pointer (some ⟨Bs,0,none⟩)] W fun e W'=>(∃v,e = .returned v) ∧
  ((∃ys,ys=upto (fun j=>len-1-j) len∧J ys W')∨(∃pre,(∃k,k≤len∧pre=upto (fun j=>len-1-j) k)∧Jx pre W')):=by
 refine callsIn_of_wp Tryz.func120 rfl h7 ?_ hro;simp only[Tryz.ntmps120,List.size_toArray,List.length_cons,List.length_nil,Nat.reduceAdd,Nat.reduceSub,Array.replicate_succ,Array.replicate_zero,List.push_toArray,List.append_toArray,List.nil_append,List.cons_append]
 gi_wp2
 gi_loopw [3] (fun i wr => ∃k:Nat,k≤len∧i = .int .i64 ((len:Int)-1-(k:Int))∧J (upto (fun j=>len-1-j) k) wr∧Kq Bs b W wr)
  (fun i _=>(intOf i+1).toNat)
 case atStart=>exact ⟨0,Nat.zero_le _,by simp,h0,Kq.refl _ _ _⟩
 case round =>
  obtain⟨k,hk,rfl,hJs,hnx⟩:=hrel;have hbs:=(hnx.cell1 0).trans hBs;by_cases hlt:k<len
  ·have hcx':=(hnx.cell2 (len-1-k)).trans (hc (len-1-k) (by omega));have hY':=hY _ (len-1-k) wr hJs (by rw[upto_length];exact hlt);rw[show min (len-1-k) (len-1)=len-1-k by omega] at hY';obtain⟨fn,tmps,assign,body,hy,hR⟩:=hY';have HU:=Lib.hid (upto_succ (fun j=>len-1-j) k);obtain⟨m,hm⟩ : ∃m:Nat,len-1-k=m:=⟨_,rfl⟩
   have hmi:(len:Int)-1-(k:Int)=(m:Int):=by omega
   have hml:m<len:=by omega
   have HM:=Lib.hid (show m+1+k=len by omega);rw[hm] at hcx' hy hR HU;rw[hmi];clear hm hmi hlt
   gi_wp2
   refine hR.mono ?_;rintro e W3 (⟨rfl,hJ3,hk3⟩|⟨rfl,hJx3⟩)
   ·gi_wp2
    go_roundw;case rel=>exact ⟨k+1,by have:=HM.out;omega,by have:=HM.out;rw[show(len:Int)-1-((k+1:Nat):Int)=(m:Int)-1 by omega],by rw[HU.out];exact hJ3,hnx.trans hk3⟩
    case measure=>simp [intOf]
   ·gi_wp2
    refine bodyPost_ret (results_none rfl _ _ _) rfl ?_;exact⟨⟨_,rfl⟩,.inr ⟨_,⟨k+1,by have:=HM.out;omega,HU.out.symm⟩,hJx3⟩⟩
  ·obtain rfl:k=len:=by omega
   rw[show(k:Int)-1-(k:Int) = -1 by omega]
   gi_wp2
   go_end0
   exact⟨⟨_,rfl⟩,.inl ⟨_,rfl,hJs⟩⟩
theorem backw_nil_in (F:Fence) (n:Nat) (h7:F.fn 120) (hro:F.round=none) (l Bs:Nat) (J:List Nat→World→Prop) (W:World) (hBs:W.cell? ⟨Bs,0,none⟩=some (.slice none 0 0)) (h0:J [] W) :
 CallsIn F n Tryz.prog 120 #[.func (.yield l) #[] #[],.pointer (some ⟨Bs,0,none⟩)] W fun e W'=>(∃v,e = .returned v)∧J [] W':=by
 refine callsIn_of_wp Tryz.func120 rfl h7 ?_ hro;simp only[Tryz.ntmps120,List.size_toArray,List.length_cons,List.length_nil,Nat.reduceAdd,Nat.reduceSub,Array.replicate_succ,Array.replicate_zero,List.push_toArray,List.append_toArray,List.nil_append,List.cons_append]
 gi_wp2
 gi_loopw [3] (fun i wr=>i = .int .i64 (-1)∧J [] wr) (fun _ _=>0)
 case atStart=>exact ⟨rfl,h0⟩
 case round =>
  obtain⟨rfl,hJs⟩:=hrel
  gi_wp2
  go_end0
  exact⟨⟨_,rfl⟩,hJs⟩
theorem backward_in (F:Fence) (n:Nat) (h5:F.fn 90) (hro:F.round=none) (a:Option Addr) (len cap:Nat) (w:World) :
 CallsIn F n Tryz.prog 90 #[.slice a len cap] w fun e w'=>e = .returned (.func (.func 120) #[] #[.pointer (some ⟨w.heap.size,0,none⟩)])∧w'=w.alloc (.cells #[.slice a len cap] 65):=by
 refine callsIn_of_wp Tryz.func90 rfl h5 ?_ hro;simp only[Tryz.ntmps90,List.size_toArray,List.length_cons,List.length_nil,Nat.reduceAdd,Nat.reduceSub,Array.replicate_succ,Array.replicate_zero,List.push_toArray,List.append_toArray,List.nil_append,List.cons_append]
 gi_wp2
 go_ret;exact⟨rfl,rfl⟩
theorem backward_stops (F:Fence) (n:Nat) (h8:F.fn 120) (hro:F.round=none) (hn:1≤n) (Bs b:Nat) (sv:Value) (len:Nat) (s:Nat→ByteArray) (hreach:len≤20000) (w:World) (hBs:Bs<w.heap.size) (hb:b<w.heap.size)
 (hc:w.cell? ⟨Bs,0,none⟩=some sv) (hI:BRow b w sv len s) :
 SeqStopsK F n Tryz.prog 120 #[.pointer (some ⟨Bs,0,none⟩)] (fun x:Nat=>#[Value.int .i64 ((min x (len-1):Nat):Int),Value.string (s (min x (len-1)))]) (Kq Bs b) (fun ys=>ys=upto (fun j=>len-1-j) len)
  (fun pre => ∃k,k≤len∧pre=upto (fun j=>len-1-j) k) len w:=fun l J Jx W hW _ _ hY h0=>by
 have hc':=(hW.cell (p:=⟨Bs,0,none⟩) hBs).trans hc;rcases hI.below hW hb with ⟨rfl,rfl⟩|⟨cap,rfl,hcs⟩
 ·exact(backw_nil_in F n h8 hro l Bs J W hc' h0).mono fun e W' ⟨he,hj⟩=>⟨he,.inl ⟨_,rfl,hj⟩⟩
 ·exact backw_in F n h8 hro hn l Bs b len cap s hreach J Jx hY W hc' hcs h0
end Go.Proofs.YtbapneipjmpcbaaGreatDoor
namespace Go.Proofs.YtbapneipjmpcbaaGreatDoor
namespace Co
open Go.Maps
def lastIx (f:Bs→Bs) (S:List Bs) (pre:List Nat) (nm:Bs):Option Nat:=pre.reverse.find? (fun i=>decide (f (S.getD i [])=nm))
theorem lastIx_snoc (f:Bs→Bs) (S:List Bs) (pre:List Nat) (i:Nat) (nm:Bs):lastIx f S (pre++[i]) nm=if f (S.getD i [])=nm then some i else lastIx f S pre nm:=by
 unfold lastIx;rw[List.reverse_append];show List.find? _ (i::pre.reverse)=_;rw[List.find?_cons];by_cases h:f (S.getD i [])=nm
 ·rw[decide_eq_true h,if_pos h]
 ·rw[decide_eq_false h,if_neg h]
theorem lastIx_lt {f:Bs→Bs} {S:List Bs} {pre:List Nat} {nm:Bs} {j n:Nat} (h:lastIx f S pre nm=some j) (hp : ∀i∈pre,i<n):j<n :=
 hp j (List.mem_reverse.1 (List.mem_of_find?_eq_some h))
variable {H:Type}
def mapD (f:Bs→Bs) (S:List Bs) (pre:List Nat):DataW H:=pre.foldl (fun D i=>D.put (.string (f (S.getD i []))) (.lit (.int .i64 (i:Int)))) (.map [])
theorem mapD_snoc (f:Bs→Bs) (S:List Bs) (pre:List Nat) (i:Nat):mapD (H:=H) f S (pre++[i])=(mapD f S pre).put (.string (f (S.getD i []))) (.lit (.int .i64 (i:Int))):=by simp[mapD]
theorem mapD_isMap (f:Bs→Bs) (S:List Bs) : ∀(pre:List Nat) (D:DataW H),IsMap D→IsMap (pre.foldl (fun D i=>D.put (.string (f (S.getD i []))) (.lit (.int .i64 (i:Int)))) D)
 | [],D,h=>h
 | i::pre,D,h=>mapD_isMap f S pre _ (h.put _ _)
theorem mapD_has (f:Bs→Bs) (S:List Bs) (nm:Bs) : ∀(r:List Nat),has (mapD (H:=H) f S r.reverse) (.string nm)=(lastIx f S r.reverse nm).isSome∧(∀j,lastIx f S r.reverse nm=some j → ∀z,(mapD (H:=H) f S r.reverse).atKey (.string nm) z = .lit (.int .i64 (j:Int)))
 | []=>⟨rfl,fun j h=>by simp[lastIx] at h⟩
 | i::r=>by
   obtain⟨h1,h2⟩:=mapD_has f S nm r;rw[List.reverse_cons,mapD_snoc,lastIx_snoc];have hm:IsMap (mapD (H:=H) f S r.reverse):=mapD_isMap f S _ _ isMap_empty;by_cases e:f (S.getD i [])=nm
   ·rw[if_pos e,e];refine⟨has_put_same (k := .string nm) hm trivial _,fun j hj z => ?_⟩;obtain rfl:i=j:=by simpa using hj
    exact atKey_put_same (k := .string nm) hm trivial _ _
   ·rw[if_neg e];have hne:(Lit.string nm) ≠ .string (f (S.getD i [])):=fun k=>e (by injection k with k;exact k.symm);refine⟨by rw[has_put_other hne];exact h1,fun j hj z=>by rw[atKey_put_other hne];exact h2 j hj z⟩
theorem mapD_has' (f:Bs→Bs) (S:List Bs) (nm:Bs) (pre:List Nat):has (mapD (H:=H) f S pre) (.string nm)=(lastIx f S pre nm).isSome∧(∀j,lastIx f S pre nm=some j → ∀z,(mapD (H:=H) f S pre).atKey (.string nm) z = .lit (.int .i64 (j:Int))):=by
 have:=mapD_has (H:=H) f S nm pre.reverse;rw[List.reverse_reverse] at this;exact this
def foundR (f:Bs→Bs) (S:List Bs):List Nat→Option (Bs×Bs)
 | []=>none
 | i::r=>match r.find? (fun j=>decide (f (S.getD j [])=f (S.getD i []))) with|some j=>some (S.getD i [],S.getD j [])|none=>foundR f S r
def found (f:Bs→Bs) (S:List Bs) (pre:List Nat):Option (Bs×Bs):=foundR f S pre.reverse
theorem found_snoc (f:Bs→Bs) (S:List Bs) (pre:List Nat) (i:Nat):found f S (pre++[i])=match lastIx f S pre (f (S.getD i [])) with|some j=>some (S.getD i [],S.getD j [])|none=>found f S pre:=by
 unfold found lastIx;rw[List.reverse_append];rfl
theorem foundR_back (f:Bs→Bs) (S:List Bs) : ∀r:List Nat,foundR f S r=back f (r.map (fun i=>S.getD i []))
 | []=>rfl
 | i::r=>by
   show(match r.find? (fun j=>decide (f (S.getD j [])=f (S.getD i []))) with|some j=>some (S.getD i [],S.getD j [])|none=>foundR f S r)=_;rw[List.map_cons];show _=(match (r.map (fun i=>S.getD i [])).find? (fun t=>decide (f t=f (S.getD i []))) with|some t=>some (S.getD i [],t)|none=>back f (r.map (fun i=>S.getD i [])))
   rw[List.find?_map,←foundR_back f S r];have e:((fun t=>decide (f t=f (S.getD i [])))∘fun i=>S.getD i [])=(fun j=>decide (f (S.getD j [])=f (S.getD i []))):=rfl;rw[e]
   cases r.find? (fun j=>decide (f (S.getD j [])=f (S.getD i []))) <;> rfl
def down (n:Nat):List Nat:=(List.range n).map (fun j=>n-1-j)
theorem down_rev (n:Nat):(down n).reverse=List.range n:=by
 apply List.ext_getElem
 ·simp[down]
 ·intro i h1 h2;simp[down] at h1 ⊢;omega
theorem found_down (f:Bs→Bs) (S:List Bs):found f S (down S.length)=back f S:=by
 unfold found;rw[down_rev,foundR_back];congr 1;apply List.ext_getElem
 ·simp
 ·intro i h1 h2;simp[List.getD_eq_getElem?_getD,h2]
end Co
end Go.Proofs.YtbapneipjmpcbaaGreatDoor
