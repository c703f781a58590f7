import Derived.Test.YtbapneipjmpcbaaGreatDoorChW
import Derived.Test.YtbapneipjmpcbaaGreatDoorGrd
import Derived.Test.YtbapneipjmpcbaaGreatDoorRows
import Derived.ProofKit
import Derived.LaidMore
import Derived.MakeChecks
import Derived.Test.YtbapneipjmpcbaaGreatDoorFamX
import Derived.Test.YtbapneipjmpcbaaGreatDoorEscW
import Derived.Shelf.Vars
import Derived.Lay
import Derived.Deep.DeepHandedRow
import Derived.Stop.Joined
set_option maxRecDepth 100000
set_option linter.unusedVariables false
set_option linter.unusedSimpArgs false
namespace Go.Proofs.YtbapneipjmpcbaaGreatDoor
open Go.RowKit
theorem ChT_met {W:World} {l:List (String×DataW Unit)} (h:laidMet Tryz.prog l W) (h1:("polyglot/charset.spans",Rows.laid_polyglot_charset_spans)∈l) (h2:("polyglot/charset.sets",Rows.laid_polyglot_charset_sets)∈l):ChT W :=
 ⟨Plain.laid_block (k:=6) (name := "polyglot/charset.spans") (d:=Rows.laid_polyglot_charset_spans) (g:=0) (t:=154) h h1 (by kernel_rfl) (by kernel_rfl) (by kernel_rfl),
  Plain.laid_block (k:=6) (name := "polyglot/charset.sets") (d:=Rows.laid_polyglot_charset_sets) (g:=1) (t:=156) h h2 (by kernel_rfl) (by kernel_rfl) (by kernel_rfl)⟩
theorem LgC_of {W:World} (h:laidMetH Tryz.prog Rows.legalTellsRow.laid W):ChT W:=by
 rw[MakeChecks.laidMetH_plain _ _ _ (by kernel_rfl)] at h;exact ChT_met h (by simp[Rows.legalTellsRow]) (by simp[Rows.legalTellsRow])
theorem LgS_of {W:World} (h:laidMetH Tryz.prog Rows.legalTellsRow.laid W):ShPl W:=by
 rw[MakeChecks.laidMetH_plain _ _ _ (by kernel_rfl)] at h;exact ShPl_met h (by simp[Rows.legalTellsRow]) (by simp[Rows.legalTellsRow])
theorem MxT_of {W:World} (h:W.ShapedOpen Tryz.prog):MxT W:=by
 have hc:=cell_of_shapedOpen_int (g:=2) (zero:=#[.int .i64 0]) (t:=3) h (of_decide_eq_true (by kernel_rfl)) (by kernel_rfl) rfl (by kernel_rfl) (by kernel_rfl) Tryz.underlying3;obtain⟨m,hm⟩:=hc;refine⟨⟨m,hm⟩,?_⟩;unfold World.cell? at hm;split at hm
 ·rename_i hh;exact(Array.getElem?_eq_some_iff.1 hh).1
 ·cases hm
end Go.Proofs.YtbapneipjmpcbaaGreatDoor
namespace Go.Proofs.YtbapneipjmpcbaaGreatDoor
open Go.ChangeShapes Go.WideShapes Go.ChangeAt Go.RowKit
theorem witness_row9 {H:Type} {enc:TypeId×Value→H} {C:Checked} {os:Os} {f:FuncId} {fn:Func} {s:OpenSpec} {conds:List PathCond} {apart:Bool} {laid:List (String×DataW Unit)} (modest:Bool) (w0:World) (args:Array Value) (hos:w0.os=os)
 (hsh:(w0.forCall (fun _ _=>0) ⟨#[],args,[]⟩).Shaped C.prog)
 (hok:Input.okWideB C.prog (w0.forCall (fun _ _=>0) ⟨#[],args,[]⟩) f ⟨#[],args,[]⟩=true)
 (hrow:s.preRow enc C.prog fn conds apart laid (w0.forCall (fun _ _=>0) ⟨#[],args,[]⟩).memory args) :
 ∃(w:World) (tape:Tape) (i:Input),w.os=os∧(w.forCall tape i).Shaped C.prog∧i.vars=[]∧Input.okWide C.prog (w.forCall tape i) .any w.heap.size f i ∧
  s.preRow enc C.prog fn conds apart laid (w.forCall tape i).memory i.args∧({modest:=modest}:Assume).holds C.prog (lone (Frame.enter C.prog f i.args .normal) [] (w.forCall tape i)) :=
 ⟨w0,fun _ _=>0,⟨#[],args,[]⟩,hos,hsh,(Input.okWide_of_okWideB (base:=0) hok).1,(Input.okWide_of_okWideB hok).2,hrow,by
  simp only[Assume.holds];exact⟨by simp,by simp,fun _=>Modest.zero,by simp,by simp⟩⟩
end Go.Proofs.YtbapneipjmpcbaaGreatDoor
