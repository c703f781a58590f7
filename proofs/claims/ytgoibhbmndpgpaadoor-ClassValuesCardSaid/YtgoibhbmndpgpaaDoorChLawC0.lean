/- Plain facts for the law CharsetBytes: kinds of bytes. -/
import Derived.Test.YtgoibhbmndpgpaaDoorChP
set_option maxRecDepth 100000
set_option linter.unusedVariables false
set_option linter.unusedSimpArgs false
namespace Go.Proofs.YtgoibhbmndpgpaaDoor

theorem chbne {x k : Int} (h : ¬ x = k) : (x != k) = true := by simpa using h
namespace Ch
end Ch
end Go.Proofs.YtgoibhbmndpgpaaDoor
