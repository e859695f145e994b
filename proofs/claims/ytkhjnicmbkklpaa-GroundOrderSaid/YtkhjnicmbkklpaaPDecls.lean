/-
  What decls of package model answers, at every model that can be read.
-/
import Derived.Test.YtkhjnicmbkklpaaKNum
namespace Go.Proofs.Ytkhjnicmbkklpaa
open Go.RowKit
set_option maxRecDepth 100000

end Go.Proofs.Ytkhjnicmbkklpaa
