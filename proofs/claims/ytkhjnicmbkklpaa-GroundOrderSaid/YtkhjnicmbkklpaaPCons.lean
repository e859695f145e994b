/-
  What wrong of package model answers, and its look con, at every model that can be read and whose lists are short.
-/
import Derived.Test.YtkhjnicmbkklpaaPLook
namespace Go.Proofs.Ytkhjnicmbkklpaa
open Go.RowKit
set_option maxRecDepth 100000

theorem short_150 {c : PCon} (h : Short 1000 c) : Short 1000 c := h
end Go.Proofs.Ytkhjnicmbkklpaa
