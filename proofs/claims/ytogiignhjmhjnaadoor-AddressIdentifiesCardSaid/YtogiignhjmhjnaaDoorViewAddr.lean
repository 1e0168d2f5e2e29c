/-
  What an argument that is a link address, a number of 16 or of 8 bits gives to the walk.
-/
import Derived.Test.YtogiignhjmhjnaaDoorView
import Derived.Test.YtogiignhjmhjnaaDoorLink
namespace Go.Proofs.YtogiignhjmhjnaaDoor
open Go.ChangeShapes Go.WideShapes Go.ChangeAt Go.RowKit Go.Joins

theorem lo_u16 {n : Int} (h : (Lit.int .u16 n).wf = true) : 0 ≤ n ∧ n < 65536 := by
  simp [Lit.wf, IntKind.min, IntKind.max, IntKind.bits, IntKind.signed] at h; omega
theorem lo_u8 {n : Int} (h : (Lit.int .u8 n).wf = true) : 0 ≤ n ∧ n < 256 := by
  simp [Lit.wf, IntKind.min, IntKind.max, IntKind.bits, IntKind.signed] at h; omega
end Go.Proofs.YtogiignhjmhjnaaDoor
