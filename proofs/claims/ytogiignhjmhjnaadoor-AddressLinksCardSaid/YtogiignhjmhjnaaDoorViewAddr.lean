/-
  What an argument that is a link address, a number of 16 or of 8 bits gives to the walk.
-/
import Derived.Test.YtogiignhjmhjnaaDoorView
import Derived.Test.YtogiignhjmhjnaaDoorLink
import Derived.Lib.SmallJoins
namespace Go.Proofs.YtogiignhjmhjnaaDoor
open Go.ChangeShapes Go.WideShapes Go.ChangeAt Go.RowKit Go.Joins

theorem lo_u16 {n : Int} (h : (Lit.int .u16 n).wf = true) : 0 ≤ n ∧ n < 65536 := by
  simp [Lit.wf, IntKind.min, IntKind.max, IntKind.bits, IntKind.signed] at h; omega
theorem lo_u8 {n : Int} (h : (Lit.int .u8 n).wf = true) : 0 ≤ n ∧ n < 256 := by
  simp [Lit.wf, IntKind.min, IntKind.max, IntKind.bits, IntKind.signed] at h; omega

section
variable {H : Type} {enc : TypeId × Value → H} {W : World} {base : Nat}
theorem cellsOf_addr : Tryd.prog.cellsOf 53 = 3 := by kernel_rfl

set_option maxRecDepth 100000 in
/-- a link address by value, from its reading -/
theorem view_addr {v : Value} {d : DataW H} {p : List MemPlace} (hval : Value.okWide Tryd.prog W .any base 53 v) (h : DataW.Trod enc Tryd.prog W 0 (fun _ => true) true 53 v d p) :
    ∃ m s e : Int, v = av m s e ∧ I64 m ∧ (0 ≤ s ∧ s < 65536) ∧ U64 e := by
  obtain ⟨c0, c1, c2, y0, y1, y2, m, rfl, rfl, rfl, hy0, hy1, hy2⟩ := open_agg3 Tryd.underlying53 (by kernel_rfl) cellsOf_addr hval h
  obtain ⟨n0, e0, _, w0⟩ := DataW.trod_int Tryd.underlying3 hy0
  obtain ⟨n1, e1, _, w1⟩ := DataW.trod_int Tryd.underlying49 hy1
  obtain ⟨n2, e2, _, w2⟩ := DataW.trod_int Tryd.underlying51 hy2
  simp at e0 e1 e2
  subst e0 e1 e2
  exact ⟨n0, n1, n2, rfl, lo_i64 w0, lo_u16 w1, lo_u64 w2⟩
end
end Go.Proofs.YtogiignhjmhjnaaDoor
