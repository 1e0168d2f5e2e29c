/-
  Addresses in cells: loads out of what was stored whole.
-/
import Derived.Test.YthammgljcchloaaDoorIpCopy
namespace Go.Proofs.YthammgljcchloaaDoor
open Go.RowKit

theorem Ik.ry {w : World} {g : Nat} {l : List UInt8} (h : Ik w g l) : Ry w g l := h.range
theorem Ry.below {w w' : World} {g B : Nat} {l : List UInt8} (h : Ry w g l) (hb : Below B w w') (hg : g < B) : Ry w' g l := by
  intro j v hj
  rw [hb.cell (p := ⟨g, 0 + j, none⟩) hg]; exact h j v hj
theorem wpList_load_ry {ops : Array Oper} {rest : List Oper} {op : Oper} {a : Act} {w : World} {Q : Exit → Act → World → Prop} {g : Nat} {l : List UInt8} (hgd : op.guard = none) (x : Operand) (ho : op.op = .load 23 x)
    (hx : a.eval x = .pointer (some ⟨g, 0, none⟩)) (hK : Ry w g l) (hl : l.length = 16)
    (h : wpList Tryd.prog ops Q rest (a.put op.dst (iv l)) w) : wpList Tryd.prog ops Q (op :: rest) a w :=
  wpList_load_mid hgd 23 x ho g 0 hx (l.map bv) _ hK Tryd.underlying23 rfl (by rw [List.length_map, hl]; exact ip_info) h
theorem wpList_load_ry_on {ops : Array Oper} {rest : List Oper} {op : Oper} {a : Act} {w : World} {Q : Exit → Act → World → Prop} {g : Nat} {l : List UInt8} (hw : Region.wanted op (yielded ops a.tmps) = true) (x : Operand) (ho : op.op = .load 23 x)
    (hx : a.eval x = .pointer (some ⟨g, 0, none⟩)) (hK : Ry w g l) (hl : l.length = 16)
    (h : wpList Tryd.prog ops Q rest (a.put op.dst (iv l)) w) : wpList Tryd.prog ops Q (op :: rest) a w := by
  unfold wpList
  rw [if_pos hw]
  exact .inl (wp_load_mid 23 x ho g 0 hx (l.map bv) _ hK Tryd.underlying23 rfl (by rw [List.length_map, hl]; exact ip_info) h)
end Go.Proofs.YthammgljcchloaaDoor
