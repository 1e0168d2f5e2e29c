/-
  Keys: sixteen bytes by value, and in a block.
-/
import Derived.Test.YthammgljcchloaaDoorSlices
import Derived.Test.YthammgljcchloaaDoorSlices
import Derived.Deep.MidRow
namespace Go.Proofs.YthammgljcchloaaDoor
open Go.RowKit

/-- a key's bytes by value -/
def iv (l : List UInt8) : Value := .agg (row l)
/-- block g is a key -/
def Ik (w : World) (g : Nat) (l : List UInt8) : Prop := w.heap[g]? = some (.cells (row l) 23 (0, 0))

theorem Ik.lt {w : World} {g : Nat} {l : List UInt8} (h : Ik w g l) : g < w.heap.size := (Array.getElem?_eq_some_iff.1 h).1
theorem Ik.new (w : World) (l : List UInt8) : Ik (w.alloc (.cells (row l) 23)) w.heap.size l := heap_alloc_new w _
theorem Ik.below {w w' : World} {g B : Nat} {l : List UInt8} (h : Ik w g l) (hb : Below B w w') (hg : g < B) : Ik w' g l := by
  unfold Ik; rw [hb.block g hg]; exact h
theorem Ik.cell {w : World} {g : Nat} {l : List UInt8} (h : Ik w g l) (j : Nat) (hj : j < l.length) : w.cell? ⟨g, j, none⟩ = some (.int .u8 (l.getD j 0).toNat) := by
  rw [cell_of_row w g j _ 23 (0, 0) h]
  simp [hj, bv, row, List.getD_eq_getElem?_getD]

/-- a stretch of a key -/
theorem Ik.isB {w : World} {g : Nat} {l : List UInt8} (h : Ik w g l) (i n cap : Nat) (hi : i + n ≤ l.length) (hc : n ≤ cap) (hm : n ≤ 281474976710656) (hcm : cap ≤ 9223372036854775807) :
    IsB w (some ⟨g, i, none⟩) n cap ((l.drop i).take n) := by
  refine ⟨by rw [List.length_take, List.length_drop]; omega, hc, hm, hcm, by simp, fun x hx => ?_⟩
  simp at hx; subst hx
  refine ⟨fun _ => ⟨rfl, h.lt⟩, fun j hj => ?_⟩
  rw [h.cell (i + j) (by omega)]
  congr 3
  rw [List.getD_eq_getElem?_getD, List.getD_eq_getElem?_getD, List.getElem?_take, if_pos hj, List.getElem?_drop]

theorem ip_under : Tryd.prog.underlying 23 = Tryd.prog.underlying 22 := by kernel_rfl
theorem ip_info : (Tryd.prog.info? 23).map (·.size) = some 16 := by kernel_rfl

theorem Ik.range {w : World} {g : Nat} {l : List UInt8} (h : Ik w g l) : w.rangeAt g 0 (l.map bv) := by
  intro j v hv
  rw [cell_of_row w g (0 + j) _ 23 (0, 0) h]
  simpa [row] using hv

/-- a key out of its block -/
theorem Ik.load {w : World} {g : Nat} {l : List UInt8} (h : Ik w g l) (hl : l.length = 16) :
    (Instr.loadAt 23 (.pointer (some ⟨g, 0, none⟩))).run Tryd.prog w = .ok (iv l) w := by
  have := run_loadAt_mid (P := Tryd.prog) w g 0 23 (l.map bv) _ h.range Tryd.underlying23 rfl (by rw [List.length_map, hl]; exact ip_info)
  rw [this]; rfl

/-- a key is loaded, at the list of a plain region's operations -/
theorem wpList_load_ip {ops : Array Oper} {rest : List Oper} {op : Oper} {a : Act} {w : World} {Q : Exit → Act → World → Prop} {g : Nat} {l : List UInt8} (hgd : op.guard = none) (x : Operand) (ho : op.op = .load 23 x)
    (hx : a.eval x = .pointer (some ⟨g, 0, none⟩)) (hK : Ik w g l) (hl : l.length = 16)
    (h : wpList Tryd.prog ops Q rest (a.put op.dst (iv l)) w) : wpList Tryd.prog ops Q (op :: rest) a w :=
  wpList_load_mid hgd 23 x ho g 0 hx (l.map bv) _ hK.range Tryd.underlying23 rfl (by rw [List.length_map, hl]; exact ip_info) h
end Go.Proofs.YthammgljcchloaaDoor
