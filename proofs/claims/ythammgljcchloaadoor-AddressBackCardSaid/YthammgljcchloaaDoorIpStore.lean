/-
  A key is stored whole; a key as a function's result.
-/
import Derived.Test.YthammgljcchloaaDoorIp
namespace Go.Proofs.YthammgljcchloaaDoor
open Go.RowKit

/-- the first cells of block g are a key -/
def Ry (w : World) (g : Nat) (l : List UInt8) : Prop := w.rangeAt g 0 (l.map bv)

theorem below_cells {B g : Nat} {w0 : World} (hg : B ≤ g) : ∀ (vs : List Value) (o : Nat) (w : World), Below B w0 w → Below B w0 (w.setCells g o vs)
  | [], _, _, h => h
  | v :: r, o, w, h => by
    rw [World.setCells]
    exact below_cells hg r (o + 1) _ (h.setCell (p := ⟨g, o, none⟩) hg v)

theorem wpList_store_ip {ops : Array Oper} {rest : List Oper} {op : Oper} {a : Act} {w : World} {Q : Exit → Act → World → Prop} {g : Nat} {l0 l : List UInt8} (hgd : op.guard = none) (x y : Operand) (ho : op.op = .store 23 x y)
    (hx : a.eval x = .pointer (some ⟨g, 0, none⟩)) (hy : a.eval y = iv l) (hK : Ik w g l0) (hl0 : l0.length = 16) (hl : l.length = 16) (B : Nat) (w0 : World) (hB : Below B w0 w) (hg : B ≤ g)
    (h : ∀ w', Hid (Ry w' g l) → Below B w0 w' → wpList Tryd.prog ops Q rest (a.put op.dst undef) w') : wpList Tryd.prog ops Q (op :: rest) a w := by
  have hth : w.there g 0 16 := fun j hj => ⟨by rw [Nat.zero_add, hK.cell j (by omega)]; rfl, frozen_of_row w g (0 + j) _ _ hK⟩
  have hsz : ((l.map bv).toArray).size = 16 := by simp [hl]
  refine wpList_store_mid hgd 23 x y ho g 0 (l.map bv).toArray hx (by rw [hy]; rfl) (by rw [hsz]; exact hth) (by rw [hsz]; exact ip_info) (all_oneCell_toArray (fun v hv => by simp at hv; obtain ⟨b, _, rfl⟩ := hv; rfl)) ?_
  refine h _ (hid ?_) (below_cells hg _ _ _ hB)
  exact World.rangeAt_setCells_same w g 0 _ (by rw [show (l.map bv).toArray.toList.length = 16 from by simp [hl]]; exact hth)

theorem results_ip {fn : Func} {t : Tmp} (hr : fn.results = #[.cell t 23]) {tmps : Array Value} {w : World} {g : Nat} {l : List UInt8} (hp : tmps.getD t undef = .pointer (some ⟨g, 0, none⟩)) (hR : Ry w g l) (hl : l.length = 16) :
    (results fn tmps).run Tryd.prog w = .ok (iv l) w := by
  have hload := run_loadVar_mid (P := Tryd.prog) w g 0 23 (l.map bv) _ hR Tryd.underlying23 rfl (by rw [List.length_map, hl]; exact ip_info)
  unfold results
  rw [hr]
  have hp' : tmps[t]?.getD undef = .pointer (some ⟨g, 0, none⟩) := by simpa using hp
  simp [hp', asAddr, hload]
  rfl

theorem results_ip2 {fn : Func} {t u : Tmp} (hr : fn.results = #[.cell t 23, .tmp u]) {tmps : Array Value} {w : World} {g : Nat} {l : List UInt8} (hp : tmps.getD t undef = .pointer (some ⟨g, 0, none⟩)) (hR : Ry w g l) (hl : l.length = 16) :
    (results fn tmps).run Tryd.prog w = .ok (.tuple #[iv l, tmps.getD u undef]) w := by
  have hload := run_loadVar_mid (P := Tryd.prog) w g 0 23 (l.map bv) _ hR Tryd.underlying23 rfl (by rw [List.length_map, hl]; exact ip_info)
  unfold results
  rw [hr]
  have hp' : tmps[t]?.getD undef = .pointer (some ⟨g, 0, none⟩) := by simpa using hp
  simp [hp', asAddr, hload]
  rfl
end Go.Proofs.YthammgljcchloaaDoor
