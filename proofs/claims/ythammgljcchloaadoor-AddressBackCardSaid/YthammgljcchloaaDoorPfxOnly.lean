/-
  Prefixes in blocks that a store elsewhere leaves, and a whole store in a region that draws.
-/
import Derived.Test.YthammgljcchloaaDoorCovers
import Derived.Test.YthammgljcchloaaDoorTape
import Derived.Test.YthammgljcchloaaDoorCommon
import Derived.BigRegion
import Derived.Deep.DeepCutAuto
namespace Go.Proofs.YthammgljcchloaaDoor
open Go.RowKit
set_option linter.unusedSimpArgs false
set_option linter.unusedVariables false

theorem only_cellsP {g : Nat} : ∀ (vs : List Value) (o : Nat) (w0 w : World), Only g w0 w → Only g w0 (w.setCells g o vs)
  | [], _, _, _, h => h
  | v :: r, o, w0, w, h => by
    rw [World.setCells]
    exact only_cellsP r (o + 1) w0 _ (h.trans (Only.set g o w v))
theorem Ry.only {w w' : World} {g k : Nat} {l : List UInt8} (h : Ry w g l) (hO : Only k w w') (hg : g < w.heap.size) (hk : g ≠ k) : Ry w' g l := by
  intro j v hj
  have := h j v hj
  simp only [World.cell?] at this ⊢
  rw [hO.block g hg hk]; exact this
theorem Pr.only {w w' : World} {g k : Nat} {l : List UInt8} {n : Int} (h : Pr w g l n) (hO : Only k w w') (hg : g < w.heap.size) (hk : g ≠ k) : Pr w' g l n := by
  intro j v hj
  have := h j v hj
  simp only [World.cell?] at this ⊢
  rw [hO.block g hg hk]; exact this
theorem Pk.only {w w' : World} {g k : Nat} {l : List UInt8} {n : Int} (h : Pk w g l n) (hO : Only k w w') (hg : g < w.heap.size) (hk : g ≠ k) : Pk w' g l n := by
  unfold Pk; rw [hO.block g hg hk]; exact h
theorem step_store_pfx {ops : Array Oper} {o : Oper} {a : Act} {w : World} {K : Act → World → Prop} {Q : Exit → Act → World → Prop} {E : Prop} {g : Nat} {l0 l : List UInt8} {n0 n : Int} (hgd : o.guard = none) (x y : Operand) (ho : o.op = .store 35 x y)
    (hx : a.eval x = .pointer (some ⟨g, 0, none⟩)) (hy : a.eval y = pv l n) (hK : Pk w g l0 n0) (hl0 : l0.length = 16) (hl : l.length = 16)
    (h : ∀ w', Hid (Pr w' g l n) → Only g w w' → K (a.put o.dst undef) w') :
    if Region.wanted o (yielded ops a.tmps) = true then Oper.wp Tryd.prog o a w K Q else E := by
  have hw : Region.wanted o (yielded ops a.tmps) = true := by simp [Region.wanted, hgd]
  rw [if_pos hw]
  have hlen := length_pl l0 n0 hl0
  have hth : w.there g 0 17 := fun j hj => ⟨by rw [Nat.zero_add, cell_of_row w g j _ _ _ hK]; simp; omega, frozen_of_row w g (0 + j) _ _ hK⟩
  have hsz : ((pl l n).toArray).size = 17 := by simp [length_pl l n hl]
  refine wp_store_mid 35 x y ho g 0 (pl l n).toArray hx (by rw [hy]; rfl) (by rw [hsz]; exact hth) (by rw [hsz]; exact pfx_info) (all_oneCell_toArray (fun v hv => by
    unfold pl at hv; simp at hv; rcases hv with ⟨b, _, rfl⟩ | rfl <;> rfl)) ?_
  exact h _ (hid (World.rangeAt_setCells_same w g 0 _ (by rw [show (pl l n).toArray.toList.length = 17 from by simp [length_pl l n hl]]; exact hth))) (only_cellsP _ _ _ _ (Only.refl g w))
end Go.Proofs.YthammgljcchloaaDoor
