/-
  What the package-level variables of Go's library hold when a statement's call begins; it stays so.
-/
import Derived.Test.YthammgljcchloaaDoorLib
import Derived.Lib.LaidTab
import Derived.Lib.Tables
import Derived.Lib.ItoaNum
namespace Go.Proofs.YthammgljcchloaaDoor
open Go.RowKit

theorem g_pow : Tryd.prog.globalNamed "internal/strconv.uint64pow10" = some 3 := by kernel_rfl

structure GL (w : World) : Prop where
  m : ∃ m, w.cell? ⟨0, 0, none⟩ = some (.int .i64 m)
  syn : ∃ te pe, w.cell? ⟨1, 0, none⟩ = some (.iface te pe)
  rng : ∃ te pe, w.cell? ⟨2, 0, none⟩ = some (.iface te pe)
  pow : Lib.TabIs Tryd.prog w "internal/strconv.uint64pow10" .u64 Lib.pow10Tab
  four : w.cell? ⟨7, 15, none⟩ = some (.int .u8 4)
  big : 8 ≤ w.heap.size

theorem GL.below {w w' : World} {B : Nat} (h : GL w) (hb : Below B w w') (h8 : 8 ≤ B) : GL w' := by
  refine ⟨?_, ?_, ?_, ?_, ?_, ?_⟩
  · obtain ⟨m, e⟩ := h.m; exact ⟨m, (hb.cell (p := ⟨0, 0, none⟩) (by simp; omega)).trans e⟩
  · obtain ⟨m, n, e⟩ := h.syn; exact ⟨m, n, (hb.cell (p := ⟨1, 0, none⟩) (by simp; omega)).trans e⟩
  · obtain ⟨m, n, e⟩ := h.rng; exact ⟨m, n, (hb.cell (p := ⟨2, 0, none⟩) (by simp; omega)).trans e⟩
  · have h3 := h.pow
    unfold Lib.TabIs World.var? at *
    rw [g_pow] at h3 ⊢
    simp only [Option.bind_some] at h3 ⊢
    rw [hb.block 3 (by omega)]; exact h3
  · exact (hb.cell (p := ⟨7, 15, none⟩) (by simp; omega)).trans h.four
  · exact Nat.le_trans h.big hb.size
theorem GL.on {w w' : World} (h : GL w) (hb : Below w.heap.size w w') : GL w' := h.below hb h.big
end Go.Proofs.YthammgljcchloaaDoor
