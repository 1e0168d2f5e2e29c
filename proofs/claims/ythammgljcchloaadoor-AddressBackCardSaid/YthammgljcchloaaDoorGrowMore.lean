/-
  An empty slice literal that is appended to; what an appended slice looks like.
-/
import Derived.Test.YthammgljcchloaaDoorGrow
namespace Go.Proofs.YthammgljcchloaaDoor
open Go.RowKit

theorem Gr.form {w : World} {B : Nat} {v : Value} {l : List UInt8} (h : Gr w B v l) : ∃ a cap, v = .slice a l.length cap := by
  rcases h.2 with ⟨rfl, h0⟩ | ⟨g, cap, cur, rfl, _⟩
  · have hl : l = [] := List.eq_nil_of_length_eq_zero h0
    subst hl; exact ⟨_, _, rfl⟩
  · exact ⟨_, _, rfl⟩

/-- '[]byte{}' -/
theorem gr_new (w : World) (B : Nat) (hB : B ≤ w.heap.size) : Gr (w.alloc (.cells #[] 5)) B (.slice (some ⟨w.heap.size, 0, none⟩) 0 0) [] :=
  ⟨rfl, .inr ⟨w.heap.size, 0, #[], rfl, hB, heap_alloc_new w _, Nat.le_refl _, by unfold maxLen; omega, rfl, rfl⟩⟩
end Go.Proofs.YthammgljcchloaaDoor
