import Derived.Test.YtakandlbphjflaaView
namespace Go.Proofs.Ytakandlbphjflaa
open Go.ChangeShapes Go.WideShapes Go.ChangeAt Go.RowKit Go.Joins

section
variable {H : Type} {enc : TypeId × Value → H} {W : World} {base : Nat}
theorem cellsOf_bits : Try.prog.cellsOf 24 = 2 := by kernel_rfl

/-- a bit string by value, from its reading -/
theorem view_bits {v : Value} {d : DataW H} {p : List MemPlace} (hval : Value.okWide Try.prog W .any base 24 v) (h : DataW.Trod enc Try.prog W 0 (fun _ => true) true 24 v d p)
    (hz : (d.weights Try.prog 24).all (· ≤ reachBytes) = true) :
    ∃ a len cap l n, v = .agg #[.slice a len cap, .int .i64 n] ∧ IsB W a len cap l ∧ cap ≤ 140737488351232 ∧ (Lit.int .i64 n).wf = true := by
  obtain ⟨c0, c1, y0, y1, m, rfl, rfl, rfl, hy0, hy1⟩ := open_agg2 Try.underlying24 (by kernel_rfl) cellsOf_bits hval h
  obtain ⟨n, e1, _, wn⟩ := DataW.trod_int Try.underlying3 hy1
  simp at e1
  subst e1
  obtain ⟨d0, p0⟩ := y0
  have hz0 : (d0.weights Try.prog 22).all (· ≤ reachBytes) = true := by
    rw [List.all_eq_true] at hz ⊢
    intro x hx
    apply hz
    simp only [DataW.weights, Try.underlying24, Array.toList_map, List.map_cons, DataW.weightsEach, List.mem_append]
    exact .inl hx
  obtain ⟨a, len, cap, l, rfl, hI, hc⟩ := view_cells hy0 hz0
  exact ⟨a, len, cap, l, n, rfl, hI, hc, wn⟩
end
end Go.Proofs.Ytakandlbphjflaa
