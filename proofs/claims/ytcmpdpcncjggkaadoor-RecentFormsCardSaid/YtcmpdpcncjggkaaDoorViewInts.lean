import Derived.Test.YtcmpdpcncjggkaaDoorView
import Derived.Test.YtcmpdpcncjggkaaDoorTape
namespace Go.Proofs.YtcmpdpcncjggkaaDoor
open Go.ChangeShapes Go.WideShapes Go.ChangeAt Go.RowKit Go.Joins
set_option linter.unusedSimpArgs false
set_option linter.unusedVariables false

section
variable {H : Type} {enc : TypeId × Value → H} {W : World} {base : Nat}
theorem bytesOf_int : Tryd.prog.bytesOf 3 = 8 := by kernel_rfl

set_option maxRecDepth 100000 in
/-- a slice of ints, from its reading -/
theorem view_ints {v : Value} {d : DataW H} {p : List MemPlace} (hval : Value.okWide Tryd.prog W .any base 29 v) (h : DataW.Trod enc Tryd.prog W 0 (fun _ => true) true 29 v d p)
    (hz : (d.weights Tryd.prog 29).all (· ≤ reachBytes) = true) :
    ∃ a len cap, v = .slice a len cap ∧ IsI W a len cap := by
  obtain ⟨a, len, cap, rfl⟩ := okWide_slice Tryd.underlying29 hval
  obtain ⟨fuel, hf⟩ := h
  rcases open_ints Tryd.underlying29 Tryd.underlying3 (by kernel_rfl) hf with ⟨hcs, _⟩ | ⟨x, len', cap', zs, hcs, _, hl, hm, hlen, hd, hc, hwf⟩
  · simp [Value.cells] at hcs
    obtain ⟨rfl, rfl, rfl⟩ := hcs
    exact ⟨none, 0, 0, rfl, Nat.le_refl _, by omega, by omega, fun _ => ⟨rfl, rfl⟩, by simp⟩
  · simp [Value.cells] at hcs
    obtain ⟨rfl, rfl, rfl⟩ := hcs
    simp only [if_true] at hlen
    simp only [Prod.mk.injEq] at hd
    obtain ⟨rfl, _⟩ := hd
    have hcap : cap ≤ 281474976710656 := by
      have h1 := List.all_eq_true.1 hz ((((lits (H := H) .i64 (zs.take len)).length + (lits (H := H) .i64 (zs.drop len)).length)) * Tryd.prog.bytesOf 3) (by simp [DataW.weights, Tryd.underlying29])
      rw [bytesOf_int] at h1
      simp [lits, reachBytes] at h1
      omega
    refine ⟨some x, len, cap, rfl, hl, by omega, by omega, by simp, ?_⟩
    intro y hy
    simp at hy
    subst hy
    refine ⟨fun hcap => ?_, fun j hj => ?_⟩
    · have h0 := hc 0 (by omega)
      have hs := World.cell?_spot h0
      have hb := block_lt_of_cell h0
      simpa [Addr.add] using And.intro hs hb
    · have h0 := hc j (by omega)
      have h00 := World.cell?_spot (hc 0 (by omega))
      have hwfj : (Lit.int .i64 (zs.getD j 0)).wf = true := hwf _ (by
        rw [List.getD_eq_getElem?_getD, List.getElem?_eq_getElem (by omega), Option.getD_some]
        exact List.getElem_mem _)
      refine ⟨zs.getD j 0, ?_, lo_i64 hwfj⟩
      rw [← h0]
      simp [Addr.add] at h00
      by_cases hj0 : j = 0
      · subst hj0; obtain ⟨xb, xo, xs⟩ := x; simp at h00; subst h00; simp [Addr.add]
      · simp [Addr.add, hj0]
end
end Go.Proofs.YtcmpdpcncjggkaaDoor
