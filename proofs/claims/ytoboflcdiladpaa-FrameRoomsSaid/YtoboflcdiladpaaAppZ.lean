/-
  'append(s, make([]byte, k)...)', s the call's own.
-/
import Derived.Test.YtoboflcdiladpaaGrow
import Derived.Lib.AppendZerosOnto
namespace Go.Proofs.Ytoboflcdiladpaa
open Go.RowKit
set_option linter.unusedSimpArgs false
set_option linter.unusedVariables false

theorem appz_none (w : World) (ty : TypeId) : (Builtin.append_ #[29, 3] ty #[.slice none 0 0, .int .i64 0]).run Try.prog w = .ok (.slice none 0 0) w := by
  obtain ⟨i0, hi, hz0, hz1, hz2⟩ := info_parts info5
  have hw : IntKind.i64.wrap 0 = 0 := by decide
  simp [Builtin.append_, run_underlying Try.underlying29, run_underlying Try.underlying3, sizeOf, typeInfo, hi, asInt, asIntOf, hw, storeCells]

theorem run_append_zeros {w : World} {B : Nat} {v : Value} {l : List UInt8} (hG : Gr w B v l) (k : Nat) (ty : TypeId) (hB : B ≤ w.heap.size) (hs : l.length + k ≤ 1000000) :
    ∃ a' c' w', (Builtin.append_ #[29, 3] ty #[v, .int .i64 k]).run Try.prog w = .ok (.slice a' (l.length + k) c') w' ∧ Below B w w' := by
  obtain ⟨i0, hi, hz0, hz1, hz2⟩ := info_parts info5
  have hw : IntKind.i64.wrap (k : Int) = k := by rw [IntKind.wrap_i64]; omega
  rcases hG.2 with ⟨rfl, h0⟩ | ⟨g, cap, cur, rfl, hBg, hh, h1, h2, h3, h4⟩
  · have hl : l = [] := List.eq_nil_of_length_eq_zero h0
    subst hl
    by_cases hk : k = 0
    · subst hk
      exact ⟨none, 0, w, appz_none w ty, Below.refl _ _⟩
    · have hk9 : k ≤ 1000000 := by simpa using hs
      have hfit : Builtin.nextslicecap (0 + k) 0 * i0.bytes ≤ 281474976710656 := by
        have := nextslicecap_le (need := 0 + k) (old := 0) (by omega)
        rw [hz2]; omega
      refine ⟨_, _, _, Lib.run_append_grow_zeros w 29 3 ty 5 i0 (.int .u8 0) .i64 .i64 Try.underlying29 Try.underlying3 hi hz0 none 0 0 [] (run_firstCells_none _ _ _ _ _) k (by omega) (by omega) (by omega) (by omega) (by rw [hz2]; omega) hfit, ?_⟩
      exact ((Below.refl w.heap.size w).drew.mono hB).alloc (by simpa using hB) _
  · have hsz : cur.size = cap := by rw [h3]; omega
    have hglt : g < w.heap.size := (Array.getElem?_eq_some_iff.1 hh).1
    by_cases hroom : l.length + k ≤ cap
    · by_cases hk : k = 0
      · subst hk
        refine ⟨some ⟨g, 0, none⟩, cap, w, ?_, Below.refl _ _⟩
        have hr0 : l.length ≤ cap := by omega
        have hw0 : IntKind.i64.wrap 0 = 0 := by decide
        simp [hw0, Builtin.append_, run_underlying Try.underlying29, run_underlying Try.underlying3, sizeOf, typeInfo, hi, asInt, asIntOf, hr0, storeCells]
      · have hzl : (Builtin.zeroCells (Value.int .u8 0).cells k).toList.length = k := by
          rw [Array.length_toList, size_zeroCells]; simp [Value.cells]
        have hz9 : ∀ v ∈ (Builtin.zeroCells (Value.int .u8 0).cells k).toList, v.oneCell' = true := by
          intro v hv
          simp [Builtin.zeroCells, Value.cells] at hv
          obtain ⟨q, _, rfl⟩ := hv
          simp [Nat.mod_one, Value.oneCell']
        have hst := run_storeCells_at Try.prog g (l.length * 1) 5 (Builtin.zeroCells (Value.int .u8 0).cells k).toList 0 cur w hh (by rw [hzl]; omega) hz9
        simp only [Nat.add_zero, Nat.mul_one] at hst
        obtain ⟨Z, hZ⟩ : ∃ Z, Z = (Builtin.zeroCells (Value.int .u8 0).cells k).toList := ⟨_, rfl⟩
        rw [← hZ] at hst
        refine ⟨some ⟨g, 0, none⟩, cap, w.setRow g (cur.toList.take l.length ++ Z ++ cur.toList.drop (l.length + Z.length)).toArray, ?_, below_setRow (Below.refl _ _) hBg _⟩
        · have hneg : ¬ ((k : Int) < 0) := by omega
          have h48 : ¬ (281474976710656 < (k : Int) * (i0.bytes : Int)) := by rw [hz2]; omega
          have hns : ¬ (k * i0.size = 0) := by rw [hz1]; omega
          simp [Builtin.append_, run_underlying Try.underlying29, run_underlying Try.underlying3, sizeOf, typeInfo, zeroValue, hi, hz0, hz1, hz2, asInt, asIntOf, hw, hneg, h48, hk, hroom, Addr.add_lit, ← hZ, hst]
          intro hbig; omega
    · have holds : ∀ j u, (l.map bv)[j]? = some u → w.drew.cell? ((⟨g, 0, none⟩ : Addr).add j) = some u := hG.cells (g := g) rfl
      have hold := run_firstCells_some (P := Try.prog) w.drew i0.size l.length ⟨g, 0, none⟩ l.length cap (l.map bv) (by rw [hz1]; simp) holds
      have hfit : Builtin.nextslicecap (l.length + k) cap * i0.bytes ≤ 281474976710656 := by
        have := nextslicecap_le (need := l.length + k) (old := cap) (by omega)
        rw [hz2]; omega
      refine ⟨_, _, _, Lib.run_append_grow_zeros w 29 3 ty 5 i0 (.int .u8 0) .i64 .i64 Try.underlying29 Try.underlying3 hi hz0 (some ⟨g, 0, none⟩) l.length cap (l.map bv) hold k (by omega) (by omega) (by omega) (by omega) (by rw [hz2]; omega) hfit, ?_⟩
      exact ((Below.refl w.heap.size w).drew.mono hB).alloc (by simpa using hB) _
end Go.Proofs.Ytoboflcdiladpaa
