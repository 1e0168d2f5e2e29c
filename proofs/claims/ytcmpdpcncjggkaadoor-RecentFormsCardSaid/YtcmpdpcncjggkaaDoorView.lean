/-
  WHAT AN ARGUMENT OF A STATEMENT GIVES TO THE WALK, by its type.
-/
import Derived.Test.YtcmpdpcncjggkaaDoorLib
import Derived.SizedLaws
import Derived.Lib.SmallJoins
namespace Go.Proofs.YtcmpdpcncjggkaaDoor
open Go.ChangeShapes Go.WideShapes Go.ChangeAt Go.RowKit Go.Joins
set_option linter.unusedSimpArgs false
set_option linter.unusedVariables false
open Go.ChangeMaps (open_string shut_string)

section
variable {H : Type} {enc : TypeId × Value → H} {W : World} {base : Nat}

/-- what an argument weighs is within the reach -/
theorem weighs {P : Program} {ts : List TypeId} {ds : List (DataW H)} (h : (DataW.weightsEach P ts ds).all (· ≤ reachBytes) = true) (j : Nat) {t : TypeId} {d : DataW H} (ht : ts[j]? = some t) (hd : ds[j]? = some d) :
    (d.weights P t).all (· ≤ reachBytes) = true := by
  rw [List.all_eq_true] at h ⊢
  exact fun n hn => h n (DataW.weights_mem_each ht hd n hn)

theorem bytesOf_u8 : Tryd.prog.bytesOf 5 = 1 := by kernel_rfl

/-- a slice of bytes, from its reading -/
theorem view_cells {fuel : Nat} {v : Value} {d : DataW H} {p : List MemPlace} (hf : DataW.trod enc Tryd.prog W 0 (fun _ => true) true fuel 46 [v] = some (d, p))
    (hz : (d.weights Tryd.prog 46).all (· ≤ reachBytes) = true) :
    ∃ a len cap l, v = .slice a len cap ∧ IsB W a len cap l ∧ cap ≤ 140737488351232 := by
  rcases open_ints Tryd.underlying46 Tryd.underlying5 (by kernel_rfl) hf with ⟨hcs, _⟩ | ⟨x, len, cap, zs, hcs, _, hl, hm, hlen, hd, hc, hwf⟩
  · simp at hcs
    subst hcs
    exact ⟨none, 0, 0, [], rfl, ⟨rfl, Nat.le_refl _, by omega, by omega, fun _ => ⟨rfl, rfl⟩, by simp⟩, by omega⟩
  · simp at hcs
    subst hcs
    simp only [if_true] at hlen
    simp only [Prod.mk.injEq] at hd
    obtain ⟨rfl, _⟩ := hd
    have hcap : cap ≤ 140737488351232 := by
      have h1 := List.all_eq_true.1 hz ((((lits (H := H) .u8 (zs.take len)).length + (lits (H := H) .u8 (zs.drop len)).length)) * Tryd.prog.bytesOf 5) (by simp [DataW.weights, Tryd.underlying46])
      rw [bytesOf_u8] at h1
      simp [lits, reachBytes] at h1
      omega
    refine ⟨some x, len, cap, (zs.take len).map (fun z => UInt8.ofNat z.toNat), rfl, ⟨by simp; omega, hl, by omega, by omega, by simp, ?_⟩, hcap⟩
    intro y hy
    simp at hy
    subst hy
    refine ⟨fun hcap => ?_, fun j hj => ?_⟩
    · have h0 := hc 0 (by omega)
      have hs := World.cell?_spot h0
      have hb := block_lt_of_cell h0
      simpa [Addr.add] using And.intro hs hb
    · have h0 := hc j (by omega)
      have h00 := World.cell?_spot (hc 0 (by omega))
      have hwfj : (Lit.int .u8 (zs.getD j 0)).wf = true := hwf _ (by
        rw [List.getD_eq_getElem?_getD, List.getElem?_eq_getElem (by omega), Option.getD_some]
        exact List.getElem_mem _)
      have hbd := bounds_u8 hwfj
      have e : ((((zs.take len).map (fun z => UInt8.ofNat z.toNat)).getD j 0).toNat : Int) = zs.getD j 0 := by
        simp only [List.getD_eq_getElem?_getD] at hbd ⊢
        rw [List.getElem?_eq_getElem (show j < zs.length by omega)] at hbd ⊢
        simp only [Option.getD_some] at hbd ⊢
        simp [hj, List.getElem?_take, List.getElem?_eq_getElem (show j < zs.length by omega), UInt8.toNat_ofNat']
        omega
      rw [e, ← h0]
      simp [Addr.add] at h00
      by_cases hj0 : j = 0
      · subst hj0; obtain ⟨xb, xo, xs⟩ := x; simp at h00; subst h00; simp [Addr.add]
      · simp [Addr.add, hj0]

set_option maxRecDepth 100000 in
theorem view_bytes {v : Value} {d : DataW H} {p : List MemPlace} (hval : Value.okWide Tryd.prog W .any base 46 v) (h : DataW.Trod enc Tryd.prog W 0 (fun _ => true) true 46 v d p)
    (hz : (d.weights Tryd.prog 46).all (· ≤ reachBytes) = true) :
    ∃ a len cap l, v = .slice a len cap ∧ IsB W a len cap l ∧ cap ≤ 140737488351232 := by
  obtain ⟨a, len, cap, rfl⟩ := okWide_slice Tryd.underlying46 hval
  obtain ⟨fuel, hf⟩ := h
  exact view_cells (by simpa [Value.cells] using hf) hz

theorem view_string {P : Program} {t : TypeId} {v : Value} {d : DataW H} {p : List MemPlace} (ht : P.underlying t = some .string) (hval : Value.okWide P W .any base t v) (h : DataW.Trod enc P W 0 (fun _ => true) true t v d p)
    (hz : (d.weights P t).all (· ≤ reachBytes) = true) :
    ∃ s : ByteArray, v = .string s ∧ s.size ≤ 140737488351232 := by
  obtain ⟨s, rfl, rfl, rfl, _⟩ := open_string ht hval h
  refine ⟨s, rfl, ?_⟩
  have h1 := List.all_eq_true.1 hz s.data.toList.length (by simp [DataW.weights])
  have e : s.data.toList.length = s.size := by rw [Array.length_toList]; rfl
  rw [e] at h1
  exact Nat.le_trans (of_decide_eq_true h1) (by decide)

theorem view_int {P : Program} {t : TypeId} {k : IntKind} {v : Value} {d : DataW H} {p : List MemPlace} (ht : P.underlying t = some (.int k)) (hval : Value.okWide P W .any base t v) (h : DataW.Trod enc P W 0 (fun _ => true) true t v d p) :
    ∃ n, v = .int k n ∧ (Lit.int k n).wf = true := by
  obtain ⟨n, rfl, rfl, rfl, wn⟩ := open_int ht hval h
  exact ⟨n, rfl, wn⟩

theorem view_bool {P : Program} {t : TypeId} {v : Value} {d : DataW H} {p : List MemPlace} (ht : P.underlying t = some .bool) (hval : Value.okWide P W .any base t v) (h : DataW.Trod enc P W 0 (fun _ => true) true t v d p) :
    ∃ b, v = .bool b := by
  obtain ⟨b, rfl, rfl, rfl⟩ := open_bool ht hval h
  exact ⟨b, rfl⟩

theorem lo_i64 {n : Int} (h : (Lit.int .i64 n).wf = true) : I64 n := by have := bounds_i64 h; exact ⟨by omega, by omega⟩
theorem lo_u64 {n : Int} (h : (Lit.int .u64 n).wf = true) : U64 n := by have := bounds_u64 h; exact ⟨by omega, by omega⟩
end
end Go.Proofs.YtcmpdpcncjggkaaDoor
