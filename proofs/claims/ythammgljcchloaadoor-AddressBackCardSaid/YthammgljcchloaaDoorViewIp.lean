/-
  What an argument that is an array of sixteen bytes gives to the walk.
-/
import Derived.Test.YthammgljcchloaaDoorIp
import Derived.Test.YthammgljcchloaaDoorView
import Derived.WideKeyArr2
namespace Go.Proofs.YthammgljcchloaaDoor
open Go.ChangeShapes Go.WideShapes Go.ChangeAt Go.RowKit Go.Joins

section
variable {H : Type} {enc : TypeId × Value → H} {W : World} {base : Nat}

theorem mapM_ints {P : Program} {e : TypeId} {q : IntKind} {sp : Nat → Bool} {held : Bool} (he : P.underlying e = some (.int q)) {m : Nat} {cs : List Value} {c b0 : Nat} : ∀ (L : List Nat) (xs : List (DataW H × List MemPlace)),
    L.mapM (fun i => DataW.trod enc P W b0 sp held m e ((cs.drop (i * c)).take c)) = some xs →
    ∃ az : List Int, L.map (fun i => (cs.drop (i * c)).take c) = az.map (fun a => [Value.int q a]) ∧ ∀ a ∈ az, (Lit.int q a).wf = true
  | [], xs, h => ⟨[], rfl, by simp⟩
  | i :: L, xs, h => by
    rw [List.mapM_cons] at h
    simp only [bind, Option.bind_eq_some_iff, pure, Option.some.injEq] at h
    obtain ⟨y, hy, ys, hys, rfl⟩ := h
    obtain ⟨az, h1, h2⟩ := mapM_ints he L ys hys
    obtain ⟨a, ea, rfl, wa⟩ := DataW.trod_int he hy
    refine ⟨a :: az, ?_, ?_⟩
    · rw [List.map_cons, List.map_cons, h1, ea]
    · intro x hx
      rcases List.mem_cons.1 hx with rfl | hx
      · exact wa
      · exact h2 x hx

theorem ints_of_singles {q : IntKind} : ∀ (n : Nat) (cs : List Value) (az : List Int), cs.length = n → (List.range n).map (fun i => (cs.drop (i * 1)).take 1) = az.map (fun a => [Value.int q a]) → cs = az.map (Value.int q) := by
  intro n cs az hl h
  have hla : az.length = n := by
    have := congrArg List.length h
    simpa using this.symm
  apply List.ext_getElem
  · simp [hl, hla]
  · intro i h1 h2
    have hi : i < n := by omega
    have := congrArg (fun l => l[i]?) h
    simp [hi, hla] at this
    rw [List.take_one, List.head?_drop, List.getElem?_eq_getElem h1] at this
    simpa using this

theorem ip_arr : Tryd.prog.underlying 23 = some (.array 16 5) := by kernel_rfl
theorem ip_cells : Tryd.prog.cellsOf 23 = 16 := by kernel_rfl
theorem u8_cells : Tryd.prog.cellsOf 5 = 1 := by kernel_rfl

set_option maxRecDepth 100000 in
theorem view_ip {v : Value} {d : DataW H} {p : List MemPlace} (hval : Value.okWide Tryd.prog W .any base 23 v) (h : DataW.Trod enc Tryd.prog W 0 (fun _ => true) true 23 v d p) :
    ∃ l : List UInt8, v = iv l ∧ l.length = 16 := by
  simp only [Value.okWide, ip_arr] at hval
  obtain ⟨xs, rfl, hs, _⟩ := hval
  rw [ip_cells] at hs
  obtain ⟨fuel, hf⟩ := h
  cases fuel with
  | zero => simp [DataW.trod] at hf
  | succ m =>
    rw [DataW.trod_step] at hf
    unfold DataW.trodStep at hf
    simp only [ip_arr, Value.cells] at hf
    rw [if_pos (by rw [ip_cells]; simpa using hs)] at hf
    simp only [Option.map_eq_some_iff] at hf
    obtain ⟨ys, hy, e1⟩ := hf
    rw [u8_cells] at hy
    obtain ⟨az, h1, h2⟩ := mapM_ints Tryd.underlying5 _ ys hy
    have h3 := ints_of_singles 16 xs.toList az (by simpa using hs) h1
    refine ⟨az.map (fun a => UInt8.ofNat a.toNat), ?_, ?_⟩
    · unfold iv row
      congr 1
      apply Array.toList_inj.1
      rw [h3]
      simp only [List.map_map]
      apply List.map_congr_left
      intro a ha
      have := bounds_u8 (h2 a ha)
      simp [bv, UInt8.toNat_ofNat']
      omega
    · have := congrArg List.length h3
      simp [hs] at this
      simp [← this]
end
end Go.Proofs.YthammgljcchloaaDoor
