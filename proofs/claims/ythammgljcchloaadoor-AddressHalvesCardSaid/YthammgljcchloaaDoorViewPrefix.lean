/-
  What an argument that is a prefix gives to the walk.
-/
import Derived.Test.YthammgljcchloaaDoorViewIp
import Derived.Test.YthammgljcchloaaDoorPfx
import Derived.ChangeSame
namespace Go.Proofs.YthammgljcchloaaDoor
open Go.ChangeShapes Go.WideShapes Go.ChangeAt Go.RowKit Go.Joins

section
variable {H : Type} {enc : TypeId × Value → H} {W : World} {base : Nat}
theorem pfx_cells : Tryd.prog.cellsOf 35 = 17 := by kernel_rfl
theorem int_cells : Tryd.prog.cellsOf 3 = 1 := by kernel_rfl

set_option maxRecDepth 100000 in
/-- sixteen cells that read as an address -/
theorem ip_of_trod {cs : List Value} {x : DataW H × List MemPlace} {fuel : Nat} (hf : DataW.trod enc Tryd.prog W 0 (fun _ => true) true fuel 23 cs = some x) (hs : cs.length = 16) :
    ∃ l : List UInt8, cs = l.map bv ∧ l.length = 16 := by
  cases fuel with
  | zero => simp [DataW.trod] at hf
  | succ m =>
    rw [DataW.trod_step] at hf
    unfold DataW.trodStep at hf
    simp only [ip_arr] at hf
    rw [if_pos (by rw [ip_cells]; exact hs)] at hf
    simp only [Option.map_eq_some_iff] at hf
    obtain ⟨ys, hy, e1⟩ := hf
    rw [u8_cells] at hy
    obtain ⟨az, h1, h2⟩ := mapM_ints Tryd.underlying5 _ ys hy
    have h3 := ints_of_singles 16 cs az hs h1
    refine ⟨az.map (fun a => UInt8.ofNat a.toNat), ?_, ?_⟩
    · rw [h3]
      simp only [List.map_map]
      apply List.map_congr_left
      intro a ha
      have := bounds_u8 (h2 a ha)
      simp [bv, UInt8.toNat_ofNat']
      omega
    · have := congrArg List.length h3
      simp [hs] at this
      simp [← this]

set_option maxRecDepth 100000 in
/-- a prefix by value, from its reading -/
theorem view_prefix {v : Value} {d : DataW H} {p : List MemPlace} (hval : Value.okWide Tryd.prog W .any base 35 v) (h : DataW.Trod enc Tryd.prog W 0 (fun _ => true) true 35 v d p) :
    ∃ (l : List UInt8) (n : Int), v = pv l n ∧ l.length = 16 ∧ I64 n := by
  obtain ⟨cs, rfl, hsz⟩ := okWide_struct Tryd.underlying35 hval
  rw [pfx_cells] at hsz
  obtain ⟨fuel, hf⟩ := h
  obtain ⟨y0, y1, n, hx, _, h0, h1⟩ := trod_struct2 Tryd.underlying35 hf
  simp only [Value.cells] at h0 h1
  rw [ip_cells] at h0
  rw [int_cells] at h1
  obtain ⟨l, hl, hl16⟩ := ip_of_trod h0 (by simp; omega)
  obtain ⟨k, e1, _, w1⟩ := DataW.trod_int Tryd.underlying3 h1
  refine ⟨l, k, ?_, hl16, lo_i64 w1⟩
  unfold pv pl
  congr 1
  apply Array.toList_inj.1
  show cs.toList = l.map bv ++ [Value.int .i64 k]
  rw [← hl, ← e1]
  rw [show List.take 1 (List.drop 16 cs.toList) = List.drop 16 cs.toList from List.take_of_length_le (by simp; omega), List.drop_zero, List.take_append_drop]
end
end Go.Proofs.YthammgljcchloaaDoor
