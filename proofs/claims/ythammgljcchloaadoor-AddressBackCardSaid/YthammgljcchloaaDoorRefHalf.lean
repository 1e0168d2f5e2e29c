/-
  The reference's Split and IsMulticast.
-/
import Derived.Test.YthammgljcchloaaDoorHalf
import Derived.Test.YthammgljcchloaaDoorBe
import Derived.Test.YthammgljcchloaaDoorIpMore
import Derived.BigQuiet
namespace Go.Proofs.YthammgljcchloaaDoor
open Go.RowKit

theorem uint_take (l : List UInt8) (k : Nat) (hk : k < l.length) : uintOf (l.take (k + 1)) = uintOf (l.take k) * 256 + (l.getD k 0).toNat := by
  have e : l.take (k + 1) = l.take k ++ [l.getD k 0] := by
    rw [List.take_add_one, List.getElem?_eq_getElem hk]
    simp [List.getD_eq_getElem?_getD, hk]
  rw [e, uintOf_append]
  simp [uintOf]
theorem uintOf_take_lt (l : List UInt8) (k : Nat) (hk : k ≤ 7) : uintOf (l.take k) < 72057594037927936 := by
  have h1 := uintOf_lt (l.take k)
  have h2 : (256 : Nat) ^ (l.take k).length ≤ 256 ^ 7 := Nat.pow_le_pow_right (by decide) (by simp; omega)
  omega

set_option maxHeartbeats 3200000 in
set_option maxRecDepth 100000 in
theorem rsplit_any (l : List UInt8) (hz : l.length = 16) (w : World) :
    Calls Tryd.prog 29 #[iv l] w (RetS (.tuple #[.int .u64 (hiOf l), .int .u64 (loOf l)]) w) := by
  have hI := Ik.new w l
  have hB := (Below.refl w.heap.size w).alloc (Nat.le_refl _) (.cells (row l) 23)
  rw [iv]
  go_enter Tryd.func29, Tryd.ntmps29
  go_wp2_with fail
  generalize w.alloc (.cells (row l) 23) = w1 at hI hB ⊢
  go_loopw [4, 5, 6] (fun x y i wr => ∃ k : Nat, k ≤ 8 ∧ i = .int .i64 k ∧ x = .int .u64 (uintOf (l.take k) : Nat) ∧ y = .int .u64 (uintOf ((l.drop 8).take k) : Nat) ∧ Below w1.heap.size w1 wr) (fun _ _ i _ => 8 - (intOf i).toNat)
  case atStart => exact ⟨0, by omega, rfl, rfl, rfl, Below.refl _ _⟩
  case round =>
    obtain ⟨k, hk, rfl, rfl, rfl, hbr⟩ := hrel
    have hIr := hI.below hbr hI.lt
    by_cases hlt : k < 8
    · have z1 := hIr.cell k (by omega)
      have z2 := hIr.cell (8 + k) (by omega)
      have x1 := uintOf_take_lt l k (by omega)
      have x2 := uintOf_take_lt (l.drop 8) k (by omega)
      have e1 := uint_take l k (by omega)
      have e2 := uint_take (l.drop 8) k (by simp; omega)
      have e3 : (l.drop 8).getD k 0 = l.getD (8 + k) 0 := by simp [List.getD_eq_getElem?_getD]
      rw [e3] at e2
      have b1 := (l.getD k 0).toNat_lt
      have b2 := (l.getD (8 + k) 0).toNat_lt
      have E1 := hid e1
      have E2 := hid e2
      clear e1 e2 e3
      generalize (l.getD k 0).toNat = c1 at *
      generalize (l.getD (8 + k) 0).toNat = c2 at *
      generalize uintOf (l.take k) = X at *
      generalize uintOf ((l.drop 8).take k) = Y at *
      go_wp2_with fail
      go_quiet (fail)
      go_wp2_with fail
      go_roundw
      case rel => exact ⟨k + 1, by omega, by go_num, by rw [E1.out]; simp, by rw [E2.out]; simp, below_drewN hbr _⟩
      case measure => simp [intOf]; omega
    · obtain rfl : k = 8 := by omega
      go_wp2_with fail
      go_ret2
      refine ⟨?_, hB.trans (hbr.mono hB.size)⟩
      have e1 : (l.drop 8).take 8 = l.drop 8 := List.take_of_length_le (by simp; omega)
      rw [e1]
      rfl

/-- the first byte is 255 -/
def mcV (l : List UInt8) : Bool := ((l.getD 0 0).toNat : Int) == 255
set_option maxHeartbeats 1600000 in
set_option maxRecDepth 100000 in
theorem rmulti_any (l : List UInt8) (hz : l.length = 16) (w : World) :
    Calls Tryd.prog 35 #[iv l] w (RetS (.bool (mcV l)) w) := by
  have hI := Ik.new w l
  have hB := (Below.refl w.heap.size w).alloc (Nat.le_refl _) (.cells (row l) 23)
  have z1 := hI.cell 0 (by omega)
  rw [iv]
  go_enter Tryd.func35, Tryd.ntmps35
  go_wp2_with fail
  all_goals go_ret
  all_goals refine ⟨ret_bool ?_, hB⟩
  all_goals simp [mcV, List.getD_eq_getElem?_getD, hz]
end Go.Proofs.YthammgljcchloaaDoor
