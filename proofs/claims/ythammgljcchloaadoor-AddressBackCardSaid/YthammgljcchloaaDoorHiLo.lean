/-
  The two words of an address that is made of two.
-/
import Derived.Test.YthammgljcchloaaDoorHalf
import Derived.Test.YthammgljcchloaaDoorBe
namespace Go.Proofs.YthammgljcchloaaDoor
open Go.RowKit

theorem hi_be (x y : Nat) (hx : x < 18446744073709551616) : hiOf (beBytes x 8 ++ beBytes y 8) = x := by
  unfold hiOf
  rw [show (beBytes x 8 ++ beBytes y 8).take 8 = beBytes x 8 by rw [List.take_append_of_le_length (by rw [length_beBytes]; omega), List.take_of_length_le (by rw [length_beBytes]; omega)], uintOf_be]
  omega
theorem lo_be (x y : Nat) (hy : y < 18446744073709551616) : loOf (beBytes x 8 ++ beBytes y 8) = y := by
  unfold loOf
  rw [show (beBytes x 8 ++ beBytes y 8).drop 8 = beBytes y 8 by rw [List.drop_append_of_le_length (by rw [length_beBytes]; omega), List.drop_of_length_le (by rw [length_beBytes]; omega)]; rfl, uintOf_be]
  omega
end Go.Proofs.YthammgljcchloaaDoor
