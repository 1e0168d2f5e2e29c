/-
  The first bits of a number of 64 bits.
-/
import Derived.Test.YthammgljcchloaaDoorHalf
import Derived.Test.YthammgljcchloaaDoorBe
import Derived.Test.YthammgljcchloaaDoorPfx
namespace Go.Proofs.YthammgljcchloaaDoor
open Go.RowKit
set_option linter.unusedSimpArgs false
set_option linter.unusedVariables false

/-- x without its last k bits -/
def clr (k x : Nat) : Nat := x / 2 ^ k * 2 ^ k
theorem clr_le (k x : Nat) : clr k x ≤ x := Nat.div_mul_le_self x (2 ^ k)
theorem clr_clr (j k x : Nat) (h : k ≤ j) : clr j (clr k x) = clr j x := by
  obtain ⟨d, rfl⟩ := Nat.exists_eq_add_of_le h
  unfold clr
  rw [Nat.pow_add, ← Nat.div_div_eq_div_mul, Nat.mul_div_cancel _ (Nat.two_pow_pos k), Nat.div_div_eq_div_mul]
theorem clr_zero (x : Nat) : clr 0 x = x := by simp [clr]
theorem clr_all (x : Nat) (h : x < 18446744073709551616) : clr 64 x = 0 := by
  unfold clr; rw [Nat.div_eq_of_lt (by simpa using h), Nat.zero_mul]
theorem clr_eq (k x y : Nat) : clr k x = clr k y ↔ x / 2 ^ k = y / 2 ^ k := by
  unfold clr
  exact ⟨fun h => Nat.eq_of_mul_eq_mul_right (Nat.two_pow_pos k) h, fun h => by rw [h]⟩
theorem and_mask (x k : Nat) (hx : x < 18446744073709551616) (hk : k ≤ 64) : x &&& (18446744073709551616 - 2 ^ k) = clr k x := by
  obtain ⟨d, hd⟩ := Nat.exists_eq_add_of_le hk
  have e : 18446744073709551616 - 2 ^ k = 2 ^ k * (2 ^ d - 1) := by
    rw [Nat.mul_sub, Nat.mul_one, ← Nat.pow_add, ← hd]
  rw [e]
  apply Nat.eq_of_testBit_eq
  intro i
  unfold clr
  rw [Nat.testBit_and, Nat.testBit_two_pow_mul, Nat.mul_comm (x / 2 ^ k), Nat.testBit_two_pow_mul, Nat.testBit_two_pow_sub_one, Nat.testBit_div_two_pow]
  by_cases h : k ≤ i
  · simp only [h, decide_true, Bool.true_and, ge_iff_le]
    rw [show i - k + k = i by omega]
    by_cases h2 : i < 64
    · rw [show decide (i - k < d) = true by simp; omega]; simp
    · have : x.testBit i = false := Nat.testBit_lt_two_pow (Nat.lt_of_lt_of_le hx (by rw [show 18446744073709551616 = 2 ^ 64 from rfl]; exact Nat.pow_le_pow_right (by decide) (by omega)))
      simp [this]
  · simp [show ¬ i ≥ k by omega]

/-- n of the first bits -/
def ones (n : Nat) : Nat := 18446744073709551616 - 2 ^ (64 - n)
theorem ones_lt (n : Nat) : ones n < 18446744073709551616 := by have := Nat.two_pow_pos (64 - n); unfold ones; omega

theorem xor_ones (y : Nat) (hy : y < 18446744073709551616) : 18446744073709551615 ^^^ y = 18446744073709551616 - (y + 1) := by
  apply Nat.eq_of_testBit_eq
  intro i
  rw [Nat.testBit_xor, show 18446744073709551615 = 2 ^ 64 - 1 from rfl, Nat.testBit_two_pow_sub_one, show 18446744073709551616 = 2 ^ 64 from rfl, Nat.testBit_two_pow_sub_succ (by simpa using hy)]
  by_cases h : i < 64
  · simp [h]
  · have : y.testBit i = false := Nat.testBit_lt_two_pow (Nat.lt_of_lt_of_le hy (by rw [show 18446744073709551616 = 2 ^ 64 from rfl]; exact Nat.pow_le_pow_right (by decide) (by omega)))
    simp [h, this]
theorem all_div (n : Nat) (h : n ≤ 64) : 18446744073709551615 / 2 ^ n = 2 ^ (64 - n) - 1 := by
  obtain ⟨d, hd⟩ := Nat.exists_eq_add_of_le h
  rw [show 64 - n = d by omega]
  have e : 2 ^ n * 2 ^ d = 18446744073709551616 := by rw [← Nat.pow_add, ← hd]
  have h1 := Nat.two_pow_pos n
  have h2 := Nat.two_pow_pos d
  apply Nat.div_eq_of_lt_le
  · rw [Nat.sub_mul, Nat.mul_comm (2 ^ d)]; omega
  · rw [Nat.sub_add_cancel h2, Nat.mul_comm]; omega
theorem ones_bits (n : Nat) (h : n ≤ 64) : bits .xor .u64 IntKind.u64.max (18446744073709551615 / 2 ^ n : Int) = (ones n : Int) := by
  have h2 := Nat.two_pow_pos (64 - n)
  have h3 : 2 ^ (64 - n) ≤ 18446744073709551616 := by rw [show 18446744073709551616 = 2 ^ 64 from rfl]; exact Nat.pow_le_pow_right (by decide) (by omega)
  have e1 : (18446744073709551615 / 2 ^ n : Int) = ((18446744073709551615 / 2 ^ n : Nat) : Int) := by simp
  have e2 : IntKind.u64.max = ((18446744073709551615 : Nat) : Int) := by decide
  rw [e1, all_div n h, e2, bits_xor_u64_nat _ _ (by decide) (by omega), xor_ones _ (by omega)]
  unfold ones
  rw [Nat.sub_add_cancel h2]

theorem bits_and_u64_nat (a b : Nat) (ha : a < 18446744073709551616) (hb : b < 18446744073709551616) : bits .and .u64 (a : Int) (b : Int) = ((a &&& b : Nat) : Int) := by
  have hx : a &&& b < 2 ^ 64 := Nat.and_lt_two_pow _ (by omega)
  have h1 : (BitVec.ofInt 64 (a : Int)).toNat = a := by
    rw [BitVec.ofInt_natCast, BitVec.toNat_ofNat]; exact Nat.mod_eq_of_lt (by omega)
  have h2 : (BitVec.ofInt 64 (b : Int)).toNat = b := by
    rw [BitVec.ofInt_natCast, BitVec.toNat_ofNat]; exact Nat.mod_eq_of_lt (by omega)
  show IntKind.u64.wrap ((BitVec.ofInt 64 (a : Int) &&& BitVec.ofInt 64 (b : Int)).toNat : Int) = _
  rw [BitVec.toNat_and, h1, h2]
  simp [IntKind.wrap, IntKind.bits, IntKind.signed]
  omega

set_option maxHeartbeats 1600000 in
set_option maxRecDepth 100000 in
theorem first_bits (n : Nat) (hn64 : n ≤ 64) (w : World) :
    Calls Tryd.prog 53 #[.int .i64 n] w (Ret (.int .u64 (ones n)) w) := by
  go_enter Tryd.func53, Tryd.ntmps53
  go_wp2
  all_goals rw [ones_bits n hn64]
  all_goals go_ret
  all_goals exact ⟨rfl, rfl⟩
end Go.Proofs.YthammgljcchloaaDoor
