import Derived.Test.YthammgljcchloaaDoorAppend
namespace Go.Proofs.YthammgljcchloaaDoor
open Go.RowKit

theorem uintOf_append (l m : List UInt8) : uintOf (l ++ m) = uintOf l * 256 ^ m.length + uintOf m := by
  have gen : ∀ (m : List UInt8) (a : Nat), m.foldl (fun v x => v * 256 + x.toNat) a = a * 256 ^ m.length + uintOf m := by
    intro m
    induction m with
    | nil => intro a; simp [uintOf]
    | cons x m ih =>
      intro a
      simp only [List.foldl_cons, List.length_cons, uintOf]
      rw [ih, ih (0 * 256 + x.toNat), Nat.pow_succ, Nat.add_mul, Nat.zero_mul, Nat.zero_add, Nat.mul_assoc, Nat.mul_comm 256, Nat.add_assoc]
  unfold uintOf
  rw [List.foldl_append, gen]
  rfl

theorem uintOf_be (v : Nat) : ∀ n, uintOf (beBytes v n) = v % 256 ^ n
  | 0 => by simp [beBytes, uintOf, Nat.mod_one]
  | n + 1 => by
    have e : beBytes v (n + 1) = UInt8.ofNat (v / 256 ^ n) :: beBytes v n := by
      simp only [beBytes, List.range_succ_eq_map, List.map_cons, List.map_map]
      congr 1
      · simp [beByte, Nat.pow_mul]
      · apply List.map_congr_left
        intro i hi
        simp at hi
        simp [beByte]
        congr 3
        omega
    rw [e, show UInt8.ofNat (v / 256 ^ n) :: beBytes v n = [UInt8.ofNat (v / 256 ^ n)] ++ beBytes v n from rfl, uintOf_append, uintOf_be v n, length_beBytes]
    have h1 : uintOf [UInt8.ofNat (v / 256 ^ n)] = v / 256 ^ n % 256 := by simp [uintOf, UInt8.toNat_ofNat']
    rw [h1, Nat.pow_succ, Nat.mod_mul, Nat.add_comm, Nat.mul_comm]

/-- the low n bytes of a word, by two shifts -/
theorem shl_shr (v k : Nat) (hk : k ≤ 64) : (v * 2 ^ (64 - k) % 18446744073709551616) / 2 ^ (64 - k) = v % 2 ^ k := by
  have e : 18446744073709551616 = 2 ^ k * 2 ^ (64 - k) := by rw [← Nat.pow_add, show k + (64 - k) = 64 from by omega]
  rw [e, Nat.mul_mod_mul_right, Nat.mul_div_cancel _ (Nat.two_pow_pos _)]

end Go.Proofs.YthammgljcchloaaDoor
