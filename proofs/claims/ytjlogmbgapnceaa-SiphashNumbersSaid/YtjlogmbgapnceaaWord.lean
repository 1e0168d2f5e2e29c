/-
  Words of 64 bits, and what the operations on them give.
-/
import Derived.Test.YtjlogmbgapnceaaLib
namespace Go.Proofs.Ytjlogmbgapnceaa
open Go.RowKit

/-- a word as a value -/
def wv (x : UInt64) : Value := .int .u64 (x.toNat : Int)
def xr (x y : UInt64) : UInt64 := x ^^^ y
def ad (x y : UInt64) : UInt64 := x + y
def ro (x y : UInt64) : UInt64 := x ||| y
/-- x rotated to the left by k bits -/
def rotl (x : UInt64) (k : Nat) : UInt64 := UInt64.ofNat (x.toNat * 2 ^ k % 18446744073709551616 ||| x.toNat / 2 ^ (64 - k))

theorem w_lt (x : UInt64) : x.toNat < 18446744073709551616 := x.toNat_lt

theorem xr_val (x y : UInt64) : bits .xor .u64 (x.toNat : Int) (y.toNat : Int) = ((xr x y).toNat : Int) := by
  rw [bits_xor_u64_nat _ _ (w_lt x) (w_lt y)]; simp [xr]
theorem ro_val (x y : UInt64) : bits .or .u64 (x.toNat : Int) (y.toNat : Int) = ((ro x y).toNat : Int) := by
  rw [bits_or_u64_nat _ _ (w_lt x) (w_lt y)]; simp [ro]
theorem ad_val (x y : UInt64) : IntKind.u64.wrap ((x.toNat : Int) + (y.toNat : Int)) = ((ad x y).toNat : Int) := by
  rw [IntKind.wrap_u64]; simp [ad]

theorem u64_out (n : Int) (h : U64 n) : ∃ x : UInt64, n = (x.toNat : Int) := by
  obtain ⟨h0, h1⟩ := h
  obtain ⟨m, rfl⟩ := Int.eq_ofNat_of_zero_le h0
  exact ⟨UInt64.ofNat m, by simp; omega⟩

theorem rotl_val (x : UInt64) (k : Nat) (hk : k ≤ 64) :
    bits .or .u64 (IntKind.u64.wrap ((x.toNat : Int) * 2 ^ k)) ((x.toNat : Int) / 2 ^ (64 - k)) = ((rotl x k).toNat : Int) := by
  have hx := w_lt x
  have e1 : IntKind.u64.wrap ((x.toNat : Int) * 2 ^ k) = ((x.toNat * 2 ^ k % 18446744073709551616 : Nat) : Int) := by
    rw [IntKind.wrap_u64]; simp
  have e2 : (x.toNat : Int) / 2 ^ (64 - k) = ((x.toNat / 2 ^ (64 - k) : Nat) : Int) := by simp
  have h2 : x.toNat / 2 ^ (64 - k) < 18446744073709551616 := Nat.lt_of_le_of_lt (Nat.div_le_self _ _) hx
  have h1 : x.toNat * 2 ^ k % 18446744073709551616 < 18446744073709551616 := Nat.mod_lt _ (by decide)
  rw [e1, e2, bits_or_u64_nat _ _ h1 h2]
  have h3 := Nat.or_lt_two_pow (n := 64) h1 h2
  simp only [rotl, UInt64.toNat_ofNat']
  rw [Nat.mod_eq_of_lt h3]
end Go.Proofs.Ytjlogmbgapnceaa
