import Derived.WalkKit
import Derived.WalkLawsBesides
import Derived.Laws.Bits64b
namespace Go.Proofs.Ytakandlbphjflaa
open Go

theorem u64_wrap_nat (a : Nat) : IntKind.u64.wrap (a : Int) = ((a % 18446744073709551616 : Nat) : Int) := by
  rw [IntKind.wrap_u64]; omega

theorem or_add (v x k : Nat) (hx : x < 2 ^ k) : v * 2 ^ k ||| x = v * 2 ^ k + x := by
  have := Nat.shiftLeft_add_eq_or_of_lt hx v
  rw [Nat.shiftLeft_eq] at this
  exact this.symm

theorem or_shl8 (v x : Nat) (hv : v < 72057594037927936) (hx : x < 256) :
    bits .or .u64 (IntKind.u64.wrap ((v : Int) * 256)) (IntKind.u64.wrap (x : Int)) = ((v * 256 + x : Nat) : Int) := by
  have e1 : IntKind.u64.wrap ((v : Int) * 256) = ((v * 256 : Nat) : Int) := by rw [IntKind.wrap_u64]; omega
  have e2 : IntKind.u64.wrap (x : Int) = ((x : Nat) : Int) := by rw [IntKind.wrap_u64]; omega
  rw [e1, e2, bits_or_u64_nat _ _ (by omega) (by omega)]
  congr 1
  exact or_add v x 8 hx

/-- the number whose bytes, the most significant first, are l -/
def uintOf (l : List UInt8) : Nat := l.foldl (fun v x => v * 256 + x.toNat) 0

theorem uintOf_snoc (l : List UInt8) (x : UInt8) : uintOf (l ++ [x]) = uintOf l * 256 + x.toNat := by simp [uintOf]

theorem foldl_bytes_lt : ∀ (l : List UInt8) (a : Nat), l.foldl (fun v x => v * 256 + x.toNat) a < (a + 1) * 256 ^ l.length
  | [], a => by simp
  | x :: l, a => by
    have h := foldl_bytes_lt l (a * 256 + x.toNat)
    have hx := x.toNat_lt
    simp only [List.foldl_cons, List.length_cons, Nat.pow_succ]
    refine Nat.lt_of_lt_of_le h ?_
    have : (a * 256 + x.toNat + 1) * 256 ^ l.length ≤ ((a + 1) * 256) * 256 ^ l.length := Nat.mul_le_mul_right _ (by omega)
    calc _ ≤ _ := this
      _ = _ := by rw [Nat.mul_assoc, Nat.mul_comm 256]

theorem uintOf_lt (l : List UInt8) : uintOf l < 256 ^ l.length := by
  have := foldl_bytes_lt l 0
  simpa [uintOf] using this

theorem take_snoc {α : Type} (l : List α) (d : α) (j : Nat) (h : j < l.length) : l.take (j + 1) = l.take j ++ [l.getD j d] := by
  rw [List.take_succ_eq_append_getElem h]; simp [List.getD_eq_getElem?_getD, h]

theorem uintOf_take (l : List UInt8) (j : Nat) (h : j < l.length) : uintOf (l.take (j + 1)) = uintOf (l.take j) * 256 + (l.getD j 0).toNat := by
  rw [take_snoc l 0 j h, uintOf_snoc]
end Go.Proofs.Ytakandlbphjflaa
