import Derived.WalkKit
import Derived.WalkLawsBesides
import Derived.Laws.Bits64b
namespace Go.Proofs.YtcmpdpcncjggkaaDoor
open Go

theorem u64_wrap_nat (a : Nat) : IntKind.u64.wrap (a : Int) = ((a % 18446744073709551616 : Nat) : Int) := by
  rw [IntKind.wrap_u64]; omega

theorem or_add (v x k : Nat) (hx : x < 2 ^ k) : v * 2 ^ k ||| x = v * 2 ^ k + x := by
  have := Nat.shiftLeft_add_eq_or_of_lt hx v
  rw [Nat.shiftLeft_eq] at this
  exact this.symm

theorem bits_and_u8_nat (a b : Nat) (ha : a < 256) (hb : b < 256) : bits .and .u8 (a : Int) (b : Int) = ((a &&& b : Nat) : Int) := by
  have hx : a &&& b < 2 ^ 8 := Nat.and_lt_two_pow _ (by omega)
  have h1 : (BitVec.ofInt 8 (a : Int)).toNat = a := by
    rw [BitVec.ofInt_natCast, BitVec.toNat_ofNat]; exact Nat.mod_eq_of_lt (by omega)
  have h2 : (BitVec.ofInt 8 (b : Int)).toNat = b := by
    rw [BitVec.ofInt_natCast, BitVec.toNat_ofNat]; exact Nat.mod_eq_of_lt (by omega)
  show IntKind.u8.wrap ((BitVec.ofInt 8 (a : Int) &&& BitVec.ofInt 8 (b : Int)).toNat : Int) = _
  rw [BitVec.toNat_and, h1, h2]
  simp [IntKind.wrap, IntKind.bits, IntKind.signed]
  omega

theorem bits_or_u8_nat (a b : Nat) (ha : a < 256) (hb : b < 256) : bits .or .u8 (a : Int) (b : Int) = ((a ||| b : Nat) : Int) := by
  have hx : a ||| b < 2 ^ 8 := Nat.or_lt_two_pow (by omega) (by omega)
  have h1 : (BitVec.ofInt 8 (a : Int)).toNat = a := by
    rw [BitVec.ofInt_natCast, BitVec.toNat_ofNat]; exact Nat.mod_eq_of_lt (by omega)
  have h2 : (BitVec.ofInt 8 (b : Int)).toNat = b := by
    rw [BitVec.ofInt_natCast, BitVec.toNat_ofNat]; exact Nat.mod_eq_of_lt (by omega)
  show IntKind.u8.wrap ((BitVec.ofInt 8 (a : Int) ||| BitVec.ofInt 8 (b : Int)).toNat : Int) = _
  rw [BitVec.toNat_or, h1, h2]
  simp [IntKind.wrap, IntKind.bits, IntKind.signed]
  omega

/-- 'x >> m & 1' of a byte -/
theorem u8_bit (x : UInt8) (m : Nat) : bits .and .u8 ((x.toNat : Int) / 2 ^ m) 1 = ((x.toNat / 2 ^ m % 2 : Nat) : Int) := by
  have h := bits_and_u8_nat (x.toNat / 2 ^ m) 1 (Nat.lt_of_le_of_lt (Nat.div_le_self _ _) x.toNat_lt) (by decide)
  rw [Nat.and_one_is_mod] at h
  rw [← h]
  simp

/-- 'uint64(x >> m) & 1' of a byte -/
theorem u64_bit (x : UInt8) (m : Nat) : bits .and .u64 (IntKind.u64.wrap ((x.toNat : Int) / 2 ^ m)) 1 = ((x.toNat / 2 ^ m % 2 : Nat) : Int) := by
  have hx : x.toNat / 2 ^ m < 256 := Nat.lt_of_le_of_lt (Nat.div_le_self _ _) x.toNat_lt
  have e : (x.toNat : Int) / 2 ^ m = ((x.toNat / 2 ^ m : Nat) : Int) := by simp
  have h := bits_and_u64_nat (x.toNat / 2 ^ m) 1 (by omega) (by decide)
  rw [Nat.and_one_is_mod] at h
  rw [← h, e, u64_wrap_nat, Nat.mod_eq_of_lt (by omega)]
  simp

/-- 'v >> m & 1' of a word -/
theorem word_bit (v m : Nat) (hv : v < 18446744073709551616) : bits .and .u64 ((v : Int) / 2 ^ m) 1 = ((v / 2 ^ m % 2 : Nat) : Int) := by
  have h := bits_and_u64_nat (v / 2 ^ m) 1 (Nat.lt_of_le_of_lt (Nat.div_le_self _ _) hv) (by decide)
  rw [Nat.and_one_is_mod] at h
  rw [← h]
  simp

theorem bit_shl_lt (b s : Nat) (hb : b < 2) (hs : s ≤ 7) : b * 2 ^ s < 256 := by
  have h : 2 ^ s ≤ 2 ^ 7 := Nat.pow_le_pow_right (by decide) hs
  have : b * 2 ^ s ≤ 1 * 2 ^ 7 := Nat.mul_le_mul (by omega) h
  omega

/-- 'x | byte(v >> m & 1) << s' -/
theorem or_bit (x : UInt8) (v m s : Nat) (hv : v < 18446744073709551616) (hs : s ≤ 7) :
    bits .or .u8 (x.toNat : Int) (bits .and .u64 ((v : Int) / 2 ^ m) 1 % 256 * 2 ^ s % 256) = ((UInt8.ofNat (x.toNat ||| v / 2 ^ m % 2 * 2 ^ s)).toNat : Int) := by
  have hb : v / 2 ^ m % 2 < 2 := Nat.mod_lt _ (by decide)
  have h2 := bit_shl_lt _ s hb hs
  have e : bits .and .u64 ((v : Int) / 2 ^ m) 1 % 256 * 2 ^ s % 256 = ((v / 2 ^ m % 2 * 2 ^ s : Nat) : Int) := by
    rw [word_bit v m hv, show (((v / 2 ^ m % 2 : Nat) : Int) % 256) = ((v / 2 ^ m % 2 : Nat) : Int) from by omega,
      show ((v / 2 ^ m % 2 : Nat) : Int) * 2 ^ s = ((v / 2 ^ m % 2 * 2 ^ s : Nat) : Int) from by rw [Int.natCast_mul]; simp]
    omega
  rw [e, bits_or_u8_nat _ _ x.toNat_lt h2]
  have h3 : x.toNat ||| v / 2 ^ m % 2 * 2 ^ s < 2 ^ 8 := Nat.or_lt_two_pow x.toNat_lt h2
  rw [UInt8.toNat_ofNat', Nat.mod_eq_of_lt h3]

/-- 'v<<1 | b' of a word and a bit -/
theorem or_shl1 (v b : Nat) (hv : v < 9223372036854775808) (hb : b < 2) :
    bits .or .u64 (IntKind.u64.wrap ((v : Int) * 2)) (IntKind.u64.wrap (b : Int)) = ((v * 2 + b : Nat) : Int) := by
  have e1 : IntKind.u64.wrap ((v : Int) * 2) = ((v * 2 : Nat) : Int) := by rw [IntKind.wrap_u64]; omega
  have e2 : IntKind.u64.wrap (b : Int) = ((b : Nat) : Int) := by rw [IntKind.wrap_u64]; omega
  rw [e1, e2, bits_or_u64_nat _ _ (by omega) (by omega)]
  congr 1
  exact or_add v b 1 hb

theorem or_shl8 (v x : Nat) (hv : v < 72057594037927936) (hx : x < 256) :
    bits .or .u64 (IntKind.u64.wrap ((v : Int) * 256)) (IntKind.u64.wrap (x : Int)) = ((v * 256 + x : Nat) : Int) := by
  have e1 : IntKind.u64.wrap ((v : Int) * 256) = ((v * 256 : Nat) : Int) := by rw [IntKind.wrap_u64]; omega
  have e2 : IntKind.u64.wrap (x : Int) = ((x : Nat) : Int) := by rw [IntKind.wrap_u64]; omega
  rw [e1, e2, bits_or_u64_nat _ _ (by omega) (by omega)]
  congr 1
  exact or_add v x 8 hx

/-- the number whose bytes, the most significant first, are l -/
def uintOf (l : List UInt8) : Nat := l.foldl (fun v x => v * 256 + x.toNat) 0

theorem uintOf_snoc (l : List UInt8) (x : UInt8) : uintOf (l ++ [x]) = uintOf l * 256 + x.toNat := by simp [uintOf]

theorem foldl_bytes_lt : ∀ (l : List UInt8) (a : Nat), l.foldl (fun v x => v * 256 + x.toNat) a < (a + 1) * 256 ^ l.length
  | [], a => by simp
  | x :: l, a => by
    have h := foldl_bytes_lt l (a * 256 + x.toNat)
    have hx := x.toNat_lt
    simp only [List.foldl_cons, List.length_cons, Nat.pow_succ]
    refine Nat.lt_of_lt_of_le h ?_
    have : (a * 256 + x.toNat + 1) * 256 ^ l.length ≤ ((a + 1) * 256) * 256 ^ l.length := Nat.mul_le_mul_right _ (by omega)
    calc _ ≤ _ := this
      _ = _ := by rw [Nat.mul_assoc, Nat.mul_comm 256]

theorem uintOf_lt (l : List UInt8) : uintOf l < 256 ^ l.length := by
  have := foldl_bytes_lt l 0
  simpa [uintOf] using this

theorem take_snoc {α : Type} (l : List α) (d : α) (j : Nat) (h : j < l.length) : l.take (j + 1) = l.take j ++ [l.getD j d] := by
  rw [List.take_succ_eq_append_getElem h]; simp [List.getD_eq_getElem?_getD, h]

theorem uintOf_take (l : List UInt8) (j : Nat) (h : j < l.length) : uintOf (l.take (j + 1)) = uintOf (l.take j) * 256 + (l.getD j 0).toNat := by
  rw [take_snoc l 0 j h, uintOf_snoc]
end Go.Proofs.YtcmpdpcncjggkaaDoor
