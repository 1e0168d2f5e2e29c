/-
  Numbers whose least significant byte comes first.
-/
import Derived.Test.YtjlogmbgapnceaaWord
namespace Go.Proofs.Ytjlogmbgapnceaa
open Go.RowKit

/-- the number whose bytes, the least significant first, are l -/
def leOf : List UInt8 → Nat
  | [] => 0
  | x :: l => x.toNat + 256 * leOf l

theorem leOf_snoc (l : List UInt8) (x : UInt8) : leOf (l ++ [x]) = leOf l + x.toNat * 2 ^ (8 * l.length) := by
  induction l with
  | nil => simp [leOf]
  | cons y l ih =>
    simp only [List.cons_append, leOf, ih, List.length_cons]
    rw [show 8 * (l.length + 1) = 8 * l.length + 8 from by omega, Nat.pow_add]
    rw [Nat.mul_add, show 256 * (x.toNat * 2 ^ (8 * l.length)) = x.toNat * (2 ^ (8 * l.length) * 2 ^ 8) from by
      rw [show (2 : Nat) ^ 8 = 256 from rfl, Nat.mul_comm 256, Nat.mul_assoc]]
    omega

theorem leOf_lt (l : List UInt8) : leOf l < 2 ^ (8 * l.length) := by
  induction l with
  | nil => simp [leOf]
  | cons y l ih =>
    simp only [leOf, List.length_cons]
    rw [show 8 * (l.length + 1) = 8 * l.length + 8 from by omega, Nat.pow_add, show (2 : Nat) ^ 8 = 256 from rfl]
    have := y.toNat_lt
    omega

theorem leOf_lt8 (l : List UInt8) (n : Nat) (h : l.length ≤ n) : leOf l < 2 ^ (8 * n) :=
  Nat.lt_of_lt_of_le (leOf_lt l) (Nat.pow_le_pow_right (by decide) (by omega))

theorem leOf_take (l : List UInt8) (k : Nat) (h : k < l.length) : leOf (l.take (k + 1)) = leOf (l.take k) + (l.getD k 0).toNat * 2 ^ (8 * k) := by
  rw [take_snoc l 0 k h, leOf_snoc, List.length_take, Nat.min_eq_left (by omega)]

theorem le_or (a x k : Nat) (ha : a < 2 ^ (8 * k)) (hx : x < 256) (hk : k ≤ 7) :
    bits .or .u64 (a : Int) (IntKind.u64.wrap (IntKind.u64.wrap (x : Int) * 2 ^ (8 * k))) = ((a + x * 2 ^ (8 * k) : Nat) : Int) := by
  have hp : 2 ^ (8 * k) ≤ 2 ^ 56 := Nat.pow_le_pow_right (by decide) (by omega)
  have hxp : x * 2 ^ (8 * k) ≤ 255 * 2 ^ 56 := Nat.mul_le_mul (by omega) hp
  have e1 : IntKind.u64.wrap (x : Int) = (x : Int) := by rw [IntKind.wrap_u64]; omega
  have e2 : IntKind.u64.wrap ((x : Int) * 2 ^ (8 * k)) = ((x * 2 ^ (8 * k) : Nat) : Int) := by
    rw [IntKind.wrap_u64, show ((x : Int) * 2 ^ (8 * k)) = ((x * 2 ^ (8 * k) : Nat) : Int) from by simp]
    omega
  rw [e1, e2, bits_or_u64_nat _ _ (by omega) (by omega), Nat.or_comm, or_add x a (8 * k) ha, Nat.add_comm]

def leW (l : List UInt8) : UInt64 := UInt64.ofNat (leOf l)
theorem leW_toNat (l : List UInt8) (h : l.length ≤ 8) : (leW l).toNat = leOf l := by
  have := leOf_lt8 l 8 h
  simp only [leW, UInt64.toNat_ofNat']
  omega

set_option maxHeartbeats 1000000 in
theorem number_any (a : Option Addr) (len cap : Nat) (l : List UInt8) (w : World) (hb : IsB w a len cap l) (h8 : len ≤ 8) :
    Calls Try.prog 22 #[.slice a len cap] w (Ret (.int .u64 ((leW l).toNat : Int)) w) := by
  have hle := hb.le
  have hl := hid hb.length
  have HL := hid (leW_toNat l (by rw [hl.out]; exact h8))
  go_enter Try.func22, Try.ntmps22
  go_wp2
  go_loop [3, 8] (fun n i => ∃ k : Nat, k ≤ len ∧ i = .int .i64 k ∧ n = .int .u64 (leOf (l.take k) : Nat)) (fun _ i => len - (intOf i).toNat)
  case atStart => exact ⟨0, Nat.zero_le _, rfl, rfl⟩
  case round =>
    obtain ⟨k, hk, rfl, rfl⟩ := hrel
    by_cases hlt : k < len
    · obtain ⟨b, off, rfl, _, hc⟩ := hb.some (by omega)
      have c1 := hc k hlt
      have HE := hid (leOf_take l k (by rw [hl.out]; exact hlt))
      have HO := hid (le_or (leOf (l.take k)) (l.getD k 0).toNat k (leOf_lt8 _ _ (List.length_take_le _ _)) (l.getD k 0).toNat_lt (by omega))
      clear hc
      generalize l.getD k 0 = x at *
      go_wp2
      go_round
      case rel => exact ⟨k + 1, by omega, by go_num, by rw [HE.out, ← HO.out]⟩
      case measure => simp [intOf]; omega
    · obtain rfl : k = len := by omega
      go_wp2
      go_ret
      exact ⟨ret_int (by rw [HL.out, List.take_of_length_le (by rw [hl.out]; omega)]), rfl⟩

theorem leOf_drop (l : List UInt8) (k : Nat) (h : k < l.length) : leOf (l.drop k) = leOf (l.drop (k + 1)) * 256 + (l.getD k 0).toNat := by
  rw [List.drop_eq_getElem_cons h, leOf, List.getD_eq_getElem?_getD, List.getElem?_eq_getElem h]
  simp; omega

theorem le_add (a x : Nat) (ha : a < 72057594037927936) (hx : x < 256) :
    IntKind.u64.wrap (IntKind.u64.wrap ((a : Int) * 256) + IntKind.u64.wrap (x : Int)) = ((a * 256 + x : Nat) : Int) := by
  simp only [IntKind.wrap_u64]; omega

set_option maxHeartbeats 1000000 in
theorem refNumber_any (a : Option Addr) (len cap : Nat) (l : List UInt8) (w : World) (hb : IsB w a len cap l) (h8 : len ≤ 8) :
    Calls Try.prog 24 #[.slice a len cap] w (Ret (.int .u64 ((leW l).toNat : Int)) w) := by
  have hle := hb.le
  have hl := hid hb.length
  have HL := hid (leW_toNat l (by rw [hl.out]; exact h8))
  go_enter Try.func24, Try.ntmps24
  go_wp2
  go_loop [3, 4] (fun n i => ∃ k : Nat, k ≤ len ∧ i = .int .i64 ((k : Int) - 1) ∧ n = .int .u64 (leOf (l.drop k) : Nat)) (fun _ i => (intOf i + 1).toNat)
  case atStart => exact ⟨len, Nat.le_refl _, rfl, by rw [List.drop_eq_nil_of_le (by rw [hl.out]; exact Nat.le_refl _)]; rfl⟩
  case round =>
    obtain ⟨k, hk, rfl, rfl⟩ := hrel
    by_cases hlt : 0 < k
    · obtain ⟨k, rfl⟩ : ∃ j, k = j + 1 := ⟨k - 1, by omega⟩
      obtain ⟨b, off, rfl, _, hc⟩ := hb.some (by omega)
      have c1 := hc k (by omega)
      have HE := hid (leOf_drop l k (by rw [hl.out]; omega))
      have HO := hid (le_add (leOf (l.drop (k + 1))) (l.getD k 0).toNat (by
        have := leOf_lt8 (l.drop (k + 1)) 7 (by rw [List.length_drop, hl.out]; omega)
        exact this) (l.getD k 0).toNat_lt)
      clear hc
      have e1 : (((k + 1 : Nat) : Int) - 1) = (k : Int) := by omega
      rw [e1]
      clear e1
      generalize l.getD k 0 = x at *
      go_wp2
      go_round
      case rel => exact ⟨k, by omega, rfl, by rw [HE.out, ← HO.out]⟩
      case measure => simp [intOf]
    · obtain rfl : k = 0 := by omega
      go_wp2
      go_ret
      exact ⟨ret_int (by rw [HL.out]), rfl⟩
end Go.Proofs.Ytjlogmbgapnceaa
