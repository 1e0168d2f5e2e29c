/-
  A burst of at most 16 bits changes the CRC: the CRC is linear and one-to-one.
-/
import Derived.Test.YtoboflcdiladpaaCheck
namespace Go.Proofs.Ytoboflcdiladpaa
open Go.RowKit
set_option linter.unusedSimpArgs false
set_option linter.unusedVariables false

theorem div2_xor (a b : Nat) : (a ^^^ b) / 2 = (a / 2) ^^^ (b / 2) := by
  have := Nat.shiftRight_xor_distrib (a := a) (b := b) (i := 1)
  simpa [Nat.shiftRight_eq_div_pow] using this

theorem mod2_xor (a b : Nat) : (a ^^^ b) % 2 = (a % 2 + b % 2) % 2 := by
  have h := Nat.xor_mod_two_pow (a := a) (b := b) (n := 1)
  simp only [Nat.pow_one] at h
  rw [h]
  rcases Nat.mod_two_eq_zero_or_one a with ha | ha <;> rcases Nat.mod_two_eq_zero_or_one b with hb | hb <;> rw [ha, hb] <;> rfl

theorem xor_cancel (a b p : Nat) : (a ^^^ p) ^^^ (b ^^^ p) = a ^^^ b := by
  rw [Nat.xor_assoc, ← Nat.xor_assoc p b p, Nat.xor_comm p b, Nat.xor_assoc b p p, Nat.xor_self, Nat.xor_zero]

theorem xor_right (a b p : Nat) : (a ^^^ p) ^^^ b = (a ^^^ b) ^^^ p := by
  rw [Nat.xor_assoc, Nat.xor_comm p b, ← Nat.xor_assoc]

theorem step_xor (a b : Nat) : step (a ^^^ b) = step a ^^^ step b := by
  unfold step
  rw [mod2_xor, div2_xor]
  rcases Nat.mod_two_eq_zero_or_one a with ha | ha <;> rcases Nat.mod_two_eq_zero_or_one b with hb | hb <;> simp only [ha, hb] <;> simp
  · rw [Nat.xor_assoc]
  · rw [xor_right]
  · rw [xor_cancel]

theorem steps_xor (n a b : Nat) : steps n (a ^^^ b) = steps n a ^^^ steps n b := by
  induction n with
  | zero => rfl
  | succ n ih => simp only [steps]; rw [ih, step_xor]

theorem step_zero : step 0 = 0 := by decide
theorem steps_zero (n : Nat) : steps n 0 = 0 := by
  induction n with
  | zero => rfl
  | succ n ih => simp only [steps]; rw [ih, step_zero]

theorem step_ne {c : Nat} (h : c < 65536) (h0 : c ≠ 0) : step c ≠ 0 := by
  unfold step
  split
  · intro e
    have : c / 2 = 33800 := by
      have e2 : (c / 2) ^^^ 33800 ^^^ 33800 = 0 ^^^ 33800 := by rw [e]
      rwa [Nat.xor_assoc, Nat.xor_self, Nat.xor_zero, Nat.zero_xor] at e2
    omega
  · omega

theorem steps_ne {c : Nat} (h : c < 65536) (h0 : c ≠ 0) (n : Nat) : steps n c ≠ 0 := by
  induction n with
  | zero => exact h0
  | succ n ih => exact step_ne (steps_lt h n) ih

theorem steps_add (m n c : Nat) : steps (m + n) c = steps m (steps n c) := by
  induction m with
  | zero => rw [Nat.zero_add]; rfl
  | succ m ih => rw [show m + 1 + n = (m + n) + 1 from by omega]; simp only [steps]; rw [ih]

/-- shifting out zeros -/
theorem steps_shift (n c : Nat) : steps n (c * 2 ^ n) = c := by
  induction n with
  | zero => simp [steps]
  | succ n ih =>
    rw [steps_add n 1 (c * 2 ^ (n + 1))]
    have e : steps 1 (c * 2 ^ (n + 1)) = c * 2 ^ n := by
      show step (c * 2 ^ (n + 1)) = c * 2 ^ n
      rw [Nat.pow_succ, ← Nat.mul_assoc]
      unfold step
      rw [if_neg (by omega)]
      omega
    rw [e, ih]

theorem xor_add_low (a b k : Nat) (hb : b < 2 ^ k) : (a * 2 ^ k) ^^^ b = a * 2 ^ k + b := by
  apply Nat.eq_of_testBit_eq
  intro i
  rw [Nat.testBit_xor]
  by_cases hi : i < k
  · rw [Nat.testBit_mul_two_pow, Nat.mul_comm, Nat.testBit_two_pow_mul_add _ hb]
    simp [hi, Nat.not_le.2 hi]
  · rw [Nat.testBit_mul_two_pow, Nat.mul_comm, Nat.testBit_two_pow_mul_add _ hb, Nat.testBit_lt_two_pow (Nat.lt_of_lt_of_le hb (Nat.pow_le_pow_right (by decide) (by omega)))]
    simp [hi, Nat.not_lt.1 hi]

/-- the CRC of bytes that end with their CRC is 0, and only then -/
theorem crc_end (c : Nat) (hc : c < 65536) (x y : UInt8) : steps 8 (steps 8 (c ^^^ x.toNat) ^^^ y.toNat) = 0 ↔ c = x.toNat + 256 * y.toNat := by
  have hx := x.toNat_lt
  have hy := y.toNat_lt
  have e1 : y.toNat = steps 8 (y.toNat * 2 ^ 8) := (steps_shift 8 _).symm
  have e2 : steps 8 (steps 8 (c ^^^ x.toNat) ^^^ y.toNat) = steps 16 (c ^^^ (x.toNat + 256 * y.toNat)) := by
    conv => lhs; rw [e1]
    rw [← steps_xor, ← steps_add 8 8, Nat.xor_assoc]
    congr 2
    rw [Nat.xor_comm, xor_add_low _ _ _ hx]
    omega
  rw [e2]
  constructor
  · intro h
    by_cases h0 : c ^^^ (x.toNat + 256 * y.toNat) = 0
    · have : c ^^^ (x.toNat + 256 * y.toNat) ^^^ (x.toNat + 256 * y.toNat) = 0 ^^^ (x.toNat + 256 * y.toNat) := by rw [h0]
      rwa [Nat.xor_assoc, Nat.xor_self, Nat.xor_zero, Nat.zero_xor] at this
    · exact absurd h (steps_ne (xor_lt16 hc (by omega)) h0 16)
  · rintro rfl
    rw [Nat.xor_self, steps_zero]

theorem checkB_iff (l : List UInt8) (h : 2 ≤ l.length) : checkB l = (crcL 0 l == 0) := by
  obtain ⟨n, hn⟩ : ∃ n, l.length = n + 2 := ⟨l.length - 2, by omega⟩
  have e : l = l.take n ++ [l.getD n 0, l.getD (n + 1) 0] := by
    have e1 : l.take (n + 2) = l := List.take_of_length_le (by omega)
    rw [take_snoc l 0 (n + 1) (by omega), take_snoc l 0 n (by omega)] at e1
    rw [List.append_assoc] at e1
    exact e1.symm
  have e2 : crcL 0 l = steps 8 (steps 8 (crcL 0 (l.take n) ^^^ (l.getD n 0).toNat) ^^^ (l.getD (n + 1) 0).toNat) := by
    conv => lhs; rw [e]
    rw [crcL_append]
    rfl
  rw [Bool.eq_iff_iff, beq_iff_eq, e2, crc_end _ (crcL_lt (by decide) _)]
  simp only [checkB, hn, Nat.add_sub_cancel, show n + 2 - 1 = n + 1 from rfl]
  simp

theorem crcL_zero {l : List UInt8} (h : checkB l = true) (h2 : 2 ≤ l.length) : crcL 0 l = 0 := by
  rw [checkB_iff l h2] at h
  simpa using h

theorem crcL_left : ∀ (l : List UInt8) (c d : Nat), crcL (c ^^^ d) l = crcL c l ^^^ steps (8 * l.length) d
  | [], c, d => rfl
  | x :: l, c, d => by
    simp only [crcL, List.foldl_cons, List.length_cons]
    rw [xor_right c x.toNat d, steps_xor, show 8 * (l.length + 1) = 8 * l.length + 8 from by omega, steps_add]
    exact crcL_left l _ _

theorem steps_bit (n s : Nat) : steps (n + s) (2 ^ s) = steps n 1 := by
  have h := steps_shift s 1
  rw [Nat.one_mul] at h
  rw [steps_add, h]

/-- one bit of bytes is inverted -/
theorem crcL_flip (l : List UInt8) (p : Nat) (hp : p < 8 * l.length) (b : UInt8) (hb : b.toNat = 2 ^ (p % 8)) :
    crcL 0 (l.set (p / 8) (l.getD (p / 8) 0 ^^^ b)) = crcL 0 l ^^^ steps (8 * l.length - p) 1 := by
  have hk : p / 8 < l.length := by omega
  have e1 : l = l.take (p / 8) ++ l.getD (p / 8) 0 :: l.drop (p / 8 + 1) := by
    rw [List.getD_eq_getElem?_getD, List.getElem?_eq_getElem hk, Option.getD_some, List.getElem_cons_drop, List.take_append_drop]
  have e2 : l.set (p / 8) (l.getD (p / 8) 0 ^^^ b) = l.take (p / 8) ++ (l.getD (p / 8) 0 ^^^ b) :: l.drop (p / 8 + 1) := by
    rw [List.set_eq_take_append_cons_drop, if_pos hk]
  have e3 : crcL 0 l = crcL (steps 8 (crcL 0 (l.take (p / 8)) ^^^ (l.getD (p / 8) 0).toNat)) (l.drop (p / 8 + 1)) := by
    conv => lhs; rw [e1]
    rw [crcL_append]
    rfl
  have hm : p % 8 < 8 := Nat.mod_lt _ (by decide)
  rw [e2, crcL_append, e3]
  show crcL (steps 8 (crcL 0 (l.take (p / 8)) ^^^ (l.getD (p / 8) 0 ^^^ b).toNat)) (l.drop (p / 8 + 1)) = _
  rw [UInt8.toNat_xor, ← Nat.xor_assoc, steps_xor, crcL_left, ← steps_add, hb, List.length_drop]
  congr 1
  have e4 : 8 * (l.length - (p / 8 + 1)) + 8 = (8 * l.length - p) + p % 8 := by omega
  rw [e4, steps_bit]

theorem pat_zero (n i : Nat) (h : n / 2 ^ i % 2 = 0) : n % 2 ^ (i + 1) = n % 2 ^ i := by
  have := Nat.mod_pow_succ (x := n) (b := 2) (k := i)
  rw [this, h]; simp

theorem pat_one (n i : Nat) (h : n / 2 ^ i % 2 = 1) : n % 2 ^ (i + 1) = 2 ^ i ^^^ n % 2 ^ i := by
  have h1 := Nat.mod_pow_succ (x := n) (b := 2) (k := i)
  have h2 := xor_add_low 1 (n % 2 ^ i) i (Nat.mod_lt _ (Nat.pow_pos (by decide)))
  rw [Nat.one_mul] at h2
  rw [h1, h, h2]
  omega

theorem steps_one (n i N : Nat) (h : n / 2 ^ i % 2 = 1) (hi : i ≤ N) : steps N (n % 2 ^ (i + 1)) = steps N (n % 2 ^ i) ^^^ steps (N - i) 1 := by
  have e : steps N (2 ^ i) = steps (N - i) 1 := by
    have := steps_bit (N - i) i
    rwa [show N - i + i = N from by omega] at this
  rw [pat_one n i h, steps_xor, e, Nat.xor_comm]

theorem pat_one_ne (n i : Nat) (h : n / 2 ^ i % 2 = 1) : n % 2 ^ (i + 1) ≠ 0 := by
  have h1 := Nat.mod_pow_succ (x := n) (b := 2) (k := i)
  have h2 : 0 < 2 ^ i := Nat.pow_pos (by decide)
  rw [h1, h]
  omega

theorem pat_lt (n i : Nat) (h : n < 65536) : n % 2 ^ i < 65536 := Nat.lt_of_le_of_lt (Nat.mod_le _ _) h
end Go.Proofs.Ytoboflcdiladpaa
