import Derived.Test.YtakandlbphjflaaAppendBits
import Derived.Test.YtakandlbphjflaaRefValid
namespace Go.Proofs.Ytakandlbphjflaa
open Go.RowKit

theorem bitN_testBit (l : List UInt8) (i : Nat) : bitN l i = ((l.getD (i / 8) 0).toNat.testBit (7 - i % 8)).toNat := by
  rw [bitN, Nat.toNat_testBit]

theorem bitN_out (l : List UInt8) (i : Nat) (h : 8 * l.length ≤ i) : bitN l i = 0 := by
  have : l[i / 8]? = none := List.getElem?_eq_none (by omega)
  simp [bitN, List.getD_eq_getElem?_getD, this]

theorem bitN_append_zeros (l : List UInt8) (m i : Nat) : bitN (l ++ zeros m) i = bitN l i := by
  by_cases h : i / 8 < l.length
  · simp [bitN, List.getD_eq_getElem?_getD, List.getElem?_append_left h]
  · rw [bitN_out l i (by omega)]
    have : (l ++ zeros m).getD (i / 8) 0 = 0 := by
      rw [List.getD_eq_getElem?_getD, List.getElem?_append_right (by omega)]
      simp only [zeros, List.getElem?_replicate]
      split <;> rfl
    simp only [bitN, this]
    simp

theorem bitN_orBit (l : List UInt8) (i b j : Nat) (hi : i / 8 < l.length) (hb : b < 2) :
    bitN (orBit l i b) j = if j = i then max (bitN l j) b else bitN l j := by
  have hx := (l.getD (i / 8) 0).toNat_lt
  have hor : (UInt8.ofNat ((l.getD (i / 8) 0).toNat ||| b * 2 ^ (7 - i % 8))).toNat = (l.getD (i / 8) 0).toNat ||| b * 2 ^ (7 - i % 8) := by
    rw [UInt8.toNat_ofNat', Nat.mod_eq_of_lt (Nat.or_lt_two_pow hx (bit_shl_lt b _ hb (by omega)))]
  by_cases h8 : j / 8 = i / 8
  · have hg : (orBit l i b).getD (j / 8) 0 = UInt8.ofNat ((l.getD (i / 8) 0).toNat ||| b * 2 ^ (7 - i % 8)) := by
      rw [h8, orBit, List.getD_eq_getElem?_getD, List.getElem?_set_self hi, Option.getD_some]
    rw [bitN_testBit, hg, hor, Nat.testBit_or, Nat.mul_comm, Nat.testBit_two_pow_mul, bitN_testBit, h8]
    by_cases hji : j = i
    · subst hji
      simp
      rcases (show b = 0 ∨ b = 1 by omega) with rfl | rfl
      · simp
      · cases (l[j / 8]?.getD 0).toNat.testBit (7 - j % 8) <;> simp
    · have hne : j % 8 ≠ i % 8 := by omega
      rw [if_neg hji]
      have : (decide (7 - i % 8 ≤ 7 - j % 8) && b.testBit (7 - j % 8 - (7 - i % 8))) = false := by
        by_cases hle : 7 - i % 8 ≤ 7 - j % 8
        · have hd : b.testBit (7 - j % 8 - (7 - i % 8)) = false := Nat.testBit_lt_two_pow (Nat.lt_of_lt_of_le hb (Nat.le_trans (by decide : 2 ≤ 2 ^ 1) (Nat.pow_le_pow_right (by decide) (by omega))))
          simp [hd]
        · simp [hle]
      rw [this]; simp
  · have hg : (orBit l i b).getD (j / 8) 0 = l.getD (j / 8) 0 := by
      rw [orBit, List.getD_eq_getElem?_getD, List.getElem?_set_ne (fun e => h8 e.symm), List.getD_eq_getElem?_getD]
    rw [if_neg (fun e => h8 (by rw [e])), bitN, hg, bitN]

theorem bitN_ext (l m : List UInt8) (hl : l.length = m.length) (h : ∀ i, i < 8 * l.length → bitN l i = bitN m i) : l = m := by
  apply List.ext_getElem hl
  intro k h1 h2
  rw [← UInt8.toNat_inj]
  apply Nat.eq_of_testBit_eq
  intro t
  by_cases ht : t < 8
  · have := h (8 * k + (7 - t)) (by omega)
    rw [bitN_testBit, bitN_testBit, show (8 * k + (7 - t)) / 8 = k from by omega, show 7 - (8 * k + (7 - t)) % 8 = t from by omega] at this
    simp only [List.getD_eq_getElem?_getD, List.getElem?_eq_getElem h1, List.getElem?_eq_getElem h2, Option.getD_some] at this
    cases hh : (l[k].toNat.testBit t) <;> cases hh2 : (m[k].toNat.testBit t) <;> simp_all
  · rw [Nat.testBit_lt_two_pow (Nat.lt_of_lt_of_le l[k].toNat_lt (Nat.pow_le_pow_right (by decide) (by omega))), Nat.testBit_lt_two_pow (Nat.lt_of_lt_of_le m[k].toNat_lt (Nat.pow_le_pow_right (by decide) (by omega)))]

/-- no bit behind the first n is set -/
theorem last_zero (x : Nat) (r : Nat) (hx : x < 256) (hr : r < 8) : x * 2 ^ r % 256 = 0 ↔ ∀ t, t < 8 - r → x / 2 ^ t % 2 = 0 := by
  have e : 256 = 2 ^ (8 - r) * 2 ^ r := by rw [← Nat.pow_add, show 8 - r + r = 8 from by omega]
  rw [e, Nat.mul_mod_mul_right]
  have hp : 0 < 2 ^ r := Nat.two_pow_pos r
  constructor
  · intro h t ht
    have h0 : x % 2 ^ (8 - r) = 0 := by
      rcases Nat.mul_eq_zero.1 h with h | h
      · exact h
      · omega
    have := Nat.testBit_mod_two_pow x (8 - r) t
    rw [h0] at this
    simp [ht] at this
    rw [← Nat.toNat_testBit, this]
    rfl
  · intro h
    have h0 : x % 2 ^ (8 - r) = 0 := by
      apply Nat.eq_of_testBit_eq
      intro t
      rw [Nat.testBit_mod_two_pow]
      by_cases ht : t < 8 - r
      · have := h t ht
        rw [← Nat.toNat_testBit] at this
        cases hh : x.testBit t <;> simp_all
      · simp [ht]
    rw [h0, Nat.zero_mul]

theorem validB_iff (l : List UInt8) (n : Int) : validB l n = true ↔ 0 ≤ n ∧ (l.length : Int) = (n + 7) / 8 ∧ ∀ j, n.toNat ≤ j → bitN l j = 0 := by
  simp only [validB, decide_eq_true_eq]
  constructor
  · rintro ⟨h0, hl, h⟩
    refine ⟨h0, hl, fun j hj => ?_⟩
    by_cases hj8 : 8 * l.length ≤ j
    · exact bitN_out l j hj8
    · have hm : n % 8 ≠ 0 := by omega
      have hk : j / 8 = l.length - 1 := by omega
      rcases h with h | h
      · exact absurd h hm
      · have h2 := (last_zero _ _ (l.getD (l.length - 1) 0).toNat_lt (by omega)).1 h (7 - j % 8) (by omega)
        rw [bitN, hk]; exact h2
  · rintro ⟨h0, hl, h⟩
    refine ⟨h0, hl, ?_⟩
    by_cases hm : n % 8 = 0
    · exact .inl hm
    · refine .inr ((last_zero _ _ (l.getD (l.length - 1) 0).toNat_lt (by omega)).2 fun t ht => ?_)
      have h2 := h (8 * (l.length - 1) + (7 - t)) (by omega)
      rw [bitN, show (8 * (l.length - 1) + (7 - t)) / 8 = l.length - 1 from by omega, show 7 - (8 * (l.length - 1) + (7 - t)) % 8 = t from by omega] at h2
      exact h2

theorem validR_eq (l : List UInt8) (n : Int) : validR l n = validB l n := by
  rw [Bool.eq_iff_iff, validB_iff]
  simp only [validR, decide_eq_true_eq]
  refine ⟨fun ⟨h0, h1, h2⟩ => ⟨h0, h1, fun j hj => ?_⟩, fun ⟨h0, h1, h2⟩ => ⟨h0, h1, fun j _ hj => h2 j hj⟩⟩
  by_cases hl : 8 * l.length ≤ j
  · exact bitN_out l j hl
  · exact h2 j (by omega) hj

/-- the bits behind i rounds -/
theorem bitN_appTo (l : List UInt8) (n v k : Nat) (hv : validB l n = true) : ∀ i, i ≤ k → ∀ j, bitN (appTo l n v k i) j = if j < n then bitN l j else if j < n + i then v / 2 ^ (k - 1 - (j - n)) % 2 else 0
  | 0, _, j => by
    rw [appTo, bitN_append_zeros]
    split
    · rfl
    · rw [if_neg (by omega)]
      exact ((validB_iff l n).1 hv).2.2 j (by simp; omega)
  | i + 1, hi, j => by
    have hl : l.length ≤ (n + k + 7) / 8 := by have := ((validB_iff l n).1 hv).2.1; omega
    rw [appTo, bitN_orBit _ _ _ _ (by rw [length_appTo l n v k hl i]; omega) (Nat.mod_lt _ (by decide)), bitN_appTo l n v k hv i (by omega) j]
    by_cases hj : j = n + i
    · subst hj
      rw [if_pos rfl, if_neg (by omega), if_neg (by omega), if_neg (by omega), if_pos (by omega), show n + i - n = i from by omega]
      omega
    · rw [if_neg hj]
      split
      · rfl
      · by_cases h2 : j < n + i
        · rw [if_pos h2, if_pos (by omega)]
        · rw [if_neg h2, if_neg (by omega)]

theorem bitsNum_val (l : List UInt8) (i0 v k : Nat) (h : ∀ i, i < k → bitN l (i0 + i) = v / 2 ^ (k - 1 - i) % 2) : ∀ m, m ≤ k → bitsNum l i0 m = v / 2 ^ (k - m) % 2 ^ m
  | 0, _ => by simp [bitsNum, Nat.mod_one]
  | m + 1, hm => by
    rw [bitsNum, bitsNum_val l i0 v k h m (by omega), h m (by omega)]
    have e : v / 2 ^ (k - m) = v / 2 ^ (k - (m + 1)) / 2 := by
      rw [Nat.div_div_eq_div_mul, ← Nat.pow_succ, show (k - (m + 1)).succ = k - m from by omega]
    rw [e, show k - 1 - m = k - (m + 1) from by omega, Nat.pow_succ, Nat.mul_comm (2 ^ m) 2, Nat.mod_mul]
    omega

/-- what was appended is read back, and the bits before stay -/
theorem bitsNum_app (l : List UInt8) (n v k : Nat) (hv : validB l n = true) : bitsNum (appTo l n v k k) n k = v % 2 ^ k := by
  have := bitsNum_val (appTo l n v k k) n v k (fun i hi => by rw [bitN_appTo l n v k hv k (Nat.le_refl _), if_neg (by omega), if_pos (by omega)]; congr 3; omega) k (Nat.le_refl _)
  simpa using this

theorem bitsNum_congr (l m : List UInt8) (i : Nat) : ∀ k, (∀ j, j < k → bitN l (i + j) = bitN m (i + j)) → bitsNum l i k = bitsNum m i k
  | 0, _ => rfl
  | k + 1, h => by rw [bitsNum, bitsNum, bitsNum_congr l m i k (fun j hj => h j (by omega)), h k (by omega)]

theorem bitsNum_before (l : List UInt8) (n v k i m : Nat) (hv : validB l n = true) (h : i + m ≤ n) : bitsNum (appTo l n v k k) i m = bitsNum l i m :=
  bitsNum_congr _ _ _ _ fun j hj => by rw [bitN_appTo l n v k hv k (Nat.le_refl _), if_pos (by omega)]

theorem valid_app (l : List UInt8) (n v k : Nat) (hv : validB l n = true) : validB (appTo l n v k k) ((n : Int) + (k : Int)) = true := by
  have hl : l.length ≤ (n + k + 7) / 8 := by have := ((validB_iff l n).1 hv).2.1; omega
  refine (validB_iff _ _).2 ⟨by omega, by rw [length_appTo l n v k hl k]; omega, fun j hj => ?_⟩
  rw [bitN_appTo l n v k hv k (Nat.le_refl _), if_neg (by omega), if_neg (by omega)]

theorem bitsNum_add (l : List UInt8) (i k : Nat) : ∀ m, bitsNum l i (k + m) = bitsNum l i k * 2 ^ m + bitsNum l (i + k) m
  | 0 => by simp [bitsNum]
  | m + 1 => by rw [← Nat.add_assoc, bitsNum, bitsNum_add l i k m, bitsNum, Nat.pow_succ, Nat.add_mul, Nat.mul_assoc, Nat.add_assoc, Nat.add_assoc]
end Go.Proofs.Ytakandlbphjflaa
