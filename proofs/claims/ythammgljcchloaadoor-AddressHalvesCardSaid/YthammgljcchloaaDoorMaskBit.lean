/-
  The bits of a mask, one by one.
-/
import Derived.Test.YthammgljcchloaaDoorRefCommon
namespace Go.Proofs.YthammgljcchloaaDoor
open Go.RowKit
set_option linter.unusedSimpArgs false
set_option linter.unusedVariables false

theorem mL_full (l : List UInt8) (hl : l.length = 16) : mL l 128 = l := by
  unfold mL
  rw [show 64 - min 128 64 = 0 from rfl, show 64 - (128 - 64) = 0 from rfl, clr_zero, clr_zero, be_halves l hl]
theorem bit_ext (l m : List UInt8) (hl : l.length = 16) (hm : m.length = 16) (h : ∀ i, i < 128 → bitV l i = bitV m i) : l = m := by
  have hk : ∀ k, k ≤ 128 → k ≤ comV l m := by
    intro k
    induction k with
    | zero => intro _; omega
    | succ k ih => intro hk; exact (com_succ l m hl hm k (by omega)).2 ⟨ih (by omega), h k (by omega)⟩
  have := (mL_eq l m hl hm 128 (by omega)).2 (hk 128 (by omega))
  rwa [mL_full l hl, mL_full m hm] at this
theorem clr_bit (s x t : Nat) : clr s x / 2 ^ t % 2 = if s ≤ t then x / 2 ^ t % 2 else 0 := by
  split
  · rename_i h
    rw [(clr_eq t (clr s x) x).1 (clr_clr t s x h)]
  · rename_i h
    obtain ⟨d, hd⟩ : ∃ d, s = t + (d + 1) := ⟨s - t - 1, by omega⟩
    unfold clr
    rw [hd]
    generalize x / 2 ^ (t + (d + 1)) = y
    rw [Nat.pow_add, Nat.mul_left_comm, Nat.mul_div_cancel_left _ (Nat.two_pow_pos t), Nat.pow_succ, ← Nat.mul_assoc]
    omega
theorem bit_mL (a : List UInt8) (ha : a.length = 16) (k : Nat) (hk : k ≤ 128) (i : Nat) (hi : i < 128) : bitV (mL a k) i = if i < k then bitV a i else 0 := by
  have hl := length_mL a k
  by_cases h : i < 64
  · rw [bit_hi _ hl i h, bit_hi a ha i h, hi_mL a ha, clr_bit]
    by_cases h2 : i < k
    · rw [if_pos h2, if_pos (by omega)]
    · rw [if_neg h2, if_neg (by omega)]
  · rw [bit_lo _ hl i (by omega) hi, bit_lo a ha i (by omega) hi, lo_mL a ha, clr_bit]
    by_cases h2 : i < k
    · rw [if_pos h2, if_pos (by omega)]
    · rw [if_neg h2, if_neg (by omega)]
theorem bit_set (l : List UInt8) (hl : l.length = 16) (j : Nat) (hj : j < 16) (x : UInt8) (i : Nat) : bitV (l.set j x) i = if i / 8 = j then x.toNat / 2 ^ (7 - i % 8) % 2 else bitV l i := by
  unfold bitV
  simp only [List.getD_eq_getElem?_getD, List.getElem?_set]
  by_cases h : i / 8 = j
  · rw [if_pos h, if_pos h.symm, if_pos (by omega)]; rfl
  · rw [if_neg h, if_neg (fun e => h e.symm)]
theorem orb (x b s t : Nat) (hb : b < 2) : (x ||| b * 2 ^ s) / 2 ^ t % 2 = if t = s ∧ b = 1 then 1 else x / 2 ^ t % 2 := by
  have h := Nat.testBit_or x (b * 2 ^ s) t
  simp only [Nat.testBit_eq_decide_div_mod_eq] at h
  have e : b * 2 ^ s / 2 ^ t % 2 = if t = s ∧ b = 1 then 1 else 0 := by
    rcases (by omega : b = 0 ∨ b = 1) with rfl | rfl
    · simp
    · have : (2 ^ s).testBit t = decide (s = t) := Nat.testBit_two_pow
      rw [Nat.testBit_eq_decide_div_mod_eq] at this
      rw [Nat.one_mul]
      by_cases hs : t = s
      · subst hs; simp at this ⊢; omega
      · have hne : ¬ s = t := fun e => hs e.symm
        simp [hne] at this
        simp [hs]; omega
  rw [e] at h
  have m1 := Nat.mod_lt ((x ||| b * 2 ^ s) / 2 ^ t) (show 2 > 0 by decide)
  have m2 := Nat.mod_lt (x / 2 ^ t) (show 2 > 0 by decide)
  by_cases hc : t = s ∧ b = 1
  · rw [if_pos hc] at h ⊢; simp at h; omega
  · rw [if_neg hc] at h ⊢; simp at h
    by_cases h1 : x / 2 ^ t % 2 = 1
    · omega
    · omega
theorem mL_step (a : List UInt8) (ha : a.length = 16) (k : Nat) (hk : k < 128) :
    mL a (k + 1) = (mL a k).set (k / 8) (UInt8.ofNat (((mL a k).getD (k / 8) 0).toNat ||| bitV a k * 2 ^ (7 - k % 8))) := by
  have hl := length_mL a k
  apply bit_ext _ _ (length_mL a (k + 1)) (by rw [List.length_set]; exact hl)
  intro i hi
  have hx := ((mL a k).getD (k / 8) 0).toNat_lt
  have hy : bitV a k * 2 ^ (7 - k % 8) < 2 ^ 8 := by
    have h1 := bitV_lt a k
    have h2 : 2 ^ (7 - k % 8) ≤ 2 ^ 7 := Nat.pow_le_pow_right (by decide) (by omega)
    rcases (by omega : bitV a k = 0 ∨ bitV a k = 1) with e | e <;> rw [e] <;> omega
  have hz := Nat.or_lt_two_pow hx hy
  rw [bit_mL a ha (k + 1) (by omega) i hi, bit_set _ hl _ (by omega), UInt8.toNat_ofNat', Nat.mod_eq_of_lt hz, orb _ _ _ _ (bitV_lt a k)]
  have hold := bit_mL a ha k (by omega) i hi
  by_cases h8 : i / 8 = k / 8
  · rw [if_pos h8]
    have e : ((mL a k).getD (k / 8) 0).toNat / 2 ^ (7 - i % 8) % 2 = bitV (mL a k) i := by unfold bitV; rw [h8]
    rw [e, hold]
    by_cases hik : i = k
    · subst hik
      have := bitV_lt a i
      simp
      split <;> omega
    · have : ¬ (7 - i % 8 = 7 - k % 8) := by omega
      simp [this]
      by_cases h2 : i < k
      · rw [if_pos h2, if_pos (by omega)]
      · rw [if_neg h2, if_neg (by omega)]
  · rw [if_neg h8, hold]
    by_cases h2 : i < k
    · rw [if_pos h2, if_pos (by omega)]
    · rw [if_neg h2, if_neg (by omega)]
end Go.Proofs.YthammgljcchloaaDoor
