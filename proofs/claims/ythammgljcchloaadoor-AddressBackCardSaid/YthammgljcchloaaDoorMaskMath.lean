/-
  What masks have to do with one another.
-/
import Derived.Test.YthammgljcchloaaDoorCovers
import Derived.Test.YthammgljcchloaaDoorCommon
import Derived.Test.YthammgljcchloaaDoorHiLo
namespace Go.Proofs.YthammgljcchloaaDoor
open Go.RowKit
set_option linter.unusedSimpArgs false
set_option linter.unusedVariables false

theorem clamp_nat (k : Nat) (h : k ≤ 128) : clamp (k : Int) = k := by unfold clamp; omega
theorem hi_mL (a : List UInt8) (ha : a.length = 16) (k : Nat) : hiOf (mL a k) = clr (64 - min k 64) (hiOf a) := by
  unfold mL; rw [hi_be _ _ (Nat.lt_of_le_of_lt (clr_le _ _) (hi_lt a ha))]
theorem lo_mL (a : List UInt8) (ha : a.length = 16) (k : Nat) : loOf (mL a k) = clr (64 - (k - 64)) (loOf a) := by
  unfold mL; rw [lo_be _ _ (Nat.lt_of_le_of_lt (clr_le _ _) (lo_lt a ha))]
theorem mL_mL (a : List UInt8) (ha : a.length = 16) (j k : Nat) (h : j ≤ k) : mL (mL a k) j = mL a j := by
  have e : ∀ x, mL x j = beBytes (clr (64 - min j 64) (hiOf x)) 8 ++ beBytes (clr (64 - (j - 64)) (loOf x)) 8 := fun _ => rfl
  rw [e (mL a k), hi_mL a ha, lo_mL a ha, clr_clr _ _ _ (by omega), clr_clr _ _ _ (by omega)]
  rfl
theorem mL_eq (a b : List UInt8) (ha : a.length = 16) (hb : b.length = 16) (k : Nat) (hk : k ≤ 128) : mL a k = mL b k ↔ k ≤ comV a b := by
  have h1 : mL a k = mL b k ↔ clr (64 - min k 64) (hiOf a) = clr (64 - min k 64) (hiOf b) ∧ clr (64 - (k - 64)) (loOf a) = clr (64 - (k - 64)) (loOf b) := by
    constructor
    · intro h
      exact ⟨by rw [← hi_mL a ha, ← hi_mL b hb, h], by rw [← lo_mL a ha, ← lo_mL b hb, h]⟩
    · rintro ⟨e1, e2⟩
      unfold mL; rw [e1, e2]
  have ha1 := hi_lt a ha
  have ha2 := lo_lt a ha
  have hb1 := hi_lt b hb
  have hb2 := lo_lt b hb
  rw [h1, clr_xor _ _ _ ha1 hb1, clr_xor _ _ _ ha2 hb2]
  unfold comV
  have y1 := Nat.xor_lt_two_pow (n := 64) (x := hiOf a) (y := hiOf b) (by simpa using ha1) (by simpa using hb1)
  have y2 := Nat.xor_lt_two_pow (n := 64) (x := loOf a) (y := loOf b) (by simpa using ha2) (by simpa using hb2)
  have z1 := bitLen_64 (hiOf a ^^^ hiOf b) (by simpa using y1)
  have z2 := bitLen_64 (loOf a ^^^ loOf b) (by simpa using y2)
  split
  · rename_i he
    rw [(xor_zero _ _).2 he, bitLen_0]
    omega
  · rename_i he
    obtain ⟨g1, _, _⟩ := bitLen_b (hiOf a ^^^ hiOf b) (by simpa using y1) (fun h => he ((xor_zero _ _).1 h))
    omega

theorem con_self (a : List UInt8) (M : Nat) (hM : M ≤ 128) : conP (mL a M) M a = true := by
  unfold conP; rw [clamp_nat M hM]; simp
theorem con_sub (a : List UInt8) (ha : a.length = 16) (M N : Nat) (hM : M ≤ 128) (h : M ≤ N) : conP (mL a M) M (mL a N) = true := by
  unfold conP; rw [clamp_nat M hM, mL_mL a ha M N h]; simp
theorem cov_le (a : List UInt8) (ha : a.length = 16) (M N : Nat) (hM : M ≤ 128) (hN : N ≤ 128) : covP (mL a M) M (mL a N) N = decide ((M : Int) ≤ N) := by
  unfold covP
  rw [con_sub a ha N N hN (Nat.le_refl _)]
  by_cases h : M ≤ N
  · rw [con_sub a ha M N hM h]; simp
  · simp [show ¬ M ≤ N from h]
theorem con_com (a b : List UInt8) (ha : a.length = 16) (hb : b.length = 16) (M : Nat) (hM : M ≤ 128) : conP (mL a M) M b = decide ((comV a b : Int) ≥ M) := by
  unfold conP
  rw [clamp_nat M hM]
  rw [Bool.eq_iff_iff]
  simp only [Bool.and_eq_true, beq_iff_eq, decide_eq_true_eq, and_true]
  rw [mL_eq a b ha hb M hM]
  omega
end Go.Proofs.YthammgljcchloaaDoor
