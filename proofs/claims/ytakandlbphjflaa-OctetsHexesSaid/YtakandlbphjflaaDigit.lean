import Derived.Test.YtakandlbphjflaaRange
import Derived.Test.YtakandlbphjflaaHex
namespace Go.Proofs.Ytakandlbphjflaa
open Go.RowKit

/-- is a number a lower-case hexadecimal digit's byte; the digit's value -/
def isDig (c : Nat) : Bool := decide (48 ≤ c ∧ c ≤ 57) || decide (97 ≤ c ∧ c ≤ 102)
def digV (c : Nat) : Nat := if 48 ≤ c ∧ c ≤ 57 then c - 48 else if 97 ≤ c ∧ c ≤ 102 then c - 87 else 0

theorem digV_lt (c : Nat) : digV c < 16 := by unfold digV; split <;> (try split) <;> omega

set_option maxHeartbeats 1000000 in
theorem digit_any (r : Nat) (w : World) (hr : r < 2147483648) :
    Calls Try.prog 34 #[.int .i32 (r : Int)] w (Ret (.tuple #[.int .u8 (digV r : Int), .bool (isDig r)]) w) := by
  by_cases h1 : 48 ≤ r ∧ r ≤ 57
  · obtain ⟨a1, a2⟩ := h1
    have e1 : digV r = r - 48 := by unfold digV; rw [if_pos ⟨a1, a2⟩]
    have e2 : isDig r = true := by simp [isDig]; omega
    rw [e1, e2]
    clear e1 e2
    go_enter Try.func34, Try.ntmps34
    go_wp2
    go_ret2
    refine ⟨?_, rfl⟩
    simp
    omega
  · by_cases h2 : 97 ≤ r ∧ r ≤ 102
    · obtain ⟨a1, a2⟩ := h2
      have e1 : digV r = r - 87 := by unfold digV; rw [if_neg h1, if_pos ⟨a1, a2⟩]
      have e2 : isDig r = true := by simp [isDig]; omega
      have h3 : ¬ (r : Int) ≤ 57 := by omega
      rw [e1, e2]
      clear e1 e2 h1
      go_enter Try.func34, Try.ntmps34
      go_wp2
      go_ret2
      refine ⟨?_, rfl⟩
      simp
      omega
    · have e1 : digV r = 0 := by unfold digV; rw [if_neg h1, if_neg h2]
      have e2 : isDig r = false := by simp [isDig]; omega
      rw [e1, e2]
      clear e1 e2
      have h3 : (r : Int) < 48 ∨ (57 < (r : Int) ∧ (r : Int) < 97) ∨ 102 < (r : Int) := by omega
      clear h1 h2
      rcases h3 with h3 | ⟨h3, h4⟩ | h3
      all_goals
        go_enter Try.func34, Try.ntmps34
        go_wp2
        go_ret2
        exact ⟨rfl, rfl⟩
end Go.Proofs.Ytakandlbphjflaa
