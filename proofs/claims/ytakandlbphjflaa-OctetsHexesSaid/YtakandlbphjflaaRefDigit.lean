import Derived.Test.YtakandlbphjflaaUnhex
import Derived.Deep.QuietTactic
import Derived.BigQuiet
namespace Go.Proofs.Ytakandlbphjflaa
open Go.RowKit

/-- the reference's digit: the value, or -1 -/
def digR (c : UInt8) : Int := if isDig c.toNat then (digV c.toNat : Int) else -1

theorem dig_find (c : UInt8) : (isDig c.toNat = true ∧ hexD (digV c.toNat) = c ∧ ∀ j, j < digV c.toNat → hexD j ≠ c) ∨ (isDig c.toNat = false ∧ ∀ j, j < 16 → hexD j ≠ c) := by
  have H : ∀ n, n < 256 → (isDig n = true ∧ (hexD (digV n)).toNat = n ∧ ∀ j, j < digV n → (hexD j).toNat ≠ n) ∨ (isDig n = false ∧ ∀ j, j < 16 → (hexD j).toNat ≠ n) := by decide +kernel
  rcases H c.toNat c.toNat_lt with ⟨h1, h2, h3⟩ | ⟨h1, h2⟩
  · exact .inl ⟨h1, UInt8.toNat_inj.1 h2, fun j hj e => h3 j hj (by rw [e])⟩
  · exact .inr ⟨h1, fun j hj e => h2 j hj (by rw [e])⟩

set_option maxHeartbeats 1000000 in
theorem refdigit_any (c : UInt8) (w : World) : Calls Try.prog 35 #[.int .u8 (c.toNat : Int)] w (Ret (.int .i64 (digR c)) w) := by
  have hx : ∀ (j : Nat), j < 16 → ∀ W, (Instr.index 9 (.string { data := #[48, 49, 50, 51, 52, 53, 54, 55, 56, 57, 97, 98, 99, 100, 101, 102] }) (.int .i64 (j : Int))).run Try.prog W = .ok (.int .u8 ((hexD j).toNat : Int)) W := by
    intro j hj W
    rcases (by omega : j = 0 ∨ j = 1 ∨ j = 2 ∨ j = 3 ∨ j = 4 ∨ j = 5 ∨ j = 6 ∨ j = 7 ∨ j = 8 ∨ j = 9 ∨ j = 10 ∨ j = 11 ∨ j = 12 ∨ j = 13 ∨ j = 14 ∨ j = 15) with rfl | rfl | rfl | rfl | rfl | rfl | rfl | rfl | rfl | rfl | rfl | rfl | rfl | rfl | rfl | rfl
    all_goals rfl
  have HX := hid hx
  have hne : ∀ j, hexD j ≠ c → (((hexD j).toNat : Int) == (c.toNat : Int)) = false := by
    intro j h; simp only [beq_eq_false_iff_ne]; intro e; exact h (UInt8.toNat_inj.1 (by omega))
  have HNE := hid hne
  clear hx hne
  rcases dig_find c with ⟨h1, h2, h3⟩ | ⟨h1, h2⟩
  · have e : digR c = digV c.toNat := by simp [digR, h1]
    rw [e]
    have HE : Hid (hexD (digV c.toNat) = c) := hid h2
    have H3 := hid h3
    have hd := digV_lt c.toNat
    clear h1 h2 h3 e
    generalize digV c.toNat = d at *
    go_enter Try.func35, Try.ntmps35
    go_wp2
    go_loop [3] (fun t => ∃ j : Nat, j ≤ d ∧ t = .int .i64 j) (fun t => d - (intOf t).toNat)
    case atStart => exact ⟨0, Nat.zero_le _, rfl⟩
    case round =>
      obtain ⟨j, hj, rfl⟩ := hrel
      have hxj := HX.out j (by omega)
      by_cases hlt : j < d
      · have hq := HNE.out j (H3.out j hlt)
        go_wp2
        go_round
        case rel => exact ⟨j + 1, by omega, by go_num⟩
        case measure => simp [intOf]; omega
      · obtain rfl : j = d := by omega
        rw [HE.out] at hxj
        go_wp2
        go_ret
        exact ⟨rfl, rfl⟩
  · have e : digR c = -1 := by simp [digR, h1]
    rw [e]
    have H3 := hid h2
    clear h1 h2 e
    go_enter Try.func35, Try.ntmps35
    go_wp2
    go_loop [3] (fun t => ∃ j : Nat, j ≤ 16 ∧ t = .int .i64 j) (fun t => 16 - (intOf t).toNat)
    case atStart => exact ⟨0, Nat.zero_le _, rfl⟩
    case round =>
      obtain ⟨j, hj, rfl⟩ := hrel
      by_cases hlt : j < 16
      · have hq := HNE.out j (H3.out j hlt)
        have hxj := HX.out j hlt
        go_wp2
        go_round
        case rel => exact ⟨j + 1, by omega, by go_num⟩
        case measure => simp [intOf]; omega
      · obtain rfl : j = 16 := by omega
        go_wp2
        go_ret
        exact ⟨rfl, rfl⟩
end Go.Proofs.Ytakandlbphjflaa
