import Derived.Test.YtgacmiobfopoeaaLib
namespace Go.Proofs.Ytgacmiobfopoeaa
open Go.RowKit

/-- what folding makes of a number -/
def foldN (n : Nat) : Nat := if n = 0 then 0 else (n - 1) % 65535 + 1

theorem foldN_small (n : Nat) (h : n ≤ 65535) : foldN n = n := by
  unfold foldN; split <;> omega

theorem foldN_step (n : Nat) : foldN (n % 65536 + n / 65536) = foldN n := by
  unfold foldN; split <;> split <;> omega

theorem foldN_le (n : Nat) : foldN n ≤ 65535 := by
  unfold foldN; split <;> omega

theorem foldN_add (a b : Nat) : foldN (foldN a + b) = foldN (a + b) := by
  unfold foldN
  by_cases ha : a = 0
  · subst ha; simp
  · simp only [ha, if_false]
    rw [if_neg (by omega), if_neg (by omega)]
    omega

theorem fold_wrap (m : Nat) (h : U64 (m : Int)) : IntKind.u64.wrap ((m : Int) % 65536 + IntKind.u64.wrap ((m : Int) / 65536)) = ((m % 65536 + m / 65536 : Nat) : Int) := by
  obtain ⟨h1, h2⟩ := h
  rw [show (m : Int) / 65536 = ((m / 65536 : Nat) : Int) from by omega, u64_wrap_nat, show (m : Int) % 65536 + ((m / 65536 % 18446744073709551616 : Nat) : Int) = ((m % 65536 + m / 65536 : Nat) : Int) from by omega, u64_wrap_nat]
  omega

set_option maxHeartbeats 400000 in
theorem fold_any (n : Nat) (w : World) (hn : U64 (n : Int)) : Calls Try.prog 28 #[.int .u64 (n : Int)] w (Ret (.int .u16 ((foldN n : Nat) : Int)) w) := by
  go_enter Try.func28, Try.ntmps28
  go_wp2
  go_loop [0] (fun v => ∃ m : Nat, v = .int .u64 (m : Int) ∧ Hid (U64 (m : Int)) ∧ Hid (foldN m = foldN n)) (fun v => (intOf v).toNat)
  case atStart => exact ⟨n, rfl, hid hn, hid rfl⟩
  case round =>
    obtain ⟨m, rfl, hm, hf⟩ := hrel
    by_cases hlt : 65535 < m
    · have hs : Hid (foldN (m % 65536 + m / 65536) = foldN n) := hid (by rw [foldN_step]; exact hf.out)
      have hw : Hid (U64 ((m % 65536 + m / 65536 : Nat) : Int)) := hid (by have h1 := hm.out.2; have := hm.out.1; exact ⟨by omega, by omega⟩)
      go_wp2
      go_round
      case rel => exact ⟨m % 65536 + m / 65536, by rw [fold_wrap m hm.out], hw, hs⟩
      case measure => rw [fold_wrap m hm.out]; simp only [intOf]; omega
    · have hs := hid (foldN_small m (by omega))
      go_wp2
      go_ret
      refine ⟨ret_int ?_, rfl⟩
      rw [← hf.out, hs.out]
      try simp
      try omega

set_option maxHeartbeats 400000 in
theorem refFold_any (n : Nat) (w : World) (hn : n ≤ 1000000) : Calls Try.prog 30 #[.int .i64 (n : Int)] w (Ret (.int .u16 ((foldN n : Nat) : Int)) w) := by
  go_enter Try.func30, Try.ntmps30
  go_wp2
  go_loop [0] (fun v => ∃ m : Nat, v = .int .i64 (m : Int) ∧ m ≤ 1000000 ∧ Hid (foldN m = foldN n)) (fun v => (intOf v).toNat)
  case atStart => exact ⟨n, rfl, hn, hid rfl⟩
  case round =>
    obtain ⟨m, rfl, hm, hf⟩ := hrel
    by_cases hlt : 65535 < m
    · have hs : Hid (foldN (m % 65536 + m / 65536) = foldN n) := hid (by rw [foldN_step]; exact hf.out)
      go_wp2
      go_round
      case rel => exact ⟨m % 65536 + m / 65536, by go_num, by omega, hs⟩
      case measure => simp [intOf]; omega
    · have hs := hid (foldN_small m (by omega))
      go_wp2
      go_ret
      refine ⟨ret_int ?_, rfl⟩
      rw [← hf.out, hs.out]
      try simp
      try omega
end Go.Proofs.Ytgacmiobfopoeaa
