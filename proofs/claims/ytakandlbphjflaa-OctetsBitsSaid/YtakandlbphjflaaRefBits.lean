import Derived.Test.YtakandlbphjflaaRefValid
import Derived.Test.YtakandlbphjflaaBits
import Derived.Test.YtakandlbphjflaaBitMath
import Derived.Test.YtakandlbphjflaaSame
namespace Go.Proofs.Ytakandlbphjflaa
open Go.RowKit

/-- 'v<<1 + b' -/
theorem add_shl1 (v b : Nat) (hv : v < 9223372036854775808) (hb : b < 2) :
    IntKind.u64.wrap (IntKind.u64.wrap ((v : Int) * 2) + (b : Int)) = ((v * 2 + b : Nat) : Int) := by
  have e1 : IntKind.u64.wrap ((v : Int) * 2) = ((v * 2 : Nat) : Int) := by rw [IntKind.wrap_u64]; omega
  rw [e1, IntKind.wrap_u64]
  omega

set_option maxHeartbeats 2000000 in
theorem refbits_yes (a : Option Addr) (len cap : Nat) (l : List UInt8) (n i k : Int) (w : World) (hb : IsB w a len cap l) (hv : validB l n = true)
    (h1 : 1 ≤ k) (h2 : k ≤ 64) (h3 : 0 ≤ i) (h4 : i + k ≤ n) (hN : I64 n) :
    Calls Try.prog 15 #[.agg #[.slice a len cap, .int .i64 n], .int .i64 i, .int .i64 k] w (RetS (.tuple #[.int .u64 (bitsNum l i.toNat k.toNat), .bool true]) w) := by
  obtain ⟨i, rfl⟩ := Int.eq_ofNat_of_zero_le h3
  obtain ⟨k, rfl⟩ := Int.eq_ofNat_of_zero_le (show 0 ≤ k by omega)
  obtain ⟨n, rfl⟩ := Int.eq_ofNat_of_zero_le (show 0 ≤ n by omega)
  have hlen : n ≤ 8 * len := by
    simp [validB, hb.length] at hv; omega
  have HV : Hid (validR l (n : Int) = true) := hid (by rw [validR_eq]; exact hv)
  have hle := hb.le
  have hmx := hb.max
  have hbb := hb.below ((Below.refl _ _).alloc (Nat.le_refl _) (.cells #[.slice a len cap, .int .i64 (n : Int)] 24))
  clear hv
  have hin : i ≤ n := by omega
  have q1 : decide (n < i) = false := decide_eq_false (by omega)
  have q2 : decide ((n : Int) < (i : Int)) = false := decide_eq_false (by omega)
  have q3 : decide ((n : Int) - (i : Int) < (k : Int)) = false := decide_eq_false (by omega)
  have q4 : decide ((i : Int) < 0) = false := decide_eq_false (by omega)
  have q5 : decide ((k : Int) < 1) = false := decide_eq_false (by omega)
  have q6 : decide (64 < (k : Int)) = false := decide_eq_false (by omega)
  go_enter Try.func15, Try.ntmps15
  go_wp2_with fail
  refine (refvalid_any a len cap l n _ hbb hN).mono ?_
  rintro e w1 ⟨rfl, hB1⟩
  rw [HV.out]
  have hX := (Box.new w a len cap n).below hB1 (by simp)
  have c0 := hX.c0
  have c1 := hX.c1
  have hb1 := hbb.below hB1
  have hB := Below.trans ((Below.refl _ _).alloc (Nat.le_refl _) _) (hB1.mono (B' := w.heap.size) (by simp))
  clear hX hB1 hbb
  go_wp2
  go_loop [8, 9] (fun v t => ∃ j : Nat, j ≤ k ∧ t = .int .i64 (j : Int) ∧ v = .int .u64 (bitsNum l i j)) (fun _ t => k - (intOf t).toNat)
  case atStart => exact ⟨0, Nat.zero_le _, rfl, rfl⟩
  case round =>
    obtain ⟨j, hj, rfl, rfl⟩ := hrel
    by_cases hlt : j < k
    · have hlt64 := bitsNum_lt l i j
      have hp : 2 ^ j ≤ 2 ^ 63 := Nat.pow_le_pow_right (by decide) (by omega)
      have HL : Hid (bitsNum l i j < 9223372036854775808) := hid (by omega)
      clear hlt64 hp
      go_wp2_with (go_at_call 33; refine (refbit_any a len cap l ((i : Int) + (j : Int)) _ hb1 (by omega) (by omega)).mono ?_; rintro e w' ⟨rfl, rfl⟩; rw [show ((i : Int) + (j : Int)).toNat = i + j from by omega])
      go_round
      case rel => exact ⟨j + 1, by omega, by go_num, by rw [add_shl1 _ _ HL.out (bitN_lt _ _)]; rfl⟩
      case measure => simp [intOf]; omega
    · obtain rfl : j = k := by omega
      go_wp2
      go_ret2
      exact ⟨rfl, hB⟩

set_option maxHeartbeats 2000000 in
theorem refbits_no (a : Option Addr) (len cap : Nat) (l : List UInt8) (n i k : Int) (w : World) (hb : IsB w a len cap l) (hn : I64 n) (hi : I64 i) (hk : I64 k) (ho : bitsOk l n i k = false) :
    Calls Try.prog 15 #[.agg #[.slice a len cap, .int .i64 n], .int .i64 i, .int .i64 k] w (RetS (.tuple #[.int .u64 0, .bool false]) w) := by
  have hbb := hb.below ((Below.refl _ _).alloc (Nat.le_refl _) (.cells #[.slice a len cap, .int .i64 n] 24))
  have hcase : validB l n = false ∨ (validB l n = true ∧ (k < 1 ∨ (1 ≤ k ∧ 64 < k) ∨ (1 ≤ k ∧ k ≤ 64 ∧ i < 0) ∨ (1 ≤ k ∧ k ≤ 64 ∧ 0 ≤ i ∧ n < i) ∨ (1 ≤ k ∧ k ≤ 64 ∧ 0 ≤ i ∧ i ≤ n ∧ n - i < k))) := by
    cases hv : validB l n
    · exact .inl rfl
    · refine .inr ⟨rfl, ?_⟩
      simp [bitsOk, hv] at ho
      omega
  clear ho
  rcases hcase with hv | ⟨hv, hcase⟩
  · have HV : Hid (validR l n = false) := hid (by rw [validR_eq]; exact hv)
    clear hv
    go_enter Try.func15, Try.ntmps15
    go_wp2_with fail
    refine (refvalid_any a len cap l n _ hbb hn).mono ?_
    rintro e w1 ⟨rfl, hB1⟩
    rw [HV.out]
    have hB := Below.trans ((Below.refl _ _).alloc (Nat.le_refl _) _) (hB1.mono (B' := w.heap.size) (by simp))
    go_wp2
    go_ret2
    exact ⟨rfl, hB⟩
  · have hlen : 0 ≤ n ∧ n ≤ 8 * len := by
      simp [validB, hb.length] at hv; omega
    obtain ⟨hl0, hl1⟩ := hlen
    have hmx := hb.max
    have HV : Hid (validR l n = true) := hid (by rw [validR_eq]; exact hv)
    clear hv
    rcases hcase with h | ⟨h, h'⟩ | ⟨h, h', h''⟩ | ⟨h, h', h'', h3⟩ | ⟨h, h', h'', h3, h4⟩
    all_goals
      go_enter Try.func15, Try.ntmps15
      go_wp2_with fail
      refine (refvalid_any a len cap l n _ hbb hn).mono ?_
      rintro e w1 ⟨rfl, hB1⟩
      rw [HV.out]
      have hX := (Box.new w a len cap n).below hB1 (by simp)
      have c1 := hX.c1
      have hB := Below.trans ((Below.refl _ _).alloc (Nat.le_refl _) _) (hB1.mono (B' := w.heap.size) (by simp))
      clear hX hB1
      go_wp2
      go_ret2
      exact ⟨rfl, hB⟩

theorem refbits_any (a : Option Addr) (len cap : Nat) (l : List UInt8) (n i k : Int) (w : World) (hb : IsB w a len cap l) (hn : I64 n) (hi : I64 i) (hk : I64 k) :
    Calls Try.prog 15 #[.agg #[.slice a len cap, .int .i64 n], .int .i64 i, .int .i64 k] w
      (RetS (.tuple #[.int .u64 ((if bitsOk l n i k then bitsNum l i.toNat k.toNat else 0 : Nat) : Int), .bool (bitsOk l n i k)]) w) := by
  cases ho : bitsOk l n i k
  · simpa using refbits_no a len cap l n i k w hb hn hi hk ho
  · have h := ho
    simp only [bitsOk, Bool.and_eq_true, decide_eq_true_eq] at h
    simpa using refbits_yes a len cap l n i k w hb h.1.2 h.1.1.1 h.1.1.2 h.2.1 h.2.2 hn

set_option maxHeartbeats 1000000 in
theorem samebits_any (a : Option Addr) (la ca : Nat) (l : List UInt8) (n : Int) (b : Option Addr) (lb cb : Nat) (m : List UInt8) (w : World) (ha : IsB w a la ca l) (hb : IsB w b lb cb m) :
    Calls Try.prog 16 #[.agg #[.slice a la ca, .int .i64 n], .agg #[.slice b lb cb, .int .i64 n]] w (RetS (.bool (l == m)) w) := by
  have hB0 := two_below w (.cells #[.slice a la ca, .int .i64 n] 24) (.cells #[.slice b lb cb, .int .i64 n] 24)
  have h1 := ha.below hB0
  have h2 := hb.below hB0
  go_enter Try.func16, Try.ntmps16
  go_wp2_with fail
  refine (same_any a la ca l b lb cb m _ h1 h2).mono ?_
  rintro e w1 ⟨rfl, hB1⟩
  have hB := seq hB0 hB1
  go_wp2
  go_ret
  exact ⟨rfl, hB⟩
end Go.Proofs.Ytakandlbphjflaa
