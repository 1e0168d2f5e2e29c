import Derived.Test.YtakandlbphjflaaValidBits
import Derived.Test.YtakandlbphjflaaUint
import Derived.Test.YtakandlbphjflaaBox
namespace Go.Proofs.Ytakandlbphjflaa
open Go.RowKit

set_option maxHeartbeats 1000000 in
theorem bits_yes (a : Option Addr) (len cap : Nat) (l : List UInt8) (n i k : Int) (w : World) (hb : IsB w a len cap l) (hv : validB l n = true)
    (h1 : 1 ≤ k) (h2 : k ≤ 64) (h3 : 0 ≤ i) (h4 : i + k ≤ n) (hN : I64 n) :
    Calls Try.prog 14 #[.agg #[.slice a len cap, .int .i64 n], .int .i64 i, .int .i64 k] w (RetS (.tuple #[.int .u64 (bitsNum l i.toNat k.toNat), .bool true]) w) := by
  obtain ⟨i, rfl⟩ := Int.eq_ofNat_of_zero_le h3
  obtain ⟨k, rfl⟩ := Int.eq_ofNat_of_zero_le (show 0 ≤ k by omega)
  obtain ⟨n, rfl⟩ := Int.eq_ofNat_of_zero_le (show 0 ≤ n by omega)
  have hlen : n ≤ 8 * len := by
    simp [validB, hb.length] at hv; omega
  have HV := hid hv
  have hle := hb.le
  have hmx := hb.max
  have hi : insideB (n : Int) (i : Int) (k : Int) = true := by simp [insideB]; omega
  clear hv
  go_enter Try.func14, Try.ntmps14
  go_wp2_with fail
  refine (validBits_any a len cap l n _ (hb.below ((Below.refl _ _).alloc (Nat.le_refl _) _)) hN).mono ?_
  rintro e w1 ⟨rfl, hB1⟩
  rw [HV.out]
  have hX := (Box.new w a len cap n).below hB1 (by simp)
  have c0 := hX.c0
  have c1 := hX.c1
  have hB := Below.trans ((Below.refl _ _).alloc (Nat.le_refl _) _) (hB1.mono (B' := w.heap.size) (by simp))
  clear hX hB1
  go_wp2_with fail
  refine (inside_any _ _ _ _ (by omega) (by omega) (by omega) ⟨by omega, by omega⟩ ⟨by omega, by omega⟩).mono ?_
  rintro e w' ⟨rfl, rfl⟩
  rw [hi]
  go_wp2
  go_loop [8, 9] (fun v t => ∃ j : Nat, j ≤ k ∧ t = .int .i64 ((i : Int) + (j : Int)) ∧ v = .int .u64 (bitsNum l i j)) (fun _ t => k - ((intOf t).toNat - i))
  case atStart => exact ⟨0, Nat.zero_le _, by simp, by simp [bitsNum]⟩
  case round =>
    obtain ⟨j, hj, rfl, rfl⟩ := hrel
    by_cases hlt : j < k
    · obtain ⟨b, off, rfl, hbl, hc⟩ := (hb.below hB).some (by omega)
      have hcx := hc ((i + j) / 8) (by omega)
      have hlt64 := bitsNum_lt l i j
      have hp : 2 ^ j ≤ 2 ^ 63 := Nat.pow_le_pow_right (by decide) (by omega)
      have HL : Hid (bitsNum l i j < 9223372036854775808) := hid (by omega)
      clear hc hlt64 hp
      go_wp2
      go_round
      case rel =>
        refine ⟨j + 1, by omega, by push_cast; go_num, ?_⟩
        rw [← List.getD_eq_getElem?_getD, u8_bit, or_shl1 _ _ HL.out (Nat.mod_lt _ (by decide))]
        rfl
      case measure => simp [intOf]; omega
    · obtain rfl : j = k := by omega
      go_wp2
      go_ret2
      exact ⟨rfl, hB⟩
def bitsOk (l : List UInt8) (n i k : Int) : Bool := decide (1 ≤ k ∧ k ≤ 64) && validB l n && decide (0 ≤ i ∧ i + k ≤ n)

set_option maxHeartbeats 1000000 in
theorem bits_no (a : Option Addr) (len cap : Nat) (l : List UInt8) (n i k : Int) (w : World) (hb : IsB w a len cap l) (hn : I64 n) (hi : I64 i) (hk : I64 k) (ho : bitsOk l n i k = false) :
    Calls Try.prog 14 #[.agg #[.slice a len cap, .int .i64 n], .int .i64 i, .int .i64 k] w (RetS (.tuple #[.int .u64 0, .bool false]) w) := by
  by_cases h1 : k < 1
  · clear ho
    go_enter Try.func14, Try.ntmps14
    go_wp2
    go_ret2
    exact ⟨rfl, (Below.refl _ _).alloc (Nat.le_refl _) _⟩
  · by_cases h2 : 64 < k
    · clear ho
      go_enter Try.func14, Try.ntmps14
      go_wp2
      go_ret2
      exact ⟨rfl, (Below.refl _ _).alloc (Nat.le_refl _) _⟩
    · have h3 : 1 ≤ k := by omega
      have h4 : k ≤ 64 := by omega
      clear h1 h2
      have h5 : (validB l n = false) ∨ (validB l n = true ∧ ¬ (0 ≤ i ∧ i + k ≤ n)) := by
        simp [bitsOk, h3, h4] at ho
        cases hv : validB l n
        · exact .inl rfl
        · simp [hv] at ho; exact .inr ⟨rfl, by omega⟩
      clear ho
      have hbb := hb.below ((Below.refl _ _).alloc (Nat.le_refl _) (.cells #[.slice a len cap, .int .i64 n] 24))
      rcases h5 with hv | ⟨hv, h6⟩
      · have HV := hid hv
        clear hv
        go_enter Try.func14, Try.ntmps14
        go_wp2_with fail
        refine (validBits_any a len cap l n _ hbb hn).mono ?_
        rintro e w1 ⟨rfl, hB1⟩
        rw [HV.out]
        have hB := Below.trans ((Below.refl _ _).alloc (Nat.le_refl _) _) (hB1.mono (B' := w.heap.size) (by simp))
        go_wp2
        go_ret2
        exact ⟨rfl, hB⟩
      · have hlen : 0 ≤ n ∧ n ≤ 8 * len := by
          simp [validB, hb.length] at hv; omega
        have hmx := hb.max
        have hle := hb.le
        have hi2 : Hid (insideB n i k = false) := hid (by simp only [insideB, decide_eq_false_iff_not]; exact h6)
        have HV := hid hv
        clear hv h6
        go_enter Try.func14, Try.ntmps14
        go_wp2_with fail
        refine (validBits_any a len cap l n _ hbb hn).mono ?_
        rintro e w1 ⟨rfl, hB1⟩
        rw [HV.out]
        have hX := (Box.new w a len cap n).below hB1 (by simp)
        have c1 := hX.c1
        have hB := Below.trans ((Below.refl _ _).alloc (Nat.le_refl _) _) (hB1.mono (B' := w.heap.size) (by simp))
        clear hX hB1
        go_wp2_with fail
        refine (inside_any _ _ _ _ (by omega) (by omega) (by omega) hk hi).mono ?_
        rintro e w' ⟨rfl, rfl⟩
        rw [hi2.out]
        go_wp2
        go_ret2
        exact ⟨rfl, hB⟩

/-- octets.Bits: promise 1.5 -/
theorem bits_any (a : Option Addr) (len cap : Nat) (l : List UInt8) (n i k : Int) (w : World) (hb : IsB w a len cap l) (hn : I64 n) (hi : I64 i) (hk : I64 k) :
    Calls Try.prog 14 #[.agg #[.slice a len cap, .int .i64 n], .int .i64 i, .int .i64 k] w
      (RetS (.tuple #[.int .u64 ((if bitsOk l n i k then bitsNum l i.toNat k.toNat else 0 : Nat) : Int), .bool (bitsOk l n i k)]) w) := by
  cases ho : bitsOk l n i k
  · simpa using bits_no a len cap l n i k w hb hn hi hk ho
  · have h := ho
    simp only [bitsOk, Bool.and_eq_true, decide_eq_true_eq] at h
    simpa using bits_yes a len cap l n i k w hb h.1.2 h.1.1.1 h.1.1.2 h.2.1 h.2.2 hn
end Go.Proofs.Ytakandlbphjflaa
