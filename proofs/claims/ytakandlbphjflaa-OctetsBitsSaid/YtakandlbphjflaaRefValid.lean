import Derived.Test.YtakandlbphjflaaBox
namespace Go.Proofs.Ytakandlbphjflaa
open Go.RowKit

set_option maxHeartbeats 1000000 in
theorem refbit_any (a : Option Addr) (len cap : Nat) (l : List UInt8) (i : Int) (w : World) (hb : IsB w a len cap l) (h1 : 0 ≤ i) (h2 : i < 8 * len) :
    Calls Try.prog 33 #[.slice a len cap, .int .i64 i] w (Ret (.int .u64 (bitN l i.toNat)) w) := by
  obtain ⟨i, rfl⟩ := Int.eq_ofNat_of_zero_le h1
  have hle := hb.le
  have hmx := hb.max
  obtain ⟨b, off, rfl, hbl, hc⟩ := hb.some (by omega)
  have hcx := hc (i / 8) (by omega)
  clear hc
  go_enter Try.func33, Try.ntmps33
  go_wp2
  go_ret
  refine ⟨ret_int ?_, rfl⟩
  rw [← List.getD_eq_getElem?_getD, u64_bit]
  rfl

/-- promise 1.3, as the chapter says it -/
def validR (l : List UInt8) (n : Int) : Bool :=
  decide (0 ≤ n ∧ (l.length : Int) = (n + 7) / 8 ∧ ∀ i, i < 8 * l.length → n.toNat ≤ i → bitN l i = 0)

set_option maxHeartbeats 1000000 in
theorem refvalid_any (a : Option Addr) (len cap : Nat) (l : List UInt8) (n : Int) (w : World) (hb : IsB w a len cap l) (hi : I64 n) :
    Calls Try.prog 18 #[.agg #[.slice a len cap, .int .i64 n]] w (RetS (.bool (validR l n)) w) := by
  have hv : Hid (validR l n = decide (0 ≤ n ∧ (len : Int) = (n + 7) / 8 ∧ ∀ i, i < 8 * len → n.toNat ≤ i → bitN l i = 0)) := hid (by simp only [validR, hb.length])
  have hle := hb.le
  have hmx := hb.max
  by_cases h0 : n < 0
  · go_enter Try.func18, Try.ntmps18
    go_wp2
    go_ret
    refine ⟨ret_bool ?_, (Below.refl _ _).alloc (Nat.le_refl _) _⟩
    rw [hv.out]; simp; omega
  · have h1 : decide (n < 0) = false := by simpa using h0
    by_cases h2 : (len : Int) = (n + 7) / 8
    · have h3 : ((len : Int) != n / 8 + (n % 8 + 7) / 8) = false := by simp; omega
      obtain ⟨n, rfl⟩ := Int.eq_ofNat_of_zero_le (show 0 ≤ n by omega)
      have h8 : n ≤ 8 * len := by omega
      have H2 := hid h2
      clear h2
      have hbb := hb.below ((Below.refl _ _).alloc (Nat.le_refl _) (.cells #[.slice a len cap, .int .i64 n] 24))
      go_enter Try.func18, Try.ntmps18
      go_wp2
      go_loop [3] (fun t => ∃ j : Nat, n ≤ j ∧ j ≤ 8 * len ∧ t = .int .i64 j ∧ Hid (∀ i, n ≤ i → i < j → bitN l i = 0)) (fun t => 8 * len - (intOf t).toNat)
      case atStart => exact ⟨n, Nat.le_refl _, h8, rfl, hid (by intro i h1 h2; omega)⟩
      case round =>
        obtain ⟨j, hj1, hj2, rfl, hz⟩ := hrel
        by_cases hlt : j < 8 * len
        · have hq := bitN_lt l j
          by_cases hx : bitN l j = 0
          · have HX := hid hx
            clear hx hq
            go_wp2_with (go_at_call 33; refine (refbit_any a len cap l (j : Int) _ hbb (by omega) (by omega)).mono ?_; rintro e w' ⟨rfl, rfl⟩; rw [Int.toNat_natCast, HX.out])
            go_round
            case rel => exact ⟨j + 1, by omega, by omega, by go_num, hid (by intro i h1 h2; by_cases h : i = j; (rw [h]; exact HX.out); exact hz.out i h1 (by omega))⟩
            case measure => simp [intOf]; omega
          · have HX : Hid (bitN l j = 1) := hid (by omega)
            have hf : Hid (validR l n = false) := hid (by rw [hv.out]; simp; intro _; exact ⟨j, hlt, hj1, hx⟩)
            clear hx hq
            go_wp2_with (go_at_call 33; refine (refbit_any a len cap l (j : Int) _ hbb (by omega) (by omega)).mono ?_; rintro e w' ⟨rfl, rfl⟩; rw [Int.toNat_natCast, HX.out])
            go_ret
            exact ⟨ret_bool (by rw [hf.out]), (Below.refl _ _).alloc (Nat.le_refl _) _⟩
        · obtain rfl : j = 8 * len := by omega
          go_wp2
          go_ret
          refine ⟨ret_bool ?_, (Below.refl _ _).alloc (Nat.le_refl _) _⟩
          rw [hv.out]; simp [H2.out]; intro i h1 h2; exact hz.out i h2 h1
    · have h3 : ((len : Int) != n / 8 + (n % 8 + 7) / 8) = true := by simp; omega
      have H2 := hid h2
      have h00 : 0 ≤ n := by omega
      have hup : n ≤ 9223372036854775807 := by have := hi.2; omega
      clear h2 h0
      go_enter Try.func18, Try.ntmps18
      go_wp2
      go_ret
      refine ⟨ret_bool ?_, (Below.refl _ _).alloc (Nat.le_refl _) _⟩
      rw [hv.out]; simp [H2.out]
end Go.Proofs.Ytakandlbphjflaa
