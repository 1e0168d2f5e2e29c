import Derived.Test.YtakandlbphjflaaLawBits
import Derived.Test.YtakandlbphjflaaBits
import Derived.Test.YtakandlbphjflaaBitMath
import Derived.Test.YtakandlbphjflaaMod
import Derived.Test.YtakandlbphjflaaKnown01
namespace Go.Proofs.Ytakandlbphjflaa
open Go.RowKit

theorem validB_nonneg (l : List UInt8) (n : Int) (h : validB l n = true) : 0 ≤ n := ((validB_iff l n).1 h).1

/-- 'z == x<<m + y' -/
theorem split_beq (l : List UInt8) (p q r : Nat) (h : q + r ≤ 64) :
    (((bitsNum l p (q + r) : Nat) : Int) == IntKind.u64.wrap (IntKind.u64.wrap ((bitsNum l p q : Int) * 2 ^ r) + (bitsNum l (p + q) r : Int))) = true := by
  have h1 := bitsNum_lt l p (q + r)
  have h2 : 2 ^ (q + r) ≤ 2 ^ 64 := Nat.pow_le_pow_right (by decide) h
  have h3 := bitsNum_add l p q r
  rw [beq_iff_eq, show (bitsNum l p q : Int) * 2 ^ r = ((bitsNum l p q * 2 ^ r : Nat) : Int) from by simp, u64_wrap_nat, Nat.mod_eq_of_lt (by omega),
    show ((bitsNum l p q * 2 ^ r : Nat) : Int) + (bitsNum l (p + q) r : Int) = ((bitsNum l p q * 2 ^ r + bitsNum l (p + q) r : Nat) : Int) from by simp, u64_wrap_nat, ← h3, Nat.mod_eq_of_lt (by omega)]

set_option maxRecDepth 100000 in
set_option maxHeartbeats 4000000 in
theorem splits_walk (a : Option Addr) (len cap : Nat) (i n m : Int) (w : World) (hI : IsI w a len cap) (hi : I64 i) (hn : I64 n) (hm : I64 m) :
    Calls Try.prog 7 #[.slice a len cap, .int .i64 i, .int .i64 n, .int .i64 m] w (RetS (.bool true) w) := by
  go_enter Try.func7, Try.ntmps7
  go_wp2_with fail
  refine (lawbits_any a len cap w hI).mono ?_
  rintro e w1 ⟨g, l, L, rfl, hg, hl, hL1, hL2, hO1, hB1⟩
  have hJ1 := hO1.isB (by omega)
  generalize hc : l.length = c at *
  have HC := hid hc
  clear hc hO1
  have hS := Box.new w1 (some ⟨g, 0, none⟩) c c L
  have hJ2 := hJ1.below ((Below.refl w1.heap.size w1).alloc (Nat.le_refl _) (.cells #[.slice (some ⟨g, 0, none⟩) c c, .int .i64 L] 24))
  have B2 := hB1.alloc hB1.size (.cells #[.slice (some ⟨g, 0, none⟩) c c, .int .i64 L] 24)
  clear hJ1 hB1
  go_wp2_with fail
  refine (validBits_any _ c c l L _ hJ2 ⟨by omega, by omega⟩).mono ?_
  rintro e w3 ⟨rfl, hB3⟩
  have hS3 := hS.below hB3 hS.lt
  have hJ3 := hJ2.below hB3
  have B3 := seq B2 hB3
  clear hS hJ2 B2 hB3
  have s0 := hS3.c0
  have s1 := hS3.c1
  by_cases hgo : validB l L = true ∧ 2 ≤ L
  · obtain ⟨hV, hL⟩ := hgo
    obtain ⟨L, rfl⟩ := Int.eq_ofNat_of_zero_le (show 0 ≤ L by omega)
    rw [hV]
    have HV := hid hV
    clear hV
    have HS := hid hS3
    clear hS3
    go_wp2_with fail
    refine (mod_some i ((L : Int) - 1) _ (by omega) (by omega) hi).mono ?_
    rintro e w' ⟨p, rfl, hp, rfl⟩
    by_cases h32 : (L : Int) - (p : Int) - 1 ≤ 32
    all_goals
      go_wp2_with fail
      refine (mod_some n _ _ (by omega) (by omega) hn).mono ?_
      rintro e w' ⟨q, rfl, hq, rfl⟩
      by_cases h33 : (L : Int) - (p : Int) - (1 + (q : Int)) ≤ 32
      all_goals (try (exfalso; omega))
      all_goals
        go_wp2_with fail
        refine (mod_some m _ _ (by omega) (by omega) hm).mono ?_
        rintro e w' ⟨r, rfl, hr, rfl⟩
        go_wp2_with fail
        refine (bits_yes _ c c l (L : Int) (p : Int) (1 + (q : Int)) _ hJ3 HV.out (by omega) (by omega) (by omega) (by omega) ⟨by omega, by omega⟩).mono ?_
        rintro e w4 ⟨rfl, hB4⟩
        rw [show (1 + (q : Int)).toNat = 1 + q from by omega, Int.toNat_natCast]
        have HS4 := HS.out.below hB4 HS.out.lt
        have s04 := HS4.c0
        have s14 := HS4.c1
        have hJ4 := hJ3.below hB4
        have B4 := seq B3 hB4
        have HS4' := hid HS4
        clear HS4 hB4 s0 s1
        go_wp2_with fail
        refine (bits_yes _ c c l (L : Int) ((p : Int) + (1 + (q : Int))) (1 + (r : Int)) _ hJ4 HV.out (by omega) (by omega) (by omega) (by omega) ⟨by omega, by omega⟩).mono ?_
        rintro e w5 ⟨rfl, hB5⟩
        rw [show (1 + (r : Int)).toNat = 1 + r from by omega, show ((p : Int) + (1 + (q : Int))).toNat = p + (1 + q) from by omega]
        have HS5 := HS4'.out.below hB5 HS4'.out.lt
        have s05 := HS5.c0
        have s15 := HS5.c1
        have hJ5 := hJ4.below hB5
        have B5 := seq B4 hB5
        clear HS5 hB5 s04 s14
        go_wp2_with fail
        refine (bits_yes _ c c l (L : Int) (p : Int) (1 + (q : Int) + (1 + (r : Int))) _ hJ5 HV.out (by omega) (by omega) (by omega) (by omega) ⟨by omega, by omega⟩).mono ?_
        rintro e w6 ⟨rfl, hB6⟩
        rw [show (1 + (q : Int) + (1 + (r : Int))).toNat = 1 + q + (1 + r) from by omega, Int.toNat_natCast]
        have B6 := seq B5 hB6
        have hsum := split_beq l p (1 + q) (1 + r) (by omega)
        clear s05 s15 hB6
        generalize bitsNum l p (1 + q + (1 + r)) = z at *
        generalize bitsNum l p (1 + q) = x at *
        generalize bitsNum l (p + (1 + q)) (1 + r) = y at *
        go_wp2_with fail
        refine (known_any _).mono ?_
        rintro e w7 ⟨rfl, hB7⟩
        have B7 := seq B6 hB7
        go_wp2
        go_ret
        exact ⟨rfl, B7⟩
  · have hno : validB l L = false ∨ (validB l L = true ∧ L < 2) := by
      cases hV : validB l L
      · exact .inl rfl
      · refine .inr ⟨rfl, ?_⟩
        rw [hV] at hgo; simp at hgo; omega
    clear hgo
    rcases hno with hV | ⟨hV, hL⟩
    all_goals
      rw [hV]
      clear hV
      go_wp2_with fail
      refine (known_any _).mono ?_
      rintro e w4 ⟨rfl, hB4⟩
      have B4 := seq B3 hB4
      go_wp2
      go_ret
      exact ⟨rfl, B4⟩
end Go.Proofs.Ytakandlbphjflaa
