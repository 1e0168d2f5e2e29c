import Derived.Test.YtakandlbphjflaaBitMath
import Derived.Test.YtakandlbphjflaaBits
import Derived.Test.YtakandlbphjflaaMod
import Derived.Test.YtakandlbphjflaaBe
import Derived.Test.YtakandlbphjflaaKnown01
namespace Go.Proofs.Ytakandlbphjflaa
open Go.RowKit

theorem validB_nil : validB [] 0 = true := by decide

/-- 'x == v<<(64-k)>>(64-k)' -/
theorem shifts_beq (v k : Nat) (hk : k ≤ 64) :
    ((((v % 2 ^ k : Nat) : Int)) == IntKind.u64.wrap ((v : Int) * 2 ^ (64 - k)) / 2 ^ (64 - k)) = true := by
  have h := shl_shr v k hk
  rw [beq_iff_eq, ← h, show ((v : Nat) : Int) * 2 ^ (64 - k) = ((v * 2 ^ (64 - k) : Nat) : Int) from by simp, u64_wrap_nat,
    show (2 : Int) ^ (64 - k) = ((2 ^ (64 - k) : Nat) : Int) from by simp, ← Int.natCast_ediv]

set_option maxRecDepth 100000 in
set_option maxHeartbeats 4000000 in
theorem bitsread_walk (v u n m : Int) (w : World) (hv : U64 v) (hu : U64 u) (hn : I64 n) (hm : I64 m) :
    Calls Try.prog 6 #[.int .u64 v, .int .u64 u, .int .i64 n, .int .i64 m] w (RetS (.bool true) w) := by
  obtain ⟨v, rfl⟩ := Int.eq_ofNat_of_zero_le hv.1
  obtain ⟨u, rfl⟩ := Int.eq_ofNat_of_zero_le hu.1
  obtain ⟨p, hp⟩ := Int.eq_ofNat_of_zero_le (Int.emod_nonneg n (show (64 : Int) ≠ 0 by decide))
  obtain ⟨q, hq⟩ := Int.eq_ofNat_of_zero_le (Int.emod_nonneg m (show (64 : Int) ≠ 0 by decide))
  have hp2 : p < 64 := by have := Int.emod_lt_of_pos n (show (0 : Int) < 64 by decide); omega
  have hq2 : q < 64 := by have := Int.emod_lt_of_pos m (show (0 : Int) < 64 by decide); omega
  have HP := hid hp
  have HQ := hid hq
  clear hp hq
  go_enter Try.func6, Try.ntmps6
  go_wp2_with fail
  refine (mod_any n 64 _ (by decide) (by decide) hn).mono ?_
  rintro e w' ⟨rfl, rfl⟩
  rw [HP.out]
  go_wp2_with fail
  refine (mod_any m 64 _ (by decide) (by decide) hm).mono ?_
  rintro e w' ⟨rfl, rfl⟩
  rw [HQ.out]
  go_wp2_with fail
  refine (appendBits_yes none 0 0 [] 0 v (1 + (p : Int)) _ ⟨rfl, Nat.le_refl _, by omega, by omega, fun _ => ⟨rfl, rfl⟩, by simp⟩ validB_nil ⟨by omega, by omega⟩ (by omega) (by omega) (by omega) hv).mono ?_
  rintro e w1 ⟨g1, rfl, hg1, hO1, hB1⟩
  rw [show (1 + (p : Int)).toNat = 1 + p from by omega, Int.toNat_natCast, show Int.toNat 0 = 0 from rfl, show (0 : Int) + (1 + (p : Int)) = 1 + (p : Int) from by omega] at *
  have A1 : Hid (validB (appTo [] 0 v (1 + p) (1 + p)) ((1 + p : Nat) : Int) = true) := hid (by have := valid_app [] 0 v (1 + p) validB_nil; simpa using this)
  have N1 : Hid (bitsNum (appTo [] 0 v (1 + p) (1 + p)) 0 (1 + p) = v % 2 ^ (1 + p)) := hid (bitsNum_app [] 0 v (1 + p) validB_nil)
  have L1 := length_appTo [] 0 v (1 + p) (by simp) (1 + p)
  generalize appTo [] 0 v (1 + p) (1 + p) = l1 at *
  have J1 := hO1.isB (by rw [L1]; omega)
  have K1 : l1.length ≤ 9 := by rw [L1]; omega
  clear L1 hO1
  generalize l1.length = c1 at *
  go_wp2_with fail
  have B1 : Below w.heap.size w (w1.alloc (.cells #[.slice (some ⟨g1, 0, none⟩) c1 c1, .int .i64 (1 + (p : Int))] 24)) := hB1.alloc hB1.size _
  refine (appendBits_yes (some ⟨g1, 0, none⟩) _ _ l1 (1 + (p : Int)) u (1 + (q : Int)) _ (J1.below ((Below.refl _ _).alloc (Nat.le_refl _) _)) (by have := A1.out; push_cast at this; exact this) ⟨by omega, by omega⟩ (by omega) (by omega) (by omega) hu).mono ?_
  rintro e w2 ⟨g2, rfl, hg2, hO2, hB2⟩
  rw [show (1 + (p : Int)).toNat = 1 + p from by omega, show (1 + (q : Int)).toNat = 1 + q from by omega, Int.toNat_natCast, show (1 + (p : Int)) + (1 + (q : Int)) = ((p + q + 2 : Nat) : Int) from by omega] at *
  have A2 : Hid (validB (appTo l1 (1 + p) u (1 + q) (1 + q)) ((p + q + 2 : Nat) : Int) = true) := hid (by have := valid_app l1 (1 + p) u (1 + q) A1.out; rw [show ((p + q + 2 : Nat) : Int) = ((1 + p : Nat) : Int) + ((1 + q : Nat) : Int) from by omega]; exact this)
  have N2 : Hid (bitsNum (appTo l1 (1 + p) u (1 + q) (1 + q)) (1 + p) (1 + q) = u % 2 ^ (1 + q)) := hid (bitsNum_app l1 (1 + p) u (1 + q) A1.out)
  have N3 : Hid (bitsNum (appTo l1 (1 + p) u (1 + q) (1 + q)) 0 (1 + p) = v % 2 ^ (1 + p)) := hid (by rw [bitsNum_before l1 (1 + p) u (1 + q) 0 (1 + p) A1.out (by omega)]; exact N1.out)
  have L2 := length_appTo l1 (1 + p) u (1 + q) (by have := ((validB_iff _ _).1 A1.out).2.1; omega) (1 + q)
  generalize appTo l1 (1 + p) u (1 + q) (1 + q) = l2 at *
  have J2 := hO2.isB (by rw [L2]; omega)
  have BB := seq B1 hB2
  clear L2 hO2 A1 N1 J1 B1 hB2 hB1 K1
  generalize l2.length = c2 at *
  have A3 : Hid (validB l2 ((p : Int) + (q : Int) + 2) = true) := hid (by have := A2.out; push_cast at this; exact this)
  have F1 := shifts_beq v (1 + p) (by omega)
  have F2 := shifts_beq u (1 + q) (by omega)
  generalize v % 2 ^ (1 + p) = x1 at *
  generalize u % 2 ^ (1 + q) = x2 at *
  go_wp2_with fail
  have BX := Box.new w2 (some ⟨g2, 0, none⟩) c2 c2 ((p : Int) + (q : Int) + 2)
  have J3 := J2.below ((Below.refl _ _).alloc (Nat.le_refl _) (.cells #[.slice (some ⟨g2, 0, none⟩) c2 c2, .int .i64 ((p : Int) + (q : Int) + 2)] 24))
  have B3 : Below w.heap.size w (w2.alloc (.cells #[.slice (some ⟨g2, 0, none⟩) c2 c2, .int .i64 ((p : Int) + (q : Int) + 2)] 24)) := BB.alloc BB.size _
  clear J2 BB
  refine (bits_yes _ c2 c2 l2 ((p : Int) + (q : Int) + 2) 0 (1 + (p : Int)) _ J3 A3.out (by omega) (by omega) (by omega) (by omega) ⟨by omega, by omega⟩).mono ?_
  rintro e w3 ⟨rfl, hB3⟩
  rw [show (1 + (p : Int)).toNat = 1 + p from by omega, show Int.toNat 0 = 0 from rfl, N3.out]
  have BX3 := BX.below hB3 (by simp)
  have J4 := J3.below hB3
  have B4 := seq B3 hB3
  have d0 := BX3.c0
  have d1 := BX3.c1
  clear J3 B3 hB3 BX
  go_wp2_with fail
  refine (bits_yes _ c2 c2 l2 ((p : Int) + (q : Int) + 2) (1 + (p : Int)) (1 + (q : Int)) _ J4 A3.out (by omega) (by omega) (by omega) (by omega) ⟨by omega, by omega⟩).mono ?_
  rintro e w4 ⟨rfl, hB5⟩
  rw [show (1 + (p : Int)).toNat = 1 + p from by omega, show (1 + (q : Int)).toNat = 1 + q from by omega, N2.out]
  have BX4 := BX3.below hB5 BX3.lt
  have J5 := J4.below hB5
  have B5 := seq B4 hB5
  clear J4 B4 hB5 BX3 d0 d1
  go_wp2_with fail
  refine (known_any _).mono ?_
  rintro e w5 ⟨rfl, hB6⟩
  have BX5 := BX4.below hB6 BX4.lt
  have J6 := J5.below hB6
  have B6 := seq B5 hB6
  have d0 := BX5.c0
  have d1 := BX5.c1
  clear J5 B5 hB6 BX4
  go_wp2_with fail
  refine (validBits_any _ c2 c2 l2 ((p : Int) + (q : Int) + 2) _ J6 ⟨by omega, by omega⟩).mono ?_
  rintro e w6 ⟨rfl, hB7⟩
  rw [A3.out]
  have BX6 := BX5.below hB7 BX5.lt
  have B7 := seq B6 hB7
  have d2 := BX6.c0
  have d3 := BX6.c1
  clear J6 B6 hB7 BX5 d0 d1
  go_wp2
  go_ret
  exact ⟨rfl, B7⟩
end Go.Proofs.Ytakandlbphjflaa
