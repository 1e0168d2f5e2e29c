/-
  Common: how many first bits two addresses have in common.
-/
import Derived.Test.YthammgljcchloaaDoorContains
import Derived.Test.YthammgljcchloaaDoorShelf
import Derived.Lib.ItoaNum
namespace Go.Proofs.YthammgljcchloaaDoor
open Go.RowKit
set_option linter.unusedSimpArgs false
set_option linter.unusedVariables false

def comV (a b : List UInt8) : Nat := if hiOf a = hiOf b then 128 - Lib.bitLen (loOf a ^^^ loOf b) else 64 - Lib.bitLen (hiOf a ^^^ hiOf b)
theorem bitLen_0 : Lib.bitLen 0 = 0 := by decide
theorem bitLen_b (x : Nat) (h : x < 18446744073709551616) (h0 : x ≠ 0) : 1 ≤ Lib.bitLen x ∧ 2 ^ (Lib.bitLen x - 1) ≤ x ∧ x < 2 ^ Lib.bitLen x := Lib.bitLenAux_bounds 64 x (by simpa using h) h0
theorem bitLen_le (x k : Nat) (h : x < 18446744073709551616) : Lib.bitLen x ≤ k ↔ x < 2 ^ k := by
  by_cases h0 : x = 0
  · subst h0; rw [bitLen_0]; simp [Nat.two_pow_pos]
  · obtain ⟨h1, h2, h3⟩ := bitLen_b x h h0
    constructor
    · intro hk; exact Nat.lt_of_lt_of_le h3 (Nat.pow_le_pow_right (by decide) hk)
    · intro hk
      have : 2 ^ (Lib.bitLen x - 1) < 2 ^ k := Nat.lt_of_le_of_lt h2 hk
      have := (Nat.pow_lt_pow_iff_right (by decide : 1 < 2)).1 this
      omega
theorem bitLen_64 (x : Nat) (h : x < 18446744073709551616) : Lib.bitLen x ≤ 64 := (bitLen_le x 64 h).2 (by simpa using h)
theorem xor_zero (x y : Nat) : x ^^^ y = 0 ↔ x = y := by
  constructor
  · intro h
    have := congrArg (· ^^^ y) h
    simpa [Nat.xor_assoc] using this
  · rintro rfl; exact Nat.xor_self x
/-- equal down to the last k bits -/
theorem clr_xor (k x y : Nat) (hx : x < 18446744073709551616) (hy : y < 18446744073709551616) : clr k x = clr k y ↔ Lib.bitLen (x ^^^ y) ≤ k := by
  have hz := Nat.xor_lt_two_pow (n := 64) (x := x) (y := y) (by simpa using hx) (by simpa using hy)
  rw [clr_eq, bitLen_le _ _ (by simpa using hz)]
  rw [← xor_zero, ← Nat.xor_div_two_pow]
  rw [Nat.div_eq_zero_iff]
  have := Nat.two_pow_pos k
  omega

set_option maxHeartbeats 3200000 in
set_option maxRecDepth 100000 in
theorem common_any (a b : List UInt8) (ha : a.length = 16) (hb : b.length = 16) (w : World) :
    Calls Tryd.prog 32 #[iv a, iv b] w (RetS (.int .i64 (comV a b)) w) := by
  have hI := (Ik.new w a).below ((Below.refl (w.heap.size + 1) _).alloc (by simp) (.cells (row b) 23)) (Nat.lt_succ_self _)
  have hJ := Ik.new (w.alloc (.cells (row a) 23)) b
  rw [World.size_alloc] at hJ
  have hB := two_below w (.cells (row a) 23) (.cells (row b) 23)
  have s1 := fun w => split_any a ha w
  have s2 := fun w => split_any b hb w
  have h1 := hi_lt a ha
  have h2 := lo_lt a ha
  have h3 := hi_lt b hb
  have h4 := lo_lt b hb
  have hdef : comV a b = if hiOf a = hiOf b then 128 - Lib.bitLen (loOf a ^^^ loOf b) else 64 - Lib.bitLen (hiOf a ^^^ hiOf b) := rfl
  generalize hiOf a = H1 at *
  generalize loOf a = L1 at *
  generalize hiOf b = H2 at *
  generalize loOf b = L2 at *
  have HD := hid hdef
  clear hdef
  have x1 := bits_xor_u64_nat H1 H2 h1 h3
  have x2 := bits_xor_u64_nat L1 L2 h2 h4
  have y1 := Nat.xor_lt_two_pow (n := 64) (x := H1) (y := H2) (by simpa using h1) (by simpa using h3)
  have y2 := Nat.xor_lt_two_pow (n := 64) (x := L1) (y := L2) (by simpa using h2) (by simpa using h4)
  have hz := xor_zero H1 H2
  have hz := hid hz
  have b1 := bitLen_b (H1 ^^^ H2) (by simpa using y1)
  have b2 := bitLen_64 (H1 ^^^ H2) (by simpa using y1)
  have b3 := bitLen_64 (L1 ^^^ L2) (by simpa using y2)
  have z1 := fun w => Tryd.bits_LeadingZeros64 ((H1 ^^^ H2 : Nat) : Int) w (by omega) (by omega)
  have z2 := fun w => Tryd.bits_LeadingZeros64 ((L1 ^^^ L2 : Nat) : Int) w (by omega) (by omega)
  rw [Int.toNat_natCast] at z1 z2
  generalize hX : (H1 ^^^ H2 : Nat) = X at *
  generalize (L1 ^^^ L2 : Nat) = Y at *
  clear hX
  rw [iv, iv]
  go_enter Tryd.func32, Tryd.ntmps32
  clear y1 y2 h1 h2 h3 h4
  go_wp2_with (with_reducible refine wpList_load_ip (op := ⟨some 11, _, _, _, _, _⟩) rfl (.tmp 2) rfl rfl hI ha ?_)
  generalize (w.alloc _).alloc _ = w2 at hI hJ hB ⊢
  with_reducible refine (s1 _).mono ?_
  rintro e3 w3 ⟨rfl, hb3⟩
  have hJ3 := hJ.below hb3 hJ.lt
  have hB3 := hB.trans (hb3.mono hB.size)
  go_wp2_with (with_reducible refine wpList_load_ip (op := ⟨some 16, _, _, _, _, _⟩) rfl (.tmp 3) rfl rfl hJ3 hb ?_)
  with_reducible refine (s2 _).mono ?_
  rintro e4 w4 ⟨rfl, hb4⟩
  have hB4 := hB3.trans (hb4.mono hB3.size)
  clear hB3 hb4 hB hb3 hI hJ hJ3
  go_wp2_with fail
  with_reducible refine (z1 _).mono ?_
  rintro e5 w5 ⟨rfl, rfl⟩
  by_cases h0 : X = 0
  · have he : H1 = H2 := hz.out.1 h0
    have hc : comV a b = 128 - Lib.bitLen Y := by rw [HD.out, if_pos he]
    have HC := hid hc
    clear hc HD b1 hz
    subst h0
    rw [bitLen_0] at *
    go_wp2_with fail
    with_reducible refine (z2 _).mono ?_
    rintro e6 w6 ⟨rfl, rfl⟩
    go_wp2_with fail
    go_ret
    refine ⟨ret_int ?_, hB4⟩
    rw [HC.out]; omega
  · have he : H1 ≠ H2 := fun h => h0 (hz.out.2 h)
    have hc : comV a b = 64 - Lib.bitLen X := by rw [HD.out, if_neg he]
    have HC := hid hc
    have hx := b1 h0
    obtain ⟨g1, _, _⟩ := hx
    clear hc HD b1 hz
    go_wp2_with fail
    all_goals go_ret
    all_goals refine ⟨ret_int ?_, hB4⟩
    all_goals (rw [HC.out]; omega)
end Go.Proofs.YthammgljcchloaaDoor
