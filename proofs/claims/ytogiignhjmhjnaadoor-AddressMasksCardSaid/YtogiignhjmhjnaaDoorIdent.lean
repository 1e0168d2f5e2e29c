/-
  Different link addresses of one mode have different interface identifiers.
-/
import Derived.Test.YtogiignhjmhjnaaDoorKnown04
import Derived.Test.YtogiignhjmhjnaaDoorLink
import Derived.Test.YtogiignhjmhjnaaDoorBe
namespace Go.Proofs.YtogiignhjmhjnaaDoor
open Go.RowKit

theorem hi_be (x y : Nat) (hx : x < 18446744073709551616) : hiOf (beBytes x 8 ++ beBytes y 8) = x := by
  unfold hiOf
  rw [show (beBytes x 8 ++ beBytes y 8).take 8 = beBytes x 8 by rw [List.take_append_of_le_length (by rw [length_beBytes]; omega), List.take_of_length_le (by rw [length_beBytes]; omega)], uintOf_be]
  omega
theorem lo_be (x y : Nat) (hy : y < 18446744073709551616) : loOf (beBytes x 8 ++ beBytes y 8) = y := by
  unfold loOf
  rw [show (beBytes x 8 ++ beBytes y 8).drop 8 = beBytes y 8 by rw [List.drop_append_of_le_length (by rw [length_beBytes]; omega), List.drop_of_length_le (by rw [length_beBytes]; omega)]; rfl, uintOf_be]
  omega

theorem iid_long (e : Int) : iidA 3 0 e = (bits .xor .u64 e 144115188075855872, true) := by simp [iidA, validA]
theorem iid_short (s : Int) : iidA 2 s 0 = (1099478073344 + s, true) := by simp [iidA, validA]
theorem xor_inj (a b c : Nat) (h : a ^^^ c = b ^^^ c) : a = b := by
  have := congrArg (· ^^^ c) h
  simpa [Nat.xor_assoc] using this

set_option maxHeartbeats 3200000 in
set_option maxRecDepth 1000000 in
theorem ident_walk (e f s r : Int) (w : World) (he : U64 e) (hf : U64 f) (hs : 0 ≤ s ∧ s < 65536) (hr : 0 ≤ r ∧ r < 65536) (G : GL w) :
    Calls Tryd.prog 10 #[.int .u64 e, .int .u64 f, .int .u16 s, .int .u16 r] w (RetS (.bool true) w) := by
  obtain ⟨he0, he1⟩ := he
  obtain ⟨hf0, hf1⟩ := hf
  obtain ⟨e, rfl⟩ := Int.eq_ofNat_of_zero_le he0
  obtain ⟨f, rfl⟩ := Int.eq_ofNat_of_zero_le hf0
  have he2 : e < 18446744073709551616 := by omega
  have hf2 : f < 18446744073709551616 := by omega
  have hxe := Nat.xor_lt_two_pow (n := 64) (x := e) (y := 144115188075855872) (by omega) (by decide)
  have hxf := Nat.xor_lt_two_pow (n := 64) (x := f) (y := 144115188075855872) (by omega) (by decide)
  have be : bits .xor .u64 (e : Int) 144115188075855872 = ((e ^^^ 144115188075855872 : Nat) : Int) := bits_xor_u64_nat e 144115188075855872 he2 (by decide)
  have bf : bits .xor .u64 (f : Int) 144115188075855872 = ((f ^^^ 144115188075855872 : Nat) : Int) := bits_xor_u64_nat f 144115188075855872 hf2 (by decide)
  have c1 := fun w => iid_any 3 0 (e : Int) w (by omega) (by omega)
  have c2 := fun w => iid_any 3 0 (f : Int) w (by omega) (by omega)
  have c3 := fun w => iid_any 2 s 0 w hs.1 hs.2
  have c4 := fun w => iid_any 2 r 0 w hr.1 hr.2
  have c5 := fun w => link_local 3 0 (e : Int) w (by omega) (by omega) (by omega) (by omega)
  have hll : llA 3 0 (e : Int) = beBytes llHalf 8 ++ beBytes (e ^^^ 144115188075855872) 8 := by
    unfold llA; rw [iid_long, be]; simp
  rw [iid_long, be] at c1 c5
  rw [iid_long, bf] at c2
  rw [iid_short] at c3 c4
  rw [hll] at c5
  have hl16 : (beBytes llHalf 8 ++ beBytes (e ^^^ 144115188075855872) 8).length = 16 := by rw [List.length_append, length_beBytes, length_beBytes]
  have c6 := fun w => split_any (beBytes llHalf 8 ++ beBytes (e ^^^ 144115188075855872) 8) hl16 w
  rw [hi_be _ _ (by decide), lo_be _ _ (by omega)] at c6
  have hxy : (e ^^^ 144115188075855872) = (f ^^^ 144115188075855872) ↔ e = f := ⟨fun h => xor_inj e f _ h, fun h => by rw [h]⟩
  have huv : (1099478073344 + s = 1099478073344 + r) ↔ s = r := by omega
  have HUV := hid huv
  clear huv
  generalize 1099478073344 + s = u at c3 HUV
  generalize 1099478073344 + r = v at c4 HUV
  generalize (e ^^^ 144115188075855872 : Nat) = X at *
  generalize (f ^^^ 144115188075855872 : Nat) = Y at *
  generalize beBytes llHalf 8 ++ beBytes X 8 = L at *
  simp only [av] at c1 c2 c3 c4 c5
  clear be bf hll
  go_enter Tryd.func10, Tryd.ntmps10
  go_wp2_with fail
  with_reducible refine (c1 w).mono ?_
  rintro e1 w1 ⟨rfl, b1⟩
  go_wp2_with fail
  with_reducible refine (c2 w1).mono ?_
  rintro e1 w2 ⟨rfl, b2⟩
  go_wp2_with fail
  with_reducible refine (c3 w2).mono ?_
  rintro e1 w3 ⟨rfl, b3⟩
  go_wp2_with fail
  with_reducible refine (c4 w3).mono ?_
  rintro e1 w4 ⟨rfl, b4⟩
  go_wp2_with fail
  with_reducible refine (c5 w4).mono ?_
  rintro e1 w5 ⟨rfl, b5⟩
  have B5 := seq (seq (seq (seq b1 b2) b3) b4) b5
  clear c1 c2 c3 c4 c5 b1 b2 b3 b4 b5
  go_wp2_with (first
    | (with_reducible refine wpList_store_ip (op := ⟨none, _, _, _, _, _⟩) rfl (.tmp 17) (.tmp 49) rfl rfl rfl (Ik.lit w5) (length_zeros 16) hl16 w5.heap.size w5 ((Below.refl _ _).alloc (Nat.le_refl _) _) (Nat.le_refl _) ?_; intro w6 hR6 hB6; have hR6o := hR6.out)
    | (with_reducible refine wpList_load_ry (op := ⟨some 52, _, _, _, _, _⟩) rfl (.tmp 17) rfl rfl hR6o hl16 ?_))
  with_reducible refine (c6 w6).mono ?_
  rintro e1 w7 ⟨rfl, b7⟩
  have B7 := seq (seq B5 hB6) b7
  clear c6 b7 hB6 B5 hR6 hR6o hl16 hxe hxf he2 hf2
  have HXY := hid hxy
  clear hxy
  go_wp2_with fail
  with_reducible refine (known_any w7 (G.on B7)).mono ?_
  rintro e1 w8 ⟨rfl, b8⟩
  have B8 := seq B7 b8
  clear b8 B7
  have q1 : ∃ b : Bool, ((X : Int) == (Y : Int)) = b ∧ ((e : Int) == (f : Int)) = b := ⟨_, rfl, by
    rw [Bool.eq_iff_iff, beq_iff_eq, beq_iff_eq, Int.ofNat_inj, Int.ofNat_inj]; exact HXY.out.symm⟩
  have q2 : ∃ b : Bool, (u == v) = b ∧ (s == r) = b := ⟨_, rfl, by
    rw [Bool.eq_iff_iff, beq_iff_eq, beq_iff_eq]; exact HUV.out.symm⟩
  clear HXY HUV
  obtain ⟨p, p1, p2⟩ := q1
  obtain ⟨q, q1, q2⟩ := q2
  go_wp2
  all_goals go_ret
  all_goals exact ⟨rfl, B8⟩
end Go.Proofs.YtogiignhjmhjnaaDoor
