import Derived.Test.YtakandlbphjflaaMod
import Derived.Test.YtakandlbphjflaaSame
import Derived.Test.YtakandlbphjflaaKnown01
import Derived.Test.YtakandlbphjflaaBe
namespace Go.Proofs.Ytakandlbphjflaa
open Go.RowKit

theorem reads_value (v : Int) (hu : U64 v) (l : List UInt8) (len m : Nat) (hl : l.length = len) (hm : m ≤ 7) :
    ((uintOf (((l ++ beBytes v.toNat (m + 1)).drop (len : Int).toNat).take (1 + (m : Int)).toNat) : Int) == IntKind.u64.wrap (v * 2 ^ (64 - 8 * (1 + m))) / 2 ^ (64 - 8 * (1 + m))) = true := by
  obtain ⟨hv, hv2⟩ := hu
  obtain ⟨v, rfl⟩ := Int.eq_ofNat_of_zero_le hv
  have e1 : ((l ++ beBytes v (m + 1)).drop len).take (1 + m) = beBytes v (m + 1) := by
    subst hl
    rw [List.drop_left, List.take_of_length_le (by rw [length_beBytes]; omega)]
  have e2 : (1 + (m : Int)).toNat = 1 + m := by omega
  rw [beq_iff_eq, Int.toNat_natCast, Int.toNat_natCast, e2, e1, uintOf_be]
  have h := shl_shr v (8 * (m + 1)) (by omega)
  rw [show (256 : Nat) ^ (m + 1) = 2 ^ (8 * (m + 1)) from by rw [show (256 : Nat) = 2 ^ 8 from rfl, ← Nat.pow_mul], ← h]
  rw [show 8 * (1 + m) = 8 * (m + 1) from by omega]
  rw [show ((v : Nat) : Int) * 2 ^ (64 - 8 * (m + 1)) = ((v * 2 ^ (64 - 8 * (m + 1)) : Nat) : Int) from by simp, u64_wrap_nat, show (2 : Int) ^ (64 - 8 * (m + 1)) = ((2 ^ (64 - 8 * (m + 1)) : Nat) : Int) from by simp, ← Int.natCast_ediv]

set_option maxHeartbeats 1000000 in
theorem reads_walk (a : Option Addr) (len cap : Nat) (l : List UInt8) (v n : Int) (w : World) (hb : IsB w a len cap l) (hcap : cap ≤ 140737488351232) (hu : U64 v) (hi : I64 n) :
    Calls Try.prog 5 #[.slice a len cap, .int .u64 v, .int .i64 n] w (RetS (.bool true) w) := by
  obtain ⟨m, hm⟩ := Int.eq_ofNat_of_zero_le (Int.emod_nonneg n (show (8 : Int) ≠ 0 by decide))
  have hm8 : n % 8 < 8 := Int.emod_lt_of_pos n (by decide)
  have hle := hb.le
  have hmx := hb.max
  have hl := hid hb.length
  have HM := hid hm
  have hm8' : m < 8 := by omega
  clear hm hm8
  have hv := hu.1
  go_enter Try.func5, Try.ntmps5
  go_wp2_with fail
  refine (mod_any n 8 _ (by decide) (by decide) hi).mono ?_
  rintro e w' ⟨rfl, rfl⟩
  rw [HM.out]
  go_wp2_with fail
  refine (append_any a len cap l v (1 + (m : Int)) (m + 1) _ hb (by omega) hu ⟨by omega, by omega⟩ (by omega)).mono ?_
  rintro e w1 ⟨g, rfl, hg, hO, hB⟩
  have h2 := hO.isB (by simp [length_beBytes, hl.out]; omega)
  have h5 := hl.out
  rw [List.length_append, length_beBytes, h5] at h2
  rw [List.length_append, length_beBytes, h5]
  clear h5
  go_wp2_with fail
  refine (uint_yes _ _ _ _ (len : Int) (1 + (m : Int)) _ h2 (by omega) (by omega) (by omega) (by omega)).mono ?_
  rintro e w2 ⟨rfl, rfl⟩
  have hX := reads_value v hu l len m hl.out (by omega)
  generalize uintOf _ = X at hX ⊢
  go_wp2_with fail
  refine (known_any _).mono ?_
  rintro e w2 ⟨rfl, hB2⟩
  go_wp2_with fail
  have h6 : IsB w2 (some ⟨g, 0, none⟩) len (len + (m + 1)) l := by
    have h3 := h2.below hB2
    refine ⟨hl.out, by omega, by omega, by omega, by simp, fun x hx => ⟨(h3.cells x hx).1, fun j hj => ?_⟩⟩
    rw [(h3.cells x hx).2 j (by omega)]
    simp [List.getD_eq_getElem?_getD, List.getElem?_append_left (show j < l.length by rw [hl.out]; exact hj)]
  refine (same_any (some ⟨g, 0, none⟩) len (len + (m + 1)) l a len cap l _ h6 ((hb.below hB).below hB2)).mono ?_
  rintro e w3 ⟨rfl, hB3⟩
  go_wp2
  go_ret
  exact ⟨ret_bool (by simp), seq (seq hB hB2) hB3⟩
end Go.Proofs.Ytakandlbphjflaa
