import Derived.Test.YtgacmiobfopoeaaPartsLaw
namespace Go.Proofs.Ytgacmiobfopoeaa
open Go.RowKit

theorem even_len (len : Nat) : len / 2 * 2 ≤ len := by omega

/-- data with its Internet checksum -/
theorem sum_closed (l : List UInt8) (he : l.length % 2 = 0) (x y : UInt8) (h : x.toNat * 256 + y.toNat = 65535 - sumN l) : sumN (l ++ [x, y]) = 65535 := by
  unfold sumN at *
  have e : bsum 0 (l ++ [x, y]) = bsum 0 l + (65535 - foldN (bsum 0 l)) := by
    rw [bsum_append, ← h]
    simp only [bsum]
    rw [show (0 + l.length + 1) % 2 = 1 from by omega, show (0 + l.length + 1 + 1) % 2 = 0 from by omega]
    omega
  have hf := foldN_le (bsum 0 l)
  rw [e, ← foldN_add, show foldN (bsum 0 l) + (65535 - foldN (bsum 0 l)) = 65535 from by omega]
  decide

theorem two_bytes (u : World) (c : Nat) (hc : c ≤ 65535) : IsB (u.alloc (.cells #[.int .u8 ((c : Int) / 256), .int .u8 ((c : Int) % 256)] 5)) (some ⟨u.heap.size, 0, none⟩) 2 2 [UInt8.ofNat (c / 256), UInt8.ofNat (c % 256)] := by
  have h := (Own.new u [UInt8.ofNat (c / 256), UInt8.ofNat (c % 256)]).isB (by simp)
  have e : row [UInt8.ofNat (c / 256), UInt8.ofNat (c % 256)] = #[.int .u8 ((c : Int) / 256), .int .u8 ((c : Int) % 256)] := by
    have e1 : (((UInt8.ofNat (c / 256)).toNat : Nat) : Int) = (c : Int) / 256 := by rw [UInt8.toNat_ofNat']; omega
    have e2 : (((UInt8.ofNat (c % 256)).toNat : Nat) : Int) = (c : Int) % 256 := by rw [UInt8.toNat_ofNat']; omega
    simp only [row, List.map_cons, List.map_nil, bv, e1, e2]
  rw [e] at h
  exact h

theorem two_value (c : Nat) (hc : c ≤ 65535) : (UInt8.ofNat (c / 256)).toNat * 256 + (UInt8.ofNat (c % 256)).toNat = c := by
  rw [UInt8.toNat_ofNat', UInt8.toNat_ofNat']; omega

set_option maxHeartbeats 4000000 in
theorem zero_walk (a : Option Addr) (len cap : Nat) (l : List UInt8) (w : World) (hb : IsB w a len cap l) (hcap : cap ≤ 140737488351232) :
    Calls Try.prog 5 #[.slice a len cap] w (RetS (.bool true) w) := by
  have hle := hb.le
  have K := hb.take (len / 2 * 2) (by omega)
  have hL := hid K.length
  generalize l.take (len / 2 * 2) = l2 at *
  go_enter Try.func5, Try.ntmps5
  go_wp2_with fail
  have F1 : Hid ([l2].flatten = l2) := hid (by simp)
  refine (internet_any _ 1 1 [l2] _ (isBB_one K) (by rw [F1.out, hL.out]; have := hb.max; omega)).mono ?_
  rintro e w' ⟨rfl, rfl⟩
  rw [F1.out]
  have hle2 := K.le
  have HE : Hid (l2.length % 2 = 0) := hid (by rw [hL.out]; omega)
  generalize len / 2 * 2 = n at *
  have HC := hid (Eq.refl (65535 - sumN l2))
  have hs := sumN_le l2
  have B0 : Below w.heap.size w (w.alloc (.cells #[.slice a n cap] 22)) := (Below.refl _ _).alloc (Nat.le_refl _) _
  go_wp2_with fail
  refine (known_any _).mono ?_
  rintro e w1 ⟨rfl, hB1⟩
  have B1 := seq B0 hB1
  have K1 := K.below B1
  clear B0 hB1
  generalize hc : 65535 - sumN l2 = c at *
  have hc2 : c ≤ 65535 := by omega
  have HC2 := hid hc
  clear hc
  go_wp2_with fail
  have JJ := two_bytes w1 c hc2
  have hBB := isBB_two (K1.below ((Below.refl _ _).alloc (Nat.le_refl _) (.cells #[.int .u8 ((c : Int) / 256), .int .u8 ((c : Int) % 256)] 5))) JJ
  rw [World.size_alloc] at hBB
  have hS : Hid (sumN [l2, [UInt8.ofNat (c / 256), UInt8.ofNat (c % 256)]].flatten = 65535) := hid (by
    have := sum_closed l2 HE.out _ _ ((two_value c hc2).trans HC2.out.symm)
    simpa using this)
  refine (internet_any _ 2 2 _ _ hBB (by simp; rw [hL.out]; have := hb.max; omega)).mono ?_
  rintro e w2 ⟨rfl, rfl⟩
  rw [hS.out]
  have B3 := below_two B1 (.cells #[.int .u8 ((c : Int) / 256), .int .u8 ((c : Int) % 256)] 5) (.cells #[.slice a n cap, .slice (some ⟨w1.heap.size, 0, none⟩) 2 2] 22)
  have K3 := K.below B3
  clear hBB JJ K1
  go_wp2_with fail
  refine (sum_any a n cap l2 _ K3).mono ?_
  rintro e w4 ⟨rfl, hB4⟩
  have B4 := seq B3 hB4
  have hfin : ((sumN l2 : Nat) : Int) = 65535 - (c : Int) := by have := HC2.out; omega
  rw [hfin]
  go_wp2
  go_ret
  trace_state
  exact ⟨ret_bool (by simp), B4⟩
end Go.Proofs.Ytgacmiobfopoeaa
