import Derived.Test.YtgacmiobfopoeaaRefCheck
import Derived.Test.YtgacmiobfopoeaaSame
import Derived.RegionTactic
import Derived.ChangeAlike
import Derived.Deep.RegionLaw
namespace Go.Proofs.Ytgacmiobfopoeaa
open Go.RowKit

theorem checkB_appL (l : List UInt8) : checkB (appL l) = true := by
  have h16 := crcL_lt (show 0 < 65536 by decide) l
  have e : (appL l).length = l.length + 2 := length_appL l
  have e1 : (appL l).take l.length = l := by simp [appL]
  have e2 : (appL l).getD l.length 0 = crcLo l := by simp [appL, List.getD_eq_getElem?_getD]
  have e3 : (appL l).getD (l.length + 1) 0 = crcHi l := by simp [appL, List.getD_eq_getElem?_getD, List.getElem?_append_right]
  simp only [checkB, e, Nat.add_sub_cancel, show l.length + 2 - 1 = l.length + 1 from rfl, e1, e2, e3, Bool.and_eq_true, decide_eq_true_eq, beq_iff_eq]
  refine ⟨by omega, ?_⟩
  simp only [crcLo, crcHi, UInt8.toNat_ofNat']
  omega

set_option maxHeartbeats 4000000 in
theorem crcs_walk (a : Option Addr) (len cap : Nat) (l : List UInt8) (n : Int) (w : World) (hb : IsB w a len cap l) (hcap : cap ≤ 140737488351232) (hn : (Lit.int .u16 n).wf = true) :
    Calls Try.prog 4 #[.slice a len cap, .int .u16 n] w (RetS (.bool true) w) := by
  have hbd := bounds_u16 hn
  obtain ⟨c, rfl⟩ := Int.eq_ofNat_of_zero_le (show 0 ≤ n by omega)
  have hc : c < 65536 := by omega
  have hle := hb.le
  have hl := hid hb.length
  go_enter Try.func4, Try.ntmps4
  go_wp2_with fail
  refine (refAppendCrc_any a len cap l _ hb (by omega)).mono ?_
  rintro e w1 ⟨v, rfl, hG1, hB1⟩
  obtain ⟨pv, cv, rfl⟩ := hG1.form
  have hlen : (appL l).length = len + 2 := by rw [length_appL, hl.out]
  obtain ⟨pv', cv', e, J1⟩ := hG1.isB (by omega)
  rw [hlen] at *
  simp at e
  obtain ⟨rfl, rfl⟩ := e
  have hb1 := hb.below hB1
  have HL : Hid ((appL l).length = len + 2) := hid (by rw [length_appL, hl.out])
  clear hG1 hb
  go_wp2_with fail
  refine (known_any _).mono ?_
  rintro e w2 ⟨rfl, hB2⟩
  have hb2 := hb1.below hB2
  have J2 := J1.below hB2
  have B2 := seq hB1 hB2
  clear hb1 J1 hB1 hB2
  go_wp2_with fail
  refine (extend_any c a len cap l _ hc hb2).mono ?_
  rintro e w3 ⟨rfl, rfl⟩
  go_wp2_with fail
  refine (refExtend_any c a len cap l _ hc hb2).mono ?_
  rintro e w3 ⟨rfl, rfl⟩
  go_wp2_with fail
  refine (crc_any a len cap l _ hb2).mono ?_
  rintro e w3 ⟨rfl, rfl⟩
  go_wp2_with fail
  refine (refCrc_any a len cap l _ hb2).mono ?_
  rintro e w3 ⟨rfl, rfl⟩
  go_wp2_with fail
  refine (appendCrc_any a len cap l _ hb2 (by omega)).mono ?_
  rintro e w3 ⟨g, rfl, hg, hO3, hB3⟩
  have hb3 := hb2.below hB3
  have J3 := J2.below hB3
  have B3 := seq B2 hB3
  have K3 := hO3.isB (by rw [HL.out]; omega)
  rw [HL.out] at K3 ⊢
  clear hb2 J2 B2 hB3 hO3
  go_wp2_with fail
  refine (same_any _ (len + 2) (len + 2) (appL l) pv (len + 2) cv (appL l) _ K3 J3).mono ?_
  rintro e w4 ⟨rfl, hB4⟩
  have hb4 := hb3.below hB4
  have J4 := J3.below hB4
  have B4 := seq B3 hB4
  clear hb3 J3 K3 B3 hB4
  rw [show (appL l == appL l) = true from by simp]
  go_wp2_with fail
  refine (check_any a len cap l _ hb4).mono ?_
  rintro e w5 ⟨rfl, hB5⟩
  have hb5 := hb4.below hB5
  have J5 := J4.below hB5
  have B5 := seq B4 hB5
  clear hb4 J4 B4 hB5
  go_wp2_with fail
  refine (refCheck_any a len cap l _ hb5).mono ?_
  rintro e w6 ⟨rfl, hB6⟩
  have J6 := J5.below hB6
  have B6 := seq B5 hB6
  clear hb5 J5 B5 hB6
  have HC := hid (checkB_appL l)
  generalize checkB l = q at *
  go_wp2_with fail
  refine (check_any pv (len + 2) cv (appL l) _ J6).mono ?_
  rintro e w7 ⟨rfl, hB7⟩
  have B7 := seq B6 hB7
  rw [HC.out]
  go_wp2
  go_ret
  exact ⟨rfl, B7⟩
end Go.Proofs.Ytgacmiobfopoeaa
