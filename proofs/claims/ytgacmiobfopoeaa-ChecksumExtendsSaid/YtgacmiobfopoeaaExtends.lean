import Derived.Test.YtgacmiobfopoeaaRefCheck
import Derived.Test.YtgacmiobfopoeaaMod
import Derived.RegionTactic
import Derived.ChangeAlike
import Derived.Deep.RegionLaw
namespace Go.Proofs.Ytgacmiobfopoeaa
open Go.RowKit

theorem crcL_split (l : List UInt8) (k : Nat) : crcL (crcL 0 (l.take k)) (l.drop k) = crcL 0 l := by
  rw [← crcL_append, List.take_append_drop]

set_option maxHeartbeats 1000000 in
theorem extends_walk (a : Option Addr) (len cap : Nat) (l : List UInt8) (n : Int) (w : World) (hb : IsB w a len cap l) (hcap : cap ≤ 140737488351232) (hn : I64 n) :
    Calls Try.prog 8 #[.slice a len cap, .int .i64 n] w (RetS (.bool true) w) := by
  have hle := hb.le
  have hl := hid hb.length
  go_enter Try.func8, Try.ntmps8
  go_wp2_with fail
  refine (mod_some n ((len : Int) + 1) _ (by omega) (by omega) hn).mono ?_
  rintro e w' ⟨k, rfl, hk, rfl⟩
  go_wp2_with fail
  have hbd : IsB w.drew a len cap l := hb.below ((Below.refl _ _).drew)
  obtain ⟨p1, hp1, K1⟩ := slice_head hbd k (by omega)
  obtain ⟨p2, hp2, K2⟩ := slice_tail hbd k (by omega)
  have h16 := crcL_lt (show 0 < 65536 by decide) (l.take k)
  have HH := hid hle
  clear hle hk
  go_region_with (first | (go_at_call 11; refine (known_any _).mono ?_; rintro e w1 ⟨rfl, hB1⟩) | (go_at_call 21; refine (crc_any p1 k cap (l.take k) _ (K1.below hB1)).mono ?_; rintro e w2 ⟨rfl, rfl⟩) | (go_at_call 21; refine (crc_any a len cap l _ (hbd.below hB1)).mono ?_; rintro e w2 ⟨rfl, rfl⟩) | (go_at_call 19; refine (extend_any (crcL 0 (l.take k)) p2 _ _ (l.drop k) _ h16 (K2.below hB1)).mono ?_; rintro e w2 ⟨rfl, rfl⟩))
  all_goals
    rw [crcL_split]
    go_wp2
    go_ret
    exact ⟨ret_bool (by simp), seq ((Below.refl _ _).drew) hB1⟩
end Go.Proofs.Ytgacmiobfopoeaa
