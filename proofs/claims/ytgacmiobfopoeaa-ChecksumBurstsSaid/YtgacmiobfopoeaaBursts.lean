import Derived.Test.YtgacmiobfopoeaaBurstMath
import Derived.Test.YtgacmiobfopoeaaCRCs
import Derived.Test.YtgacmiobfopoeaaRefCheck
import Derived.Test.YtgacmiobfopoeaaMod
import Derived.RegionTactic
import Derived.ChangeAlike
import Derived.Deep.RegionLaw
namespace Go.Proofs.Ytgacmiobfopoeaa
open Go.RowKit

theorem pow_cast (q i : Nat) : ((q / 2 ^ i : Nat) : Int) = (q : Int) / 2 ^ i := by simp

theorem xor8 (x : UInt8) (k : Nat) (hk : k < 8) : Value.int .u8 (bits .xor .u8 (x.toNat : Int) (2 ^ k % 256)) = bv (x ^^^ UInt8.ofNat (2 ^ k)) ∧ (UInt8.ofNat (2 ^ k)).toNat = 2 ^ k := by
  have hp : 2 ^ k ≤ 2 ^ 7 := Nat.pow_le_pow_right (by decide) (by omega)
  have hx := x.toNat_lt
  have e0 : (UInt8.ofNat (2 ^ k)).toNat = 2 ^ k := by rw [UInt8.toNat_ofNat']; exact Nat.mod_eq_of_lt (by omega)
  refine ⟨?_, e0⟩
  have e : ((2 ^ k : Nat) : Int) = (2 : Int) ^ k := by simp
  have e1 : (2 : Int) ^ k % 256 = ((2 ^ k : Nat) : Int) := by rw [← e]; omega
  rw [e1]
  simp only [bv, UInt8.toNat_xor, e0]
  congr 1
  have h1 : (BitVec.ofInt 8 (x.toNat : Int)).toNat = x.toNat := by
    rw [BitVec.ofInt_natCast, BitVec.toNat_ofNat]; exact Nat.mod_eq_of_lt (by omega)
  have h2 : (BitVec.ofInt 8 ((2 ^ k : Nat) : Int)).toNat = 2 ^ k := by
    rw [BitVec.ofInt_natCast, BitVec.toNat_ofNat]; exact Nat.mod_eq_of_lt (by omega)
  have h3 : x.toNat ^^^ 2 ^ k < 2 ^ 8 := Nat.xor_lt_two_pow hx (by omega)
  show IntKind.u8.wrap ((BitVec.ofInt 8 (x.toNat : Int) ^^^ BitVec.ofInt 8 ((2 ^ k : Nat) : Int)).toNat : Int) = _
  rw [BitVec.toNat_xor, h1, h2, IntKind.wrap_u8]
  omega

theorem burst_end (li : List UInt8) (N r : Nat) (hr : r < 65536) (h2 : 2 ≤ li.length) (h : crcL 0 li = steps N r) : checkB li = decide (r = 0) := by
  rw [checkB_iff li h2, h, Bool.eq_iff_iff, beq_iff_eq, decide_eq_true_eq]
  constructor
  · intro h0
    by_cases hr0 : r = 0
    · exact hr0
    · exact absurd h0 (steps_ne hr hr0 N)
  · rintro rfl; exact steps_zero N

set_option maxHeartbeats 1000000 in
theorem bursts_walk (a : Option Addr) (len cap : Nat) (l : List UInt8) (n m : Int) (w : World) (hb : IsB w a len cap l) (hcap : cap ≤ 140737488351232) (hn : I64 n) (hm : (Lit.int .u16 m).wf = true) :
    Calls Try.prog 9 #[.slice a len cap, .int .i64 n, .int .u16 m] w (RetS (.bool true) w) := by
  have hbd := bounds_u16 hm
  obtain ⟨q, rfl⟩ := Int.eq_ofNat_of_zero_le (show 0 ≤ m by omega)
  have hq : q < 65536 := by omega
  have hle := hb.le
  have hl := hid hb.length
  go_enter Try.func9, Try.ntmps9
  go_wp2_with fail
  refine (appendCrc_any a len cap l _ hb (by omega)).mono ?_
  rintro e w1 ⟨g, rfl, hg, hO, hB1⟩
  have hlen : (appL l).length = len + 2 := by rw [length_appL, hl.out]
  have hcrc : crcL 0 (appL l) = 0 := crcL_zero (checkB_appL l) (by omega)
  rw [hlen]
  have HL := hid hlen
  have HO := hid hO
  have HC := hid hcrc
  clear hlen hO hcrc
  generalize appL l = c at *
  by_cases hq0 : q = 0
  · subst hq0
    go_wp2_with fail
    refine (known_any _).mono ?_
    rintro e w2 ⟨rfl, hB2⟩
    have B2 := seq hB1 hB2
    go_wp2
    go_ret
    exact ⟨rfl, B2⟩
  · go_wp2_with fail
    refine (mod_some n (8 * ((len + 2 : Nat) : Int)) _ (by omega) (by omega) hn).mono ?_
    rintro e w' ⟨t, rfl, ht, rfl⟩
    go_wp2_with fail
    go_loopw [8, 9] (fun u v wr => ∃ (i : Nat) (li : List UInt8), i ≤ 16 ∧ t + i ≤ 8 * (len + 2) ∧ v = .int .i64 (i : Int) ∧ u = .bool (decide (q % 2 ^ i ≠ 0)) ∧ Hid (li.length = len + 2) ∧ Hid (crcL 0 li = steps (8 * (len + 2) - t) (q % 2 ^ i)) ∧ Own wr g li ∧ Below w.heap.size w wr) (fun _ v _ => 16 - (intOf v).toNat)
    case atStart => exact ⟨0, c, by omega, by omega, rfl, by simp [Nat.mod_one], HL, hid (by rw [HC.out, Nat.pow_zero, Nat.mod_one, steps_zero]), HO.out, hB1⟩
    case round =>
      obtain ⟨i, li, hi, hti, rfl, rfl, HLi, HCi, hOi, hBi⟩ := hrel
      clear HL HC HO hB1
      have ht16 := pat_lt q i hq
      by_cases hlt : i < 16 ∧ t + i < 8 * (len + 2)
      · obtain ⟨hi1, hi2⟩ := hlt
        have hcell := hOi.cell ((t + i) / 8) (by rw [HLi.out]; omega)
        have hfr := hOi.frozen ((t + i) / 8)
        have HOi := hid hOi
        clear hOi
        rcases Nat.mod_two_eq_zero_or_one (q / 2 ^ i) with hp | hp
        · have hA : bits .and .u16 ((q : Int) / 2 ^ i) 1 = 0 := by
            rw [← pow_cast q i, bits_and_u16_one _ (Nat.lt_of_le_of_lt (Nat.div_le_self _ _) hq), hp]; rfl
          have hP := hid (pat_zero q i hp)
          clear hp
          go_wp2
          go_roundw
          case rel => exact ⟨i + 1, li, by omega, by omega, by go_num, by rw [hP.out]; simp, HLi, hid (by rw [hP.out]; exact HCi.out), HOi.out, hBi⟩
          case measure => simp [intOf]; omega
        · have hA : bits .and .u16 ((q : Int) / 2 ^ i) 1 = 1 := by
            rw [← pow_cast q i, bits_and_u16_one _ (Nat.lt_of_le_of_lt (Nat.div_le_self _ _) hq), hp]; rfl
          have HP := hid hp
          clear hp
          have hx8 := hid (xor8 (li.getD ((t + i) / 8) 0) ((t + i) % 8) (Nat.mod_lt _ (by decide)))
          have HS : Hid (crcL 0 (li.set ((t + i) / 8) (li.getD ((t + i) / 8) 0 ^^^ UInt8.ofNat (2 ^ ((t + i) % 8)))) = steps (8 * (len + 2) - t) (q % 2 ^ (i + 1))) := hid (by
            rw [crcL_flip li (t + i) (by rw [HLi.out]; exact hi2) _ hx8.out.2, HCi.out, HLi.out, steps_one q i _ HP.out (by omega), show 8 * (len + 2) - (t + i) = 8 * (len + 2) - t - i from by omega])
          have HD : Hid (decide (q % 2 ^ (i + 1) ≠ 0) = true) := hid (by simpa using pat_one_ne q i HP.out)
          have HE : Hid (Own (wr.setCell ⟨g, (t + i) / 8, none⟩ (.int .u8 (bits .xor .u8 ((li[(t + i) / 8]?.getD 0).toNat : Int) (2 ^ ((t + i) % 8) % 256)))) g (li.set ((t + i) / 8) (li.getD ((t + i) / 8) 0 ^^^ UInt8.ofNat (2 ^ ((t + i) % 8))))) :=
            hid (HOi.out.set _ _ _ (by rw [← List.getD_eq_getElem?_getD]; exact hx8.out.1))
          go_wp2
          go_roundw
          case rel => exact ⟨i + 1, _, by omega, by omega, by go_num, by rw [HD.out], hid (by rw [List.length_set]; exact HLi.out), HS, HE.out, hBi.setCell hg _⟩
          case measure => simp [intOf]; omega
      · have hfin := burst_end li _ _ ht16 (by rw [HLi.out]; omega) HCi.out
        have HF := hid hfin
        have HOi := hid hOi
        have hgl := hOi.lt
        clear hfin hOi
        generalize q % 2 ^ i = r at *
        rcases (by omega : i = 16 ∨ (i < 16 ∧ t + i = 8 * (len + 2))) with rfl | ⟨h16, hN⟩
        · clear hlt
          go_wp2_with fail
          refine (known_any _).mono ?_
          rintro e w2 ⟨rfl, hB2⟩
          have J2 := (HOi.out.below hB2 hgl).isB (by rw [HLi.out]; omega)
          rw [HLi.out] at J2
          have B2 := seq hBi hB2
          go_wp2_with fail
          refine (check_any _ (len + 2) (len + 2) li _ J2).mono ?_
          rintro e w3 ⟨rfl, hB3⟩
          rw [HF.out]
          have B3 := seq B2 hB3
          go_wp2
          go_ret
          exact ⟨ret_bool (by simp), B3⟩
        · have hno : ¬ ((t : Int) + (i : Int) < 8 * ((len : Int) + 2)) := by omega
          clear hlt hN
          go_wp2_with fail
          refine (known_any _).mono ?_
          rintro e w2 ⟨rfl, hB2⟩
          have J2 := (HOi.out.below hB2 hgl).isB (by rw [HLi.out]; omega)
          rw [HLi.out] at J2
          have B2 := seq hBi hB2
          go_wp2_with fail
          refine (check_any _ (len + 2) (len + 2) li _ J2).mono ?_
          rintro e w3 ⟨rfl, hB3⟩
          rw [HF.out]
          have B3 := seq B2 hB3
          go_wp2
          go_ret
          exact ⟨ret_bool (by simp), B3⟩
end Go.Proofs.Ytgacmiobfopoeaa
