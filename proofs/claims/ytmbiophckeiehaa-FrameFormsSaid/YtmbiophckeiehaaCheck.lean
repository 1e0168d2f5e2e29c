/-
  Append and Check.
-/
import Derived.Test.YtmbiophckeiehaaCrc
import Derived.Test.YtmbiophckeiehaaGrow
import Derived.Test.YtmbiophckeiehaaSlices
import Derived.Deep.QuietTactic
import Derived.BigQuiet
namespace Go.Proofs.Ytmbiophckeiehaa
open Go.RowKit

def crcLo (l : List UInt8) : UInt8 := UInt8.ofNat (crcL 0 l)
def crcHi (l : List UInt8) : UInt8 := UInt8.ofNat (crcL 0 l / 256)
/-- bytes with their CRC -/
def appL (l : List UInt8) : List UInt8 := l ++ [crcLo l, crcHi l]
theorem length_appL (l : List UInt8) : (appL l).length = l.length + 2 := by simp [appL]

theorem u8_lo (l : List UInt8) : Value.int .u8 (IntKind.u8.wrap ((crcL 0 l : Nat) : Int)) = bv (crcLo l) := by
  simp only [bv, crcLo, UInt8.toNat_ofNat', IntKind.wrap_u8]
  congr 1
theorem u8_hi (l : List UInt8) : Value.int .u8 (IntKind.u8.wrap (((crcL 0 l : Nat) : Int) / 256)) = bv (crcHi l) := by
  simp only [bv, crcHi, UInt8.toNat_ofNat', IntKind.wrap_u8]
  congr 1

set_option maxHeartbeats 1000000 in
theorem appendCrc_any (a : Option Addr) (len cap : Nat) (l : List UInt8) (w : World) (hb : IsB w a len cap l) (hroom : len + 2 ≤ 281474976710656) :
    Calls Try.prog 39 #[.slice a len cap] w (RetB (appL l) w) := by
  have hle := hb.le
  have hl := hid hb.length
  have hmk := fun u => run_make_bytes ((len : Int) + 2) (len + 2) (by omega) (by omega) u
  go_enter Try.func39, Try.ntmps39
  go_wp2_with (with_reducible refine wpList_copy_bytes (o := ⟨some 12, _, _, _, _, _⟩) rfl (.tmp 10) (.tmp 11) rfl w.heap.size (len + 2) (len + 2) a len cap rfl rfl (zeros (len + 2)) l (Own.new _ _) (hb.below ((Below.refl _ _).alloc (Nat.le_refl _) _)) (by omega) (by rw [length_zeros]; omega) w.heap.size w ((Below.refl _ _).alloc (Nat.le_refl _) _) (Nat.le_refl _) ?_; intro w2 HO hB2)
  have HO2 : Hid (Own w2 w.heap.size (l ++ zeros 2)) := hid (by
    have := HO.out
    rwa [hl.out, show (zeros (len + 2)).drop len = zeros 2 from by simp [zeros]] at this)
  clear HO hmk
  have J2 := hb.below hB2
  refine (crc_any _ _ _ _ _ J2).mono ?_
  rintro e w' ⟨rfl, rfl⟩
  have f0 := HO2.out.frozen len
  have f1 := HO2.out.frozen (len + 1)
  have hL : (l ++ zeros 2).length = len + 2 := by rw [List.length_append, length_zeros, hl.out]
  obtain ⟨v0, e0⟩ : ∃ v, w2.cell? ⟨w.heap.size, len, none⟩ = some v := ⟨_, HO2.out.cell len (by omega)⟩
  obtain ⟨v1, e1⟩ : ∃ v, w2.cell? ⟨w.heap.size, len + 1, none⟩ = some v := ⟨_, HO2.out.cell (len + 1) (by omega)⟩
  clear hL
  have HE : Hid (Own ((w2.setCell ⟨w.heap.size, len, none⟩ (.int .u8 ((crcL 0 l : Nat) % 256 : Int))).setCell ⟨w.heap.size, len + 1, none⟩ (.int .u8 ((crcL 0 l : Nat) / 256 % 256 : Int))) w.heap.size (appL l)) := hid (by
    have h := (HO2.out.set len _ (crcLo l) (by rw [← u8_lo, IntKind.wrap_u8])).set (len + 1) _ (crcHi l) (by rw [← u8_hi, IntKind.wrap_u8])
    have e : ((l ++ zeros 2).set len (crcLo l)).set (len + 1) (crcHi l) = appL l := by
      rw [← hl.out, List.set_append_right _ _ (by omega), List.set_append_right _ _ (by omega)]
      simp [zeros, appL, List.replicate]
    rw [e] at h
    exact h)
  have HN : Hid ((appL l).length = len + 2) := hid (by rw [length_appL, hl.out])
  rw [hl.out]
  go_wp2
  go_ret
  refine ⟨w.heap.size, by rw [HN.out]; rfl, Nat.le_refl _, HE.out, (hB2.setCell (Nat.le_refl _) _).setCell (Nat.le_refl _) _⟩

theorem or16 (x y : UInt8) : bits .or .u16 (IntKind.u16.wrap (x.toNat : Int)) (IntKind.u16.wrap (IntKind.u16.wrap (y.toNat : Int) * 256)) = ((x.toNat + 256 * y.toNat : Nat) : Int) := by
  have hx := x.toNat_lt
  have hy := y.toNat_lt
  rw [show IntKind.u16.wrap (x.toNat : Int) = ((x.toNat : Nat) : Int) from by rw [IntKind.wrap_u16]; omega, show IntKind.u16.wrap (y.toNat : Int) = ((y.toNat : Nat) : Int) from by rw [IntKind.wrap_u16]; omega,
    show IntKind.u16.wrap ((y.toNat : Int) * 256) = ((y.toNat * 256 : Nat) : Int) from by rw [IntKind.wrap_u16]; omega]
  have h1 : (BitVec.ofInt 16 (x.toNat : Int)).toNat = x.toNat := by
    rw [BitVec.ofInt_natCast, BitVec.toNat_ofNat]; exact Nat.mod_eq_of_lt (by omega)
  have h2 : (BitVec.ofInt 16 ((y.toNat * 256 : Nat) : Int)).toNat = y.toNat * 256 := by
    rw [BitVec.ofInt_natCast, BitVec.toNat_ofNat]; exact Nat.mod_eq_of_lt (by omega)
  show IntKind.u16.wrap ((BitVec.ofInt 16 (x.toNat : Int) ||| BitVec.ofInt 16 ((y.toNat * 256 : Nat) : Int)).toNat : Int) = _
  rw [BitVec.toNat_or, h1, h2, Nat.or_comm, or_add y.toNat x.toNat 8 (by omega), IntKind.wrap_u16]
  omega

/-- what Check says of bytes -/
def checkB (l : List UInt8) : Bool := decide (2 ≤ l.length) && (crcL 0 (l.take (l.length - 2)) == (l.getD (l.length - 2) 0).toNat + 256 * (l.getD (l.length - 1) 0).toNat)

set_option maxHeartbeats 1000000 in
theorem check_any (a : Option Addr) (len cap : Nat) (l : List UInt8) (w : World) (hb : IsB w a len cap l) :
    Calls Try.prog 41 #[.slice a len cap] w (RetS (.bool (checkB l)) w) := by
  have hle := hb.le
  have hmax := hb.max
  have hl := hid hb.length
  by_cases h2 : 2 ≤ len
  · obtain ⟨n, rfl⟩ : ∃ n, len = n + 2 := ⟨len - 2, by omega⟩
    obtain ⟨b, off, rfl, _, hc⟩ := hb.some (by omega)
    have c1 := hc n (by omega)
    have c2 := hc (n + 1) (by omega)
    have ht := hb.take n (by omega)
    have HC : Hid (checkB l = (crcL 0 (l.take n) == (l.getD n 0).toNat + 256 * (l.getD (n + 1) 0).toNat)) := hid (by
      simp only [checkB, hl.out, Nat.add_sub_cancel, show n + 2 - 1 = n + 1 from rfl]
      simp)
    generalize l.getD n 0 = x at *
    generalize l.getD (n + 1) 0 = y at *
    clear hc
    have q0 : (0 : Int) ≤ (n : Int) := by omega
    have q1 : (n : Int) ≤ (cap : Int) := by omega
    have q2 : (n : Int) < ((n + 2 : Nat) : Int) := by omega
    have q3 : (n : Int) + 1 < ((n + 2 : Nat) : Int) := by omega
    have q4 : (0 : Int) ≤ (n : Int) + 1 := by omega
    go_enter Try.func41, Try.ntmps41
    go_wp2_with fail
    go_quiet ((go_at_call 58; exact Calls.quiet_of_same ((crc_any _ _ _ (l.take n) _ (ht.below (below_drewN (Below.refl _ _) _))).mono fun e w' h => ⟨h.1, h.2.symm⟩)))
    go_wp2
    go_ret
    refine ⟨ret_bool ?_, below_drewN (Below.refl _ _) _⟩
    rw [HC.out, or16]
    rw [Bool.eq_iff_iff, beq_iff_eq, beq_iff_eq]
    omega
  · rcases (by omega : len = 0 ∨ len = 1) with rfl | rfl
    all_goals
      go_enter Try.func41, Try.ntmps41
      go_wp2_with fail
      go_quiet (fail)
      go_wp2
      go_ret
      exact ⟨ret_bool (by simp [checkB, hl.out]), below_drewN (Below.refl _ _) _⟩
end Go.Proofs.Ytmbiophckeiehaa
