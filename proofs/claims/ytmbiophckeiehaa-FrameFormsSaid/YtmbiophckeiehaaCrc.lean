/-
  The CRC: one step, a byte, many bytes; Extend and CRC.
-/
import Derived.Test.YtmbiophckeiehaaLib
namespace Go.Proofs.Ytmbiophckeiehaa
open Go.RowKit

theorem xor_lt16 {a b : Nat} (ha : a < 65536) (hb : b < 65536) : a ^^^ b < 65536 := Nat.xor_lt_two_pow (n := 16) ha hb

theorem bits_xor_u16_nat (a b : Nat) (ha : a < 65536) (hb : b < 65536) : bits .xor .u16 (a : Int) (b : Int) = ((a ^^^ b : Nat) : Int) := by
  have hx := xor_lt16 ha hb
  have h1 : (BitVec.ofInt 16 (a : Int)).toNat = a := by
    rw [BitVec.ofInt_natCast, BitVec.toNat_ofNat]; exact Nat.mod_eq_of_lt (by omega)
  have h2 : (BitVec.ofInt 16 (b : Int)).toNat = b := by
    rw [BitVec.ofInt_natCast, BitVec.toNat_ofNat]; exact Nat.mod_eq_of_lt (by omega)
  show IntKind.u16.wrap ((BitVec.ofInt 16 (a : Int) ^^^ BitVec.ofInt 16 (b : Int)).toNat : Int) = _
  rw [BitVec.toNat_xor, h1, h2, IntKind.wrap_u16]
  omega

theorem bits_and_u16_one (a : Nat) (ha : a < 65536) : bits .and .u16 (a : Int) 1 = ((a % 2 : Nat) : Int) := by
  have h1 : (BitVec.ofInt 16 (a : Int)).toNat = a := by
    rw [BitVec.ofInt_natCast, BitVec.toNat_ofNat]; exact Nat.mod_eq_of_lt (by omega)
  have h2 : (BitVec.ofInt 16 (1 : Int)).toNat = 1 := by decide
  show IntKind.u16.wrap ((BitVec.ofInt 16 (a : Int) &&& BitVec.ofInt 16 (1 : Int)).toNat : Int) = _
  rw [BitVec.toNat_and, h1, h2, Nat.and_one_is_mod, IntKind.wrap_u16]
  omega

/-- one bit of the CRC -/
def step (c : Nat) : Nat := if c % 2 = 1 then (c / 2) ^^^ 33800 else c / 2

theorem step_lt {c : Nat} (h : c < 65536) : step c < 65536 := by
  unfold step
  split
  · exact xor_lt16 (by omega) (by omega)
  · omega

/-- n bits of it -/
def steps : Nat → Nat → Nat
  | 0, c => c
  | n + 1, c => step (steps n c)

theorem steps_lt {c : Nat} (h : c < 65536) (n : Nat) : steps n c < 65536 := by
  induction n with
  | zero => exact h
  | succ n ih => exact step_lt ih

theorem byte_lt16 (x : UInt8) : x.toNat < 65536 := by have := x.toNat_lt; omega

/-- the CRC, continued over bytes -/
def crcL (c : Nat) (l : List UInt8) : Nat := l.foldl (fun c x => steps 8 (c ^^^ x.toNat)) c

theorem crcL_append (c : Nat) (l m : List UInt8) : crcL c (l ++ m) = crcL (crcL c l) m := by simp [crcL]

theorem crcL_lt {c : Nat} (h : c < 65536) (l : List UInt8) : crcL c l < 65536 := by
  induction l generalizing c with
  | nil => exact h
  | cons x l ih => exact ih (steps_lt (xor_lt16 h (byte_lt16 x)) 8)

theorem crcL_take (c : Nat) (l : List UInt8) (k : Nat) (h : k < l.length) : crcL c (l.take (k + 1)) = steps 8 (crcL c (l.take k) ^^^ (l.getD k 0).toNat) := by
  rw [take_snoc l 0 k h, crcL_append]
  rfl

set_option maxHeartbeats 1000000 in
theorem extend_any (c : Nat) (a : Option Addr) (len cap : Nat) (l : List UInt8) (w : World) (hc : c < 65536) (hb : IsB w a len cap l) :
    Calls Try.prog 72 #[.int .u16 (c : Int), .slice a len cap] w (Ret (.int .u16 ((crcL c l : Nat) : Int)) w) := by
  have hle := hb.le
  have hmax := hb.max
  have hl := hid hb.length
  go_enter Try.func72, Try.ntmps72
  go_wp2
  go_loop [0, 10] (fun s v => ∃ i : Nat, i ≤ len ∧ v = .int .i64 (i : Int) ∧ s = .int .u16 ((crcL c (l.take i) : Nat) : Int)) (fun _ v => len - (intOf v).toNat)
  case atStart => exact ⟨0, Nat.zero_le _, rfl, rfl⟩
  case round =>
    obtain ⟨i, hi, rfl, rfl⟩ := hrel
    by_cases hlt : i < len
    · obtain ⟨b, off, rfl, _, hcells⟩ := hb.some (by omega)
      have c1 := hcells i hlt
      have hT : Hid (crcL c (l.take (i + 1)) = steps 8 (crcL c (l.take i) ^^^ (l.getD i 0).toNat)) := hid (crcL_take c l i (by rw [hl.out]; exact hlt))
      have hs := crcL_lt hc (l.take i)
      clear hcells
      generalize crcL c (l.take i) = s at *
      generalize l.getD i 0 = x at *
      have hx := byte_lt16 x
      have hX : Hid (bits .xor .u16 (s : Int) (x.toNat : Int) = ((s ^^^ x.toNat : Nat) : Int)) := hid (bits_xor_u16_nat s x.toNat hs hx)
      have hsx := xor_lt16 hs hx
      go_wp2
      rw [hX.out]
      go_loop [0, 18] (fun t v => ∃ k : Nat, k ≤ 8 ∧ v = .int .i64 (k : Int) ∧ t = .int .u16 ((steps k (s ^^^ x.toNat) : Nat) : Int)) (fun _ v => 8 - (intOf v).toNat)
      case atStart => exact ⟨0, Nat.zero_le _, rfl, rfl⟩
      case round =>
        obtain ⟨k, hk, rfl, rfl⟩ := hrel
        by_cases hk8 : k < 8
        · have hS : Hid (steps (k + 1) (s ^^^ x.toNat) = step (steps k (s ^^^ x.toNat))) := hid rfl
          have ht := steps_lt hsx k
          generalize steps k (s ^^^ x.toNat) = t at *
          by_cases hodd : t % 2 = 1
          · have hA : bits .and .u16 (t : Int) 1 = 1 := by rw [bits_and_u16_one t ht, hodd]; rfl
            have hS2 : Hid (steps (k + 1) (s ^^^ x.toNat) = (t / 2) ^^^ 33800) := hid (by rw [hS.out, step, if_pos hodd])
            have hX2 : Hid (bits .xor .u16 ((t : Int) / 2) 33800 = ((t / 2 ^^^ 33800 : Nat) : Int)) := hid (by
              have := bits_xor_u16_nat (t / 2) 33800 (by omega) (by omega)
              rw [← this]; congr 1)
            clear hodd
            go_wp2
            go_round
            case rel => exact ⟨k + 1, by omega, by go_num, by rw [hX2.out, hS2.out]⟩
            case measure => simp [intOf]; omega
          · have hA : bits .and .u16 (t : Int) 1 = 0 := by rw [bits_and_u16_one t ht, show t % 2 = 0 from by omega]; rfl
            have hS2 : Hid (steps (k + 1) (s ^^^ x.toNat) = t / 2) := hid (by rw [hS.out, step, if_neg hodd])
            clear hodd
            go_wp2
            go_round
            case rel => exact ⟨k + 1, by omega, by go_num, by rw [hS2.out]; congr 1⟩
            case measure => simp [intOf]; omega
        · obtain rfl : k = 8 := by omega
          go_wp2
          go_round
          case rel => exact ⟨i + 1, by omega, by go_num, by rw [hT.out]⟩
          case measure => simp [intOf]; omega
    · obtain rfl : i = len := by omega
      go_wp2
      go_ret
      refine ⟨ret_int ?_, rfl⟩
      rw [List.take_of_length_le (by rw [hl.out]; omega)]
set_option maxHeartbeats 1000000 in
theorem refExtend_any (c : Nat) (a : Option Addr) (len cap : Nat) (l : List UInt8) (w : World) (hc : c < 65536) (hb : IsB w a len cap l) :
    Calls Try.prog 57 #[.int .u16 (c : Int), .slice a len cap] w (Ret (.int .u16 ((crcL c l : Nat) : Int)) w) := by
  have hle := hb.le
  have hmax := hb.max
  have hl := hid hb.length
  go_enter Try.func57, Try.ntmps57
  go_wp2
  go_loop [0, 5] (fun s v => ∃ i : Nat, i ≤ len ∧ v = .int .i64 (i : Int) ∧ s = .int .u16 ((crcL c (l.take i) : Nat) : Int)) (fun _ v => len - (intOf v).toNat)
  case atStart => exact ⟨0, Nat.zero_le _, rfl, rfl⟩
  case round =>
    obtain ⟨i, hi, rfl, rfl⟩ := hrel
    by_cases hlt : i < len
    · obtain ⟨b, off, rfl, _, hcells⟩ := hb.some (by omega)
      have c1 := hcells i hlt
      have hT : Hid (crcL c (l.take (i + 1)) = steps 8 (crcL c (l.take i) ^^^ (l.getD i 0).toNat)) := hid (crcL_take c l i (by rw [hl.out]; exact hlt))
      have hs := crcL_lt hc (l.take i)
      clear hcells
      generalize crcL c (l.take i) = s at *
      generalize l.getD i 0 = x at *
      have hx := byte_lt16 x
      have hX : Hid (bits .xor .u16 (s : Int) (x.toNat : Int) = ((s ^^^ x.toNat : Nat) : Int)) := hid (bits_xor_u16_nat s x.toNat hs hx)
      have hsx := xor_lt16 hs hx
      go_wp2
      rw [hX.out]
      go_loop [0, 6] (fun t v => ∃ k : Nat, k ≤ 8 ∧ v = .int .i64 (k : Int) ∧ t = .int .u16 ((steps k (s ^^^ x.toNat) : Nat) : Int)) (fun _ v => 8 - (intOf v).toNat)
      case atStart => exact ⟨0, Nat.zero_le _, rfl, rfl⟩
      case round =>
        obtain ⟨k, hk, rfl, rfl⟩ := hrel
        by_cases hk8 : k < 8
        · have hS : Hid (steps (k + 1) (s ^^^ x.toNat) = step (steps k (s ^^^ x.toNat))) := hid rfl
          have ht := steps_lt hsx k
          generalize steps k (s ^^^ x.toNat) = t at *
          by_cases hodd : t % 2 = 1
          · have hA : bits .and .u16 (t : Int) 1 = 1 := by rw [bits_and_u16_one t ht, hodd]; rfl
            have hS2 : Hid (steps (k + 1) (s ^^^ x.toNat) = (t / 2) ^^^ 33800) := hid (by rw [hS.out, step, if_pos hodd])
            have hX2 : Hid (bits .xor .u16 ((t : Int) / 2) 33800 = ((t / 2 ^^^ 33800 : Nat) : Int)) := hid (by
              have := bits_xor_u16_nat (t / 2) 33800 (by omega) (by omega)
              rw [← this]; congr 1)
            clear hodd
            go_wp2
            go_round
            case rel => exact ⟨k + 1, by omega, by go_num, by rw [hX2.out, hS2.out]⟩
            case measure => simp [intOf]; omega
          · have hA : bits .and .u16 (t : Int) 1 = 0 := by rw [bits_and_u16_one t ht, show t % 2 = 0 from by omega]; rfl
            have hS2 : Hid (steps (k + 1) (s ^^^ x.toNat) = t / 2) := hid (by rw [hS.out, step, if_neg hodd])
            clear hodd
            go_wp2
            go_round
            case rel => exact ⟨k + 1, by omega, by go_num, by rw [hS2.out]; congr 1⟩
            case measure => simp [intOf]; omega
        · obtain rfl : k = 8 := by omega
          go_wp2
          go_round
          case rel => exact ⟨i + 1, by omega, by go_num, by rw [hT.out]⟩
          case measure => simp [intOf]; omega
    · obtain rfl : i = len := by omega
      go_wp2
      go_ret
      refine ⟨ret_int ?_, rfl⟩
      rw [List.take_of_length_le (by rw [hl.out]; omega)]

set_option maxHeartbeats 1000000 in
theorem crc_any (a : Option Addr) (len cap : Nat) (l : List UInt8) (w : World) (hb : IsB w a len cap l) :
    Calls Try.prog 58 #[.slice a len cap] w (Ret (.int .u16 ((crcL 0 l : Nat) : Int)) w) := by
  go_enter Try.func58, Try.ntmps58
  go_wp2_with fail
  refine (extend_any 0 a len cap l w (by omega) hb).mono ?_
  rintro e w' ⟨rfl, rfl⟩
  go_wp2
  go_ret
  exact ⟨rfl, rfl⟩

set_option maxHeartbeats 1000000 in
theorem refCrc_any (a : Option Addr) (len cap : Nat) (l : List UInt8) (w : World) (hb : IsB w a len cap l) :
    Calls Try.prog 38 #[.slice a len cap] w (Ret (.int .u16 ((crcL 0 l : Nat) : Int)) w) := by
  go_enter Try.func38, Try.ntmps38
  go_wp2_with fail
  refine (refExtend_any 0 a len cap l w (by omega) hb).mono ?_
  rintro e w' ⟨rfl, rfl⟩
  go_wp2
  go_ret
  exact ⟨rfl, rfl⟩
end Go.Proofs.Ytmbiophckeiehaa
