import Derived.Test.YtakandlbphjflaaHex
import Derived.Deep.QuietTactic
import Derived.BigQuiet
namespace Go.Proofs.Ytakandlbphjflaa
open Go.RowKit

theorem hex_cut (n : Nat) (hn : n < 16) (w : World) :
    (Instr.slice 9 (.string { data := #[48, 49, 50, 51, 52, 53, 54, 55, 56, 57, 97, 98, 99, 100, 101, 102] }) (some (.int .u8 (n : Int))) (some (.int .u8 ((n : Int) + 1))) none).run Try.prog w = .ok (.string ⟨#[hexD n]⟩) w := by
  rcases (by omega : n = 0 ∨ n = 1 ∨ n = 2 ∨ n = 3 ∨ n = 4 ∨ n = 5 ∨ n = 6 ∨ n = 7 ∨ n = 8 ∨ n = 9 ∨ n = 10 ∨ n = 11 ∨ n = 12 ∨ n = 13 ∨ n = 14 ∨ n = 15) with rfl | rfl | rfl | rfl | rfl | rfl | rfl | rfl | rfl | rfl | rfl | rfl | rfl | rfl | rfl | rfl
  all_goals rfl

set_option maxHeartbeats 2000000 in
theorem refhex_any (a : Option Addr) (len cap : Nat) (l : List UInt8) (w : World) (hb : IsB w a len cap l) (hroom : len ≤ 140737488355328) :
    Calls Try.prog 20 #[.slice a len cap] w (RetS (.string ⟨(hexL l).toArray⟩) w) := by
  have hle := hb.le
  have hcm := hb.capmax
  have hl := hid hb.length
  go_enter Try.func20, Try.ntmps20
  go_wp2
  go_loopw [3, 4] (fun v t wr => ∃ k : Nat, k ≤ len ∧ t = .int .i64 k ∧ v = .string ⟨(hexL (l.take k)).toArray⟩ ∧ Below w.heap.size w wr) (fun _ t _ => len - (intOf t).toNat)
  case atStart => exact ⟨0, Nat.zero_le _, rfl, rfl, Below.refl _ _⟩
  case round =>
    obtain ⟨k, hk, rfl, rfl, hB⟩ := hrel
    by_cases hlt : k < len
    · obtain ⟨b, off, rfl, hbl, hc⟩ := (hb.below hB).some (by omega)
      have c1 := hc k hlt
      clear hc
      have HT : Hid (hexL (l.take (k + 1)) = hexL (l.take k) ++ [hexD ((l.getD k 0).toNat / 16), hexD ((l.getD k 0).toNat % 16)]) := hid (by rw [take_snoc l 0 k (by rw [hl.out]; exact hlt), hexL_snoc])
      have HL : Hid ((hexL (l.take k)).length = 2 * k) := hid (by rw [length_hexL, List.length_take, hl.out]; omega)
      generalize l.getD k 0 = x at *
      have hx := x.toNat_lt
      have hi1 : ∀ W, (Instr.slice 9 (.string { data := #[48, 49, 50, 51, 52, 53, 54, 55, 56, 57, 97, 98, 99, 100, 101, 102] }) (some (.int .u8 ((x.toNat : Int) / 16))) (some (.int .u8 ((x.toNat : Int) / 16 + 1))) none).run Try.prog W = .ok (.string ⟨#[hexD (x.toNat / 16)]⟩) W := fun W => by
        have := hex_cut (x.toNat / 16) (by omega) W
        rw [← this]; simp
      have hi2 : ∀ W, (Instr.slice 9 (.string { data := #[48, 49, 50, 51, 52, 53, 54, 55, 56, 57, 97, 98, 99, 100, 101, 102] }) (some (.int .u8 (bits .and .u8 (x.toNat : Int) 15))) (some (.int .u8 (bits .and .u8 (x.toNat : Int) 15 + 1))) none).run Try.prog W = .ok (.string ⟨#[hexD (x.toNat % 16)]⟩) W := fun W => by
        rw [u8_and15]; exact hex_cut _ (Nat.mod_lt _ (by decide)) W
      have hw1 : IntKind.u8.wrap ((x.toNat : Int) / 16 + 1) = (x.toNat : Int) / 16 + 1 := by simp [IntKind.wrap, IntKind.bits, IntKind.signed]; omega
      have hw2 : IntKind.u8.wrap (bits .and .u8 (x.toNat : Int) 15 + 1) = bits .and .u8 (x.toNat : Int) 15 + 1 := by rw [u8_and15]; simp [IntKind.wrap, IntKind.bits, IntKind.signed]; omega
      have hadd : ∀ W, (Op.stringOp .add ⟨(hexL (l.take k)).toArray⟩ ((⟨#[hexD (x.toNat / 16)]⟩ : ByteArray) ++ ⟨#[hexD (x.toNat % 16)]⟩)).run Try.prog W = .ok (.string ⟨(hexL (l.take (k + 1))).toArray⟩) W := fun W => by
        rw [run_string_add_sum]
        · rw [HT.out]
          congr 2
        · have h1 : (⟨(hexL (l.take k)).toArray⟩ : ByteArray).size = 2 * k := by show (hexL (l.take k)).toArray.size = _; rw [List.size_toArray, HL.out]
          have h2 : ((⟨#[hexD (x.toNat / 16)]⟩ : ByteArray) ++ ⟨#[hexD (x.toNat % 16)]⟩).size = 2 := rfl
          rw [h1, h2]; omega
      go_wp2
      go_quiet (fail)
      go_wp2
      go_roundw
      case rel => exact ⟨k + 1, by omega, by go_num, rfl, below_drewN hB _⟩
      case measure => simp [intOf]; omega
    · obtain rfl : k = len := by omega
      go_wp2
      go_ret
      refine ⟨?_, hB⟩
      have e : l.take k = l := List.take_of_length_le (by rw [hl.out]; omega)
      rw [e]
      rfl
end Go.Proofs.Ytakandlbphjflaa
