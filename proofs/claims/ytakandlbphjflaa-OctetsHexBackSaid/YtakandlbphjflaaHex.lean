import Derived.Test.YtakandlbphjflaaGrow
import Derived.RegionTactic
import Derived.ChangeAlike
import Derived.Deep.RegionLaw
namespace Go.Proofs.Ytakandlbphjflaa
open Go.RowKit

/-- the digits of a half byte -/
def hexD (n : Nat) : UInt8 := [48, 49, 50, 51, 52, 53, 54, 55, 56, 57, 97, 98, 99, 100, 101, 102].getD n 0
def hexL (l : List UInt8) : List UInt8 := l.flatMap fun x => [hexD (x.toNat / 16), hexD (x.toNat % 16)]
theorem hexL_snoc (l : List UInt8) (x : UInt8) : hexL (l ++ [x]) = hexL l ++ [hexD (x.toNat / 16), hexD (x.toNat % 16)] := by simp [hexL]
theorem length_hexL (l : List UInt8) : (hexL l).length = 2 * l.length := by
  induction l with
  | nil => rfl
  | cons x l ih => simp [hexL] at ih ⊢; omega

theorem hex_index (n : Nat) (hn : n < 16) (w : World) :
    (Instr.index 9 (.string { data := #[48, 49, 50, 51, 52, 53, 54, 55, 56, 57, 97, 98, 99, 100, 101, 102] }) (.int .u8 (n : Int))).run Try.prog w = .ok (.int .u8 ((hexD n).toNat : Int)) w := by
  rcases (by omega : n = 0 ∨ n = 1 ∨ n = 2 ∨ n = 3 ∨ n = 4 ∨ n = 5 ∨ n = 6 ∨ n = 7 ∨ n = 8 ∨ n = 9 ∨ n = 10 ∨ n = 11 ∨ n = 12 ∨ n = 13 ∨ n = 14 ∨ n = 15) with rfl | rfl | rfl | rfl | rfl | rfl | rfl | rfl | rfl | rfl | rfl | rfl | rfl | rfl | rfl | rfl
  all_goals rfl

theorem u8_and15 (x : UInt8) : bits .and .u8 (x.toNat : Int) 15 = ((x.toNat % 16 : Nat) : Int) := by
  have h := bits_and_u8_nat x.toNat 15 x.toNat_lt (by decide)
  rw [show (15 : Nat) = 2 ^ 4 - 1 from rfl, Nat.and_two_pow_sub_one_eq_mod] at h
  exact h

theorem hex_step {w : World} {g k len : Nat} {l : List UInt8} {x y : UInt8} (h : Own w g ((hexL (l.take k) ++ zeros (2 * len - 2 * k)).take (2 * k) ++ [x, y] ++ (hexL (l.take k) ++ zeros (2 * len - 2 * k)).drop (2 * k + 2)))
    (ht : hexL (l.take (k + 1)) = hexL (l.take k) ++ [x, y]) (hk : (l.take k).length = k) (hlt : k < len) : Own w g (hexL (l.take (k + 1)) ++ zeros (2 * len - 2 * (k + 1))) := by
  have hl : (hexL (l.take k)).length = 2 * k := by rw [length_hexL, hk]
  have e1 : (hexL (l.take k) ++ zeros (2 * len - 2 * k)).take (2 * k) = hexL (l.take k) := by rw [← hl, List.take_left]
  have e2 : (hexL (l.take k) ++ zeros (2 * len - 2 * k)).drop (2 * k + 2) = zeros (2 * len - 2 * (k + 1)) := by
    rw [← hl, List.drop_append]
    simp only [zeros, List.drop_replicate, hl]
    rw [List.drop_eq_nil_of_le (by omega), List.nil_append]
    congr 1
    omega
  rw [e1, e2] at h
  rw [ht]
  exact h

set_option maxHeartbeats 2000000 in
theorem hex_any (a : Option Addr) (len cap : Nat) (l : List UInt8) (w : World) (hb : IsB w a len cap l) (hroom : len ≤ 140737488355328) :
    Calls Try.prog 24 #[.slice a len cap] w (RetS (.string ⟨(hexL l).toArray⟩) w) := by
  have hle := hb.le
  have hl := hid hb.length
  have hmk := fun u => run_make_room (2 * (len : Int)) (2 * len) (by omega) (by omega) u
  go_enter Try.func24, Try.ntmps24
  go_wp2
  have hO0 : Own (w.alloc (.cells (row (zeros (2 * len))) 5)) w.heap.size (hexL (l.take 0) ++ zeros (2 * len - 2 * 0)) := by simpa [hexL] using Own.new w (zeros (2 * len))
  clear hmk
  go_loopw [3, 12] (fun v t wr => ∃ k : Nat, k ≤ len ∧ t = .int .i64 k ∧ v = .slice (some ⟨w.heap.size, 0, none⟩) (2 * k) (2 * len) ∧ Own wr w.heap.size (hexL (l.take k) ++ zeros (2 * len - 2 * k)) ∧ Below w.heap.size w wr) (fun _ t _ => len - (intOf t).toNat)
  case atStart => exact ⟨0, Nat.zero_le _, rfl, rfl, hO0, (Below.refl _ _).alloc (Nat.le_refl _) _⟩
  case round =>
    obtain ⟨k, hk, rfl, rfl, hO, hB⟩ := hrel
    clear hO0
    by_cases hlt : k < len
    · obtain ⟨b, off, rfl, hbl, hc⟩ := (hb.below hB).some (by omega)
      have c1 := hc k hlt
      clear hc
      have HT : Hid (hexL (l.take (k + 1)) = hexL (l.take k) ++ [hexD ((l.getD k 0).toNat / 16), hexD ((l.getD k 0).toNat % 16)]) := hid (by rw [take_snoc l 0 k (by rw [hl.out]; exact hlt), hexL_snoc])
      generalize l.getD k 0 = x at *
      have hi1 : ∀ W, (Instr.index 9 (.string { data := #[48, 49, 50, 51, 52, 53, 54, 55, 56, 57, 97, 98, 99, 100, 101, 102] }) (.int .u8 ((x.toNat : Int) / 16))).run Try.prog W = .ok (.int .u8 ((hexD (x.toNat / 16)).toNat : Int)) W := fun W => by
        have := hex_index (x.toNat / 16) (by have := x.toNat_lt; omega) W
        rw [← this]; simp
      have hi2 : ∀ W, (Instr.index 9 (.string { data := #[48, 49, 50, 51, 52, 53, 54, 55, 56, 57, 97, 98, 99, 100, 101, 102] }) (.int .u8 (bits .and .u8 (x.toNat : Int) 15))).run Try.prog W = .ok (.int .u8 ((hexD (x.toNat % 16)).toNat : Int)) W := fun W => by
        rw [u8_and15]; exact hex_index _ (Nat.mod_lt _ (by decide)) W
      have HO := hid hO
      clear hO
      go_wp2
      have HOa : ∀ o, Own ((wr.alloc o).drew) w.heap.size (hexL (l.take k) ++ zeros (2 * len - 2 * k)) := fun o => HO.out.alloc o
      have JJ : ∀ p q : UInt8, IsB ((wr.alloc (.cells #[.int .u8 (p.toNat : Int), .int .u8 (q.toNat : Int)] 5)).drew) (some ⟨wr.heap.size, 0, none⟩) 2 2 [p, q] := fun p q => ((Own.new wr [p, q]).isB (by simp)).below ((Below.refl _ _).drew)
      have BB : ∀ o, Below w.heap.size w ((wr.alloc o).drew) := fun o => (hB.alloc hB.size o).drew
      have HL : Hid (2 * k + 2 ≤ (hexL (l.take k) ++ zeros (2 * len - 2 * k)).length) := hid (by rw [List.length_append, length_hexL, length_zeros, List.length_take, hl.out]; omega)
      go_region_law (refine step_append_roomB rfl (.tmp 16) (.tmp 23) rfl w.heap.size (2 * k) (2 * len) (by simp [Act.eval, Act.put]) (some ⟨wr.heap.size, 0, none⟩) 2 2 (by simp [Act.eval, Act.put]) (hexL (l.take k) ++ zeros (2 * len - 2 * k)) [hexD (x.toNat / 16), hexD (x.toNat % 16)] (HOa _) (JJ _ _) (by omega) HL.out w.heap.size w (BB _) (Nat.le_refl _) ?_; intro w2 HO2 hB2)
      all_goals go_wp2
      all_goals go_roundw
      case rel =>
        refine ⟨k + 1, by omega, by go_num, rfl, ?_, hB2⟩
        exact hex_step HO2.out HT.out (by rw [List.length_take, hl.out]; omega) hlt
      case measure => simp [intOf]; omega
      case rel =>
        refine ⟨k + 1, by omega, by go_num, rfl, ?_, hB2⟩
        exact hex_step HO2.out HT.out (by rw [List.length_take, hl.out]; omega) hlt
      case measure => simp [intOf]; omega
    · obtain rfl : k = len := by omega
      have hO2 : Own wr w.heap.size (hexL l) := by
        rw [List.take_of_length_le (by rw [hl.out]; omega), Nat.sub_self] at hO
        simpa [zeros] using hO
      have hconv := run_string_own hO2 (2 * k) (2 * k) (by rw [length_hexL, hl.out])
      clear hO hO2
      go_wp2
      go_ret
      exact ⟨rfl, hB⟩
end Go.Proofs.Ytakandlbphjflaa
