import Derived.Test.YtmbiophckeiehaaLib
import Derived.Deep.QuietTactic
import Derived.BigQuiet
namespace Go.Proofs.Ytmbiophckeiehaa
open Go.RowKit

theorem u8_beq (x y : UInt8) : (((x.toNat : Int) == (y.toNat : Int))) = (x == y) := by
  rw [Bool.eq_iff_iff]; simp only [beq_iff_eq]
  exact ⟨fun h => UInt8.toNat_inj.1 (by omega), fun h => by rw [h]⟩

theorem take_step {l m : List UInt8} {k : Nat} (h : l.take k = m.take k) (h1 : k < l.length) (h2 : k < m.length) (he : l.getD k 0 = m.getD k 0) : l.take (k + 1) = m.take (k + 1) := by
  rw [take_snoc l 0 k h1, take_snoc m 0 k h2, h, he]

theorem ne_of_getD {l m : List UInt8} {k : Nat} (he : l.getD k 0 ≠ m.getD k 0) : (l == m) = false := by
  rw [beq_eq_false_iff_ne]; intro e; rw [e] at he; exact he rfl

set_option maxHeartbeats 1000000 in
theorem same_any (a : Option Addr) (la ca : Nat) (l : List UInt8) (b : Option Addr) (lb cb : Nat) (m : List UInt8) (w : World) (ha : IsB w a la ca l) (hb : IsB w b lb cb m) :
    Calls Try.prog 29 #[.slice a la ca, .slice b lb cb] w (RetS (.bool (l == m)) w) := by
  have h1 := ha.le
  have h2 := ha.max
  have h3 := hb.le
  have h4 := hb.max
  have hla := hid ha.length
  have hlb := hid hb.length
  by_cases heq : la = lb
  · subst heq
    go_enter Try.func29, Try.ntmps29
    go_wp2
    go_loopw [5] (fun i wr => ∃ k : Nat, k ≤ la ∧ i = .int .i64 k ∧ Hid (l.take k = m.take k) ∧ Below w.heap.size w wr) (fun i _ => la - (intOf i).toNat)
    case atStart => exact ⟨0, Nat.zero_le _, rfl, hid rfl, Below.refl _ _⟩
    case round =>
      obtain ⟨k, hk, rfl, hE, hB⟩ := hrel
      by_cases hlt : k < la
      · obtain ⟨ab, ao, rfl, hal, hac⟩ := (ha.below hB).some (by omega)
        obtain ⟨bb, bo, rfl, hbl, hbc⟩ := (hb.below hB).some (by omega)
        have c1 := hac k hlt
        have c2 := hbc k hlt
        clear hac hbc
        have hgo : Hid (l.getD k 0 = m.getD k 0 → l.take (k + 1) = m.take (k + 1)) := hid (take_step hE.out (by rw [hla.out]; exact hlt) (by rw [hlb.out]; exact hlt))
        have hno : Hid (l.getD k 0 ≠ m.getD k 0 → (l == m) = false) := hid ne_of_getD
        generalize l.getD k 0 = x at *
        generalize m.getD k 0 = y at *
        by_cases hq : x = y
        · subst hq
          go_wp2
          go_quiet (fail)
          go_wp2
          go_roundw
          case rel => exact ⟨k + 1, by omega, by go_num, hid (by first | exact hgo.out rfl | exact hgo.out trivial), by first | exact hB | exact below_drewN hB _⟩
          case measure => simp [intOf]; omega
        · have hq2 : ((x.toNat : Int) != (y.toNat : Int)) = true := by
            rw [bne, u8_beq]; simp [hq]
          have hf := hid (hno.out hq)
          clear hq hno hgo
          go_wp2
          go_quiet (fail)
          go_wp2
          go_ret
          exact ⟨ret_bool (by rw [hf.out]), by first | exact hB | exact below_drewN hB _⟩
      · obtain rfl : k = la := by omega
        go_wp2
        go_ret
        refine ⟨ret_bool ?_, hB⟩
        have := hE.out
        rw [List.take_of_length_le (by rw [hla.out]; omega), List.take_of_length_le (by rw [hlb.out]; omega)] at this
        rw [this]; simp
  · have hf : Hid ((l == m) = false) := hid (by rw [beq_eq_false_iff_ne]; intro e; apply heq; rw [← ha.length, ← hb.length, e])
    have hq2 : ((la : Int) != (lb : Int)) = true := by simp; omega
    clear heq
    go_enter Try.func29, Try.ntmps29
    go_wp2
    go_ret
    exact ⟨ret_bool (by rw [hf.out]), Below.refl _ _⟩
end Go.Proofs.Ytmbiophckeiehaa
