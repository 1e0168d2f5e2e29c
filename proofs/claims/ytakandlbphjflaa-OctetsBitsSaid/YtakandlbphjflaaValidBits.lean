import Derived.Test.YtakandlbphjflaaBytesFor
import Derived.Deep.QuietTactic
import Derived.BigQuiet
namespace Go.Proofs.Ytakandlbphjflaa
open Go.RowKit

/-- promise 1.3, as the code looks at it -/
def validB (l : List UInt8) (n : Int) : Bool :=
  decide (0 ≤ n ∧ (l.length : Int) = (n + 7) / 8 ∧ (n % 8 = 0 ∨ (l.getD (l.length - 1) 0).toNat * 2 ^ (n % 8).toNat % 256 = 0))

theorem shl_zero (x : UInt8) (k : Nat) : ((x.toNat : Int) * 2 ^ k % 256 == 0) = decide (x.toNat * 2 ^ k % 256 = 0) := by
  rw [Bool.eq_iff_iff, beq_iff_eq, decide_eq_true_eq, show (x.toNat : Int) * 2 ^ k = ((x.toNat * 2 ^ k : Nat) : Int) from by simp]
  omega

theorem box_below (w : World) (o : Obj) (n : Nat) : Below w.heap.size w ((w.alloc o).drewN n) := below_drewN ((Below.refl _ _).alloc (Nat.le_refl _) _) n

set_option maxHeartbeats 1000000 in
theorem validBits_any (a : Option Addr) (len cap : Nat) (l : List UInt8) (n : Int) (w : World) (hb : IsB w a len cap l) (hi : I64 n) :
    Calls Try.prog 17 #[.agg #[.slice a len cap, .int .i64 n]] w (RetS (.bool (validB l n)) w) := by
  have hv : Hid (validB l n = decide (0 ≤ n ∧ (len : Int) = (n + 7) / 8 ∧ (n % 8 = 0 ∨ (l.getD (len - 1) 0).toNat * 2 ^ (n % 8).toNat % 256 = 0))) := hid (by rw [validB, hb.length])
  have hle := hb.le
  have hmx := hb.max
  by_cases h0 : n < 0
  · go_enter Try.func17, Try.ntmps17
    go_wp2
    go_quiet (fail)
    go_wp2
    go_ret
    refine ⟨ret_bool ?_, box_below _ _ _⟩
    rw [hv.out]; simp; omega
  · have h1 : decide (n < 0) = false := by simpa using h0
    by_cases h2 : (len : Int) = (n + 7) / 8
    · have h3 : ((len : Int) != (n + 7) / 8) = false := by simp [h2]
      have H2 := hid h2
      clear h2
      by_cases h4 : n % 8 = 0
      · have h5 : ((n % 8 : Int) == 0) = true := by simp [h4]
        have H4 := hid h4
        clear h4
        go_enter Try.func17, Try.ntmps17
        go_wp2
        go_quiet ((go_at_call 31; exact Calls.quiet_of_same ((bytesFor_any _ _ (by omega) (by have := hi.2; omega)).mono fun e w' h => ⟨h.1, h.2.symm⟩)))
        go_wp2
        go_ret
        refine ⟨ret_bool ?_, box_below _ _ _⟩
        rw [hv.out]; simp [H4.out, H2.out]; omega
      · have h5 : ((n % 8 : Int) == 0) = false := by simp [h4]
        have hp : 0 < len := by have := H2.out; omega
        have H4 := hid h4
        clear h4
        obtain ⟨b, off, rfl, hlt, hc⟩ := hb.some hp
        have hcx := hc (len - 1) (by omega)
        have hcx' : ∀ m, ((w.alloc (.cells #[.slice (some ⟨b, off, none⟩) len cap, .int .i64 n] 24)).drewN m).cell? ⟨b, off + (len - 1), none⟩ = some (.int .u8 ((l.getD (len - 1) 0).toNat : Int)) := fun m => by
          rw [← hcx]
          exact (box_below w _ m).cell (p := ⟨b, off + (len - 1), none⟩) hlt
        clear hcx hc
        go_enter Try.func17, Try.ntmps17
        go_wp2
        go_quiet ((go_at_call 31; exact Calls.quiet_of_same ((bytesFor_any _ _ (by omega) (by have := hi.2; omega)).mono fun e w' h => ⟨h.1, h.2.symm⟩)))
        go_wp2
        go_ret
        refine ⟨ret_bool ?_, box_below _ _ _⟩
        rw [hv.out, ← List.getD_eq_getElem?_getD, shl_zero]
        simp [H4.out, H2.out]; omega
    · have h3 : ((len : Int) != (n + 7) / 8) = true := by simp [h2]
      have H2 := hid h2
      clear h2
      go_enter Try.func17, Try.ntmps17
      go_wp2
      go_quiet ((go_at_call 31; exact Calls.quiet_of_same ((bytesFor_any _ _ (by omega) (by have := hi.2; omega)).mono fun e w' h => ⟨h.1, h.2.symm⟩)))
      go_wp2
      go_ret
      refine ⟨ret_bool ?_, box_below _ _ _⟩
      rw [hv.out]; simp [H2.out]
end Go.Proofs.Ytakandlbphjflaa
