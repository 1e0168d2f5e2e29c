/-
  The reference's Uint.
-/
import Derived.Test.YtmbiophckeiehaaFvRead

namespace Go.Proofs.Ytmbiophckeiehaa
open Go.RowKit
set_option linter.unusedSimpArgs false
set_option linter.unusedVariables false

theorem uint_step (l : List UInt8) (i j : Nat) (hj : i + j < l.length) (h7 : j < 8) :
    IntKind.u64.wrap (IntKind.u64.wrap ((uintOf ((l.drop i).take j) : Int) * 256) + IntKind.u64.wrap ((l[i + j]?.getD 0).toNat : Int)) = (uintOf ((l.drop i).take (j + 1)) : Int) := by
  have h8 := uintOf_lt ((l.drop i).take j)
  have hll : ((l.drop i).take j).length = j := by simp; omega
  have h7 : (256 : Nat) ^ j ≤ 256 ^ 7 := Nat.pow_le_pow_right (by decide) (by omega)
  rw [hll] at h8
  rw [uintOf_take _ _ (by simp; omega)]
  have hx := (l[i + j]?.getD 0).toNat_lt
  have he : (l.drop i).getD j 0 = l[i + j]?.getD 0 := by simp [List.getD_eq_getElem?_getD]
  rw [he]
  generalize (l[i + j]?.getD 0).toNat = x at *
  generalize uintOf ((l.drop i).take j) = v at *
  rw [IntKind.wrap_u64, IntKind.wrap_u64, IntKind.wrap_u64]
  have : (256 : Nat) ^ 7 = 72057594037927936 := by decide
  omega

set_option maxHeartbeats 2000000 in
theorem refUint_any (a : Option Addr) (len cap : Nat) (l : List UInt8) (i n : Nat) (w : World) (hb : IsB w a len cap l) (h1 : 1 ≤ n) (h8 : n ≤ 8) (hi : i ≤ 1099511627776) :
    Calls Try.prog 70 #[.slice a len cap, .int .i64 i, .int .i64 n] w (Ret (.tuple #[.int .u64 (numV (l.drop i) n), .bool (numOk (l.drop i) n)]) w) := by
  have hle := hb.le
  have hmx := hb.max
  have hl := hid hb.length
  by_cases hin : i + n ≤ len
  · have hok : numOk (l.drop i) n = true := by
      unfold numOk
      exact decide_eq_true ⟨h1, h8, by rw [List.length_drop, hl.out]; omega⟩
    have hv : numV (l.drop i) n = uintOf ((l.drop i).take n) := by unfold numV; rw [if_pos hok]
    rw [hok, hv]
    obtain ⟨b, off, rfl, hlt, hc⟩ := hb.some (by omega)
    go_enter Try.func70, Try.ntmps70
    go_wp2_with fail
    go_loop [8, 9] (fun v k => ∃ j : Nat, j ≤ n ∧ k = .int .i64 j ∧ v = .int .u64 (uintOf ((l.drop i).take j))) (fun _ k => n - (intOf k).toNat)
    case atStart => exact ⟨0, Nat.zero_le _, rfl, by simp [uintOf]⟩
    case round =>
      obtain ⟨j, hj, rfl, rfl⟩ := hrel
      by_cases hlt : j < n
      · have hcx : w.cell? ⟨b, off + (i + j), none⟩ = some (.int .u8 (l.getD (i + j) 0).toNat) := hc (i + j) (by omega)
        have HR := hid (uint_step l i j (by rw [hl.out]; omega) (by omega))
        go_wp2_with fail
        go_round
        case rel => exact ⟨j + 1, by omega, by go_num, by rw [HR.out]⟩
        case measure => simp [intOf]; omega
      · go_wp2_with fail
        obtain rfl : j = n := by omega
        go_ret2
        exact ⟨rfl, rfl⟩
  · have hok : numOk (l.drop i) n = false := by
      unfold numOk
      refine decide_eq_false ?_
      rw [List.length_drop, hl.out]; omega
    have hv : numV (l.drop i) n = 0 := by unfold numV; rw [if_neg (by rw [hok]; decide)]
    rw [hok, hv]
    go_enter Try.func70, Try.ntmps70
    go_wp2_with fail
    all_goals (go_ret2; exact ⟨rfl, rfl⟩)
end Go.Proofs.Ytmbiophckeiehaa
