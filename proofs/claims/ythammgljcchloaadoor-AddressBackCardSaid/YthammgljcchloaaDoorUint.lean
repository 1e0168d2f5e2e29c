import Derived.Test.YthammgljcchloaaDoorLib
namespace Go.Proofs.YthammgljcchloaaDoor
open Go.RowKit

def insideB (s a n : Int) : Bool := decide (0 ≤ a ∧ a + n ≤ s)
set_option maxHeartbeats 400000 in
theorem inside_any (s a n : Int) (w : World) (h0 : 0 ≤ s) (h1 : s < 2^62) (hn : 0 ≤ n) (hn3 : I64 n) (ha : I64 a):
    Calls Tryd.prog 70 #[.int .i64 s, .int .i64 a, .int .i64 n] w (Ret (.bool (insideB s a n)) w) := by
  obtain ⟨_, hn2⟩ := hn3
  obtain ⟨ha3, ha2⟩ := ha
  go_enter Tryd.func70, Tryd.ntmps70
  go_wp2
  all_goals (go_ret; refine ⟨ret_bool ?_, rfl⟩; rw [Bool.eq_iff_iff]; simp [insideB]; omega)

set_option maxHeartbeats 800000 in
theorem uint_yes (a : Option Addr) (len cap : Nat) (l : List UInt8) (i n : Int) (w : World) (hb : IsB w a len cap l) (h1 : 1 ≤ n) (h2 : n ≤ 8) (h3 : 0 ≤ i) (h4 : i + n ≤ len) :
    Calls Tryd.prog 55 #[.slice a len cap, .int .i64 i, .int .i64 n] w (Ret (.tuple #[.int .u64 (uintOf ((l.drop i.toNat).take n.toNat)), .bool true]) w) := by
  obtain ⟨i, rfl⟩ := Int.eq_ofNat_of_zero_le h3
  obtain ⟨n, rfl⟩ := Int.eq_ofNat_of_zero_le (show 0 ≤ n by omega)
  obtain ⟨b, off, rfl, hlt, hc⟩ := hb.some (by omega)
  have hle := hb.le
  have hmx := hb.max
  have hl := hid hb.length
  have hi : insideB (len : Int) (i : Int) (n : Int) = true := by simp [insideB]; omega
  go_enter Tryd.func55, Tryd.ntmps55
  go_wp2_with (go_at_call 70; refine (inside_any _ _ _ _ (by omega) (by omega) (by omega) ⟨by omega, by omega⟩ ⟨by omega, by omega⟩).mono ?_; rintro e w' ⟨rfl, rfl⟩)
  go_loop [8, 32] (fun v k => ∃ j : Nat, j ≤ n ∧ k = .int .i64 j ∧ v = .int .u64 (uintOf ((l.drop i).take j))) (fun _ k => n - (intOf k).toNat)
  case atStart => exact ⟨0, Nat.zero_le _, rfl, by simp [uintOf]⟩
  case round =>
    obtain ⟨j, hj, rfl, rfl⟩ := hrel
    by_cases hlt : j < n
    · have hcx : w.cell? ⟨b, off + i + j, none⟩ = some (.int .u8 (l.getD (i + j) 0).toNat) := by
        have := hc (i + j) (by omega)
        rwa [← Nat.add_assoc] at this
      have HR : Hid (bits .or .u64 (IntKind.u64.wrap ((uintOf ((l.drop i).take j) : Int) * 256)) (IntKind.u64.wrap ((l[i + j]?.getD 0).toNat : Int)) = (uintOf ((l.drop i).take (j + 1)) : Int)) := by
        refine hid ?_
        have hlen := hl.out
        have h8 := uintOf_lt ((l.drop i).take j)
        have hll : ((l.drop i).take j).length = j := by simp; omega
        have h7 : (256 : Nat) ^ j ≤ 256 ^ 7 := Nat.pow_le_pow_right (by decide) (by omega)
        rw [hll] at h8
        rw [or_shl8 _ _ (by omega) (UInt8.toNat_lt _), uintOf_take _ _ (by simp; omega)]
        simp [List.getD_eq_getElem?_getD]
      go_wp2
      go_round
      case rel => exact ⟨j + 1, by omega, by go_num, by rw [HR.out]⟩
      case measure => simp [intOf]; omega
    · go_wp2
      obtain rfl : j = n := by omega
      go_ret2
      exact ⟨rfl, rfl⟩
end Go.Proofs.YthammgljcchloaaDoor
