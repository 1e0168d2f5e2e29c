import Derived.Test.YthammgljcchloaaDoorLib
namespace Go.Proofs.YthammgljcchloaaDoor
open Go.RowKit

/-- the i-th of the n bytes of v, the most significant one first -/
def beByte (v : Nat) (n i : Nat) : UInt8 := UInt8.ofNat (v / 2 ^ (8 * (n - 1 - i)))
def beBytes (v : Nat) (n : Nat) : List UInt8 := (List.range n).map (beByte v n)
theorem length_beBytes (v n : Nat) : (beBytes v n).length = n := by simp [beBytes]

theorem be_value (v : Int) (hv : 0 ≤ v) (n i : Nat) : Value.int .u8 (v / 2 ^ (8 * (n - 1 - i)) % 256) = bv (beByte v.toNat n i) := by
  obtain ⟨v, rfl⟩ := Int.eq_ofNat_of_zero_le hv
  simp only [bv, beByte, Int.toNat_natCast]
  have : (UInt8.ofNat (v / 2 ^ (8 * (n - 1 - i)))).toNat = v / 2 ^ (8 * (n - 1 - i)) % 256 := by simp [UInt8.toNat_ofNat']
  rw [this]
  simp

theorem beBytes_getD (v n k : Nat) (hk : k < n) : (beBytes v n).getD k 0 = beByte v n k := by
  simp [beBytes, List.getD_eq_getElem?_getD, hk]

set_option maxHeartbeats 1000000 in
theorem append_any (a : Option Addr) (len cap : Nat) (l : List UInt8) (v n : Int) (m : Nat) (w : World) (hb : IsB w a len cap l) (hroom : len + m ≤ 281474976710656) (hu : U64 v) (hi : I64 n) (hm : (0 ≤ n ∧ n ≤ 8 ∧ n = m) ∨ ((n < 0 ∨ 8 < n) ∧ m = 0)) :
    Calls Tryd.prog 63 #[.slice a len cap, .int .u64 v, .int .i64 n] w (RetB (l ++ beBytes v.toNat m) w) := by
  have hle := hb.le
  have hmx := hb.max
  have hl := hid hb.length
  have hm8 : m ≤ 8 := by omega
  have hmk := fun u => run_make_bytes ((len : Int) + (m : Int)) (len + m) (by omega) (by omega) u
  have hv := hu.1
  rcases hm with ⟨h0, h8, rfl⟩ | ⟨hno, rfl⟩
  · go_enter Tryd.func63, Tryd.ntmps63
    go_wp2_with (with_reducible refine wpList_copy_bytes (o := ⟨some 22, _, _, _, _, _⟩) rfl (.tmp 20) (.tmp 21) rfl w.heap.size (len + m) (len + m) a len cap rfl rfl (zeros (len + m)) l (Own.new _ _) (hb.below ((Below.refl _ _).alloc (Nat.le_refl _) _)) (by omega) (by rw [length_zeros]; omega) w.heap.size w ((Below.refl _ _).alloc (Nat.le_refl _) _) (Nat.le_refl _) ?_; intro w2 HO hB2)
    have hl0 := hl.out
    have HO2 : Own w2 w.heap.size (l ++ zeros m) := by
      have := HO.out
      rwa [hl0, show (zeros (len + m)).drop len = zeros m from by simp [zeros]] at this
    clear HO hl0 hmk
    go_loopw [24] (fun i wr => ∃ k : Nat, k ≤ m ∧ i = .int .i64 k ∧ Own wr w.heap.size (l ++ ((beBytes v.toNat m).take k ++ zeros (m - k))) ∧ Below w.heap.size w wr) (fun i _ => m - (intOf i).toNat)
    case atStart => exact ⟨0, Nat.zero_le _, rfl, by simpa using HO2, hB2⟩
    case round =>
      obtain ⟨k, hk, rfl, hO, hB⟩ := hrel
      by_cases hlt : k < m
      · have hcell := hO.cell (len + k) (by have := hl.out; simp [length_zeros, beBytes]; omega)
        have hfr := hO.frozen (len + k)
        have HOw := hid hO
        clear hO
        go_wp2
        go_roundw
        case rel =>
          refine ⟨k + 1, by omega, by go_num, ?_, hB.setCell (Nat.le_refl _) _⟩
          have h2 := HOw.out.set (len + k) _ _ (be_value v hv m k)
          rw [← beBytes_getD _ _ _ hlt, ← hl.out, set_fill l _ m k (length_beBytes _ _) hlt, hl.out] at h2
          exact h2
        case measure => simp [intOf]; omega
      · obtain rfl : k = m := by omega
        go_wp2
        go_ret
        refine ⟨w.heap.size, ?_, Nat.le_refl _, ?_, hB⟩
        · simp [length_beBytes, hl.out]
        · have := hO
          rw [List.take_of_length_le (by rw [length_beBytes]; omega), Nat.sub_self] at this
          simpa [zeros] using this
  · clear hmk
    have hmk := fun u => run_make_bytes (len : Int) len rfl (by omega) u
    rcases hno with hno | hno
    all_goals
      go_enter Tryd.func63, Tryd.ntmps63
      go_wp2_with (with_reducible refine wpList_copy_bytes (o := ⟨some 22, _, _, _, _, _⟩) rfl (.tmp 20) (.tmp 21) rfl w.heap.size len len a len cap rfl rfl (zeros len) l (Own.new _ _) (hb.below ((Below.refl _ _).alloc (Nat.le_refl _) _)) (by omega) (by rw [length_zeros]; omega) w.heap.size w ((Below.refl _ _).alloc (Nat.le_refl _) _) (Nat.le_refl _) ?_; intro w2 HO hB2)
      have hl0 := hl.out
      have HO2 : Own w2 w.heap.size l := by
        have := HO.out
        rwa [hl0, show (zeros len).drop len = [] from by simp [zeros], List.append_nil] at this
      clear HO hl0 hmk
      have HOh := hid HO2
      clear HO2
      refine wp_loop_rounds 1 ?_; rw [rounds_succ]
      go_wp2
      go_ret
      refine ⟨w.heap.size, ?_, Nat.le_refl _, ?_, hB2⟩
      · simp [length_beBytes, hl.out]
      · simpa [beBytes] using HOh.out
end Go.Proofs.YthammgljcchloaaDoor
