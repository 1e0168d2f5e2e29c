import Derived.Test.YtakandlbphjflaaValidBits
import Derived.Test.YtakandlbphjflaaBox
import Derived.RegionTactic
import Derived.ChangeAlike
namespace Go.Proofs.Ytakandlbphjflaa
open Go.RowKit

/-- bit b is laid over bit i of l -/
def orBit (l : List UInt8) (i b : Nat) : List UInt8 := l.set (i / 8) (UInt8.ofNat ((l.getD (i / 8) 0).toNat ||| b * 2 ^ (7 - i % 8)))

/-- the bytes behind i rounds of AppendBits -/
def appTo (l : List UInt8) (n v k : Nat) : Nat → List UInt8
  | 0 => l ++ zeros ((n + k + 7) / 8 - l.length)
  | i + 1 => orBit (appTo l n v k i) (n + i) (v / 2 ^ (k - 1 - i) % 2)

theorem length_orBit (l : List UInt8) (i b : Nat) : (orBit l i b).length = l.length := by simp [orBit]
theorem length_appTo (l : List UInt8) (n v k : Nat) (h : l.length ≤ (n + k + 7) / 8) : ∀ i, (appTo l n v k i).length = (n + k + 7) / 8
  | 0 => by simp [appTo, zeros]; omega
  | i + 1 => by rw [appTo, length_orBit, length_appTo l n v k h i]

set_option maxHeartbeats 2000000 in
theorem appendBits_yes (a : Option Addr) (len cap : Nat) (l : List UInt8) (n v k : Int) (w : World) (hb : IsB w a len cap l) (hv : validB l n = true) (hn : I64 n)
    (hroom : len ≤ 281474976700000) (h1 : 0 ≤ k) (h2 : k ≤ 64) (hu : U64 v) :
    Calls Try.prog 12 #[.agg #[.slice a len cap, .int .i64 n], .int .u64 v, .int .i64 k] w (RetBits (appTo l n.toNat v.toNat k.toNat k.toNat) (n + k) w) := by
  have hlen : 0 ≤ n ∧ n ≤ 8 * len ∧ (len : Int) = (n + 7) / 8 := by
    simp [validB, hb.length] at hv; omega
  obtain ⟨n, rfl⟩ := Int.eq_ofNat_of_zero_le hlen.1
  obtain ⟨k, rfl⟩ := Int.eq_ofNat_of_zero_le h1
  obtain ⟨v, rfl⟩ := Int.eq_ofNat_of_zero_le hu.1
  have HV := hid hv
  have hle := hb.le
  have hmx := hb.max
  have hn8 : n ≤ 8 * len := by omega
  have hfit : len ≤ (n + k + 7) / 8 := by omega
  have hmk := fun u => run_make_bytes (((n : Int) + (k : Int) + 7) / 8) ((n + k + 7) / 8) (by omega) (by omega) u
  have hbb := hb.below (two_below w (.cells #[.slice a len cap, .int .i64 (n : Int)] 24) (.cells #[.slice none 0 0, .int .i64 0] 24))
  clear hv hlen
  go_enter Try.func12, Try.ntmps12
  go_wp2_with fail
  refine (validBits_any a len cap l n _ hbb hn).mono ?_
  rintro e w1 ⟨rfl, hB1⟩
  rw [HV.out]
  have hX := ((Box.new w a len cap n).alloc (.cells #[.slice none 0 0, .int .i64 0] 24)).below hB1 (by simp; omega)
  have hY := (Box.new (w.alloc (.cells #[.slice a len cap, .int .i64 (n : Int)] 24)) none 0 0 0).below hB1 (by simp)
  have hB := (two_below w (.cells #[.slice a len cap, .int .i64 (n : Int)] 24) (.cells #[.slice none 0 0, .int .i64 0] 24)).trans (hB1.mono (B' := w.heap.size) (by simp; omega))
  have hsz : w.heap.size + 2 ≤ w1.heap.size := by have := hB1.size; simp at this; omega
  have hb1 := hbb.below hB1
  simp only [World.size_alloc] at hY
  have c0 := hX.c0
  have c1 := hX.c1
  have ca0 := fun o => (hX.alloc o).c0
  have HX := hid hX
  have HY := hid hY
  clear hbb hB1 hX hY
  go_wp2_with fail
  refine (bytesFor_any _ _ (by omega) (by omega)).mono ?_
  rintro e w' ⟨rfl, rfl⟩
  go_wp2_with (with_reducible refine wpList_copy_bytes (o := ⟨some 35, _, _, _, _, _⟩) rfl (.tmp 32) (.tmp 34) rfl w1.heap.size ((n + k + 7) / 8) ((n + k + 7) / 8) a len cap rfl rfl (zeros ((n + k + 7) / 8)) l (Own.new _ _) (hb1.below ((Below.refl _ _).alloc (Nat.le_refl _) _)) (by omega) (by rw [length_zeros]; omega) w1.heap.size w1 ((Below.refl _ _).alloc (Nat.le_refl _) _) (Nat.le_refl _) ?_; intro w2 HO hB2)
  have hl0 := hid hb.length
  have HO2 : Own w2 w1.heap.size (appTo l n v k 0) := by
    have := HO.out
    rwa [hl0.out, show (zeros ((n + k + 7) / 8)).drop len = zeros ((n + k + 7) / 8 - len) from by simp [zeros], ← hl0.out] at this
  have HX2 := hid (HX.out.below hB2 (by omega))
  have HY2 := hid (HY.out.below hB2 (by omega))
  have hBa := hB.trans (hB2.mono hB.size)
  have hsz2 := hB2.size
  have hw1 : Hid (w1.heap.size < w2.heap.size) := hid HO2.lt
  clear HO hmk c0 c1 ca0 HX HY hb1 hB
  go_loopw [37] (fun t wr => ∃ i : Nat, i ≤ k ∧ t = .int .i64 i ∧ Own wr w1.heap.size (appTo l n v k i) ∧ Box wr w.heap.size a len cap n ∧ Box wr (w.heap.size + 1) none 0 0 0 ∧ Below w.heap.size w wr) (fun t _ => k - (intOf t).toNat)
  case atStart => exact ⟨0, Nat.zero_le _, rfl, HO2, HX2.out, HY2.out, hBa⟩
  case round =>
    obtain ⟨i, hi, rfl, hO, hX, hY, hBr⟩ := hrel
    have c1 := hX.c1
    have hX' := hid hX
    have hY' := hid hY
    have hO' := hid hO
    have hL : (appTo l n v k i).length = (n + k + 7) / 8 := length_appTo l n v k (by rw [hl0.out]; exact hfit) i
    have HL := hid hL
    by_cases hlt : i < k
    · have d1 := hO.cell ((n + i) / 8) (by rw [hL]; omega)
      have d2 := hO.frozen ((n + i) / 8)
      clear hX hY hO hL HO2 HX2 HY2 hBa hB2
      go_wp2
      go_region
      all_goals (try go_wp2)
      all_goals go_roundw
      case rel =>
        have h2 := hO'.out.set ((n + i) / 8) _ (UInt8.ofNat (((appTo l n v k i).getD ((n + i) / 8) 0).toNat ||| v / 2 ^ (k - 1 - i) % 2 * 2 ^ (7 - (n + i) % 8))) (by rw [bv, ← or_bit _ _ _ _ (by have := hu.2; omega) (by omega)])
        rw [List.getD_eq_getElem?_getD] at h2
        exact ⟨i + 1, by omega, by go_num, h2, hX'.out.set_other _ _ (by simp; omega), hY'.out.set_other _ _ (by simp; omega), (hBr.setCell (by simp; omega) _).drew⟩
      case measure => simp [intOf]; omega
    · obtain rfl : i = k := by omega
      have r0 := hY.c0
      have r1 := hY.c1
      have rf := hY.frozen
      clear hY hX hO hL HO2 HX2 HY2 hBa hB2
      go_wp2
      have e0 := (hY'.out.store0 (some ⟨w1.heap.size, 0, none⟩) ((n + i + 7) / 8) ((n + i + 7) / 8)).c0
      have e1 := (hY'.out.store (some ⟨w1.heap.size, 0, none⟩) ((n + i + 7) / 8) ((n + i + 7) / 8) ((n : Int) + (i : Int))).c1
      refine bodyPost_ret (v := .tuple #[.agg #[.slice (some ⟨w1.heap.size, 0, none⟩) ((n + i + 7) / 8) ((n + i + 7) / 8), .int .i64 ((n : Int) + (i : Int))], .bool true]) (by simp [results, Try.results12, go_sem, e0, e1]) rfl ?_
      refine ⟨w1.heap.size, ?_, by omega, (hO'.out.set_other _ _ (by simp; omega)).set_other _ _ (by simp; omega), (hBr.setCell (by simp) _).setCell (by simp) _⟩
      simp only [Int.toNat_natCast, HL.out]

set_option maxHeartbeats 1000000 in
theorem appendBits_no (a : Option Addr) (len cap : Nat) (l : List UInt8) (n v k : Int) (w : World) (hb : IsB w a len cap l) (hn : I64 n) (ho : validB l n = false ∨ k < 0 ∨ 64 < k) :
    Calls Try.prog 12 #[.agg #[.slice a len cap, .int .i64 n], .int .u64 v, .int .i64 k] w (RetS (.tuple #[.agg #[.slice none 0 0, .int .i64 0], .bool false]) w) := by
  by_cases h1 : k < 0
  · clear ho
    go_enter Try.func12, Try.ntmps12
    go_wp2
    exact bodyPost_ret (v := .tuple #[.agg #[.slice none 0 0, .int .i64 0], .bool false]) (by simp [results, Try.results12, go_sem]) rfl ⟨rfl, two_below _ _ _⟩
  · by_cases h2 : 64 < k
    · clear ho
      go_enter Try.func12, Try.ntmps12
      go_wp2
      exact bodyPost_ret (v := .tuple #[.agg #[.slice none 0 0, .int .i64 0], .bool false]) (by simp [results, Try.results12, go_sem]) rfl ⟨rfl, two_below _ _ _⟩
    · have HV : Hid (validB l n = false) := hid (by rcases ho with h | h | h; exact h; exact absurd h h1; exact absurd h h2)
      have h3 : 0 ≤ k := by omega
      have h4 : k ≤ 64 := by omega
      clear ho h1 h2
      have hbb := hb.below (two_below w (.cells #[.slice a len cap, .int .i64 n] 24) (.cells #[.slice none 0 0, .int .i64 0] 24))
      go_enter Try.func12, Try.ntmps12
      go_wp2_with fail
      refine (validBits_any a len cap l n _ hbb hn).mono ?_
      rintro e w1 ⟨rfl, hB1⟩
      rw [HV.out]
      have hY := (Box.new (w.alloc (.cells #[.slice a len cap, .int .i64 n] 24)) none 0 0 0).below hB1 (by simp)
      have hB := (two_below w (.cells #[.slice a len cap, .int .i64 n] 24) (.cells #[.slice none 0 0, .int .i64 0] 24)).trans (hB1.mono (B' := w.heap.size) (by simp; omega))
      simp only [World.size_alloc] at hY
      have r0 := hY.c0
      have r1 := hY.c1
      have rf := hY.frozen
      have e0 := (hY.store0 none 0 0).c0
      have e1 := (hY.store none 0 0 0).c1
      clear hbb hB1 hY
      go_wp2
      exact bodyPost_ret (v := .tuple #[.agg #[.slice none 0 0, .int .i64 0], .bool false]) (by simp [results, Try.results12, go_sem, e0, e1]) rfl ⟨rfl, (hB.setCell (by simp) _).setCell (by simp) _⟩
end Go.Proofs.Ytakandlbphjflaa
