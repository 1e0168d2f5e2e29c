/-
  strconv.AppendUint at base 16: the digits of a number without leading zeros are appended.
-/
import Derived.Test.YthammgljcchloaaDoorShelf
import Derived.Test.YthammgljcchloaaDoorGl
import Derived.Test.YthammgljcchloaaDoorGrow
import Derived.RangeFuncOwn
import Derived.RangeFuncBox
import Derived.OwnWalk
import Derived.Lib.OwnKind
import Derived.BigCall
import Derived.BigGuard
namespace Go.Proofs.YthammgljcchloaaDoor
open Go.RowKit

/-- a hexadecimal digit, in lower case -/
def hexD (n : Nat) : UInt8 := if n < 10 then UInt8.ofNat (48 + n) else UInt8.ofNat (87 + n)
/-- the digits of a number without leading zeros -/
def hexs (v : Nat) : List UInt8 := if v < 16 then [hexD v] else hexs (v / 16) ++ [hexD (v % 16)]
termination_by v
decreasing_by omega

theorem hexs_small (v : Nat) (h : v < 16) : hexs v = [hexD v] := by rw [hexs, if_pos h]
theorem hexs_big (v : Nat) (h : ¬ v < 16) : hexs v = hexs (v / 16) ++ [hexD (v % 16)] := by rw [hexs, if_neg h]
theorem length_hexs (v : Nat) (h : v < 65536) : 1 ≤ (hexs v).length ∧ (hexs v).length ≤ 4 := by
  by_cases h1 : v < 16
  · simp [hexs_small v h1]
  · rw [hexs_big v h1]
    by_cases h2 : v / 16 < 16
    · simp [hexs_small _ h2]
    · rw [hexs_big _ h2]
      by_cases h3 : v / 16 / 16 < 16
      · simp [hexs_small _ h3]
      · rw [hexs_big _ h3, hexs_small _ (by omega)]; simp

set_option maxRecDepth 100000 in
theorem digit_index (d : Nat) (hd : d < 16) (W : World) :
    (Instr.index 9 (.string { data := #[48, 49, 50, 51, 52, 53, 54, 55, 56, 57, 97, 98, 99, 100, 101, 102, 103, 104, 105, 106, 107, 108, 109, 110, 111, 112, 113, 114, 115, 116, 117, 118, 119, 120, 121, 122] }) (.int .u64 (d : Int))).run Tryd.prog W = .ok (.int .u8 ((hexD d).toNat : Int)) W := by
  rcases (by omega : d = 0 ∨ d = 1 ∨ d = 2 ∨ d = 3 ∨ d = 4 ∨ d = 5 ∨ d = 6 ∨ d = 7 ∨ d = 8 ∨ d = 9 ∨ d = 10 ∨ d = 11 ∨ d = 12 ∨ d = 13 ∨ d = 14 ∨ d = 15) with rfl | rfl | rfl | rfl | rfl | rfl | rfl | rfl | rfl | rfl | rfl | rfl | rfl | rfl | rfl | rfl
  all_goals rfl

theorem u64_and15 (v : Nat) (h : v < 18446744073709551616) : bits .and .u64 (v : Int) 15 = ((v % 16 : Nat) : Int) := by
  have h := bits_and_u64_nat v 15 h (by decide)
  rw [show (15 : Nat) = 2 ^ 4 - 1 from rfl, Nat.and_two_pow_sub_one_eq_mod] at h
  exact h

/-- block g is an array of 65 bytes -/
def At65 (w : World) (g : Nat) (l : List UInt8) : Prop := w.heap[g]? = some (.cells (row l) 136 (0, 0))
theorem At65.cell {w : World} {g : Nat} {l : List UInt8} (h : At65 w g l) (j : Nat) (hj : j < l.length) : w.cell? ⟨g, j, none⟩ = some (.int .u8 (l.getD j 0).toNat) := by
  rw [cell_of_row w g j _ _ (0, 0) h]; simp [hj, bv, row, List.getD_eq_getElem?_getD]
theorem At65.set {w : World} {g : Nat} {l : List UInt8} (h : At65 w g l) (j : Nat) (v : Value) (x : UInt8) (hv : v = bv x) : At65 (w.setCell ⟨g, j, none⟩ v) g (l.set j x) := by
  subst hv
  have := heap_setCell_same w g j _ 136 (bv x) h
  unfold At65
  rw [this]
  simp [List.map_set, row]
theorem z65 : Tryd.zeroCells136 = row (zeros 65) := by kernel_rfl
theorem At65.new (w : World) : At65 (w.alloc (.cells Tryd.zeroCells136 136)) w.heap.size (zeros 65) := by rw [z65]; exact heap_alloc_new w _

theorem slice65 (b i : Nat) (hi : i < 65) (z : Int) (hz : z = i) (W : World) : (Instr.sliceAt 136 (.pointer (some ⟨b, 0, none⟩)) (some (.int .i64 z)) none none).run Tryd.prog W = .ok (.slice (some ⟨b, i, none⟩) (65 - i) (65 - i)) W := by
  subst hz
  have hal : Tryd.prog.arrayLen 136 = 65 := by kernel_rfl
  have h := run_sliceAt_array_l (P := Tryd.prog) (w := W) (t := 136) (a := ⟨b, 0, none⟩) (by kernel_rfl) .i64 (i : Int) (by omega) (by rw [hal]; omega)
  rw [hal] at h
  rw [h]
  go_simp
  omega

set_option maxHeartbeats 1600000 in
set_option maxRecDepth 100000 in
theorem trailing16 (w : World) (G : GL w) : Calls Tryd.prog 109 #[.int .u64 16] w (Ret (.int .i64 4) w) := by
  have h4 := G.four
  have hq : IntKind.u64.wrap (bits .and .u64 16 (IntKind.u64.wrap (-16)) * 285870213051353865) / 288230376151711744 = 15 := by decide +kernel
  go_enter Tryd.func109, Tryd.ntmps109
  go_wp2
  go_ret
  exact ⟨rfl, rfl⟩

theorem fill65 (tail : List UInt8) (k : Nat) (x : UInt8) (h : tail.length = k) (hk : k < 65) : (zeros (65 - k) ++ tail).set (64 - k) x = zeros (65 - (k + 1)) ++ x :: tail := by
  have e : 65 - k = (64 - k) + 1 := by omega
  have e2 : 65 - (k + 1) = 64 - k := by omega
  rw [e2, e]
  unfold zeros
  rw [List.replicate_succ', List.append_assoc, List.set_append_right _ _ (by simp)]
  simp

/-- what is left of the number when k digits are written is below this -/
def room (k : Nat) : Nat := 16 ^ (4 - k)
theorem room_step (k v : Nat) (hk : k ≤ 3) (h : v < room k) (hv : 16 ≤ v) : k + 1 ≤ 3 ∧ v / 16 < room (k + 1) := by
  rcases (by omega : k = 0 ∨ k = 1 ∨ k = 2 ∨ k = 3) with rfl | rfl | rfl | rfl <;> simp [room] at h ⊢ <;> omega

set_option maxHeartbeats 6400000 in
set_option maxRecDepth 100000 in
theorem format_bits (B u : Nat) (hu : u < 65536) (sv : Value) (l : List UInt8) (w : World) (hown : Gr w B sv l) (hBw : B ≤ w.heap.size) (hlim : l.length ≤ 1000000) (G : GL w) :
    Calls Tryd.prog 96 #[sv, .int .u64 u, .int .i64 16, .bool false, .bool true] w fun e w' => ∃ v', e = .returned (.tuple #[v', .string ByteArray.empty]) ∧ Gr w' B v' (l ++ hexs u) ∧ w.grownBy w' sv.ownBlock := by
  obtain ⟨i0, hi, hz0, hz1, hz2⟩ := info_parts info5
  have hpow : ∀ W, Calls Tryd.prog 108 #[.int .i64 16] W (Ret (.bool true) W) := by
    intro W
    have hb : bits .and .i64 16 15 = 0 := by decide +kernel
    go_enter Tryd.func108, Tryd.ntmps108
    go_wp2
    go_ret
    exact ⟨rfl, rfl⟩
  go_enter Tryd.func96, Tryd.ntmps96
  go_wp2_with fail
  have A1 := At65.new w
  have B1 : Below w.heap.size w (w.alloc (.cells Tryd.zeroCells136 136)) := (Below.refl _ _).alloc (Nat.le_refl _) _
  have K1 : KeepsOthers w (w.alloc (.cells Tryd.zeroCells136 136)) := KeepsOthers.alloc _ _
  generalize w.alloc (.cells Tryd.zeroCells136 136) = w1 at A1 B1 K1 ⊢
  with_reducible refine (hpow w1).mono ?_
  rintro e w1 ⟨rfl, rfl⟩
  go_wp2_with fail
  with_reducible refine (trailing16 w1 (G.on B1)).mono ?_
  rintro e w1 ⟨rfl, rfl⟩
  have hu0 : (0 : Int) ≤ u := by omega
  go_wp2_with fail
  go_loopw [1, 13] (fun uv iv wr => ∃ (k v : Nat) (tail : List UInt8), uv = .int .u64 v ∧ iv = .int .i64 (65 - (k : Int)) ∧ k ≤ 3 ∧ v < room k ∧ Hid (tail.length = k) ∧ Hid (At65 wr w.heap.size (zeros (65 - k) ++ tail)) ∧ Hid (hexs u = hexs v ++ tail) ∧ Below w.heap.size w wr ∧ KeepsOthers w wr) (fun uv _ _ => (intOf uv).toNat)
  case atStart => exact ⟨0, u, [], rfl, rfl, by omega, hu, hid rfl, hid (by simpa using A1), hid (by simp), B1, K1⟩
  case round =>
    obtain ⟨k, v, tail, rfl, rfl, hk, hv, hL, hA, hH, hB, hKO⟩ := hrel
    have hv4 : v < 65536 := by
      rcases (by omega : k = 0 ∨ k = 1 ∨ k = 2 ∨ k = 3) with rfl | rfl | rfl | rfl <;> simp [room] at hv <;> omega
    have hlen : (zeros (65 - k) ++ tail).length = 65 := by rw [List.length_append, length_zeros, hL.out]; omega
    have hcell := hA.out.cell (64 - k) (by omega)
    have hfr : wr.frozen? ⟨w.heap.size, 64 - k, none⟩ = false := frozen_of_row wr w.heap.size (64 - k) _ _ hA.out
    have hz : ((65 : Int) - (k : Int) - 1).toNat = 64 - k := by omega
    by_cases hlt : 16 ≤ v
    · obtain ⟨hk1, hroom⟩ := room_step k v hk hv hlt
      have hi1 : ∀ W, (Instr.index 9 (.string { data := #[48, 49, 50, 51, 52, 53, 54, 55, 56, 57, 97, 98, 99, 100, 101, 102, 103, 104, 105, 106, 107, 108, 109, 110, 111, 112, 113, 114, 115, 116, 117, 118, 119, 120, 121, 122] }) (.int .u64 (bits .and .u64 (v : Int) 15))).run Tryd.prog W = .ok (.int .u8 ((hexD (v % 16)).toNat : Int)) W := fun W => by
        rw [u64_and15 v (by omega)]; exact digit_index _ (Nat.mod_lt _ (by decide)) W
      go_wp2
      have hB2 := hB.setCell (p := ⟨w.heap.size, 64 - k, none⟩) (Nat.le_refl _) (.int .u8 ((hexD (v % 16)).toNat : Int))
      refine ⟨⟨k + 1, v / 16, hexD (v % 16) :: tail, by simp, by congr 1; omega, hk1, hroom, hid (by simp [hL.out]), hid ?_, hid ?_, hB2, hKO.trans (KeepsOthers.setCell _ _ _)⟩, by simp [intOf]; omega⟩
      · have := hA.out.set (64 - k) _ (hexD (v % 16)) rfl
        rw [fill65 tail k _ hL.out (by omega)] at this
        exact this
      · rw [hH.out, hexs_big v (by omega)]; simp
    · have hi1 : ∀ W, (Instr.index 9 (.string { data := #[48, 49, 50, 51, 52, 53, 54, 55, 56, 57, 97, 98, 99, 100, 101, 102, 103, 104, 105, 106, 107, 108, 109, 110, 111, 112, 113, 114, 115, 116, 117, 118, 119, 120, 121, 122] }) (.int .u64 (v : Int))).run Tryd.prog W = .ok (.int .u8 ((hexD v).toNat : Int)) W := fun W => digit_index _ (by omega) W
      have hsl := fun W => slice65 w.heap.size (64 - k) (by omega) ((65 : Int) - (k : Int) - 1) (by omega) W
      have e65 : (65 - (64 - k) : Nat) = k + 1 := by omega
      rw [e65] at hsl
      have hA2 : At65 (wr.setCell ⟨w.heap.size, 64 - k, none⟩ (.int .u8 ((hexD v).toNat : Int))) w.heap.size (zeros (65 - (k + 1)) ++ hexD v :: tail) := by
        have := hA.out.set (64 - k) _ (hexD v) rfl
        rw [fill65 tail k _ hL.out (by omega)] at this
        exact this
      have hu2 : hexs u = hexD v :: tail := by rw [hH.out, hexs_small v (by omega)]; rfl
      have hB2 := hB.setCell (p := ⟨w.heap.size, 64 - k, none⟩) (Nat.le_refl _) (.int .u8 ((hexD v).toNat : Int))
      have hK2 := hKO.trans (KeepsOthers.setCell wr ⟨w.heap.size, 64 - k, none⟩ (.int .u8 ((hexD v).toNat : Int)))
      have hown2 : (wr.setCell ⟨w.heap.size, 64 - k, none⟩ (.int .u8 ((hexD v).toNat : Int))).ownsRow B 5 1 sv l.length (l.map bv) := hown.below hB2
      have hnl : ((hexs u).map bv).length = (k + 1) * 1 := by rw [hu2]; simp [hL.out]
      have hnc : ∀ j x, ((hexs u).map bv)[j]? = some x → (wr.setCell ⟨w.heap.size, 64 - k, none⟩ (.int .u8 ((hexD v).toNat : Int))).cell? ((⟨w.heap.size, 64 - k, none⟩ : Addr).add j) = some x := by
        intro j x hx
        have hj : j < k + 1 := by
          by_cases hq : j < k + 1
          · exact hq
          · rw [List.getElem?_eq_none (by rw [hnl]; omega)] at hx; cases hx
        have hlen2 : (zeros (65 - (k + 1)) ++ hexD v :: tail).length = 65 := by simp [zeros, hL.out]; omega
        have ea : (⟨w.heap.size, 64 - k, none⟩ : Addr).add j = ⟨w.heap.size, 64 - k + j, none⟩ := by
          by_cases h0 : j = 0
          · subst h0; rfl
          · simp [Addr.add, h0]
        rw [ea, hA2.cell (64 - k + j) (by omega)]
        rw [hu2] at hx
        rw [← hx]
        simp only [List.getD_eq_getElem?_getD]
        rw [List.getElem?_append_right (by rw [length_zeros]; omega), length_zeros, show 64 - k + j - (65 - (k + 1)) = j by omega]
        rw [List.getElem?_map, List.getElem?_eq_getElem (show j < (hexD v :: tail).length by simp [hL.out]; omega)]
        rfl
      clear hA hlen hA2 hB hKO
      generalize hW : wr.setCell ⟨w.heap.size, 64 - k, none⟩ (.int .u8 ((hexD v).toNat : Int)) = W2 at hB2 hK2 hown2 hnc
      go_wp2_with (at_builtin; refine wpList_append_own _ rfl _ _ 26 rfl B 5 i0 (.int .u8 0) 1 1 Tryd.underlying26 hi hz0 hz1 hz2 rfl (by decide) _ _ _ rfl hown2 ⟨w.heap.size, 64 - k, none⟩ (k + 1) (k + 1) ((hexs u).map bv) rfl hnl hnc (bv_one _) (by unfold maxLen; omega) (by omega) (by have := hB2.size; omega) ?_)
      intro v2 w3 hown3 hgrow _
      go_wp2
      go_ret2
      have hBl := (hB2.mono hBw).grown hgrow (by have := hB2.size; omega) (fun j hj => (hown2.lt j hj).1)
      refine ⟨v2, rfl, ?_, ⟨hgrow.os.trans hB2.os, hgrow.tape.trans hB2.tape, hgrow.output.trans hB2.output, Nat.le_trans hB2.size hgrow.size, fun j hj hne => (hgrow.block j (Nat.lt_of_lt_of_le hj hB2.size) hne).trans (hB2.block j hj)⟩⟩
      · unfold Gr
        rw [List.length_append, List.map_append]
        have : (hexs u).length = k + 1 := by rw [hu2]; simp [hL.out]
        rw [this, hu2]; exact hown3

set_option maxHeartbeats 1600000 in
set_option maxRecDepth 100000 in
theorem append_uint (B u : Nat) (hu : u < 65536) (sv : Value) (l : List UInt8) (w : World) (hown : Gr w B sv l) (hBw : B ≤ w.heap.size) (hlim : l.length ≤ 1000000) (G : GL w) :
    Calls Tryd.prog 66 #[sv, .int .u64 u, .int .i64 16] w fun e w' => ∃ v', e = .returned v' ∧ Gr w' B v' (l ++ hexs u) ∧ w.grownBy w' sv.ownBlock := by
  have hin : Calls Tryd.prog 77 #[sv, .int .u64 u, .int .i64 16] w fun e w' => ∃ v', e = .returned v' ∧ Gr w' B v' (l ++ hexs u) ∧ w.grownBy w' sv.ownBlock := by
    go_enter Tryd.func77, Tryd.ntmps77
    go_wp2_with fail
    with_reducible refine (format_bits B u hu sv l w hown hBw hlim G).mono ?_
    rintro e w' ⟨v', rfl, h1, h2⟩
    go_wp2
    go_ret
    exact ⟨_, rfl, h1, h2⟩
  go_enter Tryd.func66, Tryd.ntmps66
  go_wp2_with fail
  with_reducible refine hin.mono ?_
  rintro e w' ⟨v', rfl, h1, h2⟩
  go_wp2
  go_ret
  exact ⟨_, rfl, h1, h2⟩
end Go.Proofs.YthammgljcchloaaDoor
