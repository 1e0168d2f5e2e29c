import Derived.Test.YtakandlbphjflaaHexBack
import Derived.Test.YtakandlbphjflaaRefHex
import Derived.Test.YtakandlbphjflaaRefUnhex
import Derived.Test.YtakandlbphjflaaConv
import Derived.Test.YtakandlbphjflaaMod
import Derived.Test.YtakandlbphjflaaTapeMore
import Derived.OpenShut
namespace Go.Proofs.Ytakandlbphjflaa
open Go.ChangeShapes Go.RowKit

set_option maxRecDepth 100000 in
set_option maxHeartbeats 4000000 in
theorem hexes_walk (a : Option Addr) (len cap : Nat) (l : List UInt8) (s : ByteArray) (i : Int) (b : Int) (w : World) (hb : IsB w a len cap l) (hcap : cap ≤ 140737488351232) (hs : s.size ≤ 140737488351232) (hi : I64 i) (hby : (Lit.int .u8 b).wf = true) :
    Calls Try.prog 4 #[.slice a len cap, .string s, .int .i64 i, .int .u8 b] w (RetS (.bool true) w) := by
  have hle := hb.le
  have hl := hid hb.length
  have HBY := hid hby
  clear hby
  go_enter Try.func4, Try.ntmps4
  go_wp2_with fail
  refine (refhex_any a len cap l _ hb (by omega)).mono ?_
  rintro e w1 ⟨rfl, hB1⟩
  have hh : (⟨(hexL l).toArray⟩ : ByteArray).size = 2 * len := by show (hexL l).toArray.size = _; rw [List.size_toArray, length_hexL, hl.out]
  have hd : (⟨(hexL l).toArray⟩ : ByteArray).data.toList = hexL l := rfl
  have HH := hid hh
  have HD := hid hd
  have HLL : Hid ((hexL l).length = 2 * len) := hid (by rw [length_hexL, hl.out])
  clear hd
  generalize (⟨(hexL l).toArray⟩ : ByteArray) = h at *
  have hsz : h.size ≤ 281474976710656 := by rw [hh]; omega
  clear hh
  by_cases hz : 0 < (h.size : Int)
  · go_wp2_with (with_reducible refine wpList_str_bytes (o := ⟨some 20, _, _, _, _, _⟩) rfl (.tmp 19) rfl h rfl hsz w.heap.size w hB1 hB1.size ?_; intro cp w2 hF hcp1 hcp2 hB2)
    refine (mod_some i (h.size : Int) _ hz (by omega) hi).mono ?_
    rintro e w' ⟨r, rfl, hr, rfl⟩
    have hjl : r < h.data.toList.length := by rw [HD.out, HLL.out, ← HH.out]; omega
    have d := hF.out.2 r hjl
    have d1 := d.1
    have d2 := d.2
    have hbv := bv_of b (bounds_u8 HBY.out).1 (by have := (bounds_u8 HBY.out).2; omega)
    have hF2 := hF.out.set r _ _ hbv hjl
    have hconv := run_string_fb hF2 h.size cp (by rw [List.length_set, HD.out, HLL.out, HH.out])
    have hq : (⟨(h.data.toList.set r (UInt8.ofNat b.toNat)).toArray⟩ : ByteArray).size = h.size := by show (h.data.toList.set r _).toArray.size = _; rw [List.size_toArray, List.length_set, HD.out, HLL.out, HH.out]
    have hq2 : (⟨(h.data.toList.set r (UInt8.ofNat b.toNat)).toArray⟩ : ByteArray).size ≤ 281474976710656 := by omega
    generalize (⟨(h.data.toList.set r (UInt8.ofNat b.toNat)).toArray⟩ : ByteArray) = q at *
    have B3 := hB2.setCell (p := ⟨w1.heap.size, r, none⟩) hB1.size (.int .u8 b)
    clear hF2 hbv d hq hjl
    go_wp2
    have e : (w2.setCell ⟨w1.heap.size, r, none⟩ (.int .u8 b)).heap.size = w2.heap.size := by simp
    rw [← e]
    clear e d1 d2 hconv hF
    generalize w2.setCell _ _ = wx at *
    have hrow : (wx.alloc (.cells #[.string s, .string h, .string q] 9)).heap[wx.heap.size]? = some (.cells #[.string s, .string h, .string q] 9 (0, 0)) := heap_alloc_new wx _
    have B4 := B3.alloc B3.size (.cells #[.string s, .string h, .string q] 9)
    have hTlt : wx.heap.size < (wx.alloc (.cells #[.string s, .string h, .string q] 9)).heap.size := by simp
    go_loopw [12] (fun t wr => ∃ j : Nat, j ≤ 3 ∧ t = .int .i64 j ∧ wr.heap[wx.heap.size]? = some (.cells #[.string s, .string h, .string q] 9 (0, 0)) ∧ Below w.heap.size w wr) (fun t _ => 3 - (intOf t).toNat)
    case atStart => exact ⟨0, by omega, rfl, hrow, B4⟩
    case round =>
      obtain ⟨j, hj, rfl, hr, hB⟩ := hrel
      have HR := hid hr
      clear hrow B4 hTlt hr
      by_cases hlt : j < 3
      · obtain ⟨t, ht, hcell⟩ : ∃ t : ByteArray, t.size ≤ 281474976710656 ∧ wr.cell? ⟨wx.heap.size, j, none⟩ = some (.string t) := by
          rw [cell_of_row wr _ j _ _ (0, 0) HR.out]
          rcases (by omega : j = 0 ∨ j = 1 ∨ j = 2) with rfl | rfl | rfl
          · exact ⟨s, by omega, rfl⟩
          · exact ⟨h, hsz, rfl⟩
          · exact ⟨q, hq2, rfl⟩
        go_wp2_with fail
        refine (unhex_any t _ ht).mono ?_
        rintro e w5 h5
        have hlt5 : wx.heap.size < wr.heap.size := lt_of_block HR.out
        unfold RetUn at h5
        cases hok : unOk t.data.toList
        · rw [hok] at h5
          obtain ⟨rfl, hB5⟩ := h5
          have B5 := seq hB hB5
          have HR5 : Hid (w5.heap[wx.heap.size]? = _) := hid ((hB5.block _ hlt5).trans HR.out)
          have hcell5 : w5.cell? ⟨wx.heap.size, j, none⟩ = some (.string t) := by rw [← hcell]; exact hB5.cell (p := ⟨wx.heap.size, j, none⟩) hlt5
          have hlt6 := lt_of_block HR5.out
          go_wp2_with fail
          refine (refunhex_any t _ ht).mono ?_
          rintro e w6 h6
          unfold RetUnR at h6
          rw [hok] at h6
          obtain ⟨rfl, hB6⟩ := h6
          have B6 := seq B5 hB6
          have HR6 : Hid (w6.heap[wx.heap.size]? = _) := hid ((hB6.block _ hlt6).trans HR5.out)
          clear hok hcell hcell5
          go_wp2_with fail
          have J0 : IsB w6 none 0 0 [] := ⟨rfl, Nat.le_refl _, by omega, by omega, fun _ => ⟨rfl, rfl⟩, by simp⟩
          refine (same_any none 0 0 [] none 0 0 [] _ J0 J0).mono ?_
          rintro e w7 ⟨rfl, hB7⟩
          rw [show (([] : List UInt8) == []) = true from rfl]
          have B7 := seq B6 hB7
          have HR7 : Hid (w7.heap[wx.heap.size]? = _) := hid ((hB7.block _ (lt_of_block HR6.out)).trans HR6.out)
          go_wp2
          go_roundw
          case rel => exact ⟨j + 1, by omega, by go_num, HR7.out, B7⟩
          case measure => simp [intOf]; omega
        · obtain ⟨n, hn⟩ : ∃ n, t.data.toList.length / 2 = n := ⟨_, rfl⟩
          have hn8 : n ≤ 140737488355328 := by rw [← hn, show t.data.toList.length = t.size from by rw [Array.length_toList]; rfl]; omega
          have HN := hid hn
          rw [hok, if_pos rfl, hn] at h5
          clear hn
          obtain ⟨g5, rfl, hg5, hO5, hB5⟩ := h5
          have B5 := seq hB hB5
          have HR5 : Hid (w5.heap[wx.heap.size]? = _) := hid ((hB5.block _ hlt5).trans HR.out)
          have hcell5 : w5.cell? ⟨wx.heap.size, j, none⟩ = some (.string t) := by rw [← hcell]; exact hB5.cell (p := ⟨wx.heap.size, j, none⟩) hlt5
          have hlt6 := lt_of_block HR5.out
          have HPL : Hid ((pairsL t.data.toList n).length ≤ 281474976710656) := hid (by rw [length_pairsL]; omega)
          have J5 := hO5.isB HPL.out
          rw [length_pairsL] at J5
          clear hO5
          go_wp2_with fail
          refine (refunhex_any t _ ht).mono ?_
          rintro e w6 h6
          unfold RetUnR at h6
          rw [hok, if_pos rfl, HN.out] at h6
          obtain ⟨v6, rfl, hG6, hB6⟩ := h6
          obtain ⟨a6, c6, rfl, J6⟩ := hG6.isB HPL.out
          rw [length_pairsL] at J6 ⊢
          have J56 := J5.below hB6
          have B6 := seq B5 hB6
          have HR6 : Hid (w6.heap[wx.heap.size]? = _) := hid ((hB6.block _ hlt6).trans HR5.out)
          clear hok hcell hcell5 J5 hG6
          generalize pairsL t.data.toList n = pl at *
          go_wp2_with fail
          refine (same_any _ _ _ pl _ _ _ pl _ J56 J6).mono ?_
          rintro e w7 ⟨rfl, hB7⟩
          rw [show (pl == pl) = true from by simp]
          have B7 := seq B6 hB7
          have HR7 : Hid (w7.heap[wx.heap.size]? = _) := hid ((hB7.block _ (lt_of_block HR6.out)).trans HR6.out)
          go_wp2
          go_roundw
          case rel => exact ⟨j + 1, by omega, by go_num, HR7.out, B7⟩
          case measure => simp [intOf]; omega
      · obtain rfl : j = 3 := by omega
        go_wp2_with fail
        refine (known_any _).mono ?_
        rintro e w8 ⟨rfl, hB8⟩
        have B8 := seq hB hB8
        go_wp2_with fail
        refine (hex_any a len cap l _ (hb.below B8) (by omega)).mono ?_
        rintro e w9 ⟨rfl, hB9⟩
        have B9 := seq B8 hB9
        have HE : (⟨(hexL l).toArray⟩ : ByteArray) = h := by rw [← HD.out]
        rw [HE]
        go_wp2
        go_ret
        exact ⟨ret_bool (by simp), B9⟩
  · have hz1 : decide (0 < h.size) = false := decide_eq_false (by omega)
    have hz2 : decide (0 < (h.size : Int)) = false := decide_eq_false hz
    go_wp2_with (with_reducible refine wpList_str_bytes (o := ⟨some 20, _, _, _, _, _⟩) rfl (.tmp 19) rfl h rfl hsz w.heap.size w hB1 hB1.size ?_; intro cp wx hF hcp1 hcp2 B3; have hconv := run_string_fb hF.out h.size cp (by rw [HD.out, HLL.out, HH.out]))
    have hq2 : (ByteArray.mk h.data).size ≤ 281474976710656 := hsz
    generalize ByteArray.mk h.data = q at *
    clear hconv hF
    have hrow : (wx.alloc (.cells #[.string s, .string h, .string q] 9)).heap[wx.heap.size]? = some (.cells #[.string s, .string h, .string q] 9 (0, 0)) := heap_alloc_new wx _
    have B4 := B3.alloc B3.size (.cells #[.string s, .string h, .string q] 9)
    have hTlt : wx.heap.size < (wx.alloc (.cells #[.string s, .string h, .string q] 9)).heap.size := by simp
    go_loopw [12] (fun t wr => ∃ j : Nat, j ≤ 3 ∧ t = .int .i64 j ∧ wr.heap[wx.heap.size]? = some (.cells #[.string s, .string h, .string q] 9 (0, 0)) ∧ Below w.heap.size w wr) (fun t _ => 3 - (intOf t).toNat)
    case atStart => exact ⟨0, by omega, rfl, hrow, B4⟩
    case round =>
      obtain ⟨j, hj, rfl, hr, hB⟩ := hrel
      have HR := hid hr
      clear hrow B4 hTlt hr
      by_cases hlt : j < 3
      · obtain ⟨t, ht, hcell⟩ : ∃ t : ByteArray, t.size ≤ 281474976710656 ∧ wr.cell? ⟨wx.heap.size, j, none⟩ = some (.string t) := by
          rw [cell_of_row wr _ j _ _ (0, 0) HR.out]
          rcases (by omega : j = 0 ∨ j = 1 ∨ j = 2) with rfl | rfl | rfl
          · exact ⟨s, by omega, rfl⟩
          · exact ⟨h, hsz, rfl⟩
          · exact ⟨q, hq2, rfl⟩
        go_wp2_with fail
        refine (unhex_any t _ ht).mono ?_
        rintro e w5 h5
        have hlt5 : wx.heap.size < wr.heap.size := lt_of_block HR.out
        unfold RetUn at h5
        cases hok : unOk t.data.toList
        · rw [hok] at h5
          obtain ⟨rfl, hB5⟩ := h5
          have B5 := seq hB hB5
          have HR5 : Hid (w5.heap[wx.heap.size]? = _) := hid ((hB5.block _ hlt5).trans HR.out)
          have hcell5 : w5.cell? ⟨wx.heap.size, j, none⟩ = some (.string t) := by rw [← hcell]; exact hB5.cell (p := ⟨wx.heap.size, j, none⟩) hlt5
          have hlt6 := lt_of_block HR5.out
          go_wp2_with fail
          refine (refunhex_any t _ ht).mono ?_
          rintro e w6 h6
          unfold RetUnR at h6
          rw [hok] at h6
          obtain ⟨rfl, hB6⟩ := h6
          have B6 := seq B5 hB6
          have HR6 : Hid (w6.heap[wx.heap.size]? = _) := hid ((hB6.block _ hlt6).trans HR5.out)
          clear hok hcell hcell5
          go_wp2_with fail
          have J0 : IsB w6 none 0 0 [] := ⟨rfl, Nat.le_refl _, by omega, by omega, fun _ => ⟨rfl, rfl⟩, by simp⟩
          refine (same_any none 0 0 [] none 0 0 [] _ J0 J0).mono ?_
          rintro e w7 ⟨rfl, hB7⟩
          rw [show (([] : List UInt8) == []) = true from rfl]
          have B7 := seq B6 hB7
          have HR7 : Hid (w7.heap[wx.heap.size]? = _) := hid ((hB7.block _ (lt_of_block HR6.out)).trans HR6.out)
          go_wp2
          go_roundw
          case rel => exact ⟨j + 1, by omega, by go_num, HR7.out, B7⟩
          case measure => simp [intOf]; omega
        · obtain ⟨n, hn⟩ : ∃ n, t.data.toList.length / 2 = n := ⟨_, rfl⟩
          have hn8 : n ≤ 140737488355328 := by rw [← hn, show t.data.toList.length = t.size from by rw [Array.length_toList]; rfl]; omega
          have HN := hid hn
          rw [hok, if_pos rfl, hn] at h5
          clear hn
          obtain ⟨g5, rfl, hg5, hO5, hB5⟩ := h5
          have B5 := seq hB hB5
          have HR5 : Hid (w5.heap[wx.heap.size]? = _) := hid ((hB5.block _ hlt5).trans HR.out)
          have hcell5 : w5.cell? ⟨wx.heap.size, j, none⟩ = some (.string t) := by rw [← hcell]; exact hB5.cell (p := ⟨wx.heap.size, j, none⟩) hlt5
          have hlt6 := lt_of_block HR5.out
          have HPL : Hid ((pairsL t.data.toList n).length ≤ 281474976710656) := hid (by rw [length_pairsL]; omega)
          have J5 := hO5.isB HPL.out
          rw [length_pairsL] at J5
          clear hO5
          go_wp2_with fail
          refine (refunhex_any t _ ht).mono ?_
          rintro e w6 h6
          unfold RetUnR at h6
          rw [hok, if_pos rfl, HN.out] at h6
          obtain ⟨v6, rfl, hG6, hB6⟩ := h6
          obtain ⟨a6, c6, rfl, J6⟩ := hG6.isB HPL.out
          rw [length_pairsL] at J6 ⊢
          have J56 := J5.below hB6
          have B6 := seq B5 hB6
          have HR6 : Hid (w6.heap[wx.heap.size]? = _) := hid ((hB6.block _ hlt6).trans HR5.out)
          clear hok hcell hcell5 J5 hG6
          generalize pairsL t.data.toList n = pl at *
          go_wp2_with fail
          refine (same_any _ _ _ pl _ _ _ pl _ J56 J6).mono ?_
          rintro e w7 ⟨rfl, hB7⟩
          rw [show (pl == pl) = true from by simp]
          have B7 := seq B6 hB7
          have HR7 : Hid (w7.heap[wx.heap.size]? = _) := hid ((hB7.block _ (lt_of_block HR6.out)).trans HR6.out)
          go_wp2
          go_roundw
          case rel => exact ⟨j + 1, by omega, by go_num, HR7.out, B7⟩
          case measure => simp [intOf]; omega
      · obtain rfl : j = 3 := by omega
        go_wp2_with fail
        refine (known_any _).mono ?_
        rintro e w8 ⟨rfl, hB8⟩
        have B8 := seq hB hB8
        go_wp2_with fail
        refine (hex_any a len cap l _ (hb.below B8) (by omega)).mono ?_
        rintro e w9 ⟨rfl, hB9⟩
        have B9 := seq B8 hB9
        have HE : (⟨(hexL l).toArray⟩ : ByteArray) = h := by rw [← HD.out]
        rw [HE]
        go_wp2
        go_ret
        exact ⟨ret_bool (by simp), B9⟩
end Go.Proofs.Ytakandlbphjflaa
