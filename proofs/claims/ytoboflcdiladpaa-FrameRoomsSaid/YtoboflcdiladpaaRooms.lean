/-
  The payload can grow by Room bytes, and by no more.
-/
import Derived.Test.YtoboflcdiladpaaKnown05
import Derived.Test.YtoboflcdiladpaaAf
import Derived.Test.YtoboflcdiladpaaViewInts
import Derived.Test.YtoboflcdiladpaaAppZ
import Derived.Test.YtoboflcdiladpaaMod
namespace Go.Proofs.Ytoboflcdiladpaa
open Go.RowKit
set_option linter.unusedSimpArgs false
set_option linter.unusedVariables false

theorem sizeF_add (h : Hd) (n d k : Nat) : sizeF h (n + d) k = sizeF h n k + d := by unfold sizeF; omega
theorem valid_grow (h : Hd) (n d k : Nat) (hv : validF h n k = true) (h2 : ¬h.k = 2) : validF h (n + d) k = decide (sizeF h n k + d ≤ 127) := by
  unfold validF at hv ⊢
  rw [if_neg h2] at hv ⊢
  split at hv
  · rename_i h13
    obtain ⟨ha, hs, hz⟩ := of_decide_eq_true hv
    rw [if_pos h13, Bool.eq_iff_iff, decide_eq_true_eq, decide_eq_true_eq, sizeF_add]
    exact ⟨fun h => h.2.2, fun h => ⟨ha, hs, h⟩⟩
  · cases hv

set_option maxHeartbeats 8000000 in
set_option maxRecDepth 100000 in
theorem rooms_walk (a : Option Addr) (len cap : Nat) (n : Int) (w : World) (hI : IsI w a len cap) (hn : I64 n) :
    Calls Try.prog 8 #[.slice a len cap, .int .i64 n] w (RetS (.bool true) w) := by
  go_enter Try.func8, Try.ntmps8
  go_wp2_with fail
  with_reducible refine (new_any a len cap w hI).mono ?_
  rintro e1 w1 ⟨g, rfl, hg, hT1, hB1⟩
  go_wp2_with fail
  with_reducible refine (anyframe_any g w1 hT1).mono ?_
  rintro e2 w2 ⟨h, p, m, P, M, rfl, hok, hv, hGp, hGm, hT2, hO2⟩
  obtain ⟨pa, pc, rfl⟩ := hGp.form
  obtain ⟨ma, mc, rfl⟩ := hGm.form
  obtain ⟨hP127, hM4⟩ := valid_small h _ _ hv
  have hB := hB1.trans (hO2.below hg hB1.size)
  have hgw : w.heap.size ≤ w1.heap.size := hB1.size
  clear hT1 hB1 hT2 hO2 hI
  have hKn : Fk (w2.alloc (.cells #[.int .i64 0, .bool false, .bool false, .bool false, .int .u8 0, .int .u16 0, .int .i64 0, .int .u16 0, .int .u64 0, .int .i64 0, .int .u16 0, .int .u64 0, .int .u32 0, .int .u8 0, .slice none 0 0, .slice none 0 0] 31)) w2.heap.size zH (.slice none 0 0) (.slice none 0 0) := Fk.new w2 zH (.slice none 0 0) (.slice none 0 0)
  have hxn := (Below.refl w2.heap.size w2).alloc (Nat.le_refl _) (.cells #[.int .i64 0, .bool false, .bool false, .bool false, .int .u8 0, .int .u16 0, .int .i64 0, .int .u16 0, .int .u64 0, .int .i64 0, .int .u16 0, .int .u64 0, .int .u32 0, .int .u8 0, .slice none 0 0, .slice none 0 0] 31)
  go_upto_region 2 with ((with_reducible refine wpList_store_frame (op := ⟨none, _, _, _, _, _⟩) ?_ (.tmp 5) (.tmp 12) ?_ ?_ (h := h) (p := .slice pa P.length pc) (m := .slice ma M.length mc) ?_ hKn ?_ ?_ ?_); (· exact rfl); (· exact rfl); (· exact rfl); (· exact rfl); (· exact rfl); (· exact rfl); intro w3 hR3 hO3)
  have hbn := hxn.trans (hO3.below (Nat.le_refl _) (by simp))
  have hGp := hGp.below hbn
  have hGm := hGm.below hbn
  have hB := hB.trans (hbn.mono hB.size)
  have hF5 := hR3.out
  clear hKn hxn hbn hR3 hO3
  generalize w2.heap.size = b5 at *
  have jR := fun w => room_any h pa P.length pc ma M.length mc w (by omega) (by omega)
  go_wp2_with ((with_reducible refine wpList_load_frame (op := ⟨some 13, _, _, _, _, _⟩) ?_ (.tmp 5) ?_ ?_ hF5 ?_); (· exact rfl); (· exact rfl); (· exact rfl))
  with_reducible refine (jR _).mono ?_
  rintro e4 w4 ⟨rfl, hb4⟩
  have hF5 := hF5.below hb4 hF5.lt
  have hGp := hGp.below hb4
  have hGm := hGm.below hb4
  have hB := hB.trans (hb4.mono hB.size)
  clear hb4 jR
  by_cases h2 : h.k = 2
  · have hR0 : roomF h P.length M.length = 0 := by unfold roomF; rw [if_pos (Or.inl h2)]
    rw [hR0]
    have c0 := hF5.cells.1
    rw [h2] at c0
    go_wp2_with fail
    with_reducible refine (known_any _).mono ?_
    rintro e5 w5 ⟨rfl, hb5⟩
    have hF5 := hF5.below hb5 hF5.lt
    have hB := hB.trans (hb5.mono hB.size)
    clear hb5
    go_wp2_with fail
    go_ret
    exact ⟨rfl, hB⟩
  · have hq : (h.k == 2) = false := by simp [h2]
    have hsv := size_of_valid h _ _ hv h2
    have hRd : roomF h P.length M.length = 127 - sizeF h P.length M.length := by unfold roomF; rw [if_neg (by rw [hv]; simp [h2])]
    have hVg : ∀ d, validF h (P.length + d) M.length = decide (sizeF h P.length M.length + d ≤ 127) := fun d => valid_grow h _ d _ hv h2
    have hRg : ∀ d, sizeF h P.length M.length + d ≤ 127 → roomF h (P.length + d) M.length = 127 - (sizeF h P.length M.length + d) := fun d hd => by
      unfold roomF; rw [if_neg (by rw [hVg, decide_eq_true hd]; simp [h2]), sizeF_add]
    have jV := fun (b : Option Addr) (c d : Nat) (hd : d ≤ 1000) w => vframe_any h b (P.length + d) c ma M.length mc w (by omega) (by omega)
    have jR := fun (b : Option Addr) (c d : Nat) (hd : d ≤ 1000) w => room_any h b (P.length + d) c ma M.length mc w (by omega) (by omega)
    generalize roomF h P.length M.length = R at *
    generalize sizeF h P.length M.length = Z at *
    have hR127 : R ≤ 127 := by omega
    have HRD := hid hRd
    have HVG := hid hVg
    have HRG := hid hRg
    clear hRd hVg hRg
    have hm0 := Int.emod_nonneg n (show ((R : Int) + 1) ≠ 0 by omega)
    have hm1 := Int.emod_lt_of_pos n (show (0 : Int) < (R : Int) + 1 by omega)
    have jM := fun w => mod_any n ((R : Int) + 1) w (by omega) (by omega) hn
    generalize n % ((R : Int) + 1) = x at *
    obtain ⟨x, rfl⟩ := Int.eq_ofNat_of_zero_le hm0
    have hxR : x ≤ R := by omega
    have c0 := hF5.cells.1
    have c14 := hF5.cells.2.2.2.2.2.2.2.2.2.2.2.2.2.2.1
    go_wp2_with fail
    with_reducible refine (jM _).mono ?_
    rintro e5 w5 ⟨rfl, rfl⟩
    clear jM hm0 hm1
    have hBs := hB.size
    have h58 := hF5.lt
    have hKn : Fk (w4.alloc (.cells #[.int .i64 0, .bool false, .bool false, .bool false, .int .u8 0, .int .u16 0, .int .i64 0, .int .u16 0, .int .u64 0, .int .i64 0, .int .u16 0, .int .u64 0, .int .u32 0, .int .u8 0, .slice none 0 0, .slice none 0 0] 31)) w4.heap.size zH (.slice none 0 0) (.slice none 0 0) := Fk.new w4 zH (.slice none 0 0) (.slice none 0 0)
    have hxn := (Below.refl w4.heap.size w4).alloc (Nat.le_refl _) (.cells #[.int .i64 0, .bool false, .bool false, .bool false, .int .u8 0, .int .u16 0, .int .i64 0, .int .u16 0, .int .u64 0, .int .i64 0, .int .u16 0, .int .u64 0, .int .u32 0, .int .u8 0, .slice none 0 0, .slice none 0 0] 31)
    go_upto_region 8 with (first | ((with_reducible refine wpList_load_frame (op := ⟨some 30, _, _, _, _, _⟩) ?_ (.tmp 5) ?_ ?_ hF5 ?_); (· exact rfl); (· exact rfl); (· exact rfl)) | ((with_reducible refine wpList_store_frameK (op := ⟨none, _, _, _, _, _⟩) ?_ (.tmp 8) (.tmp 30) ?_ ?_ (h := h) (p := .slice pa P.length pc) (m := .slice ma M.length mc) ?_ hKn ?_ ?_ ?_); (· exact rfl); (· exact rfl); (· exact rfl); (· exact rfl); (· exact rfl); (· exact rfl); intro w6 hR6 hO6))
    have hbn := hxn.trans (hO6.below (Nat.le_refl _) (by simp))
    have hF5 := hF5.below hbn hF5.lt
    have hGp := hGp.below hbn
    have hGm := hGm.below hbn
    have hB := hB.trans (hbn.mono hB.size)
    have hK8 := hR6.out
    have hw8 : w.heap.size ≤ w4.heap.size := hBs
    have hBs := hB.size
    clear hKn hxn hbn hR6 hO6
    generalize w4.heap.size = b8 at *
    have c14 := hF5.cells.2.2.2.2.2.2.2.2.2.2.2.2.2.2.1
    obtain ⟨p1, p2, hp1, hI1⟩ := hGp.isB (by omega)
    cases hp1
    have G0 := gr_new w6 w6.heap.size (Nat.le_refl _)
    have B0 := (Below.refl w6.heap.size w6).alloc (Nat.le_refl _) (.cells #[] 5)
    have hI1 := hI1.below B0
    have c14 := (hF5.below B0 hF5.lt).cells.2.2.2.2.2.2.2.2.2.2.2.2.2.2.1
    go_upto_region 9 with (first | (with_reducible refine wpList_append_bytes (o := ⟨some 34, _, _, _, _, _⟩) rfl (.tmp 31) (.tmp 33) rfl (.slice (some ⟨w6.heap.size, 0, none⟩) 0 0) rfl pa P.length pc rfl w6.heap.size [] P G0 hI1 (by simp; omega) w6 B0 B0.size ?_; intro v7 w7 hG7 hB7 _) | (obtain ⟨za, zc, w8, hr8, hb8⟩ := run_append_zeros hG7.out x 29 hB7.size (by simp; omega); refine Lib.wpList_append_run w7 rfl (.tmp 34) (.tmp 35) 29 3 rfl _ _ rfl rfl _ _ hr8 ?_; have hb68 := hB7.trans hb8; have hK8 := hK8.below hb68 hK8.lt; have c14z := hK8.fr.cells.2.2.2.2.2.2.2.2.2.2.2.2.2.2.1; have f14z := hK8.frozen 14))
    have hO9 := Only.set b8 14 w8 (.slice za (P.length + x) zc)
    have hK8n := hK8.set (h' := h) (p' := .slice za (P.length + x) zc) (m' := .slice ma M.length mc) 14 (.slice za (P.length + x) zc) rfl
    have hF5n := (hF5.below hb68 hF5.lt).only hO9 (Nat.lt_of_lt_of_le hF5.lt hb68.size) (by omega)
    have hBn := (hB.trans (hb68.mono hB.size)).trans (hO9.below hw8 (Nat.le_trans hB.size hb68.size))
    clear hK8 hF5 hB hO9 hb68 hr8 hb8 hG7 hB7 c14z f14z c14 hI1 G0 B0 hGp hGm hBs
    have hK8 := hK8n
    have hF5 := hF5n
    have hB := hBn
    have hBs := hB.size
    clear hK8n hF5n hBn
    generalize w8.setCell _ _ = w9 at *
    have h89 := hK8.lt
    have hKn : Fk (w9.alloc (.cells #[.int .i64 0, .bool false, .bool false, .bool false, .int .u8 0, .int .u16 0, .int .i64 0, .int .u16 0, .int .u64 0, .int .i64 0, .int .u16 0, .int .u64 0, .int .u32 0, .int .u8 0, .slice none 0 0, .slice none 0 0] 31)) w9.heap.size zH (.slice none 0 0) (.slice none 0 0) := Fk.new w9 zH (.slice none 0 0) (.slice none 0 0)
    have hxn := (Below.refl w9.heap.size w9).alloc (Nat.le_refl _) (.cells #[.int .i64 0, .bool false, .bool false, .bool false, .int .u8 0, .int .u16 0, .int .i64 0, .int .u16 0, .int .u64 0, .int .i64 0, .int .u16 0, .int .u64 0, .int .u32 0, .int .u8 0, .slice none 0 0, .slice none 0 0] 31)
    go_upto_region 10 with (first | ((with_reducible refine wpList_load_frame (op := ⟨some 38, _, _, _, _, _⟩) ?_ (.tmp 5) ?_ ?_ hF5 ?_); (· exact rfl); (· exact rfl); (· exact rfl)) | ((with_reducible refine wpList_store_frameK (op := ⟨none, _, _, _, _, _⟩) ?_ (.tmp 9) (.tmp 38) ?_ ?_ (h := h) (p := .slice pa P.length pc) (m := .slice ma M.length mc) ?_ hKn ?_ ?_ ?_); (· exact rfl); (· exact rfl); (· exact rfl); (· exact rfl); (· exact rfl); (· exact rfl); intro w10 hR10 hO10))
    have hbn := hxn.trans (hO10.below (Nat.le_refl _) (by simp))
    have hF5 := hF5.below hbn hF5.lt
    have hK8 := hK8.below hbn hK8.lt
    have hB := hB.trans (hbn.mono hB.size)
    have hK9 := hR10.out
    have hw9 : w.heap.size ≤ w9.heap.size := hBs
    have hBs := hB.size
    clear hKn hxn hbn hR10 hO10
    generalize w9.heap.size = b9 at *
    have hmk := fun u => run_make_bytes ((P.length : Int) + (R : Int) + 1) (P.length + R + 1) (by omega) (by omega) u
    have hxm := (Below.refl w10.heap.size w10).alloc (Nat.le_refl _) (.cells (row (zeros (P.length + R + 1))) 5)
    have hK9a := hK9.below hxm hK9.lt
    have c14z := hK9a.fr.cells.2.2.2.2.2.2.2.2.2.2.2.2.2.2.1
    have f14z := hK9a.frozen 14
    go_upto_region 11 with (fail)
    have hOm := Only.set b9 14 (w10.alloc (.cells (row (zeros (P.length + R + 1))) 5)) (.slice (some ⟨w10.heap.size, 0, none⟩) (P.length + R + 1) (P.length + R + 1))
    have hK9n := hK9a.set (h' := h) (p' := .slice (some ⟨w10.heap.size, 0, none⟩) (P.length + R + 1) (P.length + R + 1)) (m' := .slice ma M.length mc) 14 (.slice (some ⟨w10.heap.size, 0, none⟩) (P.length + R + 1) (P.length + R + 1)) rfl
    have hK8n := (hK8.below hxm hK8.lt).only hOm (Nat.lt_of_lt_of_le hK8.lt hxm.size) (by omega)
    have hBn := (hB.trans (hxm.mono hB.size)).trans (hOm.below hw9 (Nat.le_trans hB.size hxm.size))
    clear hK8 hK9 hK9a hB hOm hxm hmk c14z f14z hF5
    have hK8 := hK8n
    have hK9 := hK9n
    have hB := hBn
    clear hK8n hK9n hBn
    generalize World.setCell _ _ _ = w11 at *
    generalize w10.heap.size = bm at *
    have hzx : Z + x ≤ 127 := by have := HRD.out; omega
    have jVx := fun w => jV za zc x (by omega) w
    rw [HVG.out x, decide_eq_true hzx] at jVx
    have jRx := fun w => jR za zc x (by omega) w
    rw [HRG.out x hzx, show 127 - (Z + x) = R - x from by have := HRD.out; omega] at jRx
    have jVm : ∀ w, Calls Try.prog 24 #[fv h (.slice (some ⟨bm, 0, none⟩) (P.length + R + 1) (P.length + R + 1)) (.slice ma M.length mc)] w (RetS (.bool false) w) := fun w => by
      have j := jV (some ⟨bm, 0, none⟩) (P.length + R + 1) (R + 1) (by omega) w
      rw [HVG.out (R + 1), decide_eq_false (by have := HRD.out; omega)] at j
      exact j
    have hcmp : (((R - x : Nat) : Int) == (R : Int) - (x : Int)) = true := by simp; omega
    clear jV jR
    go_wp2_with fail
    with_reducible refine (known_any _).mono ?_
    rintro e12 w12 ⟨rfl, hb12⟩
    have hK8 := hK8.below hb12 hK8.lt
    have hK9 := hK9.below hb12 hK9.lt
    have hB := hB.trans (hb12.mono hB.size)
    clear hb12
    have hF8 := hK8.fr
    have hF9 := hK9.fr
    clear hK8 hK9
    go_wp2_with ((with_reducible refine wpList_load_frame_on (op := ⟨some 47, _, _, _, _, _⟩) ?_ (.tmp 8) ?_ ?_ hF8 ?_); (· exact rfl); (· exact rfl); (· exact rfl))
    with_reducible refine (jVx _).mono ?_
    rintro e13 w13 ⟨rfl, hb13⟩
    have hF8 := hF8.below hb13 hF8.lt
    have hF9 := hF9.below hb13 hF9.lt
    have hB := hB.trans (hb13.mono hB.size)
    clear hb13
    go_wp2_with ((with_reducible refine wpList_load_frame_on (op := ⟨some 51, _, _, _, _, _⟩) ?_ (.tmp 8) ?_ ?_ hF8 ?_); (· exact rfl); (· exact rfl); (· exact rfl))
    with_reducible refine (jRx _).mono ?_
    rintro e14 w14 ⟨rfl, hb14⟩
    have hF8 := hF8.below hb14 hF8.lt
    have hF9 := hF9.below hb14 hF9.lt
    have hB := hB.trans (hb14.mono hB.size)
    clear hb14
    go_wp2_with ((with_reducible refine wpList_load_frame_on (op := ⟨some 59, _, _, _, _, _⟩) ?_ (.tmp 9) ?_ ?_ hF9 ?_); (· exact rfl); (· exact rfl); (· exact rfl))
    with_reducible refine (jVm _).mono ?_
    rintro e15 w15 ⟨rfl, hb15⟩
    have hB := hB.trans (hb15.mono hB.size)
    go_wp2_with fail
    go_ret
    exact ⟨rfl, hB⟩
end Go.Proofs.Ytoboflcdiladpaa
