/-
  Valid, Size and Room of a frame.
-/
import Derived.Test.YtmbiophckeiehaaFp1
namespace Go.Proofs.Ytmbiophckeiehaa
open Go.RowKit
set_option linter.unusedSimpArgs false
set_option linter.unusedVariables false

set_option maxHeartbeats 2000000 in
set_option maxRecDepth 100000 in
theorem vadr_any (h : Hd) (a : Option Addr) (n c : Nat) (b : Option Addr) (k d : Nat) (w : World) :
    Calls Try.prog 45 #[fv h (.slice a n c) (.slice b k d)] w (RetS (.bool (adrF h)) w) := by
  obtain ⟨hk, ar, pe, se, sq, pn, dm, ds, dx, sm, ss, sx, ct, ky⟩ := h
  have i1 := isAddr_any dm ds dx
  have i2 := isAddr_any sm ss sx
  have i3 := bcast_any dm ds dx
  have i4 := bcast_any sm ss sx
  have HS : Hid (adrF ⟨hk, ar, pe, se, sq, pn, dm, ds, dx, sm, ss, sx, ct, ky⟩ = decide (¬(ar = true ∧ bcA dm ds dx = true) ∧ decide (dm ≠ 0 ∧ validA dm ds dx = true) = true ∧ decide (sm ≠ 0 ∧ validA sm ss sx = true) = true ∧ bcA sm ss sx = false)) := hid (by unfold adrF; simp only [decide_eq_true_eq])
  generalize adrF ⟨hk, ar, pe, se, sq, pn, dm, ds, dx, sm, ss, sx, ct, ky⟩ = z at HS ⊢
  generalize decide (dm ≠ 0 ∧ validA dm ds dx = true) = y1 at *
  generalize decide (sm ≠ 0 ∧ validA sm ss sx = true) = y2 at *
  generalize bcA dm ds dx = x1 at *
  generalize bcA sm ss sx = x2 at *
  simp only [av] at i1 i2 i3 i4
  simp only [fv, fvl]
  have rest : ∀ (w1 : World), Hid (¬(ar = true ∧ x1 = true)) → Fr w1 w.heap.size ⟨hk, ar, pe, se, sq, pn, dm, ds, dx, sm, ss, sx, ct, ky⟩ (.slice a n c) (.slice b k d) → Below w.heap.size w w1 → True := fun _ _ _ _ => trivial
  clear rest
  cases ar
  all_goals cases x1
  all_goals go_enter Try.func45, Try.ntmps45
  all_goals go_wp2_with fail
  · have hF : Fr (w.alloc (.cells #[.int .i64 hk, .bool false, .bool pe, .bool se, .int .u8 sq, .int .u16 pn, .int .i64 dm, .int .u16 ds, .int .u64 dx, .int .i64 sm, .int .u16 ss, .int .u64 sx, .int .u32 ct, .int .u8 ky, .slice a n c, .slice b k d] 31)) w.heap.size ⟨hk, false, pe, se, sq, pn, dm, ds, dx, sm, ss, sx, ct, ky⟩ (.slice a n c) (.slice b k d) := Fr.of_heap (heap_alloc_new w _)
    have hB := (Below.refl w.heap.size w).alloc (Nat.le_refl _) (.cells #[.int .i64 hk, .bool false, .bool pe, .bool se, .int .u8 sq, .int .u16 pn, .int .i64 dm, .int .u16 ds, .int .u64 dx, .int .i64 sm, .int .u16 ss, .int .u64 sx, .int .u32 ct, .int .u8 ky, .slice a n c, .slice b k d] 31)
    have hz : (w.alloc (.cells #[.int .i64 hk, .bool false, .bool pe, .bool se, .int .u8 sq, .int .u16 pn, .int .i64 dm, .int .u16 ds, .int .u64 dx, .int .i64 sm, .int .u16 ss, .int .u64 sx, .int .u32 ct, .int .u8 ky, .slice a n c, .slice b k d] 31)).heap.size = w.heap.size + 1 := by simp
    generalize w.alloc _ = w1 at hF hB hz ⊢
    with_reducible refine (i1 _).mono ?_
    rintro e3 w3 ⟨rfl, hb3⟩
    have hF := hF.below hb3 hF.lt
    have hB := hB.trans (hb3.mono hB.size)
    clear hb3
    obtain ⟨_, _, _, _, _, _, c6, c7, c8, c9, c10, c11, _, _, _, _⟩ := (hF).cells
    dsimp only at c6 c7 c8 c9 c10 c11
    cases y1
    · go_wp2_with fail
      go_ret
      exact ⟨ret_bool (by rw [HS.out]; simp), hB⟩
    go_wp2_with fail
    with_reducible refine (i2 _).mono ?_
    rintro e4 w4 ⟨rfl, hb4⟩
    clear c6 c7 c8 c9 c10 c11
    have hF := hF.below hb4 hF.lt
    have hB := hB.trans (hb4.mono hB.size)
    clear hb4
    obtain ⟨_, _, _, _, _, _, c6, c7, c8, c9, c10, c11, _, _, _, _⟩ := (hF).cells
    dsimp only at c6 c7 c8 c9 c10 c11
    cases y2
    · go_wp2_with fail
      go_ret
      exact ⟨ret_bool (by rw [HS.out]; simp), hB⟩
    go_wp2_with fail
    with_reducible refine (i4 _).mono ?_
    rintro e5 w5 ⟨rfl, hb5⟩
    clear c6 c7 c8 c9 c10 c11
    have hF := hF.below hb5 hF.lt
    have hB := hB.trans (hb5.mono hB.size)
    clear hb5
    obtain ⟨_, _, _, _, _, _, c6, c7, c8, c9, c10, c11, _, _, _, _⟩ := (hF).cells
    dsimp only at c6 c7 c8 c9 c10 c11
    cases x2
    all_goals go_wp2_with fail
    all_goals go_ret
    all_goals exact ⟨ret_bool (by rw [HS.out]; simp), hB⟩
  · have hF : Fr (w.alloc (.cells #[.int .i64 hk, .bool false, .bool pe, .bool se, .int .u8 sq, .int .u16 pn, .int .i64 dm, .int .u16 ds, .int .u64 dx, .int .i64 sm, .int .u16 ss, .int .u64 sx, .int .u32 ct, .int .u8 ky, .slice a n c, .slice b k d] 31)) w.heap.size ⟨hk, false, pe, se, sq, pn, dm, ds, dx, sm, ss, sx, ct, ky⟩ (.slice a n c) (.slice b k d) := Fr.of_heap (heap_alloc_new w _)
    have hB := (Below.refl w.heap.size w).alloc (Nat.le_refl _) (.cells #[.int .i64 hk, .bool false, .bool pe, .bool se, .int .u8 sq, .int .u16 pn, .int .i64 dm, .int .u16 ds, .int .u64 dx, .int .i64 sm, .int .u16 ss, .int .u64 sx, .int .u32 ct, .int .u8 ky, .slice a n c, .slice b k d] 31)
    have hz : (w.alloc (.cells #[.int .i64 hk, .bool false, .bool pe, .bool se, .int .u8 sq, .int .u16 pn, .int .i64 dm, .int .u16 ds, .int .u64 dx, .int .i64 sm, .int .u16 ss, .int .u64 sx, .int .u32 ct, .int .u8 ky, .slice a n c, .slice b k d] 31)).heap.size = w.heap.size + 1 := by simp
    generalize w.alloc _ = w1 at hF hB hz ⊢
    with_reducible refine (i1 _).mono ?_
    rintro e3 w3 ⟨rfl, hb3⟩
    have hF := hF.below hb3 hF.lt
    have hB := hB.trans (hb3.mono hB.size)
    clear hb3
    obtain ⟨_, _, _, _, _, _, c6, c7, c8, c9, c10, c11, _, _, _, _⟩ := (hF).cells
    dsimp only at c6 c7 c8 c9 c10 c11
    cases y1
    · go_wp2_with fail
      go_ret
      exact ⟨ret_bool (by rw [HS.out]; simp), hB⟩
    go_wp2_with fail
    with_reducible refine (i2 _).mono ?_
    rintro e4 w4 ⟨rfl, hb4⟩
    clear c6 c7 c8 c9 c10 c11
    have hF := hF.below hb4 hF.lt
    have hB := hB.trans (hb4.mono hB.size)
    clear hb4
    obtain ⟨_, _, _, _, _, _, c6, c7, c8, c9, c10, c11, _, _, _, _⟩ := (hF).cells
    dsimp only at c6 c7 c8 c9 c10 c11
    cases y2
    · go_wp2_with fail
      go_ret
      exact ⟨ret_bool (by rw [HS.out]; simp), hB⟩
    go_wp2_with fail
    with_reducible refine (i4 _).mono ?_
    rintro e5 w5 ⟨rfl, hb5⟩
    clear c6 c7 c8 c9 c10 c11
    have hF := hF.below hb5 hF.lt
    have hB := hB.trans (hb5.mono hB.size)
    clear hb5
    obtain ⟨_, _, _, _, _, _, c6, c7, c8, c9, c10, c11, _, _, _, _⟩ := (hF).cells
    dsimp only at c6 c7 c8 c9 c10 c11
    cases x2
    all_goals go_wp2_with fail
    all_goals go_ret
    all_goals exact ⟨ret_bool (by rw [HS.out]; simp), hB⟩
  · have hF : Fr (w.alloc (.cells #[.int .i64 hk, .bool true, .bool pe, .bool se, .int .u8 sq, .int .u16 pn, .int .i64 dm, .int .u16 ds, .int .u64 dx, .int .i64 sm, .int .u16 ss, .int .u64 sx, .int .u32 ct, .int .u8 ky, .slice a n c, .slice b k d] 31)) w.heap.size ⟨hk, true, pe, se, sq, pn, dm, ds, dx, sm, ss, sx, ct, ky⟩ (.slice a n c) (.slice b k d) := Fr.of_heap (heap_alloc_new w _)
    have hB := (Below.refl w.heap.size w).alloc (Nat.le_refl _) (.cells #[.int .i64 hk, .bool true, .bool pe, .bool se, .int .u8 sq, .int .u16 pn, .int .i64 dm, .int .u16 ds, .int .u64 dx, .int .i64 sm, .int .u16 ss, .int .u64 sx, .int .u32 ct, .int .u8 ky, .slice a n c, .slice b k d] 31)
    have hz : (w.alloc (.cells #[.int .i64 hk, .bool true, .bool pe, .bool se, .int .u8 sq, .int .u16 pn, .int .i64 dm, .int .u16 ds, .int .u64 dx, .int .i64 sm, .int .u16 ss, .int .u64 sx, .int .u32 ct, .int .u8 ky, .slice a n c, .slice b k d] 31)).heap.size = w.heap.size + 1 := by simp
    generalize w.alloc _ = w1 at hF hB hz ⊢
    with_reducible refine (i3 _).mono ?_
    rintro e2 w2 ⟨rfl, hb2⟩
    have hF := hF.below hb2 hF.lt
    have hB := hB.trans (hb2.mono hB.size)
    clear hb2
    obtain ⟨_, _, _, _, _, _, c6, c7, c8, c9, c10, c11, _, _, _, _⟩ := (hF).cells
    dsimp only at c6 c7 c8 c9 c10 c11
    go_wp2_with fail
    with_reducible refine (i1 _).mono ?_
    rintro e3 w3 ⟨rfl, hb3⟩
    clear c6 c7 c8 c9 c10 c11
    have hF := hF.below hb3 hF.lt
    have hB := hB.trans (hb3.mono hB.size)
    clear hb3
    obtain ⟨_, _, _, _, _, _, c6, c7, c8, c9, c10, c11, _, _, _, _⟩ := (hF).cells
    dsimp only at c6 c7 c8 c9 c10 c11
    cases y1
    · go_wp2_with fail
      go_ret
      exact ⟨ret_bool (by rw [HS.out]; simp), hB⟩
    go_wp2_with fail
    with_reducible refine (i2 _).mono ?_
    rintro e4 w4 ⟨rfl, hb4⟩
    clear c6 c7 c8 c9 c10 c11
    have hF := hF.below hb4 hF.lt
    have hB := hB.trans (hb4.mono hB.size)
    clear hb4
    obtain ⟨_, _, _, _, _, _, c6, c7, c8, c9, c10, c11, _, _, _, _⟩ := (hF).cells
    dsimp only at c6 c7 c8 c9 c10 c11
    cases y2
    · go_wp2_with fail
      go_ret
      exact ⟨ret_bool (by rw [HS.out]; simp), hB⟩
    go_wp2_with fail
    with_reducible refine (i4 _).mono ?_
    rintro e5 w5 ⟨rfl, hb5⟩
    clear c6 c7 c8 c9 c10 c11
    have hF := hF.below hb5 hF.lt
    have hB := hB.trans (hb5.mono hB.size)
    clear hb5
    obtain ⟨_, _, _, _, _, _, c6, c7, c8, c9, c10, c11, _, _, _, _⟩ := (hF).cells
    dsimp only at c6 c7 c8 c9 c10 c11
    cases x2
    all_goals go_wp2_with fail
    all_goals go_ret
    all_goals exact ⟨ret_bool (by rw [HS.out]; simp), hB⟩
  · have hF : Fr (w.alloc (.cells #[.int .i64 hk, .bool true, .bool pe, .bool se, .int .u8 sq, .int .u16 pn, .int .i64 dm, .int .u16 ds, .int .u64 dx, .int .i64 sm, .int .u16 ss, .int .u64 sx, .int .u32 ct, .int .u8 ky, .slice a n c, .slice b k d] 31)) w.heap.size ⟨hk, true, pe, se, sq, pn, dm, ds, dx, sm, ss, sx, ct, ky⟩ (.slice a n c) (.slice b k d) := Fr.of_heap (heap_alloc_new w _)
    have hB := (Below.refl w.heap.size w).alloc (Nat.le_refl _) (.cells #[.int .i64 hk, .bool true, .bool pe, .bool se, .int .u8 sq, .int .u16 pn, .int .i64 dm, .int .u16 ds, .int .u64 dx, .int .i64 sm, .int .u16 ss, .int .u64 sx, .int .u32 ct, .int .u8 ky, .slice a n c, .slice b k d] 31)
    have hz : (w.alloc (.cells #[.int .i64 hk, .bool true, .bool pe, .bool se, .int .u8 sq, .int .u16 pn, .int .i64 dm, .int .u16 ds, .int .u64 dx, .int .i64 sm, .int .u16 ss, .int .u64 sx, .int .u32 ct, .int .u8 ky, .slice a n c, .slice b k d] 31)).heap.size = w.heap.size + 1 := by simp
    generalize w.alloc _ = w1 at hF hB hz ⊢
    with_reducible refine (i3 _).mono ?_
    rintro e2 w2 ⟨rfl, hb2⟩
    have hF := hF.below hb2 hF.lt
    have hB := hB.trans (hb2.mono hB.size)
    clear hb2
    obtain ⟨_, _, _, _, _, _, c6, c7, c8, c9, c10, c11, _, _, _, _⟩ := (hF).cells
    dsimp only at c6 c7 c8 c9 c10 c11
    go_wp2_with fail
    go_ret
    exact ⟨ret_bool (by rw [HS.out]; simp), hB⟩
end Go.Proofs.Ytmbiophckeiehaa
