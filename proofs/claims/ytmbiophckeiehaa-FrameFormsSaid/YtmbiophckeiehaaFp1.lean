/-
  The program's own parts of Valid: sizes, addresses, security.
-/
import Derived.Test.YtmbiophckeiehaaFv
namespace Go.Proofs.Ytmbiophckeiehaa
open Go.RowKit
set_option linter.unusedSimpArgs false
set_option linter.unusedVariables false

theorem asz_any (m : Int) (w : World) :
    Calls Try.prog 64 #[.int .i64 m] w (Ret (.int .i64 (asz m)) w) := by
  go_enter Try.func64, Try.ntmps64
  go_wp2
  all_goals go_ret
  all_goals refine ⟨ret_int ?_, rfl⟩
  all_goals (simp only [beq_iff_eq, beq_eq_false_iff_ne, ne_eq] at *; simp [asz, *])

set_option maxHeartbeats 1000000 in
theorem isAddr_any (m s e : Int) (w : World) :
    Calls Try.prog 63 #[av m s e] w (RetS (.bool (decide (m ≠ 0 ∧ validA m s e = true))) w) := by
  have hv := valid_any m s e
  generalize hval : validA m s e = b at hv
  clear hval
  simp only [av] at hv ⊢
  by_cases hm : m = 0
  · subst hm
    go_enter Try.func63, Try.ntmps63
    go_wp2_with fail
    go_ret
    exact ⟨ret_bool (by simp), (Below.refl _ _).alloc (Nat.le_refl _) _⟩
  · have hB := (Below.refl w.heap.size w).alloc (Nat.le_refl _) (.cells #[.int .i64 m, .int .u16 s, .int .u64 e] 27)
    go_enter Try.func63, Try.ntmps63
    go_wp2_with fail
    with_reducible refine (hv _).mono ?_
    rintro e' w2 ⟨rfl, hb2⟩
    go_wp2_with fail
    go_ret
    exact ⟨ret_bool (by simp [hm]), hB.trans (hb2.mono hB.size)⟩

set_option maxHeartbeats 2000000 in
theorem vsec_any (h : Hd) (p : Value) (b : Option Addr) (k d : Nat) (w : World) :
    Calls Try.prog 46 #[fv h p (.slice b k d)] w (RetS (.bool (secF h k)) w) := by
  obtain ⟨hk, ar, pe, se, sq, pn, dm, ds, dx, sm, ss, sx, ct, ky⟩ := h
  simp only [fv, fvl]
  cases se
  all_goals go_enter Try.func46, Try.ntmps46
  all_goals go_wp2
  all_goals go_ret
  all_goals refine ⟨ret_bool ?_, (Below.refl _ _).alloc (Nat.le_refl _) _⟩
  all_goals (rw [Bool.eq_iff_iff]; simp [secF]; (try simp only [beq_iff_eq, beq_eq_false_iff_ne, ne_eq] at *); (try omega))

/-- the addresses' sizes are those of an int -/
theorem asz_wrap (m : Int) : (asz m : Int) ≤ 8 := by have := asz_le m; omega

set_option maxHeartbeats 2000000 in
set_option maxRecDepth 100000 in
theorem size_any (h : Hd) (a : Option Addr) (n c : Nat) (b : Option Addr) (k d : Nat) (w : World) (hn : n ≤ 281474976710656) (hk8 : k ≤ 281474976710656) :
    Calls Try.prog 47 #[fv h (.slice a n c) (.slice b k d)] w (RetS (.int .i64 (sizeF h n k)) w) := by
  obtain ⟨hk, ar, pe, se, sq, pn, dm, ds, dx, sm, ss, sx, ct, ky⟩ := h
  have z1 := asz_any dm
  have z2 := asz_any sm
  have l1 := asz_le dm
  have l2 := asz_le sm
  have HS : Hid (sizeF ⟨hk, ar, pe, se, sq, pn, dm, ds, dx, sm, ss, sx, ct, ky⟩ n k = 3 + n + k + 2 + (if hk = 2 then 0 else 2 + asz dm + asz sm) + (if se then 5 else 0)) := hid rfl
  generalize sizeF ⟨hk, ar, pe, se, sq, pn, dm, ds, dx, sm, ss, sx, ct, ky⟩ n k = z at HS ⊢
  generalize asz dm = x at *
  generalize asz sm = y at *
  simp only [fv, fvl]
  have hB := (Below.refl w.heap.size w).alloc (Nat.le_refl _) (.cells #[.int .i64 hk, .bool ar, .bool pe, .bool se, .int .u8 sq, .int .u16 pn, .int .i64 dm, .int .u16 ds, .int .u64 dx, .int .i64 sm, .int .u16 ss, .int .u64 sx, .int .u32 ct, .int .u8 ky, .slice a n c, .slice b k d] 31)
  by_cases h2 : hk = 2
  · subst h2
    cases se
    all_goals go_enter Try.func47, Try.ntmps47
    all_goals go_wp2
    all_goals go_ret
    all_goals refine ⟨ret_int ?_, (Below.refl _ _).alloc (Nat.le_refl _) _⟩
    all_goals (rw [HS.out]; simp; try omega)
  · cases se
    all_goals go_enter Try.func47, Try.ntmps47
    all_goals go_wp2_with fail
    all_goals go_quiet ((go_at_call 64; first | exact Calls.quiet_of_same ((z1 _).mono fun e w' h => ⟨h.1, h.2.symm⟩) | exact Calls.quiet_of_same ((z2 _).mono fun e w' h => ⟨h.1, h.2.symm⟩)))
    all_goals go_wp2
    all_goals go_ret
    all_goals refine ⟨ret_int ?_, below_drewN ((Below.refl _ _).alloc (Nat.le_refl _) _) _⟩
    all_goals (rw [HS.out]; simp [h2]; try omega)

set_option maxHeartbeats 2000000 in
set_option maxRecDepth 100000 in
theorem vack_any (h : Hd) (a : Option Addr) (n c : Nat) (b : Option Addr) (k d : Nat) (w : World) :
    Calls Try.prog 44 #[fv h (.slice a n c) (.slice b k d)] w (RetS (.bool (ackF h n k)) w) := by
  have hs := vsec_any h (.slice a n c) b k d
  obtain ⟨hk, ar, pe, se, sq, pn, dm, ds, dx, sm, ss, sx, ct, ky⟩ := h
  have HS : Hid (ackF ⟨hk, ar, pe, se, sq, pn, dm, ds, dx, sm, ss, sx, ct, ky⟩ n k = decide (ar = false ∧ se = false ∧ secF ⟨hk, ar, pe, se, sq, pn, dm, ds, dx, sm, ss, sx, ct, ky⟩ k = true ∧ pn = 0 ∧ (dm = 0 ∧ ds = 0 ∧ dx = 0) ∧ (sm = 0 ∧ ss = 0 ∧ sx = 0) ∧ n = 0)) := hid rfl
  generalize ackF ⟨hk, ar, pe, se, sq, pn, dm, ds, dx, sm, ss, sx, ct, ky⟩ n k = z at HS ⊢
  generalize secF ⟨hk, ar, pe, se, sq, pn, dm, ds, dx, sm, ss, sx, ct, ky⟩ k = y at HS hs
  simp only [fv, fvl] at hs ⊢
  cases ar
  · cases se
    · go_enter Try.func44, Try.ntmps44
      go_wp2_with fail
      have hF : Fr (w.alloc (.cells #[.int .i64 hk, .bool false, .bool pe, .bool false, .int .u8 sq, .int .u16 pn, .int .i64 dm, .int .u16 ds, .int .u64 dx, .int .i64 sm, .int .u16 ss, .int .u64 sx, .int .u32 ct, .int .u8 ky, .slice a n c, .slice b k d] 31)) w.heap.size ⟨hk, false, pe, false, sq, pn, dm, ds, dx, sm, ss, sx, ct, ky⟩ (.slice a n c) (.slice b k d) := Fr.of_heap (heap_alloc_new w _)
      have hF1 := hF.below ((Below.refl (w.heap.size + 1) _).alloc (by simp) (.cells #[.int .i64 0, .int .u16 0, .int .u64 0] 27)) (by omega)
      have hA : Ar ((w.alloc (.cells #[.int .i64 hk, .bool false, .bool pe, .bool false, .int .u8 sq, .int .u16 pn, .int .i64 dm, .int .u16 ds, .int .u64 dx, .int .i64 sm, .int .u16 ss, .int .u64 sx, .int .u32 ct, .int .u8 ky, .slice a n c, .slice b k d] 31)).alloc (.cells #[.int .i64 0, .int .u16 0, .int .u64 0] 27)) (w.heap.size + 1) 0 0 0 := by
        have := (Ar.of_heap (heap_alloc_new (w.alloc (.cells #[.int .i64 hk, .bool false, .bool pe, .bool false, .int .u8 sq, .int .u16 pn, .int .i64 dm, .int .u16 ds, .int .u64 dx, .int .i64 sm, .int .u16 ss, .int .u64 sx, .int .u32 ct, .int .u8 ky, .slice a n c, .slice b k d] 31)) (.cells #[.int .i64 0, .int .u16 0, .int .u64 0] 27)))
        rw [World.size_alloc] at this
        exact this
      have hB := two_below w (.cells #[.int .i64 hk, .bool false, .bool pe, .bool false, .int .u8 sq, .int .u16 pn, .int .i64 dm, .int .u16 ds, .int .u64 dx, .int .i64 sm, .int .u16 ss, .int .u64 sx, .int .u32 ct, .int .u8 ky, .slice a n c, .slice b k d] 31) (.cells #[.int .i64 0, .int .u16 0, .int .u64 0] 27)
      have hz : ((w.alloc (.cells #[.int .i64 hk, .bool false, .bool pe, .bool false, .int .u8 sq, .int .u16 pn, .int .i64 dm, .int .u16 ds, .int .u64 dx, .int .i64 sm, .int .u16 ss, .int .u64 sx, .int .u32 ct, .int .u8 ky, .slice a n c, .slice b k d] 31)).alloc (.cells #[.int .i64 0, .int .u16 0, .int .u64 0] 27)).heap.size = w.heap.size + 2 := by simp
      generalize (w.alloc _).alloc _ = w1 at hF1 hA hB hz ⊢
      with_reducible refine (hs _).mono ?_
      rintro e w2 ⟨rfl, hb⟩
      have hB2 := hB.trans (hb.mono hB.size)
      obtain ⟨_, _, _, _, _, c5, c6, c7, c8, c9, c10, c11, _, _, c14, _⟩ := (hF1.below hb (by omega)).cells
      obtain ⟨d0, d1, d2⟩ := (hA.below hb (by omega)).cells
      dsimp only at c5 c6 c7 c8 c9 c10 c11 c14
      clear hF hF1 hA hB hb hs
      cases y
      · go_wp2_with fail
        go_ret
        exact ⟨ret_bool (by rw [HS.out]; simp), hB2⟩
      · go_wp2_with fail
        all_goals go_ret
        all_goals refine ⟨ret_bool ?_, hB2⟩
        all_goals clear c5 c6 c7 c8 c9 c10 c11 c14 d0 d1 d2 hB2
        all_goals (rw [HS.out, Bool.eq_iff_iff]; simp; (try simp only [beq_iff_eq, beq_eq_false_iff_ne, ne_eq] at *); (try omega))
    · go_enter Try.func44, Try.ntmps44
      go_wp2_with fail
      go_ret
      exact ⟨ret_bool (by rw [HS.out]; simp), two_below _ _ _⟩
  · go_enter Try.func44, Try.ntmps44
    go_wp2_with fail
    go_ret
    exact ⟨ret_bool (by rw [HS.out]; simp), two_below _ _ _⟩
end Go.Proofs.Ytmbiophckeiehaa
