/-
  Compare as the reference has it.
-/
import Derived.Test.YtogiignhjmhjnaaDoorCmp
namespace Go.Proofs.YtogiignhjmhjnaaDoor
open Go.RowKit

theorem xor_top (n : Nat) (h : n < 18446744073709551616) : n ^^^ 9223372036854775808 = (n + 9223372036854775808) % 18446744073709551616 := by
  have h1 := Nat.xor_div_two_pow (a := n) (b := 9223372036854775808) (n := 63)
  have h2 := Nat.xor_mod_two_pow (a := n) (b := 9223372036854775808) (n := 63)
  rw [show (2 : Nat) ^ 63 = 9223372036854775808 from rfl] at h1 h2
  have h3 := Nat.div_add_mod (n ^^^ 9223372036854775808) 9223372036854775808
  rcases (by omega : n / 9223372036854775808 = 0 ∨ n / 9223372036854775808 = 1) with hq | hq
  · rw [hq] at h1; simp at h1 h2; omega
  · rw [hq] at h1; simp at h1 h2; omega
theorem mw_eq (m : Int) (h : I64 m) : bits .xor .u64 (IntKind.u64.wrap m) 9223372036854775808 = m + 9223372036854775808 := by
  obtain ⟨h1, h2⟩ := h
  have hw : IntKind.u64.wrap m = m % 18446744073709551616 := by simp [IntKind.wrap, IntKind.bits, IntKind.signed]
  obtain ⟨n, hn⟩ : ∃ n : Nat, (n : Int) = m % 18446744073709551616 := ⟨(m % 18446744073709551616).toNat, by omega⟩
  rw [hw, ← hn, show (9223372036854775808 : Int) = ((9223372036854775808 : Nat) : Int) from rfl, bits_xor_u64_nat n 9223372036854775808 (by omega) (by decide), xor_top n (by omega)]
  omega
theorem four_old (w : World) (A B C D : Obj) :
    (((((w.alloc A).alloc B).alloc C).alloc D)).heap[w.heap.size + 1 + 1]? = some C ∧ (((((w.alloc A).alloc B).alloc C).alloc D)).heap[w.heap.size + 1 + 1 + 1]? = some D ∧ Below w.heap.size w (((((w.alloc A).alloc B).alloc C).alloc D)) := by
  have b2 : Below w.heap.size w ((w.alloc A).alloc B) := ((Below.refl _ w).alloc (Nat.le_refl _) A).alloc (by simp) B
  refine ⟨?_, ?_, (b2.alloc (by simp; omega) C).alloc (by simp; omega) D⟩
  · have h := heap_alloc_new ((w.alloc A).alloc B) C
    rw [World.size_alloc, World.size_alloc] at h
    have hb : Below (w.heap.size + 1 + 1 + 1) (((w.alloc A).alloc B).alloc C) ((((w.alloc A).alloc B).alloc C).alloc D) := (Below.refl _ _).alloc (by simp) D
    rw [hb.block _ (by omega)]; exact h
  · have h := heap_alloc_new (((w.alloc A).alloc B).alloc C) D
    rw [World.size_alloc, World.size_alloc, World.size_alloc] at h
    exact h
set_option maxHeartbeats 4000000 in
set_option maxRecDepth 100000 in
theorem rcompare_any (m s e m' s' e' : Int) (w : World) (h1 : I64 m) (h2 : I64 m') (h3 : 0 ≤ s ∧ s < 65536) (h4 : 0 ≤ s' ∧ s' < 65536) :
    Calls Tryd.prog 42 #[av m s e, av m' s' e'] w (RetS (.int .i64 (cmpA m s e m' s' e')) w) := by
  simp only [av]
  go_enter Tryd.func42, Tryd.ntmps42
  go_wp2_with fail
  rw [mw_eq m h1, mw_eq m' h2]
  obtain ⟨k1, k2, hB⟩ := four_old w (.cells #[.int .i64 m, .int .u16 s, .int .u64 e] 53) (.cells #[.int .i64 m', .int .u16 s', .int .u64 e'] 53) (.cells #[.int .u64 (m + 9223372036854775808), .int .u64 s, .int .u64 e] 102) (.cells #[.int .u64 (m' + 9223372036854775808), .int .u64 s', .int .u64 e'] 102)
  generalize (((w.alloc _).alloc _).alloc _).alloc _ = w4 at k1 k2 hB ⊢
  have a0 : w4.cell? ⟨w.heap.size + 1 + 1, 0, none⟩ = some (.int .u64 (m + 9223372036854775808)) := by rw [cell_of_row w4 _ _ _ _ _ k1]; rfl
  have a1 : w4.cell? ⟨w.heap.size + 1 + 1, 1, none⟩ = some (.int .u64 s) := by rw [cell_of_row w4 _ _ _ _ _ k1]; rfl
  have a2 : w4.cell? ⟨w.heap.size + 1 + 1, 2, none⟩ = some (.int .u64 e) := by rw [cell_of_row w4 _ _ _ _ _ k1]; rfl
  have b0 : w4.cell? ⟨w.heap.size + 1 + 1 + 1, 0, none⟩ = some (.int .u64 (m' + 9223372036854775808)) := by rw [cell_of_row w4 _ _ _ _ _ k2]; rfl
  have b1 : w4.cell? ⟨w.heap.size + 1 + 1 + 1, 1, none⟩ = some (.int .u64 s') := by rw [cell_of_row w4 _ _ _ _ _ k2]; rfl
  have b2 : w4.cell? ⟨w.heap.size + 1 + 1 + 1, 2, none⟩ = some (.int .u64 e') := by rw [cell_of_row w4 _ _ _ _ _ k2]; rfl
  clear k1 k2
  refine wp_loop_rounds 4 ?_
  rw [rounds_succ]
  go_wp2_with fail
  go_quiet (fail)
  go_wp2_with fail
  · (go_ret; refine ⟨ret_int ?_, ?_⟩; (unfold cmpA orA Lib.compareInt; clear a0 a1 a2 b0 b1 b2; (repeat' split) <;> omega); ((repeat (refine below_drewN ?_ _)); exact hB))
  · go_quiet (fail)
    go_wp2_with fail
    · (go_ret; refine ⟨ret_int ?_, ?_⟩; (unfold cmpA orA Lib.compareInt; clear a0 a1 a2 b0 b1 b2; (repeat' split) <;> omega); ((repeat (refine below_drewN ?_ _)); exact hB))
    · skip
      rw [rounds_succ]
      go_wp2_with fail
      go_quiet (fail)
      go_wp2_with fail
      · (go_ret; refine ⟨ret_int ?_, ?_⟩; (unfold cmpA orA Lib.compareInt; clear a0 a1 a2 b0 b1 b2; (repeat' split) <;> omega); ((repeat (refine below_drewN ?_ _)); exact hB))
      · go_quiet (fail)
        go_wp2_with fail
        · (go_ret; refine ⟨ret_int ?_, ?_⟩; (unfold cmpA orA Lib.compareInt; clear a0 a1 a2 b0 b1 b2; (repeat' split) <;> omega); ((repeat (refine below_drewN ?_ _)); exact hB))
        · skip
          rw [rounds_succ]
          go_wp2_with fail
          go_quiet (fail)
          go_wp2_with fail
          · (go_ret; refine ⟨ret_int ?_, ?_⟩; (unfold cmpA orA Lib.compareInt; clear a0 a1 a2 b0 b1 b2; (repeat' split) <;> omega); ((repeat (refine below_drewN ?_ _)); exact hB))
          · go_quiet (fail)
            go_wp2_with fail
            · (go_ret; refine ⟨ret_int ?_, ?_⟩; (unfold cmpA orA Lib.compareInt; clear a0 a1 a2 b0 b1 b2; (repeat' split) <;> omega); ((repeat (refine below_drewN ?_ _)); exact hB))
            · skip
              rw [rounds_succ]
              go_wp2_with fail
              (go_ret; refine ⟨ret_int ?_, ?_⟩; (unfold cmpA orA Lib.compareInt; clear a0 a1 a2 b0 b1 b2; (repeat' split) <;> omega); ((repeat (refine below_drewN ?_ _)); exact hB))
end Go.Proofs.YtogiignhjmhjnaaDoor
