/-
  Compare: the order of link addresses.
-/
import Derived.Test.YtogiignhjmhjnaaDoorLink
import Derived.Test.YtogiignhjmhjnaaDoorShelf
namespace Go.Proofs.YtogiignhjmhjnaaDoor
open Go.RowKit

def orA (x y z : Int) : Int := if x ≠ 0 then x else if y ≠ 0 then y else z
def cmpA (m s e m' s' e' : Int) : Int := orA (Lib.compareInt m m') (Lib.compareInt s s') (Lib.compareInt e e')

theorem cmp_int (x y : Int) (w : World) : Calls Tryd.prog 73 #[.int .i64 x, .int .i64 y] w (RetS (.int .i64 (Lib.compareInt x y)) w) :=
  (Tryd.cmp_Compare_int x y w).mono fun e w' ⟨h1, h2⟩ => ⟨h1, by rw [h2]; exact Below.refl _ _⟩

set_option maxHeartbeats 1600000 in
theorem cmp_u16 (x y : Int) (w : World) : Calls Tryd.prog 74 #[.int .u16 x, .int .u16 y] w (RetS (.int .i64 (Lib.compareInt x y)) w) := by
  have hn : ∀ x w, Calls Tryd.prog 91 #[.int .u16 x] w (Ret (.bool false) w) := by
    intro x w
    go_enter Tryd.func91, Tryd.ntmps91
    go_wp2
    go_ret
    exact ⟨rfl, rfl⟩
  go_enter Tryd.func74, Tryd.ntmps74
  go_wp2_with (go_at_call 91; refine (hn _ _).mono ?_; rintro e w' ⟨rfl, rfl⟩)
  all_goals go_ret
  all_goals refine ⟨ret_int ?_, Below.refl _ _⟩
  all_goals (unfold Lib.compareInt; repeat' split) <;> omega
set_option maxHeartbeats 1600000 in
theorem cmp_u64 (x y : Int) (w : World) : Calls Tryd.prog 75 #[.int .u64 x, .int .u64 y] w (RetS (.int .i64 (Lib.compareInt x y)) w) := by
  have hn : ∀ x w, Calls Tryd.prog 92 #[.int .u64 x] w (Ret (.bool false) w) := by
    intro x w
    go_enter Tryd.func92, Tryd.ntmps92
    go_wp2
    go_ret
    exact ⟨rfl, rfl⟩
  go_enter Tryd.func75, Tryd.ntmps75
  go_wp2_with (go_at_call 92; refine (hn _ _).mono ?_; rintro e w' ⟨rfl, rfl⟩)
  all_goals go_ret
  all_goals refine ⟨ret_int ?_, Below.refl _ _⟩
  all_goals (unfold Lib.compareInt; repeat' split) <;> omega

set_option maxHeartbeats 1600000 in
theorem cmp_or (x y z : Int) (w : World) (g : Nat) (hg : g = w.heap.size) : Calls Tryd.prog 72 #[.slice (some ⟨g, 0, none⟩) 3 3] (w.alloc (.cells #[.int .i64 x, .int .i64 y, .int .i64 z] 3)) (RetS (.int .i64 (orA x y z)) (w.alloc (.cells #[.int .i64 x, .int .i64 y, .int .i64 z] 3))) := by
  subst hg
  have c0 : (w.alloc (.cells #[.int .i64 x, .int .i64 y, .int .i64 z] 3)).cell? ⟨w.heap.size, 0, none⟩ = some (.int .i64 x) := by simp
  have c1 : (w.alloc (.cells #[.int .i64 x, .int .i64 y, .int .i64 z] 3)).cell? ⟨w.heap.size, 1, none⟩ = some (.int .i64 y) := by simp
  have c2 : (w.alloc (.cells #[.int .i64 x, .int .i64 y, .int .i64 z] 3)).cell? ⟨w.heap.size, 2, none⟩ = some (.int .i64 z) := by simp
  generalize w.alloc (.cells #[.int .i64 x, .int .i64 y, .int .i64 z] 3) = w1 at c0 c1 c2 ⊢
  generalize w.heap.size = g at c0 c1 c2 ⊢
  go_enter Tryd.func72, Tryd.ntmps72
  go_wp2_with fail
  refine wp_loop_rounds 4 ?_
  rw [rounds_succ]
  go_wp2
  · go_ret
    refine ⟨ret_int ?_, Below.refl _ _⟩
    simp_all [orA]
  · rw [rounds_succ]
    go_wp2
    · go_ret
      refine ⟨ret_int ?_, Below.refl _ _⟩
      simp_all [orA]
    · rw [rounds_succ]
      go_wp2
      · go_ret
        refine ⟨ret_int ?_, Below.refl _ _⟩
        simp_all [orA]
      · rw [rounds_succ]
        go_wp2
        go_ret
        refine ⟨ret_int ?_, Below.refl _ _⟩
        simp_all [orA]

set_option maxHeartbeats 4000000 in
set_option maxRecDepth 100000 in
theorem compare_any (m s e m' s' e' : Int) (w : World) :
    Calls Tryd.prog 41 #[av m s e, av m' s' e'] w (RetS (.int .i64 (cmpA m s e m' s' e')) w) := by
  simp only [av]
  go_enter Tryd.func41, Tryd.ntmps41
  go_wp2_with fail
  have hb := two_below w (.cells #[.int .i64 m, .int .u16 s, .int .u64 e] 53) (.cells #[.int .i64 m', .int .u16 s', .int .u64 e'] 53)
  have hcell : ∀ w', Below ((w.alloc (.cells #[.int .i64 m, .int .u16 s, .int .u64 e] 53)).alloc (.cells #[.int .i64 m', .int .u16 s', .int .u64 e'] 53)).heap.size ((w.alloc (.cells #[.int .i64 m, .int .u16 s, .int .u64 e] 53)).alloc (.cells #[.int .i64 m', .int .u16 s', .int .u64 e'] 53)) w' →
      w'.cell? ⟨w.heap.size, 0, none⟩ = some (.int .i64 m) ∧ w'.cell? ⟨w.heap.size, 1, none⟩ = some (.int .u16 s) ∧ w'.cell? ⟨w.heap.size, 2, none⟩ = some (.int .u64 e) ∧
      w'.cell? ⟨w.heap.size + 1, 0, none⟩ = some (.int .i64 m') ∧ w'.cell? ⟨w.heap.size + 1, 1, none⟩ = some (.int .u16 s') ∧ w'.cell? ⟨w.heap.size + 1, 2, none⟩ = some (.int .u64 e') := by
    intro w' h
    refine ⟨(h.cell (p := ⟨w.heap.size, 0, none⟩) (by simp; omega)).trans (by simp), (h.cell (p := ⟨w.heap.size, 1, none⟩) (by simp; omega)).trans (by simp), (h.cell (p := ⟨w.heap.size, 2, none⟩) (by simp; omega)).trans (by simp), (h.cell (p := ⟨w.heap.size + 1, 0, none⟩) (by simp)).trans (by simp), (h.cell (p := ⟨w.heap.size + 1, 1, none⟩) (by simp)).trans (by simp), (h.cell (p := ⟨w.heap.size + 1, 2, none⟩) (by simp)).trans (by simp)⟩
  generalize (w.alloc _).alloc _ = w2 at hb hcell ⊢
  refine wp_region_held_drew (S := fun w' => Below w2.heap.size w2 w') (by kernel_rfl) (below_drewN (Below.refl _ _) 1) (fun hHeld => ?_)
  refine wpAnyH_take (i := 0) (oi := ⟨some 5, _, _, _, _, _⟩) (v := ?_) rfl (by kernel_rfl) (by kernel_rfl) (by kernel_rfl) (fun _ _ _ h => h) (Or.inl ⟨by rfl, ?_⟩) hHeld ?_
  rotate_left
  · intro w hSw; go_simp; try with_reducible rfl
  try simp only [Act.put, List.setIfInBounds_toArray, List.set_cons_zero, List.set_cons_succ]
  refine wpAnyH_take (i := 1) (oi := ⟨some 6, _, _, _, _, _⟩) (v := ?_) rfl (by kernel_rfl) (by kernel_rfl) (by kernel_rfl) (fun _ _ _ h => h) (Or.inl ⟨by rfl, ?_⟩) hHeld ?_
  rotate_left
  · intro w hSw; obtain ⟨k0, k1, k2, k3, k4, k5⟩ := hcell _ hSw; go_simp; try with_reducible rfl
  try simp only [Act.put, List.setIfInBounds_toArray, List.set_cons_zero, List.set_cons_succ]
  refine wpAnyH_take (i := 2) (oi := ⟨some 7, _, _, _, _, _⟩) (v := ?_) rfl (by kernel_rfl) (by kernel_rfl) (by kernel_rfl) (fun _ _ _ h => h) (Or.inl ⟨by rfl, ?_⟩) hHeld ?_
  rotate_left
  · intro w hSw; go_simp; try with_reducible rfl
  try simp only [Act.put, List.setIfInBounds_toArray, List.set_cons_zero, List.set_cons_succ]
  refine wpAnyH_take (i := 3) (oi := ⟨some 8, _, _, _, _, _⟩) (v := ?_) rfl (by kernel_rfl) (by kernel_rfl) (by kernel_rfl) (fun _ _ _ h => h) (Or.inl ⟨by rfl, ?_⟩) hHeld ?_
  rotate_left
  · intro w hSw; obtain ⟨k0, k1, k2, k3, k4, k5⟩ := hcell _ hSw; go_simp; try with_reducible rfl
  try simp only [Act.put, List.setIfInBounds_toArray, List.set_cons_zero, List.set_cons_succ]
  refine wpAnyH_take (i := 5) (oi := ⟨some 10, _, _, _, _, _⟩) (v := ?_) rfl (by kernel_rfl) (by kernel_rfl) (by kernel_rfl) (fun _ _ _ h => h) (Or.inl ⟨by rfl, ?_⟩) hHeld ?_
  rotate_left
  · intro w hSw; go_simp; try with_reducible rfl
  try simp only [Act.put, List.setIfInBounds_toArray, List.set_cons_zero, List.set_cons_succ]
  refine wpAnyH_take (i := 6) (oi := ⟨some 11, _, _, _, _, _⟩) (v := ?_) rfl (by kernel_rfl) (by kernel_rfl) (by kernel_rfl) (fun _ _ _ h => h) (Or.inl ⟨by rfl, ?_⟩) hHeld ?_
  rotate_left
  · intro w hSw; obtain ⟨k0, k1, k2, k3, k4, k5⟩ := hcell _ hSw; go_simp; try with_reducible rfl
  try simp only [Act.put, List.setIfInBounds_toArray, List.set_cons_zero, List.set_cons_succ]
  refine wpAnyH_take (i := 7) (oi := ⟨some 12, _, _, _, _, _⟩) (v := ?_) rfl (by kernel_rfl) (by kernel_rfl) (by kernel_rfl) (fun _ _ _ h => h) (Or.inl ⟨by rfl, ?_⟩) hHeld ?_
  rotate_left
  · intro w hSw; go_simp; try with_reducible rfl
  try simp only [Act.put, List.setIfInBounds_toArray, List.set_cons_zero, List.set_cons_succ]
  refine wpAnyH_take (i := 8) (oi := ⟨some 13, _, _, _, _, _⟩) (v := ?_) rfl (by kernel_rfl) (by kernel_rfl) (by kernel_rfl) (fun _ _ _ h => h) (Or.inl ⟨by rfl, ?_⟩) hHeld ?_
  rotate_left
  · intro w hSw; obtain ⟨k0, k1, k2, k3, k4, k5⟩ := hcell _ hSw; go_simp; try with_reducible rfl
  try simp only [Act.put, List.setIfInBounds_toArray, List.set_cons_zero, List.set_cons_succ]
  refine wpAnyH_take (i := 10) (oi := ⟨some 15, _, _, _, _, _⟩) (v := ?_) rfl (by kernel_rfl) (by kernel_rfl) (by kernel_rfl) (fun _ _ _ h => h) (Or.inl ⟨by rfl, ?_⟩) hHeld ?_
  rotate_left
  · intro w hSw; go_simp; try with_reducible rfl
  try simp only [Act.put, List.setIfInBounds_toArray, List.set_cons_zero, List.set_cons_succ]
  refine wpAnyH_take (i := 11) (oi := ⟨some 16, _, _, _, _, _⟩) (v := ?_) rfl (by kernel_rfl) (by kernel_rfl) (by kernel_rfl) (fun _ _ _ h => h) (Or.inl ⟨by rfl, ?_⟩) hHeld ?_
  rotate_left
  · intro w hSw; obtain ⟨k0, k1, k2, k3, k4, k5⟩ := hcell _ hSw; go_simp; try with_reducible rfl
  try simp only [Act.put, List.setIfInBounds_toArray, List.set_cons_zero, List.set_cons_succ]
  refine wpAnyH_take (i := 12) (oi := ⟨some 17, _, _, _, _, _⟩) (v := ?_) rfl (by kernel_rfl) (by kernel_rfl) (by kernel_rfl) (fun _ _ _ h => h) (Or.inl ⟨by rfl, ?_⟩) hHeld ?_
  rotate_left
  · intro w hSw; go_simp; try with_reducible rfl
  try simp only [Act.put, List.setIfInBounds_toArray, List.set_cons_zero, List.set_cons_succ]
  refine wpAnyH_take (i := 13) (oi := ⟨some 18, _, _, _, _, _⟩) (v := ?_) rfl (by kernel_rfl) (by kernel_rfl) (by kernel_rfl) (fun _ _ _ h => h) (Or.inl ⟨by rfl, ?_⟩) hHeld ?_
  rotate_left
  · intro w hSw; obtain ⟨k0, k1, k2, k3, k4, k5⟩ := hcell _ hSw; go_simp; try with_reducible rfl
  try simp only [Act.put, List.setIfInBounds_toArray, List.set_cons_zero, List.set_cons_succ]
  refine wpAnyH_ready (rs := [4]) (by kernel_rfl) (by simp) ?_
  refine AllReadyH.cons (o := ⟨some 9, _, _, _, _, _⟩) rfl (fun K hK => ?_) AllReadyH.nil
  go_simp
  have hA3 := hHeld
  with_reducible refine (cmp_int m m' _).mono ?_
  rintro e3 w3 ⟨rfl, hb3⟩
  have hB3 := hA3.trans (hb3.mono hA3.size)
  go_wp2_with fail
  clear hHeld
  refine hK.out _ _ (hB3) (fun hHeld => ?_)
  clear hK K
  try simp only [Act.put, List.setIfInBounds_toArray, List.set_cons_zero, List.set_cons_succ]
  refine wpAnyH_ready (rs := [9]) (by kernel_rfl) (by simp) ?_
  refine AllReadyH.cons (o := ⟨some 14, _, _, _, _, _⟩) rfl (fun K hK => ?_) AllReadyH.nil
  go_simp
  have hA4 := hHeld
  with_reducible refine (cmp_u16 s s' _).mono ?_
  rintro e4 w4 ⟨rfl, hb4⟩
  have hB4 := hA4.trans (hb4.mono hA4.size)
  go_wp2_with fail
  clear hHeld
  refine hK.out _ _ (hB4) (fun hHeld => ?_)
  clear hK K
  try simp only [Act.put, List.setIfInBounds_toArray, List.set_cons_zero, List.set_cons_succ]
  refine wpAnyH_ready (rs := [14]) (by kernel_rfl) (by simp) ?_
  refine AllReadyH.cons (o := ⟨some 19, _, _, _, _, _⟩) rfl (fun K hK => ?_) AllReadyH.nil
  go_simp
  have hA5 := hHeld
  with_reducible refine (cmp_u64 e e' _).mono ?_
  rintro e5 w5 ⟨rfl, hb5⟩
  have hB5 := hA5.trans (hb5.mono hA5.size)
  go_wp2_with fail
  clear hHeld
  refine hK.out _ _ (hB5) (fun hHeld => ?_)
  clear hK K
  try simp only [Act.put, List.setIfInBounds_toArray, List.set_cons_zero, List.set_cons_succ]
  refine wpAnyH_ready (rs := [15]) (by kernel_rfl) (by simp) ?_
  refine AllReadyH.cons (o := ⟨some 20, _, _, _, _, _⟩) rfl (fun K hK => ?_) AllReadyH.nil
  go_simp
  have hB6 := hB5.alloc hB5.size (.cells #[.int .i64 (Lib.compareInt m m'), .int .i64 (Lib.compareInt s s'), .int .i64 (Lib.compareInt e e')] 3)
  clear hHeld
  refine hK.out _ _ (hB6) (fun hHeld => ?_)
  clear hK K
  try simp only [Act.put, List.setIfInBounds_toArray, List.set_cons_zero, List.set_cons_succ]
  refine wpAnyH_ready (rs := [16]) (by kernel_rfl) (by simp) ?_
  refine AllReadyH.cons (o := ⟨some 21, _, _, _, _, _⟩) rfl (fun K hK => ?_) AllReadyH.nil
  go_simp
  have hA7 := hHeld
  with_reducible refine (cmp_or _ _ _ _ (w5.heap.size) rfl).mono ?_
  rintro e7 w7 ⟨rfl, hb7⟩
  have hB7 := hA7.trans (hb7.mono hA7.size)
  go_wp2_with fail
  clear hHeld
  refine hK.out _ _ (hB7) (fun hHeld => ?_)
  clear hK K
  try simp only [Act.put, List.setIfInBounds_toArray, List.set_cons_zero, List.set_cons_succ]
  refine wpAnyH_take (i := 17) (oi := ⟨some 4, _, _, _, _, _⟩) (v := ?_) rfl (by kernel_rfl) (by kernel_rfl) (by kernel_rfl) (fun _ _ _ h => h) (Or.inl ⟨by rfl, ?_⟩) hHeld ?_
  rotate_left
  · intro w hSw; go_simp; try with_reducible rfl
  try simp only [Act.put, List.setIfInBounds_toArray, List.set_cons_zero, List.set_cons_succ]
  refine wpAnyH_done (by kernel_rfl) ?_ _
  go_wp2
  go_ret
  exact ⟨rfl, hb.trans (hB7.mono hb.size)⟩
end Go.Proofs.YtogiignhjmhjnaaDoor
