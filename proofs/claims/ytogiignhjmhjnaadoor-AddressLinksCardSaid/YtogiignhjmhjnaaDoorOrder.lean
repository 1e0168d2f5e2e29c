/-
  Compare is a total order of link addresses.
-/
import Derived.Test.YtogiignhjmhjnaaDoorKnown04
import Derived.Test.YtogiignhjmhjnaaDoorCmp
import Derived.Test.YtogiignhjmhjnaaDoorAddrReg
import Derived.BigRegion
import Derived.Deep.DeepCutAuto
import Derived.StillTailTactics
import Derived.RegionTactic
import Derived.Deep.RegionLaw
import Derived.Deep.RegionHeld3
namespace Go.Proofs.YtogiignhjmhjnaaDoor
open Go.RowKit

theorem old3 {w : World} {p : Addr} {v : Value} (h : w.cell? p = some v) (hp : p.block < w.heap.size) : (∀ a, (w.alloc a).cell? p = some v) ∧ (∀ a b, ((w.alloc a).alloc b).cell? p = some v) ∧ (∀ a b c, (((w.alloc a).alloc b).alloc c).cell? p = some v) := by
  have b1 : ∀ a, Below w.heap.size w (w.alloc a) := fun a => (Below.refl _ w).alloc (Nat.le_refl _) a
  have b2 : ∀ a b, Below w.heap.size w ((w.alloc a).alloc b) := fun a b => (b1 a).alloc (by simp) b
  have b3 : ∀ a b c, Below w.heap.size w (((w.alloc a).alloc b).alloc c) := fun a b c => (b2 a b).alloc (by simp; omega) c
  exact ⟨fun a => ((b1 a).cell hp).trans h, fun a b => ((b2 a b).cell hp).trans h, fun a b c => ((b3 a b c).cell hp).trans h⟩
theorem Ar.lt {w : World} {g : Nat} {m s e : Int} (h : Ar w g m s e) : g < w.heap.size := by
  have h0 := h.cells.1
  simp only [World.cell?] at h0
  split at h0
  · rename_i hh; exact (Array.getElem?_eq_some_iff.1 hh).1
  · cases h0
theorem tri (w : World) (ma sa xa mb sb xb mc sc xc : Int) :
    Ar ((((w.alloc (.cells #[.int .i64 ma, .int .u16 sa, .int .u64 xa] 53)).alloc (.cells #[.int .i64 mb, .int .u16 sb, .int .u64 xb] 53)).alloc (.cells #[.int .i64 mc, .int .u16 sc, .int .u64 xc] 53)).drew) w.heap.size ma sa xa ∧
    Ar ((((w.alloc (.cells #[.int .i64 ma, .int .u16 sa, .int .u64 xa] 53)).alloc (.cells #[.int .i64 mb, .int .u16 sb, .int .u64 xb] 53)).alloc (.cells #[.int .i64 mc, .int .u16 sc, .int .u64 xc] 53)).drew) (w.heap.size + 1) mb sb xb ∧
    Ar ((((w.alloc (.cells #[.int .i64 ma, .int .u16 sa, .int .u64 xa] 53)).alloc (.cells #[.int .i64 mb, .int .u16 sb, .int .u64 xb] 53)).alloc (.cells #[.int .i64 mc, .int .u16 sc, .int .u64 xc] 53)).drew) (w.heap.size + 1 + 1) mc sc xc ∧
    Below w.heap.size w ((((w.alloc (.cells #[.int .i64 ma, .int .u16 sa, .int .u64 xa] 53)).alloc (.cells #[.int .i64 mb, .int .u16 sb, .int .u64 xb] 53)).alloc (.cells #[.int .i64 mc, .int .u16 sc, .int .u64 xc] 53)).drew) := by
  refine ⟨?_, ?_, ?_, ((((Below.refl _ w).alloc (Nat.le_refl _) _).alloc (by simp) _).alloc (by simp; omega) _).drew⟩
  · exact (Ar.of_heap (heap_alloc_new w _)).below ((((Below.refl (w.heap.size + 1) _).alloc (by simp) _).alloc (by simp) _).drew) (by omega)
  · have := (Ar.of_heap (heap_alloc_new (w.alloc (.cells #[.int .i64 ma, .int .u16 sa, .int .u64 xa] 53)) (.cells #[.int .i64 mb, .int .u16 sb, .int .u64 xb] 53)))
    rw [World.size_alloc] at this
    exact this.below (((Below.refl (w.heap.size + 1 + 1) _).alloc (by simp) _).drew) (by omega)
  · have := (Ar.of_heap (heap_alloc_new ((w.alloc (.cells #[.int .i64 ma, .int .u16 sa, .int .u64 xa] 53)).alloc (.cells #[.int .i64 mb, .int .u16 sb, .int .u64 xb] 53)) (.cells #[.int .i64 mc, .int .u16 sc, .int .u64 xc] 53)))
    rw [World.size_alloc, World.size_alloc] at this
    exact this.drew
/-- block g holds the link addresses of L -/
def As (w : World) (g : Nat) (L : List (Int × Int × Int)) : Prop := ∀ j, j < L.length → w.rangeAt g (3 * j) (avl (L.getD j (0, 0, 0)).1 (L.getD j (0, 0, 0)).2.1 (L.getD j (0, 0, 0)).2.2)
theorem As.below {w w' : World} {g B : Nat} {L : List (Int × Int × Int)} (h : As w g L) (hb : Below B w w') (hg : g < B) : As w' g L := by
  intro j hj k v hk
  rw [hb.cell (p := ⟨g, 3 * j + k, none⟩) hg]; exact h j hj k v hk
theorem As.cells {w : World} {g : Nat} {L : List (Int × Int × Int)} (h : As w g L) (j : Nat) (hj : j < L.length) : w.cell? ⟨g, 3 * j, none⟩ = some (.int .i64 (L.getD j (0, 0, 0)).1) ∧ w.cell? ⟨g, 3 * j + 1, none⟩ = some (.int .u16 (L.getD j (0, 0, 0)).2.1) ∧ w.cell? ⟨g, 3 * j + 2, none⟩ = some (.int .u64 (L.getD j (0, 0, 0)).2.2) :=
  ⟨h j hj 0 _ rfl, h j hj 1 _ rfl, h j hj 2 _ rfl⟩
theorem as_of_row {w : World} {g : Nat} {fr : Nat × Nat} {m1 s1 x1 m2 s2 x2 m3 s3 x3 m4 s4 x4 m5 s5 x5 m6 s6 x6 : Int} (h : w.heap[g]? = some (.cells #[.int .i64 m1, .int .u16 s1, .int .u64 x1, .int .i64 m2, .int .u16 s2, .int .u64 x2, .int .i64 m3, .int .u16 s3, .int .u64 x3, .int .i64 m4, .int .u16 s4, .int .u64 x4, .int .i64 m5, .int .u16 s5, .int .u64 x5, .int .i64 m6, .int .u16 s6, .int .u64 x6] 53 fr)) :
    As w g [(m1, s1, x1), (m2, s2, x2), (m3, s3, x3), (m4, s4, x4), (m5, s5, x5), (m6, s6, x6)] := by
  intro j hj k v hk
  rw [cell_of_row w g _ _ _ _ h]
  simp at hj
  have hk3 : k < 3 := by
    by_cases hq : k < 3
    · exact hq
    · rw [List.getElem?_eq_none (by simp [avl]; omega)] at hk; cases hk
  rcases (by omega : j = 0 ∨ j = 1 ∨ j = 2 ∨ j = 3 ∨ j = 4 ∨ j = 5) with rfl | rfl | rfl | rfl | rfl | rfl <;> rcases (by omega : k = 0 ∨ k = 1 ∨ k = 2) with rfl | rfl | rfl <;> exact hk

theorem cint_cases (x y : Int) : Lib.compareInt x y = -1 ∧ x < y ∨ Lib.compareInt x y = 0 ∧ x = y ∨ Lib.compareInt x y = 1 ∧ y < x := by
  unfold Lib.compareInt; (repeat' split) <;> omega
def ltA (m s e m' s' e' : Int) : Prop := m < m' ∨ m = m' ∧ (s < s' ∨ s = s' ∧ e < e')
theorem cmpA_cases (m s e m' s' e' : Int) : cmpA m s e m' s' e' = -1 ∧ ltA m s e m' s' e' ∨ cmpA m s e m' s' e' = 0 ∧ m = m' ∧ s = s' ∧ e = e' ∨ cmpA m s e m' s' e' = 1 ∧ ltA m' s' e' m s e := by
  unfold cmpA orA ltA
  rcases cint_cases m m' with ⟨h1, h2⟩ | ⟨h1, h2⟩ | ⟨h1, h2⟩ <;> rcases cint_cases s s' with ⟨h3, h4⟩ | ⟨h3, h4⟩ | ⟨h3, h4⟩ <;> rcases cint_cases e e' with ⟨h5, h6⟩ | ⟨h5, h6⟩ | ⟨h5, h6⟩ <;> rw [h1, h3, h5] <;> simp <;> omega
theorem ord_cases (ma sa xa mb sb xb mc sc xc : Int) :
    cmpA mb sb xb ma sa xa = - cmpA ma sa xa mb sb xb ∧
    (cmpA ma sa xa mb sb xb = -1 ∧ ltA ma sa xa mb sb xb ∨ cmpA ma sa xa mb sb xb = 0 ∧ ma = mb ∧ sa = sb ∧ xa = xb ∨ cmpA ma sa xa mb sb xb = 1 ∧ ltA mb sb xb ma sa xa) ∧
    (cmpA mb sb xb mc sc xc = -1 ∨ cmpA mb sb xb mc sc xc = 0 ∨ cmpA mb sb xb mc sc xc = 1) ∧
    (cmpA ma sa xa mc sc xc = -1 ∨ cmpA ma sa xa mc sc xc = 0 ∨ cmpA ma sa xa mc sc xc = 1) ∧
    ¬(cmpA ma sa xa mb sb xb ≤ 0 ∧ cmpA mb sb xb mc sc xc ≤ 0 ∧ cmpA ma sa xa mc sc xc > 0) := by
  have h1 := cmpA_cases mb sb xb ma sa xa
  have h2 := cmpA_cases ma sa xa mb sb xb
  have h3 := cmpA_cases mb sb xb mc sc xc
  have h4 := cmpA_cases ma sa xa mc sc xc
  refine ⟨?_, h2, ?_, ?_, ?_⟩
  · unfold ltA at h1 h2; clear h3 h4; omega
  · clear h1 h2 h4; rcases h3 with h | h | h <;> simp [h.1]
  · clear h1 h2 h3; rcases h4 with h | h | h <;> simp [h.1]
  · clear h1
    rintro ⟨i1, i2, i3⟩
    unfold ltA at *
    rcases h2 with ⟨e1, h2⟩ | ⟨e1, h2⟩ | ⟨e1, h2⟩ <;> rcases h3 with ⟨e2, h3⟩ | ⟨e2, h3⟩ | ⟨e2, h3⟩ <;> rcases h4 with ⟨e3, h4⟩ | ⟨e3, h4⟩ | ⟨e3, h4⟩ <;> first | (rw [e1] at i1; omega) | (rw [e2] at i2; omega) | (rw [e3] at i3; omega) | omega

set_option maxHeartbeats 8000000 in
set_option maxRecDepth 100000 in
theorem order_walk (m1 s1 x1 m2 s2 x2 m3 s3 x3 : Int) (a : Option Addr) (len cap : Nat) (w : World) (h1 : Ad3 m1 s1 x1) (h2 : Ad3 m2 s2 x2) (h3 : Ad3 m3 s3 x3) (hI : IsI w a len cap) (G : GL w) :
    Calls Tryd.prog 9 #[av m1 s1 x1, av m2 s2 x2, av m3 s3 x3, .slice a len cap] w (RetS (.bool true) w) := by
  simp only [av]
  go_enter Tryd.func9, Tryd.ntmps9
  go_wp2_with fail
  obtain ⟨h0, hh0⟩ : ∃ h, h = w.heap.size := ⟨_, rfl⟩
  have hB1 : Below w.heap.size w (((w.alloc (.cells #[.int .i64 m1, .int .u16 s1, .int .u64 x1] 53)).alloc (.cells #[.int .i64 m2, .int .u16 s2, .int .u64 x2] 53)).alloc (.cells #[.int .i64 m3, .int .u16 s3, .int .u64 x3] 53)) :=
    (((Below.refl _ w).alloc (Nat.le_refl _) _).alloc (by simp) _).alloc (by simp; omega) _
  have hA1 : Ar (((w.alloc (.cells #[.int .i64 m1, .int .u16 s1, .int .u64 x1] 53)).alloc (.cells #[.int .i64 m2, .int .u16 s2, .int .u64 x2] 53)).alloc (.cells #[.int .i64 m3, .int .u16 s3, .int .u64 x3] 53)) w.heap.size m1 s1 x1 :=
    (Ar.of_heap (heap_alloc_new w _)).below (((Below.refl (w.heap.size + 1) _).alloc (by simp) _).alloc (by simp) _) (by omega)
  have hA2 : Ar (((w.alloc (.cells #[.int .i64 m1, .int .u16 s1, .int .u64 x1] 53)).alloc (.cells #[.int .i64 m2, .int .u16 s2, .int .u64 x2] 53)).alloc (.cells #[.int .i64 m3, .int .u16 s3, .int .u64 x3] 53)) (w.heap.size + 1) m2 s2 x2 := by
    have := (Ar.of_heap (heap_alloc_new (w.alloc (.cells #[.int .i64 m1, .int .u16 s1, .int .u64 x1] 53)) (.cells #[.int .i64 m2, .int .u16 s2, .int .u64 x2] 53)))
    rw [World.size_alloc] at this
    exact this.below ((Below.refl (w.heap.size + 1 + 1) _).alloc (by simp) _) (by omega)
  have hA3 : Ar (((w.alloc (.cells #[.int .i64 m1, .int .u16 s1, .int .u64 x1] 53)).alloc (.cells #[.int .i64 m2, .int .u16 s2, .int .u64 x2] 53)).alloc (.cells #[.int .i64 m3, .int .u16 s3, .int .u64 x3] 53)) (w.heap.size + 1 + 1) m3 s3 x3 := by
    have := (Ar.of_heap (heap_alloc_new ((w.alloc (.cells #[.int .i64 m1, .int .u16 s1, .int .u64 x1] 53)).alloc (.cells #[.int .i64 m2, .int .u16 s2, .int .u64 x2] 53)) (.cells #[.int .i64 m3, .int .u16 s3, .int .u64 x3] 53)))
    rw [World.size_alloc, World.size_alloc] at this
    exact this
  have hz1 : (((w.alloc (.cells #[.int .i64 m1, .int .u16 s1, .int .u64 x1] 53)).alloc (.cells #[.int .i64 m2, .int .u16 s2, .int .u64 x2] 53)).alloc (.cells #[.int .i64 m3, .int .u16 s3, .int .u64 x3] 53)).heap.size = w.heap.size + 1 + 1 + 1 := by simp
  have hI1 := hI.below hB1
  generalize ((w.alloc _).alloc _).alloc _ = w1 at hB1 hA1 hA2 hA3 hz1 hI1 ⊢
  simp only [← hh0] at hA1 hA2 hA3 ⊢
  have hh1 : w.heap.size ≤ h0 := by omega
  have hh2 : h0 ≤ w.heap.size := by omega
  clear hh0
  with_reducible refine (new_any a len cap w1 hI1).mono ?_
  rintro e1 w2 ⟨g, rfl, hg, hT2, hb2⟩
  have hB1 := hB1.trans (hb2.mono hB1.size)
  have hA1 := hA1.below hb2 (by omega)
  have hA2 := hA2.below hb2 (by omega)
  have hA3 := hA3.below hb2 (by omega)
  have hgl : h0 + 3 ≤ g := by omega
  clear hb2 hI1 hI hz1 hg
  have hT2d := hT2.below ((Below.refl w2.heap.size w2).drew)
  go_wp2_with fail
  refine wp_region_held_drew (S := fun w' => Below w.heap.size w w' ∧ Ar w' h0 m1 s1 x1 ∧ Ar w' (h0 + 1) m2 s2 x2 ∧ Ar w' (h0 + 1 + 1) m3 s3 x3) (by kernel_rfl) (⟨below_drewN hB1 1, hA1.drew, hA2.drew, hA3.drew⟩) (fun hHeld => ?_)
  refine wpAnyH_addr (g := h0) (o := 0) (m := m1) (s := s1) (e := x1) (i := 0) (oi := ⟨some 21, _, _, _, _, _⟩) rfl (by kernel_rfl) (by kernel_rfl) (by kernel_rfl) (fun _ _ _ h => h) (by rfl) (.tmp 4) rfl rfl  (fun _ h => h.2.1) hHeld ?_
  try simp only [Act.put, List.setIfInBounds_toArray, List.set_cons_zero, List.set_cons_succ]
  refine wpAnyH_addr (g := h0 + 1) (o := 0) (m := m2) (s := s2) (e := x2) (i := 1) (oi := ⟨some 22, _, _, _, _, _⟩) rfl (by kernel_rfl) (by kernel_rfl) (by kernel_rfl) (fun _ _ _ h => h) (by rfl) (.tmp 5) rfl rfl  (fun _ h => h.2.2.1) hHeld ?_
  try simp only [Act.put, List.setIfInBounds_toArray, List.set_cons_zero, List.set_cons_succ]
  refine wpAnyH_addr (g := h0 + 1 + 1) (o := 0) (m := m3) (s := s3) (e := x3) (i := 2) (oi := ⟨some 23, _, _, _, _, _⟩) rfl (by kernel_rfl) (by kernel_rfl) (by kernel_rfl) (fun _ _ _ h => h) (by rfl) (.tmp 6) rfl rfl  (fun _ h => h.2.2.2) hHeld ?_
  try simp only [Act.put, List.setIfInBounds_toArray, List.set_cons_zero, List.set_cons_succ]
  refine wpAnyH_take (i := 3) (oi := ⟨some 24, _, _, _, _, _⟩) (v := ?_) rfl (by kernel_rfl) (by kernel_rfl) (by kernel_rfl) (fun _ _ _ h => h) (Or.inl ⟨by rfl, ?_⟩) hHeld ?_
  rotate_left
  · intro w hSw; go_simp; try with_reducible rfl
  try simp only [Act.put, List.setIfInBounds_toArray, List.set_cons_zero, List.set_cons_succ]
  refine wpAnyH_take (i := 5) (oi := ⟨some 26, _, _, _, _, _⟩) (v := ?_) rfl (by kernel_rfl) (by kernel_rfl) (by kernel_rfl) (fun _ _ _ h => h) (Or.inl ⟨by rfl, ?_⟩) hHeld ?_
  rotate_left
  · intro w hSw; go_simp; try with_reducible rfl
  try simp only [Act.put, List.setIfInBounds_toArray, List.set_cons_zero, List.set_cons_succ]
  refine wpAnyH_take (i := 7) (oi := ⟨some 28, _, _, _, _, _⟩) (v := ?_) rfl (by kernel_rfl) (by kernel_rfl) (by kernel_rfl) (fun _ _ _ h => h) (Or.inl ⟨by rfl, ?_⟩) hHeld ?_
  rotate_left
  · intro w hSw; go_simp; try with_reducible rfl
  try simp only [Act.put, List.setIfInBounds_toArray, List.set_cons_zero, List.set_cons_succ]
  refine wpAnyH_ready (rs := [4]) (by kernel_rfl) (by simp) ?_
  refine AllReadyH.cons (o := ⟨some 25, _, _, _, _, _⟩) rfl (fun K hK => ?_) AllReadyH.nil
  go_simp
  with_reducible refine (taddr_any g _ hT2d).mono ?_
  rintro e4 w4 ⟨m4, s4, x4, rfl, hA4, hT4, hO4⟩
  have hL4 := hHeld
  have hg4 := hT2d.lt
  have hB4 := hL4.1.trans (hO4.below (by omega) hL4.1.size)
  have hA1 := hL4.2.1.only hO4 (by omega) (by omega)
  have hA2 := hL4.2.2.1.only hO4 (by omega) (by omega)
  have hA3 := hL4.2.2.2.only hO4 (by omega) (by omega)
  go_wp2_with fail
  clear hHeld
  refine hK.out _ _ (⟨hB4, hA1, hA2, hA3⟩) (fun hHeld => ?_)
  clear hK K
  try simp only [Act.put, List.setIfInBounds_toArray, List.set_cons_zero, List.set_cons_succ]
  refine wpAnyH_ready (rs := [6]) (by kernel_rfl) (by simp) ?_
  refine AllReadyH.cons (o := ⟨some 27, _, _, _, _, _⟩) rfl (fun K hK => ?_) AllReadyH.nil
  go_simp
  with_reducible refine (taddr_any g _ hT4).mono ?_
  rintro e5 w5 ⟨m5, s5, x5, rfl, hA5, hT5, hO5⟩
  have hL5 := hHeld
  have hg5 := hT4.lt
  have hB5 := hL5.1.trans (hO5.below (by omega) hL5.1.size)
  have hA1 := hL5.2.1.only hO5 (by omega) (by omega)
  have hA2 := hL5.2.2.1.only hO5 (by omega) (by omega)
  have hA3 := hL5.2.2.2.only hO5 (by omega) (by omega)
  go_wp2_with fail
  clear hHeld
  refine hK.out _ _ (⟨hB5, hA1, hA2, hA3⟩) (fun hHeld => ?_)
  clear hK K
  try simp only [Act.put, List.setIfInBounds_toArray, List.set_cons_zero, List.set_cons_succ]
  refine wpAnyH_ready (rs := [8]) (by kernel_rfl) (by simp) ?_
  refine AllReadyH.cons (o := ⟨some 29, _, _, _, _, _⟩) rfl (fun K hK => ?_) AllReadyH.nil
  go_simp
  with_reducible refine (taddr_any g _ hT5).mono ?_
  rintro e6 w6 ⟨m6, s6, x6, rfl, hA6, hT6, hO6⟩
  have hL6 := hHeld
  have hg6 := hT5.lt
  have hB6 := hL6.1.trans (hO6.below (by omega) hL6.1.size)
  have hA1 := hL6.2.1.only hO6 (by omega) (by omega)
  have hA2 := hL6.2.2.1.only hO6 (by omega) (by omega)
  have hA3 := hL6.2.2.2.only hO6 (by omega) (by omega)
  go_wp2_with fail
  clear hHeld
  refine hK.out _ _ (⟨hB6, hA1, hA2, hA3⟩) (fun hHeld => ?_)
  clear hK K
  try simp only [Act.put, List.setIfInBounds_toArray, List.set_cons_zero, List.set_cons_succ]
  refine wpAnyH_ready (rs := [9]) (by kernel_rfl) (by simp) ?_
  refine AllReadyH.cons (o := ⟨some 30, _, _, _, _, _⟩) rfl (fun K hK => ?_) AllReadyH.nil
  simp only [av]
  go_simp
  have hB7 := hB6.alloc hB6.size (.cells #[.int .i64 m1, .int .u16 s1, .int .u64 x1, .int .i64 m2, .int .u16 s2, .int .u64 x2, .int .i64 m3, .int .u16 s3, .int .u64 x3, .int .i64 m4, .int .u16 s4, .int .u64 x4, .int .i64 m5, .int .u16 s5, .int .u64 x5, .int .i64 m6, .int .u16 s6, .int .u64 x6] 53)
  have hx7 := (Below.refl w6.heap.size w6).alloc (Nat.le_refl _) (.cells #[.int .i64 m1, .int .u16 s1, .int .u64 x1, .int .i64 m2, .int .u16 s2, .int .u64 x2, .int .i64 m3, .int .u16 s3, .int .u64 x3, .int .i64 m4, .int .u16 s4, .int .u64 x4, .int .i64 m5, .int .u16 s5, .int .u64 x5, .int .i64 m6, .int .u16 s6, .int .u64 x6] 53)
  have hs6 := hB6.size
  have hglt := hT6.lt
  have hr7 := heap_alloc_new w6 (.cells #[.int .i64 m1, .int .u16 s1, .int .u64 x1, .int .i64 m2, .int .u16 s2, .int .u64 x2, .int .i64 m3, .int .u16 s3, .int .u64 x3, .int .i64 m4, .int .u16 s4, .int .u64 x4, .int .i64 m5, .int .u16 s5, .int .u64 x5, .int .i64 m6, .int .u16 s6, .int .u64 x6] 53)
  have hl7 := as_of_row hr7
  have hz7 : (w6.alloc (.cells #[.int .i64 m1, .int .u16 s1, .int .u64 x1, .int .i64 m2, .int .u16 s2, .int .u64 x2, .int .i64 m3, .int .u16 s3, .int .u64 x3, .int .i64 m4, .int .u16 s4, .int .u64 x4, .int .i64 m5, .int .u16 s5, .int .u64 x5, .int .i64 m6, .int .u16 s6, .int .u64 x6] 53)).heap.size = w6.heap.size + 1 := by simp
  clear hHeld
  refine hK.out _ _ (⟨hB7, hA1.below hx7 (by omega), hA2.below hx7 (by omega), hA3.below hx7 (by omega)⟩) (fun hHeld => ?_)
  clear hK K
  try simp only [Act.put, List.setIfInBounds_toArray, List.set_cons_zero, List.set_cons_succ]
  refine wpAnyH_take (i := 10) (oi := ⟨some 10, _, _, _, _, _⟩) (v := ?_) rfl (by kernel_rfl) (by kernel_rfl) (by kernel_rfl) (fun _ _ _ h => h) (Or.inl ⟨by rfl, ?_⟩) hHeld ?_
  rotate_left
  · intro w hSw; go_simp; try with_reducible rfl
  try simp only [Act.put, List.setIfInBounds_toArray, List.set_cons_zero, List.set_cons_succ]
  refine wpAnyH_done (by kernel_rfl) ?_ _
  obtain ⟨L, hLd⟩ : ∃ L, L = [(m1, s1, x1), (m2, s2, x2), (m3, s3, x3), (m4, s4, x4), (m5, s5, x5), (m6, s6, x6)] := ⟨_, rfl⟩
  have hL6 : L.length = 6 := by rw [hLd]; rfl
  rw [← hLd] at hl7
  clear hLd hA1 hA2 hA3 hHeld hr7 hx7 hT2d hT4 hT5 hT6 hO4 hO5 hO6 hB4 hB5 hL4 hL5 hA4 hA5 hA6
  generalize w6.heap.size = gs at *
  generalize w6.alloc _ = w7 at *
  go_wp2_with fail
  go_loopw [11] (fun i wr => ∃ k : Nat, k ≤ 4 ∧ i = .int .i64 k ∧ Below w7.heap.size w7 wr) (fun i _ => 4 - (intOf i).toNat)
  case atStart => exact ⟨0, by omega, rfl, Below.refl _ _⟩
  case round =>
    obtain ⟨k, hk, rfl, hbr⟩ := hrel
    have hlr := hl7.below hbr (by omega)
    by_cases hlt : k < 4
    · obtain ⟨a0, a1, a2⟩ := hlr.cells k (by omega)
      obtain ⟨b0, b1, b2⟩ := hlr.cells (k + 1) (by omega)
      obtain ⟨d0, d1, d2⟩ := hlr.cells (k + 2) (by omega)
      generalize L.getD k (0, 0, 0) = A at a0 a1 a2
      generalize L.getD (k + 1) (0, 0, 0) = B at b0 b1 b2
      generalize L.getD (k + 2) (0, 0, 0) = C at d0 d1 d2
      obtain ⟨ma, sa, xa⟩ := A
      obtain ⟨mb, sb, xb⟩ := B
      obtain ⟨mc, sc, xc⟩ := C
      dsimp only at a0 a1 a2 b0 b1 b2 d0 d1 d2
      rw [Nat.mul_comm] at a0 a1 a2 b0 b1 b2 d0 d1 d2
      have hgs : gs < wr.heap.size := by have := hbr.size; omega
      obtain ⟨a0p, a0q, a0r⟩ := old3 a0 hgs
      obtain ⟨a1p, a1q, a1r⟩ := old3 a1 hgs
      obtain ⟨a2p, a2q, a2r⟩ := old3 a2 hgs
      obtain ⟨b0p, b0q, b0r⟩ := old3 b0 hgs
      obtain ⟨b1p, b1q, b1r⟩ := old3 b1 hgs
      obtain ⟨b2p, b2q, b2r⟩ := old3 b2 hgs
      obtain ⟨d0p, d0q, d0r⟩ := old3 d0 hgs
      obtain ⟨d1p, d1q, d1r⟩ := old3 d1 hgs
      obtain ⟨d2p, d2q, d2r⟩ := old3 d2 hgs
      go_upto_region 6 with (fail)
      go_cut [12, 13, 14] (fun p q r wc => ∃ ba bb bc, p = .pointer (some ⟨ba, 0, none⟩) ∧ q = .pointer (some ⟨bb, 0, none⟩) ∧ r = .pointer (some ⟨bc, 0, none⟩) ∧ Ar wc ba ma sa xa ∧ Ar wc bb mb sb xb ∧ Ar wc bc mc sc xc ∧ Below w7.heap.size w7 wc)
      case first =>
        go_big_region
        all_goals go_wp2_with fail
        all_goals go_meet
        all_goals refine ⟨_, _, _, rfl, rfl, rfl, ?_, ?_, ?_, hbr.trans ((tri wr _ _ _ _ _ _ _ _ _).2.2.2.mono hbr.size)⟩
        all_goals first | exact (tri wr _ _ _ _ _ _ _ _ _).1 | exact (tri wr _ _ _ _ _ _ _ _ _).2.1 | exact (tri wr _ _ _ _ _ _ _ _ _).2.2.1
      case rest =>
        obtain ⟨ba, bb, bc, rfl, rfl, rfl, A6, B6, C6, hB6⟩ := hcut
        go_wp2_with fail
        refine wp_region_held_drew (S := fun w' => Below w7.heap.size w7 w' ∧ Ar w' ba ma sa xa ∧ Ar w' bb mb sb xb ∧ Ar w' bc mc sc xc) (by kernel_rfl) (⟨below_drewN hB6 1, A6.drew, B6.drew, C6.drew⟩) (fun hHeld => ?_)
        refine wpAnyH_addr (g := ba) (o := 0) (m := ma) (s := sa) (e := xa) (i := 0) (oi := ⟨some 52, _, _, _, _, _⟩) rfl (by kernel_rfl) (by kernel_rfl) (by kernel_rfl) (fun _ _ _ h => h) (by rfl) (.tmp 12) rfl rfl  (fun _ h => h.2.1) hHeld ?_
        try simp only [Act.put, List.setIfInBounds_toArray, List.set_cons_zero, List.set_cons_succ]
        refine wpAnyH_addr (g := bb) (o := 0) (m := mb) (s := sb) (e := xb) (i := 1) (oi := ⟨some 53, _, _, _, _, _⟩) rfl (by kernel_rfl) (by kernel_rfl) (by kernel_rfl) (fun _ _ _ h => h) (by rfl) (.tmp 13) rfl rfl  (fun _ h => h.2.2.1) hHeld ?_
        try simp only [Act.put, List.setIfInBounds_toArray, List.set_cons_zero, List.set_cons_succ]
        refine wpAnyH_addr (g := bb) (o := 0) (m := mb) (s := sb) (e := xb) (i := 3) (oi := ⟨some 55, _, _, _, _, _⟩) rfl (by kernel_rfl) (by kernel_rfl) (by kernel_rfl) (fun _ _ _ h => h) (by rfl) (.tmp 13) rfl rfl  (fun _ h => h.2.2.1) hHeld ?_
        try simp only [Act.put, List.setIfInBounds_toArray, List.set_cons_zero, List.set_cons_succ]
        refine wpAnyH_addr (g := ba) (o := 0) (m := ma) (s := sa) (e := xa) (i := 4) (oi := ⟨some 56, _, _, _, _, _⟩) rfl (by kernel_rfl) (by kernel_rfl) (by kernel_rfl) (fun _ _ _ h => h) (by rfl) (.tmp 12) rfl rfl  (fun _ h => h.2.1) hHeld ?_
        try simp only [Act.put, List.setIfInBounds_toArray, List.set_cons_zero, List.set_cons_succ]
        refine wpAnyH_addr (g := bb) (o := 0) (m := mb) (s := sb) (e := xb) (i := 6) (oi := ⟨some 58, _, _, _, _, _⟩) rfl (by kernel_rfl) (by kernel_rfl) (by kernel_rfl) (fun _ _ _ h => h) (by rfl) (.tmp 13) rfl rfl  (fun _ h => h.2.2.1) hHeld ?_
        try simp only [Act.put, List.setIfInBounds_toArray, List.set_cons_zero, List.set_cons_succ]
        refine wpAnyH_addr (g := bc) (o := 0) (m := mc) (s := sc) (e := xc) (i := 7) (oi := ⟨some 59, _, _, _, _, _⟩) rfl (by kernel_rfl) (by kernel_rfl) (by kernel_rfl) (fun _ _ _ h => h) (by rfl) (.tmp 14) rfl rfl  (fun _ h => h.2.2.2) hHeld ?_
        try simp only [Act.put, List.setIfInBounds_toArray, List.set_cons_zero, List.set_cons_succ]
        refine wpAnyH_addr (g := ba) (o := 0) (m := ma) (s := sa) (e := xa) (i := 9) (oi := ⟨some 61, _, _, _, _, _⟩) rfl (by kernel_rfl) (by kernel_rfl) (by kernel_rfl) (fun _ _ _ h => h) (by rfl) (.tmp 12) rfl rfl  (fun _ h => h.2.1) hHeld ?_
        try simp only [Act.put, List.setIfInBounds_toArray, List.set_cons_zero, List.set_cons_succ]
        refine wpAnyH_addr (g := bc) (o := 0) (m := mc) (s := sc) (e := xc) (i := 10) (oi := ⟨some 62, _, _, _, _, _⟩) rfl (by kernel_rfl) (by kernel_rfl) (by kernel_rfl) (fun _ _ _ h => h) (by rfl) (.tmp 14) rfl rfl  (fun _ h => h.2.2.2) hHeld ?_
        try simp only [Act.put, List.setIfInBounds_toArray, List.set_cons_zero, List.set_cons_succ]
        refine wpAnyH_ready (rs := [2]) (by kernel_rfl) (by simp) ?_
        refine AllReadyH.cons (o := ⟨some 54, _, _, _, _, _⟩) rfl (fun K hK => ?_) AllReadyH.nil
        go_simp
        have hP2 := hHeld
        with_reducible refine (compare_any ma sa xa mb sb xb _).mono ?_
        rintro e2 v2 ⟨rfl, hb2⟩
        have hQ2 := hP2.1.trans (hb2.mono hP2.1.size)
        have k12 := hP2.2.1.below hb2 hP2.2.1.lt
        have k22 := hP2.2.2.1.below hb2 hP2.2.2.1.lt
        have k32 := hP2.2.2.2.below hb2 hP2.2.2.2.lt
        go_wp2_with fail
        clear hHeld
        refine hK.out _ _ (⟨hQ2, k12, k22, k32⟩) (fun hHeld => ?_)
        clear hK K
        try simp only [Act.put, List.setIfInBounds_toArray, List.set_cons_zero, List.set_cons_succ]
        refine wpAnyH_ready (rs := [5]) (by kernel_rfl) (by simp) ?_
        refine AllReadyH.cons (o := ⟨some 57, _, _, _, _, _⟩) rfl (fun K hK => ?_) AllReadyH.nil
        go_simp
        have hP5 := hHeld
        with_reducible refine (compare_any mb sb xb ma sa xa _).mono ?_
        rintro e5 v5 ⟨rfl, hb5⟩
        have hQ5 := hP5.1.trans (hb5.mono hP5.1.size)
        have k15 := hP5.2.1.below hb5 hP5.2.1.lt
        have k25 := hP5.2.2.1.below hb5 hP5.2.2.1.lt
        have k35 := hP5.2.2.2.below hb5 hP5.2.2.2.lt
        go_wp2_with fail
        clear hHeld
        refine hK.out _ _ (⟨hQ5, k15, k25, k35⟩) (fun hHeld => ?_)
        clear hK K
        try simp only [Act.put, List.setIfInBounds_toArray, List.set_cons_zero, List.set_cons_succ]
        refine wpAnyH_ready (rs := [8]) (by kernel_rfl) (by simp) ?_
        refine AllReadyH.cons (o := ⟨some 60, _, _, _, _, _⟩) rfl (fun K hK => ?_) AllReadyH.nil
        go_simp
        have hP8 := hHeld
        with_reducible refine (compare_any mb sb xb mc sc xc _).mono ?_
        rintro e8 v8 ⟨rfl, hb8⟩
        have hQ8 := hP8.1.trans (hb8.mono hP8.1.size)
        have k18 := hP8.2.1.below hb8 hP8.2.1.lt
        have k28 := hP8.2.2.1.below hb8 hP8.2.2.1.lt
        have k38 := hP8.2.2.2.below hb8 hP8.2.2.2.lt
        go_wp2_with fail
        clear hHeld
        refine hK.out _ _ (⟨hQ8, k18, k28, k38⟩) (fun hHeld => ?_)
        clear hK K
        try simp only [Act.put, List.setIfInBounds_toArray, List.set_cons_zero, List.set_cons_succ]
        refine wpAnyH_ready (rs := [11]) (by kernel_rfl) (by simp) ?_
        refine AllReadyH.cons (o := ⟨some 63, _, _, _, _, _⟩) rfl (fun K hK => ?_) AllReadyH.nil
        go_simp
        have hP11 := hHeld
        with_reducible refine (compare_any ma sa xa mc sc xc _).mono ?_
        rintro e11 v11 ⟨rfl, hb11⟩
        have hQ11 := hP11.1.trans (hb11.mono hP11.1.size)
        have k111 := hP11.2.1.below hb11 hP11.2.1.lt
        have k211 := hP11.2.2.1.below hb11 hP11.2.2.1.lt
        have k311 := hP11.2.2.2.below hb11 hP11.2.2.2.lt
        go_wp2_with fail
        clear hHeld
        refine hK.out _ _ (⟨hQ11, k111, k211, k311⟩) (fun hHeld => ?_)
        clear hK K
        try simp only [Act.put, List.setIfInBounds_toArray, List.set_cons_zero, List.set_cons_succ]
        refine wpAnyH_take (i := 12) (oi := ⟨some 15, _, _, _, _, _⟩) (v := ?_) rfl (by kernel_rfl) (by kernel_rfl) (by kernel_rfl) (fun _ _ _ h => h) (Or.inl ⟨by rfl, ?_⟩) hHeld ?_
        rotate_left
        · intro w hSw; go_simp; try with_reducible rfl
        try simp only [Act.put, List.setIfInBounds_toArray, List.set_cons_zero, List.set_cons_succ]
        refine wpAnyH_take (i := 13) (oi := ⟨some 16, _, _, _, _, _⟩) (v := ?_) rfl (by kernel_rfl) (by kernel_rfl) (by kernel_rfl) (fun _ _ _ h => h) (Or.inl ⟨by rfl, ?_⟩) hHeld ?_
        rotate_left
        · intro w hSw; go_simp; try with_reducible rfl
        try simp only [Act.put, List.setIfInBounds_toArray, List.set_cons_zero, List.set_cons_succ]
        refine wpAnyH_take (i := 14) (oi := ⟨some 17, _, _, _, _, _⟩) (v := ?_) rfl (by kernel_rfl) (by kernel_rfl) (by kernel_rfl) (fun _ _ _ h => h) (Or.inl ⟨by rfl, ?_⟩) hHeld ?_
        rotate_left
        · intro w hSw; go_simp; try with_reducible rfl
        try simp only [Act.put, List.setIfInBounds_toArray, List.set_cons_zero, List.set_cons_succ]
        refine wpAnyH_take (i := 15) (oi := ⟨some 18, _, _, _, _, _⟩) (v := ?_) rfl (by kernel_rfl) (by kernel_rfl) (by kernel_rfl) (fun _ _ _ h => h) (Or.inl ⟨by rfl, ?_⟩) hHeld ?_
        rotate_left
        · intro w hSw; go_simp; try with_reducible rfl
        try simp only [Act.put, List.setIfInBounds_toArray, List.set_cons_zero, List.set_cons_succ]
        refine wpAnyH_done (by kernel_rfl) ?_ _
        clear hQ2 hQ5 hQ8 hP2 hP5 hP8 hP11
        obtain ⟨ab, hab⟩ : ∃ z, z = cmpA ma sa xa mb sb xb := ⟨_, rfl⟩
        obtain ⟨bc, hbc⟩ : ∃ z, z = cmpA mb sb xb mc sc xc := ⟨_, rfl⟩
        obtain ⟨ac, hac⟩ : ∃ z, z = cmpA ma sa xa mc sc xc := ⟨_, rfl⟩
        have O := ord_cases ma sa xa mb sb xb mc sc xc
        simp only [← hab, ← hbc, ← hac] at O ⊢
        obtain ⟨o1, o2, o3, o4, o5⟩ := O
        rw [o1]
        clear hab hbc hac o1 L hL6 hl7 hlr
        obtain ⟨A60, A61, A62⟩ := k111.cells
        obtain ⟨B60, B61, B62⟩ := k211.cells
        clear hL6
        rcases o2 with ⟨rfl, q1⟩ | ⟨rfl, rfl, rfl, rfl⟩ | ⟨rfl, q1⟩
        all_goals go_wp2_with fail
        all_goals try (exfalso; unfold ltA at q1; omega)
        all_goals try (exfalso; omega)
        all_goals (go_roundw; (case rel => exact ⟨k + 1, by omega, by go_num, hQ11⟩); (case measure => simp [intOf]; omega))
    · have : k = 4 := by omega
      subst this
      go_wp2_with fail
      with_reducible refine (known_any wr (G.below (hB7.trans (hbr.mono hB7.size)) G.big)).mono ?_
      rintro e w8 ⟨rfl, hb8⟩
      go_wp2_with fail
      go_ret
      exact ⟨rfl, (hB7.trans (hbr.mono hB7.size)).trans (hb8.mono (hB7.trans (hbr.mono hB7.size)).size)⟩
end Go.Proofs.YtogiignhjmhjnaaDoor
