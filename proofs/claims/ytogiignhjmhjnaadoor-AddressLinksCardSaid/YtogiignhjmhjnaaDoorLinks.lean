/-
  Link addresses: the program and the reference agree.
-/
import Derived.Test.YtogiignhjmhjnaaDoorOrder
import Derived.Test.YtogiignhjmhjnaaDoorRefLL
import Derived.Test.YtogiignhjmhjnaaDoorRefCmp
import Derived.Test.YtogiignhjmhjnaaDoorIpReg
import Derived.Test.YtogiignhjmhjnaaDoorIpEq
import Derived.Test.YtogiignhjmhjnaaDoorIpMore
namespace Go.Proofs.YtogiignhjmhjnaaDoor
open Go.RowKit

theorem Ry.lt {w : World} {g : Nat} {l : List UInt8} (h : Ry w g l) (hl : l.length = 16) : g < w.heap.size := by
  have h0 : w.cell? ⟨g, 0 + 0, none⟩ = some (bv (l.getD 0 0)) := h 0 _ (by cases l with | nil => simp at hl | cons x r => rfl)
  simp only [World.cell?] at h0
  split at h0
  · rename_i hh; exact (Array.getElem?_eq_some_iff.1 hh).1
  · cases h0
theorem Ry.drew {w : World} {g : Nat} {l : List UInt8} (h : Ry w g l) : Ry w.drew g l := h
theorem as_of_row4 {w : World} {g : Nat} {fr : Nat × Nat} {m1 s1 x1 m2 s2 x2 m3 s3 x3 m4 s4 x4 : Int} (h : w.heap[g]? = some (.cells #[.int .i64 m1, .int .u16 s1, .int .u64 x1, .int .i64 m2, .int .u16 s2, .int .u64 x2, .int .i64 m3, .int .u16 s3, .int .u64 x3, .int .i64 m4, .int .u16 s4, .int .u64 x4] 53 fr)) :
    As w g [(m1, s1, x1), (m2, s2, x2), (m3, s3, x3), (m4, s4, x4)] := by
  intro j hj k v hk
  rw [cell_of_row w g _ _ _ _ h]
  simp at hj
  have hk3 : k < 3 := by
    by_cases hq : k < 3
    · exact hq
    · rw [List.getElem?_eq_none (by simp [avl]; omega)] at hk; cases hk
  rcases (by omega : j = 0 ∨ j = 1 ∨ j = 2 ∨ j = 3) with rfl | rfl | rfl | rfl <;> rcases (by omega : k = 0 ∨ k = 1 ∨ k = 2) with rfl | rfl | rfl <;> exact hk
theorem ip_neq (l : List UInt8) (hl : l.length = 16) (w : World) :
    (binOp .neq 23 (iv l) (iv l)).run Tryd.prog w = .ok (.bool false) w := by
  have h := ip_equal l l hl hl w
  unfold iv at h ⊢
  simp [binOp, h]

set_option maxHeartbeats 8000000 in
set_option maxRecDepth 100000 in
theorem links_walk (m1 s1 x1 m2 s2 x2 : Int) (a : Option Addr) (len cap : Nat) (w : World) (h1 : Ad3 m1 s1 x1) (h2 : Ad3 m2 s2 x2) (hI : IsI w a len cap) (G : GL w) :
    Calls Tryd.prog 5 #[av m1 s1 x1, av m2 s2 x2, .slice a len cap] w (RetS (.bool true) w) := by
  simp only [av]
  go_enter Tryd.func5, Tryd.ntmps5
  go_wp2_with fail
  obtain ⟨h0, hh0⟩ : ∃ h, h = w.heap.size := ⟨_, rfl⟩
  have hB1 := two_below w (.cells #[.int .i64 m1, .int .u16 s1, .int .u64 x1] 53) (.cells #[.int .i64 m2, .int .u16 s2, .int .u64 x2] 53)
  have hA1 : Ar ((w.alloc (.cells #[.int .i64 m1, .int .u16 s1, .int .u64 x1] 53)).alloc (.cells #[.int .i64 m2, .int .u16 s2, .int .u64 x2] 53)) w.heap.size m1 s1 x1 :=
    (Ar.of_heap (heap_alloc_new w _)).below ((Below.refl (w.heap.size + 1) _).alloc (by simp) _) (by omega)
  have hA2 : Ar ((w.alloc (.cells #[.int .i64 m1, .int .u16 s1, .int .u64 x1] 53)).alloc (.cells #[.int .i64 m2, .int .u16 s2, .int .u64 x2] 53)) (w.heap.size + 1) m2 s2 x2 := by
    have := (Ar.of_heap (heap_alloc_new (w.alloc (.cells #[.int .i64 m1, .int .u16 s1, .int .u64 x1] 53)) (.cells #[.int .i64 m2, .int .u16 s2, .int .u64 x2] 53)))
    rw [World.size_alloc] at this
    exact this
  have hz1 : ((w.alloc (.cells #[.int .i64 m1, .int .u16 s1, .int .u64 x1] 53)).alloc (.cells #[.int .i64 m2, .int .u16 s2, .int .u64 x2] 53)).heap.size = w.heap.size + 1 + 1 := by simp
  have hI1 := hI.below hB1
  generalize (w.alloc _).alloc _ = w1 at hB1 hA1 hA2 hz1 hI1 ⊢
  simp only [← hh0] at hA1 hA2 ⊢
  have hh1 : w.heap.size ≤ h0 := by omega
  have hh2 : h0 ≤ w.heap.size := by omega
  clear hh0
  with_reducible refine (new_any a len cap w1 hI1).mono ?_
  rintro e1 w2 ⟨g, rfl, hg, hT2, hb2⟩
  have hB1 := hB1.trans (hb2.mono hB1.size)
  have hA1 := hA1.below hb2 (by omega)
  have hA2 := hA2.below hb2 (by omega)
  have hgl : h0 + 2 ≤ g := by omega
  clear hb2 hI1 hI hz1 hg
  have hT2d := hT2.below ((Below.refl w2.heap.size w2).drew)
  go_wp2_with fail
  refine wp_region_held_drew (S := fun w' => Below w.heap.size w w' ∧ Ar w' h0 m1 s1 x1 ∧ Ar w' (h0 + 1) m2 s2 x2) (by kernel_rfl) (⟨below_drewN hB1 1, hA1.drew, hA2.drew⟩) (fun hHeld => ?_)
  refine wpAnyH_addr (g := h0) (o := 0) (m := m1) (s := s1) (e := x1) (i := 0) (oi := ⟨some 22, _, _, _, _, _⟩) rfl (by kernel_rfl) (by kernel_rfl) (by kernel_rfl) (fun _ _ _ h => h) (by rfl) (.tmp 3) rfl rfl  (fun _ h => h.2.1) hHeld ?_
  try simp only [Act.put, List.setIfInBounds_toArray, List.set_cons_zero, List.set_cons_succ]
  refine wpAnyH_addr (g := h0 + 1) (o := 0) (m := m2) (s := s2) (e := x2) (i := 1) (oi := ⟨some 23, _, _, _, _, _⟩) rfl (by kernel_rfl) (by kernel_rfl) (by kernel_rfl) (fun _ _ _ h => h) (by rfl) (.tmp 4) rfl rfl  (fun _ h => h.2.2) hHeld ?_
  try simp only [Act.put, List.setIfInBounds_toArray, List.set_cons_zero, List.set_cons_succ]
  refine wpAnyH_take (i := 2) (oi := ⟨some 24, _, _, _, _, _⟩) (v := ?_) rfl (by kernel_rfl) (by kernel_rfl) (by kernel_rfl) (fun _ _ _ h => h) (Or.inl ⟨by rfl, ?_⟩) hHeld ?_
  rotate_left
  · intro w hSw; go_simp; try with_reducible rfl
  try simp only [Act.put, List.setIfInBounds_toArray, List.set_cons_zero, List.set_cons_succ]
  refine wpAnyH_take (i := 4) (oi := ⟨some 26, _, _, _, _, _⟩) (v := ?_) rfl (by kernel_rfl) (by kernel_rfl) (by kernel_rfl) (fun _ _ _ h => h) (Or.inl ⟨by rfl, ?_⟩) hHeld ?_
  rotate_left
  · intro w hSw; go_simp; try with_reducible rfl
  try simp only [Act.put, List.setIfInBounds_toArray, List.set_cons_zero, List.set_cons_succ]
  refine wpAnyH_ready (rs := [3]) (by kernel_rfl) (by simp) ?_
  refine AllReadyH.cons (o := ⟨some 25, _, _, _, _, _⟩) rfl (fun K hK => ?_) AllReadyH.nil
  go_simp
  with_reducible refine (taddr_any g _ hT2d).mono ?_
  rintro e4 w4 ⟨m4, s4, x4, rfl, hD4, hT4, hO4⟩
  have hL4 := hHeld
  have hg4 := hT2d.lt
  have hB4 := hL4.1.trans (hO4.below (by omega) hL4.1.size)
  have hA1 := hL4.2.1.only hO4 (by omega) (by omega)
  have hA2 := hL4.2.2.only hO4 (by omega) (by omega)
  go_wp2_with fail
  clear hHeld
  refine hK.out _ _ (⟨hB4, hA1, hA2⟩) (fun hHeld => ?_)
  clear hK K
  try simp only [Act.put, List.setIfInBounds_toArray, List.set_cons_zero, List.set_cons_succ]
  refine wpAnyH_ready (rs := [5]) (by kernel_rfl) (by simp) ?_
  refine AllReadyH.cons (o := ⟨some 27, _, _, _, _, _⟩) rfl (fun K hK => ?_) AllReadyH.nil
  go_simp
  with_reducible refine (taddr_any g _ hT4).mono ?_
  rintro e5 w5 ⟨m5, s5, x5, rfl, hD5, hT5, hO5⟩
  have hL5 := hHeld
  have hg5 := hT4.lt
  have hB5 := hL5.1.trans (hO5.below (by omega) hL5.1.size)
  have hA1 := hL5.2.1.only hO5 (by omega) (by omega)
  have hA2 := hL5.2.2.only hO5 (by omega) (by omega)
  go_wp2_with fail
  clear hHeld
  refine hK.out _ _ (⟨hB5, hA1, hA2⟩) (fun hHeld => ?_)
  clear hK K
  try simp only [Act.put, List.setIfInBounds_toArray, List.set_cons_zero, List.set_cons_succ]
  refine wpAnyH_ready (rs := [6]) (by kernel_rfl) (by simp) ?_
  refine AllReadyH.cons (o := ⟨some 28, _, _, _, _, _⟩) rfl (fun K hK => ?_) AllReadyH.nil
  simp only [av]
  go_simp
  have hB7 := hB5.alloc hB5.size (.cells #[.int .i64 m1, .int .u16 s1, .int .u64 x1, .int .i64 m2, .int .u16 s2, .int .u64 x2, .int .i64 m4, .int .u16 s4, .int .u64 x4, .int .i64 m5, .int .u16 s5, .int .u64 x5] 53)
  have hx7 := (Below.refl w5.heap.size w5).alloc (Nat.le_refl _) (.cells #[.int .i64 m1, .int .u16 s1, .int .u64 x1, .int .i64 m2, .int .u16 s2, .int .u64 x2, .int .i64 m4, .int .u16 s4, .int .u64 x4, .int .i64 m5, .int .u16 s5, .int .u64 x5] 53)
  have hs6 := hB5.size
  have hglt := hT5.lt
  have hr7 := heap_alloc_new w5 (.cells #[.int .i64 m1, .int .u16 s1, .int .u64 x1, .int .i64 m2, .int .u16 s2, .int .u64 x2, .int .i64 m4, .int .u16 s4, .int .u64 x4, .int .i64 m5, .int .u16 s5, .int .u64 x5] 53)
  have hl7 := as_of_row4 hr7
  have hz7 : (w5.alloc (.cells #[.int .i64 m1, .int .u16 s1, .int .u64 x1, .int .i64 m2, .int .u16 s2, .int .u64 x2, .int .i64 m4, .int .u16 s4, .int .u64 x4, .int .i64 m5, .int .u16 s5, .int .u64 x5] 53)).heap.size = w5.heap.size + 1 := by simp
  clear hHeld
  refine hK.out _ _ (⟨hB7, hA1.below hx7 (by omega), hA2.below hx7 (by omega)⟩) (fun hHeld => ?_)
  clear hK K
  try simp only [Act.put, List.setIfInBounds_toArray, List.set_cons_zero, List.set_cons_succ]
  refine wpAnyH_take (i := 7) (oi := ⟨some 8, _, _, _, _, _⟩) (v := ?_) rfl (by kernel_rfl) (by kernel_rfl) (by kernel_rfl) (fun _ _ _ h => h) (Or.inl ⟨by rfl, ?_⟩) hHeld ?_
  rotate_left
  · intro w hSw; go_simp; try with_reducible rfl
  try simp only [Act.put, List.setIfInBounds_toArray, List.set_cons_zero, List.set_cons_succ]
  refine wpAnyH_done (by kernel_rfl) ?_ _
  obtain ⟨L, hLd⟩ : ∃ L, L = [(m1, s1, x1), (m2, s2, x2), (m4, s4, x4), (m5, s5, x5)] := ⟨_, rfl⟩
  have hL6 : L.length = 4 := by rw [hLd]; rfl
  have hall : ∀ j, j < 4 → Ad3 (L.getD j (0, 0, 0)).1 (L.getD j (0, 0, 0)).2.1 (L.getD j (0, 0, 0)).2.2 := by
    intro j hj; rw [hLd]
    rcases (by omega : j = 0 ∨ j = 1 ∨ j = 2 ∨ j = 3) with rfl | rfl | rfl | rfl
    · exact h1
    · exact h2
    · exact hD4
    · exact hD5
  rw [← hLd] at hl7
  clear hLd hA1 hA2 hHeld hr7 hx7 hT2d hT4 hT5 hO4 hO5 hB4 hL4 hL5 hD4 hD5
  generalize w5.heap.size = gs at *
  generalize w5.alloc _ = w7 at *
  go_wp2_with fail
  go_loopw [9] (fun i wr => ∃ k : Nat, k ≤ 4 ∧ i = .int .i64 k ∧ Below w7.heap.size w7 wr) (fun i _ => 4 - (intOf i).toNat)
  case atStart => exact ⟨0, by omega, rfl, Below.refl _ _⟩
  case round =>
    obtain ⟨k, hk, rfl, hbr⟩ := hrel
    have hlr := hl7.below hbr (by omega)
    by_cases hlt : k < 4
    · obtain ⟨a0, a1, a2⟩ := hlr.cells k (by omega)
      have hAd := hall k hlt
      generalize L.getD k (0, 0, 0) = A at a0 a1 a2 hAd
      obtain ⟨ma, sa, xa⟩ := A
      dsimp only at a0 a1 a2 hAd
      rw [Nat.mul_comm] at a0 a1 a2
      obtain ⟨hma, hsa, hxa⟩ := hAd
      have c1 := fun w => iid_any ma sa xa w hsa.1 hsa.2
      have c2 := fun w => riid_any ma sa xa w hsa.1 hsa.2
      have c3 := fun w => link_local ma sa xa w hsa.1 hsa.2 (by have := hxa.1; omega) (by have := hxa.2; omega)
      have c4 := fun w => rlink_local ma sa xa w hsa.1 hsa.2 (by have := hxa.1; omega) (by have := hxa.2; omega)
      have cv := fun w => valid_any ma sa xa w
      have cv2 := fun w => rvalid_any ma sa xa w
      have cb := fun w => bcast_any ma sa xa w
      have cb2 := fun w => rbcast_any ma sa xa w
      have hl16 := length_llA ma sa xa
      have cc := fun mb sb xb w => compare_any ma sa xa mb sb xb w
      have cc2 := fun mb sb xb w hmb hsb => rcompare_any ma sa xa mb sb xb w hma hmb hsa hsb
      generalize llA ma sa xa = Lg at c3 c4 hl16
      generalize iidA ma sa xa = r at c1 c2 c3 c4
      obtain ⟨n, ok⟩ := r
      dsimp only at c1 c2 c3 c4
      simp only [av] at c1 c2 c3 c4
      generalize validA ma sa xa = vb at cv cv2
      generalize bcA ma sa xa = bb at cb cb2
      go_wp2_with fail
      have hAb := Ar.of_heap (heap_alloc_new wr (.cells #[.int .i64 ma, .int .u16 sa, .int .u64 xa] 53))
      have hBa := hbr.alloc hbr.size (.cells #[.int .i64 ma, .int .u16 sa, .int .u64 xa] 53)
      have hzb : wr.heap.size + 1 = (wr.alloc (.cells #[.int .i64 ma, .int .u16 sa, .int .u64 xa] 53)).heap.size := by simp
      have hbg : gs < wr.heap.size := by have := hbr.size; omega
      clear hlr hbr a0 a1 a2
      generalize wr.heap.size = b at *
      generalize wr.alloc _ = wa at *
      with_reducible refine (c1 wa).mono ?_
      rintro e1 wb ⟨rfl, hb1⟩
      have hAb := hAb.below hb1 (by omega)
      have hBb := hBa.trans (hb1.mono hBa.size)
      have hzb := Nat.le_trans (Nat.le_of_eq hzb) hb1.size
      clear hb1 hBa
      obtain ⟨z0, z1, z2⟩ := hAb.cells
      go_wp2_with fail
      with_reducible refine (c2 wb).mono ?_
      rintro e2 wc ⟨rfl, hb1⟩
      have hAb := hAb.below hb1 (by omega)
      have hBc := hBb.trans (hb1.mono hBb.size)
      have hzb := Nat.le_trans hzb hb1.size
      clear hb1 hBb z0 z1 z2
      obtain ⟨z0, z1, z2⟩ := hAb.cells
      go_wp2_with fail
      with_reducible refine (c3 wc).mono ?_
      rintro e3 wd ⟨rfl, hb1⟩
      have hAb := hAb.below hb1 (by omega)
      have hBd := hBc.trans (hb1.mono hBc.size)
      have hzb := Nat.le_trans hzb hb1.size
      clear hb1 hBc z0 z1 z2
      have hIk := Ik.lit wd
      have hBw := (Below.refl wd.heap.size wd).alloc (Nat.le_refl _) (.cells #[.int .u8 0, .int .u8 0, .int .u8 0, .int .u8 0, .int .u8 0, .int .u8 0, .int .u8 0, .int .u8 0, .int .u8 0, .int .u8 0, .int .u8 0, .int .u8 0, .int .u8 0, .int .u8 0, .int .u8 0, .int .u8 0] 23)
      obtain ⟨g1, hg1d⟩ : ∃ g1, g1 = wd.heap.size := ⟨_, rfl⟩
      go_wp2_with (with_reducible refine wpList_store_ip (op := ⟨none, _, _, _, _, _⟩) rfl (.tmp 15) (.tmp 52) rfl rfl rfl hIk (length_zeros 16) hl16 wd.heap.size wd hBw (Nat.le_refl _) ?_; intro we hR1 hb1; obtain ⟨z0, z1, z2⟩ := (hAb.below hb1 (by omega)).cells)
      have hAb := hAb.below hb1 (by omega)
      have hBe := hBd.trans (hb1.mono hBd.size)
      have hR1 := hR1.out
      have hlt1 : wd.heap.size < we.heap.size := hR1.lt hl16
      simp only [← hg1d] at hR1 hlt1 ⊢
      have hbg1 : b < g1 := by omega
      clear hb1 hBd hIk hBw hg1d hzb
      with_reducible refine (c4 we).mono ?_
      rintro e4 wf ⟨rfl, hb1⟩
      have hAb := hAb.below hb1 (by omega)
      have hR1 := hR1.below hb1 hlt1
      have hlt1 := Nat.lt_of_lt_of_le hlt1 hb1.size
      have hBf := hBe.trans (hb1.mono hBe.size)
      clear hb1 hBe z0 z1 z2
      have hIk := Ik.lit wf
      have hBw := (Below.refl wf.heap.size wf).alloc (Nat.le_refl _) (.cells #[.int .u8 0, .int .u8 0, .int .u8 0, .int .u8 0, .int .u8 0, .int .u8 0, .int .u8 0, .int .u8 0, .int .u8 0, .int .u8 0, .int .u8 0, .int .u8 0, .int .u8 0, .int .u8 0, .int .u8 0, .int .u8 0] 23)
      obtain ⟨g2, hg2d⟩ : ∃ g2, g2 = wf.heap.size := ⟨_, rfl⟩
      go_wp2_with (with_reducible refine wpList_store_ip (op := ⟨none, _, _, _, _, _⟩) rfl (.tmp 17) (.tmp 57) rfl rfl rfl hIk (length_zeros 16) hl16 wf.heap.size wf hBw (Nat.le_refl _) ?_; intro wr hR2 hb1)
      have hAb := hAb.below hb1 (by omega)
      have hR1 := hR1.below hb1 hlt1
      have hg1 := Nat.lt_of_lt_of_le hlt1 hb1.size
      have hBr := hBf.trans (hb1.mono hBf.size)
      have hR2 := hR2.out
      have hg2 : wf.heap.size < wr.heap.size := hR2.lt hl16
      simp only [← hg2d] at hR2 hg2 ⊢
      clear hb1 hBf hIk hBw hg2d hlt1
      refine wp_region_held_drew (S := fun w' => Below w7.heap.size w7 w' ∧ Ar w' b ma sa xa ∧ Ry w' g1 Lg ∧ Ry w' g2 Lg) (by kernel_rfl) (⟨below_drewN hBr 1, hAb.drew, hR1.drew, hR2.drew⟩) (fun hHeld => ?_)
      refine wpAnyH_addr (g := b) (o := 0) (m := ma) (s := sa) (e := xa) (i := 0) (oi := ⟨some 59, _, _, _, _, _⟩) rfl (by kernel_rfl) (by kernel_rfl) (by kernel_rfl) (fun _ _ _ h => h) (by rfl) (.tmp 10) rfl rfl  (fun _ h => h.2.1) hHeld ?_
      try simp only [Act.put, List.setIfInBounds_toArray, List.set_cons_zero, List.set_cons_succ]
      refine wpAnyH_addr (g := b) (o := 0) (m := ma) (s := sa) (e := xa) (i := 2) (oi := ⟨some 61, _, _, _, _, _⟩) rfl (by kernel_rfl) (by kernel_rfl) (by kernel_rfl) (fun _ _ _ h => h) (by rfl) (.tmp 10) rfl rfl  (fun _ h => h.2.1) hHeld ?_
      try simp only [Act.put, List.setIfInBounds_toArray, List.set_cons_zero, List.set_cons_succ]
      refine wpAnyH_ready (rs := [1]) (by kernel_rfl) (by simp) ?_
      refine AllReadyH.cons (o := ⟨some 60, _, _, _, _, _⟩) rfl (fun K hK => ?_) AllReadyH.nil
      go_simp
      have hP1 := hHeld
      with_reducible refine (cv _).mono ?_
      rintro e1 v1 ⟨rfl, hb1⟩
      have hQ1 := hP1.1.trans (hb1.mono hP1.1.size)
      have k11 := hP1.2.1.below hb1 hP1.2.1.lt
      have k21 := hP1.2.2.1.below hb1 (hP1.2.2.1.lt hl16)
      have k31 := hP1.2.2.2.below hb1 (hP1.2.2.2.lt hl16)
      go_wp2_with fail
      clear hHeld
      refine hK.out _ _ (⟨hQ1, k11, k21, k31⟩) (fun hHeld => ?_)
      clear hK K
      try simp only [Act.put, List.setIfInBounds_toArray, List.set_cons_zero, List.set_cons_succ]
      refine wpAnyH_ready (rs := [3]) (by kernel_rfl) (by simp) ?_
      refine AllReadyH.cons (o := ⟨some 62, _, _, _, _, _⟩) rfl (fun K hK => ?_) AllReadyH.nil
      go_simp
      have hP3 := hHeld
      with_reducible refine (cv2 _).mono ?_
      rintro e3 v3 ⟨rfl, hb3⟩
      have hQ3 := hP3.1.trans (hb3.mono hP3.1.size)
      have k13 := hP3.2.1.below hb3 hP3.2.1.lt
      have k23 := hP3.2.2.1.below hb3 (hP3.2.2.1.lt hl16)
      have k33 := hP3.2.2.2.below hb3 (hP3.2.2.2.lt hl16)
      go_wp2_with fail
      clear hHeld
      refine hK.out _ _ (⟨hQ3, k13, k23, k33⟩) (fun hHeld => ?_)
      clear hK K
      try simp only [Act.put, List.setIfInBounds_toArray, List.set_cons_zero, List.set_cons_succ]
      refine wpAnyH_take (i := 4) (oi := ⟨some 63, _, _, _, _, _⟩) (v := .bool false) rfl (by kernel_rfl) (by kernel_rfl) (by kernel_rfl) (fun _ _ _ h => h) (Or.inl ⟨by rfl, ?_⟩) hHeld ?_
      · intro w hSw; go_simp; try simp
      try simp only [Act.put, List.setIfInBounds_toArray, List.set_cons_zero, List.set_cons_succ]
      refine wpAnyH_take (i := 5) (oi := ⟨some 64, _, _, _, _, _⟩) (v := ?_) rfl (by kernel_rfl) (by kernel_rfl) (by kernel_rfl) (fun _ _ _ h => h) (Or.inl ⟨by rfl, ?_⟩) hHeld ?_
      rotate_left
      · intro w hSw; go_simp; try with_reducible rfl
      try simp only [Act.put, List.setIfInBounds_toArray, List.set_cons_zero, List.set_cons_succ]
      refine wpAnyH_addr (g := b) (o := 0) (m := ma) (s := sa) (e := xa) (i := 6) (oi := ⟨some 65, _, _, _, _, _⟩) rfl (by kernel_rfl) (by kernel_rfl) (by kernel_rfl) (fun _ _ _ h => h) (by rfl) (.tmp 10) rfl rfl  (fun _ h => h.2.1) hHeld ?_
      try simp only [Act.put, List.setIfInBounds_toArray, List.set_cons_zero, List.set_cons_succ]
      refine wpAnyH_addr (g := b) (o := 0) (m := ma) (s := sa) (e := xa) (i := 8) (oi := ⟨some 67, _, _, _, _, _⟩) rfl (by kernel_rfl) (by kernel_rfl) (by kernel_rfl) (fun _ _ _ h => h) (by rfl) (.tmp 10) rfl rfl  (fun _ h => h.2.1) hHeld ?_
      try simp only [Act.put, List.setIfInBounds_toArray, List.set_cons_zero, List.set_cons_succ]
      refine wpAnyH_ready (rs := [7]) (by kernel_rfl) (by simp) ?_
      refine AllReadyH.cons (o := ⟨some 66, _, _, _, _, _⟩) rfl (fun K hK => ?_) AllReadyH.nil
      go_simp
      have hP7 := hHeld
      with_reducible refine (cb _).mono ?_
      rintro e7 v7 ⟨rfl, hb7⟩
      have hQ7 := hP7.1.trans (hb7.mono hP7.1.size)
      have k17 := hP7.2.1.below hb7 hP7.2.1.lt
      have k27 := hP7.2.2.1.below hb7 (hP7.2.2.1.lt hl16)
      have k37 := hP7.2.2.2.below hb7 (hP7.2.2.2.lt hl16)
      go_wp2_with fail
      clear hHeld
      refine hK.out _ _ (⟨hQ7, k17, k27, k37⟩) (fun hHeld => ?_)
      clear hK K
      try simp only [Act.put, List.setIfInBounds_toArray, List.set_cons_zero, List.set_cons_succ]
      refine wpAnyH_ready (rs := [9]) (by kernel_rfl) (by simp) ?_
      refine AllReadyH.cons (o := ⟨some 68, _, _, _, _, _⟩) rfl (fun K hK => ?_) AllReadyH.nil
      go_simp
      have hP9 := hHeld
      with_reducible refine (cb2 _).mono ?_
      rintro e9 v9 ⟨rfl, hb9⟩
      have hQ9 := hP9.1.trans (hb9.mono hP9.1.size)
      have k19 := hP9.2.1.below hb9 hP9.2.1.lt
      have k29 := hP9.2.2.1.below hb9 (hP9.2.2.1.lt hl16)
      have k39 := hP9.2.2.2.below hb9 (hP9.2.2.2.lt hl16)
      go_wp2_with fail
      clear hHeld
      refine hK.out _ _ (⟨hQ9, k19, k29, k39⟩) (fun hHeld => ?_)
      clear hK K
      try simp only [Act.put, List.setIfInBounds_toArray, List.set_cons_zero, List.set_cons_succ]
      refine wpAnyH_take (i := 10) (oi := ⟨some 69, _, _, _, _, _⟩) (v := .bool false) rfl (by kernel_rfl) (by kernel_rfl) (by kernel_rfl) (fun _ _ _ h => h) (Or.inl ⟨by rfl, ?_⟩) hHeld ?_
      · intro w hSw; go_simp; try simp
      try simp only [Act.put, List.setIfInBounds_toArray, List.set_cons_zero, List.set_cons_succ]
      refine wpAnyH_take (i := 11) (oi := ⟨some 70, _, _, _, _, _⟩) (v := ?_) rfl (by kernel_rfl) (by kernel_rfl) (by kernel_rfl) (fun _ _ _ h => h) (Or.inl ⟨by rfl, ?_⟩) hHeld ?_
      rotate_left
      · intro w hSw; go_simp; try with_reducible rfl
      try simp only [Act.put, List.setIfInBounds_toArray, List.set_cons_zero, List.set_cons_succ]
      refine wpAnyH_take (i := 12) (oi := ⟨some 71, _, _, _, _, _⟩) (v := ?_) rfl (by kernel_rfl) (by kernel_rfl) (by kernel_rfl) (fun _ _ _ h => h) (Or.inl ⟨by rfl, ?_⟩) hHeld ?_
      rotate_left
      · intro w hSw; go_simp; try with_reducible rfl
      try simp only [Act.put, List.setIfInBounds_toArray, List.set_cons_zero, List.set_cons_succ]
      refine wpAnyH_take (i := 13) (oi := ⟨some 72, _, _, _, _, _⟩) (v := ?_) rfl (by kernel_rfl) (by kernel_rfl) (by kernel_rfl) (fun _ _ _ h => h) (Or.inl ⟨by rfl, ?_⟩) hHeld ?_
      rotate_left
      · intro w hSw; go_simp; try with_reducible rfl
      try simp only [Act.put, List.setIfInBounds_toArray, List.set_cons_zero, List.set_cons_succ]
      refine wpAnyH_take (i := 14) (oi := ⟨some 73, _, _, _, _, _⟩) (v := ?_) rfl (by kernel_rfl) (by kernel_rfl) (by kernel_rfl) (fun _ _ _ h => h) (Or.inl ⟨by rfl, ?_⟩) hHeld ?_
      rotate_left
      · intro w hSw; go_simp; try with_reducible rfl
      try simp only [Act.put, List.setIfInBounds_toArray, List.set_cons_zero, List.set_cons_succ]
      refine wpAnyH_take (i := 15) (oi := ⟨some 74, _, _, _, _, _⟩) (v := .bool false) rfl (by kernel_rfl) (by kernel_rfl) (by kernel_rfl) (fun _ _ _ h => h) (Or.inl ⟨by rfl, ?_⟩) hHeld ?_
      · intro w hSw; go_simp; try simp
      try simp only [Act.put, List.setIfInBounds_toArray, List.set_cons_zero, List.set_cons_succ]
      refine wpAnyH_take (i := 16) (oi := ⟨some 75, _, _, _, _, _⟩) (v := ?_) rfl (by kernel_rfl) (by kernel_rfl) (by kernel_rfl) (fun _ _ _ h => h) (Or.inl ⟨by rfl, ?_⟩) hHeld ?_
      rotate_left
      · intro w hSw; go_simp; try with_reducible rfl
      try simp only [Act.put, List.setIfInBounds_toArray, List.set_cons_zero, List.set_cons_succ]
      refine wpAnyH_take (i := 17) (oi := ⟨some 76, _, _, _, _, _⟩) (v := ?_) rfl (by kernel_rfl) (by kernel_rfl) (by kernel_rfl) (fun _ _ _ h => h) (Or.inl ⟨by rfl, ?_⟩) hHeld ?_
      rotate_left
      · intro w hSw; go_simp; try with_reducible rfl
      try simp only [Act.put, List.setIfInBounds_toArray, List.set_cons_zero, List.set_cons_succ]
      refine wpAnyH_take (i := 18) (oi := ⟨some 77, _, _, _, _, _⟩) (v := ?_) rfl (by kernel_rfl) (by kernel_rfl) (by kernel_rfl) (fun _ _ _ h => h) (Or.inl ⟨by rfl, ?_⟩) hHeld ?_
      rotate_left
      · intro w hSw; go_simp; try with_reducible rfl
      try simp only [Act.put, List.setIfInBounds_toArray, List.set_cons_zero, List.set_cons_succ]
      refine wpAnyH_take (i := 19) (oi := ⟨some 78, _, _, _, _, _⟩) (v := ?_) rfl (by kernel_rfl) (by kernel_rfl) (by kernel_rfl) (fun _ _ _ h => h) (Or.inl ⟨by rfl, ?_⟩) hHeld ?_
      rotate_left
      · intro w hSw; go_simp; try with_reducible rfl
      try simp only [Act.put, List.setIfInBounds_toArray, List.set_cons_zero, List.set_cons_succ]
      refine wpAnyH_take (i := 20) (oi := ⟨some 79, _, _, _, _, _⟩) (v := .bool false) rfl (by kernel_rfl) (by kernel_rfl) (by kernel_rfl) (fun _ _ _ h => h) (Or.inl ⟨by rfl, ?_⟩) hHeld ?_
      · intro w hSw; go_simp; try simp
      try simp only [Act.put, List.setIfInBounds_toArray, List.set_cons_zero, List.set_cons_succ]
      refine wpAnyH_take (i := 21) (oi := ⟨some 80, _, _, _, _, _⟩) (v := ?_) rfl (by kernel_rfl) (by kernel_rfl) (by kernel_rfl) (fun _ _ _ h => h) (Or.inl ⟨by rfl, ?_⟩) hHeld ?_
      rotate_left
      · intro w hSw; go_simp; try with_reducible rfl
      try simp only [Act.put, List.setIfInBounds_toArray, List.set_cons_zero, List.set_cons_succ]
      refine wpAnyH_take (i := 22) (oi := ⟨some 81, _, _, _, _, _⟩) (v := ?_) rfl (by kernel_rfl) (by kernel_rfl) (by kernel_rfl) (fun _ _ _ h => h) (Or.inl ⟨by rfl, ?_⟩) hHeld ?_
      rotate_left
      · intro w hSw; go_simp; try with_reducible rfl
      try simp only [Act.put, List.setIfInBounds_toArray, List.set_cons_zero, List.set_cons_succ]
      refine wpAnyH_ip (g := g1) (l := Lg) (i := 23) (oi := ⟨some 82, _, _, _, _, _⟩) rfl (by kernel_rfl) (by kernel_rfl) (by kernel_rfl) (fun _ _ _ h => h) (by rfl) (.tmp 15) rfl rfl hl16 (fun _ h => h.2.2.1) hHeld ?_
      try simp only [Act.put, List.setIfInBounds_toArray, List.set_cons_zero, List.set_cons_succ]
      refine wpAnyH_ip (g := g2) (l := Lg) (i := 24) (oi := ⟨some 83, _, _, _, _, _⟩) rfl (by kernel_rfl) (by kernel_rfl) (by kernel_rfl) (fun _ _ _ h => h) (by rfl) (.tmp 17) rfl rfl hl16 (fun _ h => h.2.2.2) hHeld ?_
      try simp only [Act.put, List.setIfInBounds_toArray, List.set_cons_zero, List.set_cons_succ]
      refine wpAnyH_take (i := 25) (oi := ⟨some 84, _, _, _, _, _⟩) (v := .bool false) rfl (by kernel_rfl) (by kernel_rfl) (by kernel_rfl) (fun _ _ _ h => h) (Or.inl ⟨by rfl, ?_⟩) hHeld ?_
      · intro w hSw; go_simp; simp [ip_guarded, ip_neq _ hl16]
      try simp only [Act.put, List.setIfInBounds_toArray, List.set_cons_zero, List.set_cons_succ]
      refine wpAnyH_take (i := 26) (oi := ⟨some 85, _, _, _, _, _⟩) (v := ?_) rfl (by kernel_rfl) (by kernel_rfl) (by kernel_rfl) (fun _ _ _ h => h) (Or.inl ⟨by rfl, ?_⟩) hHeld ?_
      rotate_left
      · intro w hSw; go_simp; try with_reducible rfl
      try simp only [Act.put, List.setIfInBounds_toArray, List.set_cons_zero, List.set_cons_succ]
      refine wpAnyH_take (i := 27) (oi := ⟨some 86, _, _, _, _, _⟩) (v := ?_) rfl (by kernel_rfl) (by kernel_rfl) (by kernel_rfl) (fun _ _ _ h => h) (Or.inl ⟨by rfl, ?_⟩) hHeld ?_
      rotate_left
      · intro w hSw; go_simp; try with_reducible rfl
      try simp only [Act.put, List.setIfInBounds_toArray, List.set_cons_zero, List.set_cons_succ]
      refine wpAnyH_take (i := 28) (oi := ⟨some 87, _, _, _, _, _⟩) (v := ?_) rfl (by kernel_rfl) (by kernel_rfl) (by kernel_rfl) (fun _ _ _ h => h) (Or.inl ⟨by rfl, ?_⟩) hHeld ?_
      rotate_left
      · intro w hSw; go_simp; try with_reducible rfl
      try simp only [Act.put, List.setIfInBounds_toArray, List.set_cons_zero, List.set_cons_succ]
      refine wpAnyH_take (i := 29) (oi := ⟨some 88, _, _, _, _, _⟩) (v := ?_) rfl (by kernel_rfl) (by kernel_rfl) (by kernel_rfl) (fun _ _ _ h => h) (Or.inl ⟨by rfl, ?_⟩) hHeld ?_
      rotate_left
      · intro w hSw; go_simp; try with_reducible rfl
      try simp only [Act.put, List.setIfInBounds_toArray, List.set_cons_zero, List.set_cons_succ]
      refine wpAnyH_take (i := 30) (oi := ⟨some 89, _, _, _, _, _⟩) (v := .bool false) rfl (by kernel_rfl) (by kernel_rfl) (by kernel_rfl) (fun _ _ _ h => h) (Or.inl ⟨by rfl, ?_⟩) hHeld ?_
      · intro w hSw; go_simp; try simp
      try simp only [Act.put, List.setIfInBounds_toArray, List.set_cons_zero, List.set_cons_succ]
      refine wpAnyH_take (i := 31) (oi := ⟨some 90, _, _, _, _, _⟩) (v := ?_) rfl (by kernel_rfl) (by kernel_rfl) (by kernel_rfl) (fun _ _ _ h => h) (Or.inl ⟨by rfl, ?_⟩) hHeld ?_
      rotate_left
      · intro w hSw; go_simp; try with_reducible rfl
      try simp only [Act.put, List.setIfInBounds_toArray, List.set_cons_zero, List.set_cons_succ]
      refine wpAnyH_done (by kernel_rfl) ?_ _
      go_wp2_with fail
      have hAi0 := k19
      have hBi0 := hQ9
      clear hHeld hP1 hP3 hP7 hP9 hQ1 hQ3 hQ7 k11 k21 k31 k13 k23 k33 k17 k27 k37 hb1 hb3 hb7 hb9 k29 k39 hBr hAb hR1 hR2 c1 c2 c3 c4 cv cv2 cb cb2
      go_loopw [19] (fun i wr => ∃ j : Nat, j ≤ 4 ∧ i = .int .i64 j ∧ Below w7.heap.size w7 wr ∧ Ar wr b ma sa xa) (fun i _ => 4 - (intOf i).toNat)
      case atStart => exact ⟨0, by omega, rfl, hBi0, hAi0⟩
      case round =>
        obtain ⟨j, hj, rfl, hBi, hAi⟩ := hrel
        have hli := hl7.below hBi (by omega)
        by_cases hjt : j < 4
        · have hBd := hall j hjt
          have hrg : ∀ w', As w' gs L → w'.rangeAt gs (j * 3) (avl (L.getD j (0, 0, 0)).1 (L.getD j (0, 0, 0)).2.1 (L.getD j (0, 0, 0)).2.2) := by
            intro w' h; rw [Nat.mul_comm]; exact h j (by omega)
          generalize L.getD j (0, 0, 0) = B at hrg hBd
          obtain ⟨mb, sb, xb⟩ := B
          dsimp only at hrg hBd
          obtain ⟨hmb, hsb, hxb⟩ := hBd
          have cc := fun w => cc mb sb xb w
          have cc2 := fun w => cc2 mb sb xb w hmb hsb
          generalize cmpA ma sa xa mb sb xb = cv at cc cc2
          go_wp2_with fail
          refine wp_region_held_drew (S := fun w' => Below w7.heap.size w7 w' ∧ Ar w' b ma sa xa ∧ As w' gs L) (by kernel_rfl) (⟨below_drewN hBi 1, hAi.drew, hli⟩) (fun hHeld => ?_)
          refine wpAnyH_addr (g := b) (o := 0) (m := ma) (s := sa) (e := xa) (i := 0) (oi := ⟨some 97, _, _, _, _, _⟩) rfl (by kernel_rfl) (by kernel_rfl) (by kernel_rfl) (fun _ _ _ h => h) (by rfl) (.tmp 10) rfl rfl  (fun _ h => h.2.1) hHeld ?_
          try simp only [Act.put, List.setIfInBounds_toArray, List.set_cons_zero, List.set_cons_succ]
          refine wpAnyH_take (i := 1) (oi := ⟨some 98, _, _, _, _, _⟩) (v := ?_) rfl (by kernel_rfl) (by kernel_rfl) (by kernel_rfl) (fun _ _ _ h => h) (Or.inl ⟨by rfl, ?_⟩) hHeld ?_
          rotate_left
          · intro w hSw; go_simp; try with_reducible rfl
          try simp only [Act.put, List.setIfInBounds_toArray, List.set_cons_zero, List.set_cons_succ]
          refine wpAnyH_take (i := 2) (oi := ⟨some 99, _, _, _, _, _⟩) (v := ?_) rfl (by kernel_rfl) (by kernel_rfl) (by kernel_rfl) (fun _ _ _ h => h) (Or.inl ⟨by rfl, ?_⟩) hHeld ?_
          rotate_left
          · intro w hSw; go_simp; try with_reducible rfl
          try simp only [Act.put, List.setIfInBounds_toArray, List.set_cons_zero, List.set_cons_succ]
          refine wpAnyH_take (i := 3) (oi := ⟨some 100, _, _, _, _, _⟩) (v := ?_) rfl (by kernel_rfl) (by kernel_rfl) (by kernel_rfl) (fun _ _ _ h => h) (Or.inl ⟨by rfl, ?_⟩) hHeld ?_
          rotate_left
          · intro w hSw; go_simp; try with_reducible rfl
          try simp only [Act.put, List.setIfInBounds_toArray, List.set_cons_zero, List.set_cons_succ]
          refine wpAnyH_addr (g := gs) (o := j * 3) (m := mb) (s := sb) (e := xb) (i := 4) (oi := ⟨some 101, _, _, _, _, _⟩) rfl (by kernel_rfl) (by kernel_rfl) (by kernel_rfl) (fun _ _ _ h => h) (by rfl) (.tmp 100) rfl rfl  (fun _ h => hrg _ h.2.2) hHeld ?_
          try simp only [Act.put, List.setIfInBounds_toArray, List.set_cons_zero, List.set_cons_succ]
          refine wpAnyH_addr (g := b) (o := 0) (m := ma) (s := sa) (e := xa) (i := 6) (oi := ⟨some 103, _, _, _, _, _⟩) rfl (by kernel_rfl) (by kernel_rfl) (by kernel_rfl) (fun _ _ _ h => h) (by rfl) (.tmp 10) rfl rfl  (fun _ h => h.2.1) hHeld ?_
          try simp only [Act.put, List.setIfInBounds_toArray, List.set_cons_zero, List.set_cons_succ]
          refine wpAnyH_take (i := 7) (oi := ⟨some 104, _, _, _, _, _⟩) (v := ?_) rfl (by kernel_rfl) (by kernel_rfl) (by kernel_rfl) (fun _ _ _ h => h) (Or.inl ⟨by rfl, ?_⟩) hHeld ?_
          rotate_left
          · intro w hSw; go_simp; try with_reducible rfl
          try simp only [Act.put, List.setIfInBounds_toArray, List.set_cons_zero, List.set_cons_succ]
          refine wpAnyH_take (i := 8) (oi := ⟨some 105, _, _, _, _, _⟩) (v := ?_) rfl (by kernel_rfl) (by kernel_rfl) (by kernel_rfl) (fun _ _ _ h => h) (Or.inl ⟨by rfl, ?_⟩) hHeld ?_
          rotate_left
          · intro w hSw; go_simp; try with_reducible rfl
          try simp only [Act.put, List.setIfInBounds_toArray, List.set_cons_zero, List.set_cons_succ]
          refine wpAnyH_take (i := 9) (oi := ⟨some 106, _, _, _, _, _⟩) (v := ?_) rfl (by kernel_rfl) (by kernel_rfl) (by kernel_rfl) (fun _ _ _ h => h) (Or.inl ⟨by rfl, ?_⟩) hHeld ?_
          rotate_left
          · intro w hSw; go_simp; try with_reducible rfl
          try simp only [Act.put, List.setIfInBounds_toArray, List.set_cons_zero, List.set_cons_succ]
          refine wpAnyH_addr (g := gs) (o := j * 3) (m := mb) (s := sb) (e := xb) (i := 10) (oi := ⟨some 107, _, _, _, _, _⟩) rfl (by kernel_rfl) (by kernel_rfl) (by kernel_rfl) (fun _ _ _ h => h) (by rfl) (.tmp 106) rfl rfl  (fun _ h => hrg _ h.2.2) hHeld ?_
          try simp only [Act.put, List.setIfInBounds_toArray, List.set_cons_zero, List.set_cons_succ]
          refine wpAnyH_ready (rs := [5]) (by kernel_rfl) (by simp) ?_
          refine AllReadyH.cons (o := ⟨some 102, _, _, _, _, _⟩) rfl (fun K hK => ?_) AllReadyH.nil
          go_simp
          have hP5 := hHeld
          with_reducible refine (cc _).mono ?_
          rintro e5 v5 ⟨rfl, hb5⟩
          have hQ5 := hP5.1.trans (hb5.mono hP5.1.size)
          have k15 := hP5.2.1.below hb5 hP5.2.1.lt
          have k25 := hP5.2.2.below hb5 (Nat.lt_of_lt_of_le (by omega) hP5.1.size)
          go_wp2_with fail
          clear hHeld
          refine hK.out _ _ (⟨hQ5, k15, k25⟩) (fun hHeld => ?_)
          clear hK K
          try simp only [Act.put, List.setIfInBounds_toArray, List.set_cons_zero, List.set_cons_succ]
          refine wpAnyH_ready (rs := [11]) (by kernel_rfl) (by simp) ?_
          refine AllReadyH.cons (o := ⟨some 108, _, _, _, _, _⟩) rfl (fun K hK => ?_) AllReadyH.nil
          go_simp
          have hP11 := hHeld
          with_reducible refine (cc2 _).mono ?_
          rintro e11 v11 ⟨rfl, hb11⟩
          have hQ11 := hP11.1.trans (hb11.mono hP11.1.size)
          have k111 := hP11.2.1.below hb11 hP11.2.1.lt
          have k211 := hP11.2.2.below hb11 (Nat.lt_of_lt_of_le (by omega) hP11.1.size)
          go_wp2_with fail
          clear hHeld
          refine hK.out _ _ (⟨hQ11, k111, k211⟩) (fun hHeld => ?_)
          clear hK K
          try simp only [Act.put, List.setIfInBounds_toArray, List.set_cons_zero, List.set_cons_succ]
          refine wpAnyH_take (i := 12) (oi := ⟨some 109, _, _, _, _, _⟩) (v := .bool false) rfl (by kernel_rfl) (by kernel_rfl) (by kernel_rfl) (fun _ _ _ h => h) (Or.inl ⟨by rfl, ?_⟩) hHeld ?_
          · intro w hSw; go_simp; try simp
          try simp only [Act.put, List.setIfInBounds_toArray, List.set_cons_zero, List.set_cons_succ]
          refine wpAnyH_done (by kernel_rfl) ?_ _
          go_wp2_with fail
          go_roundw
          case rel => exact ⟨j + 1, by omega, by go_num, hQ11, k111⟩
          case measure => simp [intOf]; omega
        · have : j = 4 := by omega
          subst this
          go_wp2_with fail
          go_roundw
          case rel => exact ⟨k + 1, by omega, by go_num, hBi⟩
          case measure => simp [intOf]; omega
    · have : k = 4 := by omega
      subst this
      go_wp2_with fail
      with_reducible refine (known_any wr (G.below (hB7.trans (hbr.mono hB7.size)) G.big)).mono ?_
      rintro e w8 ⟨rfl, hb8⟩
      go_wp2_with fail
      go_ret
      exact ⟨rfl, (hB7.trans (hbr.mono hB7.size)).trans (hb8.mono (hB7.trans (hbr.mono hB7.size)).size)⟩
end Go.Proofs.YtogiignhjmhjnaaDoor
