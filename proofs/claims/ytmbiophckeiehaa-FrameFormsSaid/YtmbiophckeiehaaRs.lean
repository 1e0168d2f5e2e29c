/-
  The reference's Size and Room of a frame.
-/
import Derived.Test.YtmbiophckeiehaaRv
namespace Go.Proofs.Ytmbiophckeiehaa
open Go.RowKit
set_option linter.unusedSimpArgs false
set_option linter.unusedVariables false

theorem rvalid_any5 (h : Hd) (a : Option Addr) (n c : Nat) (P : List UInt8) (b : Option Addr) (k d : Nat) (w : World) (ho : HOk h) (hJ : IsB w a n c P) (hn : n ≤ 140737488355000) (hk8 : k ≤ 281474976710656) :
    Calls Try.prog 25 #[fv h (.slice a n c) (.slice b k d)] w (RetS (.bool (validF h n k)) w) := by
  by_cases h2 : h.k = 2
  · exact rvalid_ack h a n c b k d w h2
  · exact rvalid_on h a n c P b k d w ho hJ hn hk8 h2

set_option maxHeartbeats 2000000 in
set_option maxRecDepth 100000 in
theorem rsize_any (h : Hd) (a : Option Addr) (n c : Nat) (P : List UInt8) (b : Option Addr) (k d : Nat) (w : World) (ho : HOk h) (hJ : IsB w a n c P) (hn : n ≤ 140737488355000) (hk8 : k ≤ 281474976710656) :
    Calls Try.prog 27 #[fv h (.slice a n c) (.slice b k d)] w (RetS (.int .i64 (sizF h n k)) w) := by
  have hlP := hJ.length
  have j1 := fun w hJ => rvalid_any5 h a n c P b k d w ho hJ hn hk8
  have HS : Hid (sizF h n k = if validF h n k = true then sizeF h n k else 0) := hid rfl
  have HSz : Hid (sizeF h n k = (preL h).length + n + k + 2) := hid (by rw [length_preL]; unfold sizeF; omega)
  have hpl := length_preL_le h
  have hVal := hval_of h n k ho
  have hhl : (headL h P).length = (preL h).length + n := by unfold headL; rw [List.length_append, hlP]
  have jh0 := fun w hv hJ => rheader_any h a n c P (.slice b k d) w hv hJ hn
  have hsm := valid_small h n k
  generalize sizF h n k = z at HS ⊢
  generalize validF h n k = y1 at *
  generalize sizeF h n k = y4 at *
  generalize (preL h).length = pl at *
  generalize headL h P = HL at *
  rw [show fv h (.slice a n c) (.slice b k d) = .agg (fvl h (.slice a n c) (.slice b k d)).toArray from rfl]
  go_enter Try.func27, Try.ntmps27
  have hF := (Fk.new w h (.slice a n c) (.slice b k d)).fr
  have hB := (Below.refl w.heap.size w).alloc (Nat.le_refl _) (.cells (fvl h (.slice a n c) (.slice b k d)).toArray 31)
  have hJ := hJ.below hB
  go_wp2_with (refine wpList_load_frame (op := ⟨some 3, _, _, _, _, _⟩) rfl (.tmp 1) rfl rfl hF ?_)
  generalize w.alloc _ = w1 at *
  with_reducible refine (j1 _ hJ).mono ?_
  rintro e2 w2 ⟨rfl, hb2⟩
  have hF := hF.below hb2 hF.lt
  have hJ := hJ.below hb2
  have hB := hB.trans (hb2.mono hB.size)
  clear hb2
  cases y1
  · go_wp2_with fail
    go_ret
    exact ⟨ret_int (by rw [HS.out]; rfl), hB⟩
  · have hV := hVal rfl
    have jh := fun w hJ => jh0 w hV hJ
    obtain ⟨hn8, hk4⟩ := hsm rfl
    go_upto_region 3 with (fail)
    refine wp_region_held_drew (S := fun w' => Below w2.heap.size w2 w') (by kernel_rfl) (below_drewN (Below.refl _ _) 1) (fun hHeld => ?_)
    refine wpAnyH_frame (g := w.heap.size) (h := h) (p := .slice a n c) (m := .slice b k d) (i := 0) (oi := ⟨some 6, _, _, _, _, _⟩) rfl (by kernel_rfl) (by kernel_rfl) (by kernel_rfl) (fun _ _ _ h => h) (by rfl) (.tmp 1) rfl rfl  (fun _ h => hF.below h hF.lt) hHeld ?_
    try simp only [Act.put, List.setIfInBounds_toArray, List.set_cons_zero, List.set_cons_succ]
    refine wpAnyH_take (i := 3) (oi := ⟨some 9, _, _, _, _, _⟩) (v := ?_) rfl (by kernel_rfl) (by kernel_rfl) (by kernel_rfl) (fun _ _ _ h => h) (Or.inl ⟨by rfl, ?_⟩) hHeld ?_
    rotate_left
    · intro w hSw; go_simp; try with_reducible rfl
    try simp only [Act.put, List.setIfInBounds_toArray, List.set_cons_zero, List.set_cons_succ]
    refine wpAnyH_take (i := 4) (oi := ⟨some 10, _, _, _, _, _⟩) (v := ?_) rfl (by kernel_rfl) (by kernel_rfl) (by kernel_rfl) (fun _ _ _ h => h) (Or.inl ⟨by rfl, ?_⟩) hHeld ?_
    rotate_left
    · intro w hSw; have c15 := (hF.below hSw hF.lt).cells.2.2.2.2.2.2.2.2.2.2.2.2.2.2.2; go_simp; try with_reducible rfl
    try simp only [Act.put, List.setIfInBounds_toArray, List.set_cons_zero, List.set_cons_succ]
    refine wpAnyH_take (i := 5) (oi := ⟨some 11, _, _, _, _, _⟩) (v := ?_) rfl (by kernel_rfl) (by kernel_rfl) (by kernel_rfl) (fun _ _ _ h => h) (Or.inl ⟨by rfl, ?_⟩) hHeld ?_
    rotate_left
    · intro w hSw; go_simp; try with_reducible rfl
    try simp only [Act.put, List.setIfInBounds_toArray, List.set_cons_zero, List.set_cons_succ]
    refine wpAnyH_ready (rs := [1]) (by kernel_rfl) (by simp) ?_
    refine AllReadyH.cons (o := ⟨some 7, _, _, _, _, _⟩) rfl (fun K hK => ?_) AllReadyH.nil
    go_simp
    have hP1 := hHeld
    with_reducible refine (jh _ (hJ.below hHeld)).mono ?_
    rintro e1 v1 ⟨v, rfl, hG1, hb1⟩
    have hQ1 := hP1.trans (hb1.mono hP1.size)
    obtain ⟨va, vc, rfl⟩ := hG1.form
    clear hG1 hb1 hP1
    go_wp2_with fail
    clear hHeld
    refine hK.out _ _ (hQ1) (fun hHeld => ?_)
    clear hK K
    try simp only [Act.put, List.setIfInBounds_toArray, List.set_cons_zero, List.set_cons_succ]
    refine wpAnyH_take (i := 2) (oi := ⟨some 8, _, _, _, _, _⟩) (v := ?_) rfl (by kernel_rfl) (by kernel_rfl) (by kernel_rfl) (fun _ _ _ h => h) (Or.inl ⟨by rfl, ?_⟩) hHeld ?_
    rotate_left
    · intro w hSw; go_simp; try with_reducible rfl
    try simp only [Act.put, List.setIfInBounds_toArray, List.set_cons_zero, List.set_cons_succ]
    refine wpAnyH_take (i := 6) (oi := ⟨some 12, _, _, _, _, _⟩) (v := ?_) rfl (by kernel_rfl) (by kernel_rfl) (by kernel_rfl) (fun _ _ _ h => h) (Or.inl ⟨by rfl, ?_⟩) hHeld ?_
    rotate_left
    · intro w hSw; go_simp; try with_reducible rfl
    try simp only [Act.put, List.setIfInBounds_toArray, List.set_cons_zero, List.set_cons_succ]
    refine wpAnyH_take (i := 7) (oi := ⟨some 13, _, _, _, _, _⟩) (v := ?_) rfl (by kernel_rfl) (by kernel_rfl) (by kernel_rfl) (fun _ _ _ h => h) (Or.inl ⟨by rfl, ?_⟩) hHeld ?_
    rotate_left
    · intro w hSw; go_simp; try with_reducible rfl
    try simp only [Act.put, List.setIfInBounds_toArray, List.set_cons_zero, List.set_cons_succ]
    refine wpAnyH_take (i := 8) (oi := ⟨some 2, _, _, _, _, _⟩) (v := ?_) rfl (by kernel_rfl) (by kernel_rfl) (by kernel_rfl) (fun _ _ _ h => h) (Or.inl ⟨by rfl, ?_⟩) hHeld ?_
    rotate_left
    · intro w hSw; go_simp; try with_reducible rfl
    try simp only [Act.put, List.setIfInBounds_toArray, List.set_cons_zero, List.set_cons_succ]
    refine wpAnyH_done (by kernel_rfl) ?_ _
    go_wp2_with fail
    go_ret
    exact ⟨ret_int (by rw [HS.out, if_pos trivial, HSz.out]; simp [IntKind.wrap, IntKind.bits, IntKind.signed]; omega), hB.trans (hHeld.mono hB.size)⟩

set_option maxHeartbeats 2000000 in
set_option maxRecDepth 100000 in
theorem rroom_any (h : Hd) (a : Option Addr) (n c : Nat) (P : List UInt8) (b : Option Addr) (k d : Nat) (w : World) (ho : HOk h) (hJ : IsB w a n c P) (hn : n ≤ 140737488355000) (hk8 : k ≤ 281474976710656) :
    Calls Try.prog 19 #[fv h (.slice a n c) (.slice b k d)] w (RetS (.int .i64 (roomF h n k)) w) := by
  have j1 := fun w hJ => rvalid_any5 h a n c P b k d w ho hJ hn hk8
  have j4 := fun w hJ => rsize_any h a n c P b k d w ho hJ hn hk8
  have HV := hid (size_of_valid h n k)
  have HS : Hid (roomF h n k = if h.k = 2 ∨ validF h n k = false then 0 else 127 - sizeF h n k) := hid rfl
  have HZ : Hid (sizF h n k = if validF h n k = true then sizeF h n k else 0) := hid rfl
  generalize roomF h n k = z at HS ⊢
  generalize sizF h n k = y5 at *
  generalize validF h n k = y1 at *
  generalize sizeF h n k = y4 at *
  rw [show fv h (.slice a n c) (.slice b k d) = .agg (fvl h (.slice a n c) (.slice b k d)).toArray from rfl]
  go_enter Try.func19, Try.ntmps19
  have hF := (Fk.new w h (.slice a n c) (.slice b k d)).fr
  have hB := (Below.refl w.heap.size w).alloc (Nat.le_refl _) (.cells (fvl h (.slice a n c) (.slice b k d)).toArray 31)
  have hJ := hJ.below hB
  go_wp2_with (refine wpList_load_frame (op := ⟨some 3, _, _, _, _, _⟩) rfl (.tmp 1) rfl rfl hF ?_)
  generalize w.alloc _ = w1 at *
  with_reducible refine (j1 _ hJ).mono ?_
  rintro e2 w2 ⟨rfl, hb2⟩
  have hF := hF.below hb2 hF.lt
  have hJ := hJ.below hb2
  have hB := hB.trans (hb2.mono hB.size)
  clear hb2
  cases y1
  · go_wp2_with fail
    go_ret
    exact ⟨ret_int (by rw [HS.out]; simp), hB⟩
  · have c0 := hF.cells.1
    by_cases h2 : h.k = 2
    · have HT : Hid (z = 0) := hid (by rw [HS.out, if_pos (Or.inl h2)])
      rw [h2] at c0
      clear HS HV j1 j4
      go_wp2_with fail
      go_ret
      exact ⟨ret_int (by rw [HT.out]; rfl), hB⟩
    · have hq : (h.k == 2) = false := by simp [h2]
      have h127 := HV.out rfl h2
      have hy5 : y5 = y4 := by rw [HZ.out]; rfl
      have HY := hid hy5
      go_wp2_with (refine wpList_load_frame (op := ⟨some 11, _, _, _, _, _⟩) rfl (.tmp 1) rfl rfl hF ?_)
      clear c0
      with_reducible refine (j4 _ hJ).mono ?_
      rintro e3 w3 ⟨rfl, hb3⟩
      have hB := hB.trans (hb3.mono hB.size)
      have hy6 : (y5 : Int) ≤ 127 := by rw [HY.out]; omega
      clear hy5
      go_wp2_with fail
      go_ret
      exact ⟨ret_int (by rw [HS.out, HY.out]; simp [h2]; omega), hB⟩
end Go.Proofs.Ytmbiophckeiehaa
