/-
  The reference's Encode and AckFor.
-/
import Derived.Test.YtmbiophckeiehaaRs
import Derived.Test.YtmbiophckeiehaaRefChk
import Derived.BigRegion
import Derived.Deep.DeepCutAuto
namespace Go.Proofs.Ytmbiophckeiehaa
open Go.RowKit
set_option linter.unusedSimpArgs false
set_option linter.unusedVariables false

/-- what the reference's Encode answers -/
def RetEncR (ok : Bool) (l : List UInt8) (w : World) (e : Ending) (w' : World) : Prop :=
  if ok then ∃ v, e = .returned (.tuple #[v, .int .i64 0]) ∧ Gr w' w.heap.size v l ∧ Below w.heap.size w w'
  else e = .returned (.tuple #[.slice none 0 0, .int .i64 1]) ∧ Below w.heap.size w w'

set_option maxHeartbeats 4000000 in
set_option maxRecDepth 100000 in
theorem rencode_any (h : Hd) (a : Option Addr) (n c : Nat) (P : List UInt8) (b : Option Addr) (k d : Nat) (M : List UInt8) (w : World) (ho : HOk h) (hJ : IsB w a n c P) (hM : IsB w b k d M) (hn : n ≤ 140737488355000) :
    Calls Try.prog 11 #[fv h (.slice a n c) (.slice b k d)] w (RetEncR (validF h n k) (encL h P M) w) := by
  have hMm := hM.max
  have j1 := fun w hJ => rvalid_any5 h a n c P b k d w ho hJ hn hMm
  have hvv := hval_of h n k ho
  have hsm := valid_small h n k
  have j2 := fun w hv hJ => rheader_any h a n c P (.slice b k d) w hv hJ hn
  have e2 : encL h P M = appL (headL h P ++ M) := rfl
  rw [e2]
  generalize validF h n k = z at *
  have hlB : (headL h P).length ≤ 26 + n := by
    have := length_preL_le h
    unfold headL
    rw [List.length_append, hJ.length]; omega
  generalize headL h P = H at *
  clear e2
  rw [show fv h (.slice a n c) (.slice b k d) = .agg (fvl h (.slice a n c) (.slice b k d)).toArray from rfl]
  go_enter Try.func11, Try.ntmps11
  have hF := (Fk.new w h (.slice a n c) (.slice b k d)).fr
  have hB := (Below.refl w.heap.size w).alloc (Nat.le_refl _) (.cells (fvl h (.slice a n c) (.slice b k d)).toArray 31)
  have hJ := hJ.below hB
  have hM := hM.below hB
  go_wp2_with (refine wpList_load_frame (op := ⟨some 4, _, _, _, _, _⟩) rfl (.tmp 1) rfl rfl hF ?_)
  generalize w.alloc _ = w0 at *
  with_reducible refine (j1 _ hJ).mono ?_
  rintro e2 w1 ⟨rfl, hb2⟩
  have hF := hF.below hb2 hF.lt
  have hJ := hJ.below hb2
  have hM := hM.below hb2
  have hB := hB.trans (hb2.mono hB.size)
  clear hb2 j1
  cases z
  · go_wp2_with fail
    go_ret2
    exact ⟨rfl, hB⟩
  · obtain ⟨hn8, hk8⟩ := hsm rfl
    have hV := hvv rfl
    have hlt : H.length + k ≤ 140737488355328 := by omega
    go_wp2_with fail
    refine wp_region_held_drew (S := fun w' => Below w1.heap.size w1 w') (by kernel_rfl) (below_drewN (Below.refl _ _) 1) (fun hHeld => ?_)
    refine wpAnyH_frame (g := w.heap.size) (h := h) (p := .slice a n c) (m := .slice b k d) (i := 0) (oi := ⟨some 7, _, _, _, _, _⟩) rfl (by kernel_rfl) (by kernel_rfl) (by kernel_rfl) (fun _ _ _ h => h) (by rfl) (.tmp 1) rfl rfl  (fun _ h => hF.below h hF.lt) hHeld ?_
    try simp only [Act.put, List.setIfInBounds_toArray, List.set_cons_zero, List.set_cons_succ]
    refine wpAnyH_take (i := 2) (oi := ⟨some 9, _, _, _, _, _⟩) (v := ?_) rfl (by kernel_rfl) (by kernel_rfl) (by kernel_rfl) (fun _ _ _ h => h) (Or.inl ⟨by rfl, ?_⟩) hHeld ?_
    rotate_left
    · intro w hSw; go_simp; try with_reducible rfl
    try simp only [Act.put, List.setIfInBounds_toArray, List.set_cons_zero, List.set_cons_succ]
    refine wpAnyH_take (i := 3) (oi := ⟨some 10, _, _, _, _, _⟩) (v := ?_) rfl (by kernel_rfl) (by kernel_rfl) (by kernel_rfl) (fun _ _ _ h => h) (Or.inl ⟨by rfl, ?_⟩) hHeld ?_
    rotate_left
    · intro w hSw; have c15 := (hF.below hSw hF.lt).cells.2.2.2.2.2.2.2.2.2.2.2.2.2.2.2; go_simp; try with_reducible rfl
    try simp only [Act.put, List.setIfInBounds_toArray, List.set_cons_zero, List.set_cons_succ]
    refine wpAnyH_ready (rs := [1]) (by kernel_rfl) (by simp) ?_
    refine AllReadyH.cons (o := ⟨some 8, _, _, _, _, _⟩) rfl (fun K hK => ?_) AllReadyH.nil
    go_simp
    have hP1 := hHeld
    with_reducible refine (j2 _ hV (hJ.below hHeld)).mono ?_
    rintro e1 v1 ⟨v, rfl, hG1, hb1⟩
    have hQ1 := hP1.trans (hb1.mono hP1.size)
    have hG1 := hG1.mono hP1.size
    have hM1 := hM.below hQ1
    have hs1 := hQ1.size
    go_wp2_with fail
    clear hHeld
    refine hK.out _ _ (hQ1) (fun hHeld => ?_)
    clear hK K
    try simp only [Act.put, List.setIfInBounds_toArray, List.set_cons_zero, List.set_cons_succ]
    refine wpAnyH_ready (rs := [4]) (by kernel_rfl) (by simp) ?_
    refine AllReadyH.cons (o := ⟨some 11, _, _, _, _, _⟩) rfl (fun K hK => ?_) AllReadyH.nil
    refine step_append_bytes rfl (.tmp 8) (.tmp 10) rfl v rfl b k d rfl w1.heap.size H M hG1 hM1 hlt w1 hQ1 hs1 ?_
    intro v2 w4 hG4 hB4 hN4
    obtain ⟨ad, cp, hv2, hI⟩ := hG4.out.isB (by rw [List.length_append, hM1.length]; omega)
    subst hv2
    have hlA : (H ++ M).length ≤ 140737488355000 := by rw [List.length_append, hM1.length]; omega
    generalize H ++ M = L at *
    have hs4 := hB4.size
    clear hHeld
    refine hK.out _ _ (hB4) (fun hHeld => ?_)
    clear hK K
    try simp only [Act.put, List.setIfInBounds_toArray, List.set_cons_zero, List.set_cons_succ]
    refine wpAnyH_ready (rs := [5]) (by kernel_rfl) (by simp) ?_
    refine AllReadyH.cons (o := ⟨some 12, _, _, _, _, _⟩) rfl (fun K hK => ?_) AllReadyH.nil
    go_simp
    with_reducible refine (refAppendCrc_any _ _ _ L _ hI (by omega)).mono ?_
    rintro e5 w5 ⟨v5, rfl, hG5, hb5⟩
    have hB5 := hB4.trans (hb5.mono hB4.size)
    have hG5 := hG5.mono hs4
    go_wp2_with fail
    clear hHeld
    refine hK.out _ _ (hB5) (fun hHeld => ?_)
    clear hK K
    try simp only [Act.put, List.setIfInBounds_toArray, List.set_cons_zero, List.set_cons_succ]
    refine wpAnyH_take (i := 6) (oi := ⟨some 2, _, _, _, _, _⟩) (v := ?_) rfl (by kernel_rfl) (by kernel_rfl) (by kernel_rfl) (fun _ _ _ h => h) (Or.inl ⟨by rfl, ?_⟩) hHeld ?_
    rotate_left
    · intro w hSw; go_simp; try with_reducible rfl
    try simp only [Act.put, List.setIfInBounds_toArray, List.set_cons_zero, List.set_cons_succ]
    refine wpAnyH_take (i := 7) (oi := ⟨some 3, _, _, _, _, _⟩) (v := ?_) rfl (by kernel_rfl) (by kernel_rfl) (by kernel_rfl) (fun _ _ _ h => h) (Or.inl ⟨by rfl, ?_⟩) hHeld ?_
    rotate_left
    · intro w hSw; go_simp; try with_reducible rfl
    try simp only [Act.put, List.setIfInBounds_toArray, List.set_cons_zero, List.set_cons_succ]
    refine wpAnyH_done (by kernel_rfl) ?_ _
    go_wp2_with fail
    go_ret2
    exact ⟨v5, rfl, hG5.mono hB.size, hB.trans (hB5.mono hB.size)⟩
end Go.Proofs.Ytmbiophckeiehaa
