/-
  The bytes of a frame: Header, body, Encode.
-/
import Derived.Test.YtmbiophckeiehaaFp5
namespace Go.Proofs.Ytmbiophckeiehaa
open Go.RowKit
set_option linter.unusedSimpArgs false
set_option linter.unusedVariables false

theorem Gr.mono {w : World} {B C : Nat} {v : Value} {l : List UInt8} (h : Gr w B v l) (hC : C ≤ B) : Gr w C v l := by
  refine ⟨h.1, ?_⟩
  rcases h.2 with h0 | ⟨g, cap, cur, hv, hB, hr⟩
  · exact .inl h0
  · exact .inr ⟨g, cap, cur, hv, Nat.le_trans hC hB, hr⟩

set_option maxHeartbeats 2000000 in
set_option maxRecDepth 100000 in
theorem body_any (h : Hd) (a : Option Addr) (n c : Nat) (P : List UInt8) (b : Option Addr) (k d : Nat) (M : List UInt8) (w : World) (hv : HVal h) (hJ : IsB w a n c P) (hM : IsB w b k d M) (hn : n ≤ 1099511627776) (hk : k ≤ 1099511627776) :
    Calls Try.prog 40 #[fv h (.slice a n c) (.slice b k d)] w (RetG (bodyL h P M) w) := by
  have j1 := fun w hJ => header_any h a n c P (.slice b k d) w hv hJ (by omega)
  have hlt : (headL h P).length + k ≤ 140737488355328 := by
    have := length_preL_le h
    have := hJ.length
    unfold headL; rw [List.length_append]; omega
  generalize hLd : bodyL h P M = L
  have hL2 : headL h P ++ M = L := by rw [← hLd]; rfl
  generalize headL h P = H at *
  clear hLd
  rw [show fv h (.slice a n c) (.slice b k d) = .agg (fvl h (.slice a n c) (.slice b k d)).toArray from rfl]
  go_enter Try.func40, Try.ntmps40
  have hF := (Fk.new w h (.slice a n c) (.slice b k d)).fr
  have hB := (Below.refl w.heap.size w).alloc (Nat.le_refl _) (.cells (fvl h (.slice a n c) (.slice b k d)).toArray 31)
  have hJ := hJ.below hB
  have hM := hM.below hB
  go_wp2_with fail
  generalize w.alloc _ = w1 at *
  refine wp_region_held_drew (S := fun w' => Below w1.heap.size w1 w') (by kernel_rfl) (below_drewN (Below.refl _ _) 1) (fun hHeld => ?_)
  refine wpAnyH_frame (g := w.heap.size) (h := h) (p := .slice a n c) (m := .slice b k d) (i := 0) (oi := ⟨some 3, _, _, _, _, _⟩) rfl (by kernel_rfl) (by kernel_rfl) (by kernel_rfl) (fun _ _ _ h => h) (by rfl) (.tmp 1) rfl rfl  (fun _ h => hF.below h hF.lt) hHeld ?_
  try simp only [Act.put, List.setIfInBounds_toArray, List.set_cons_zero, List.set_cons_succ]
  refine wpAnyH_take (i := 2) (oi := ⟨some 5, _, _, _, _, _⟩) (v := ?_) rfl (by kernel_rfl) (by kernel_rfl) (by kernel_rfl) (fun _ _ _ h => h) (Or.inl ⟨by rfl, ?_⟩) hHeld ?_
  rotate_left
  · intro w hSw; go_simp; try with_reducible rfl
  try simp only [Act.put, List.setIfInBounds_toArray, List.set_cons_zero, List.set_cons_succ]
  refine wpAnyH_take (i := 3) (oi := ⟨some 6, _, _, _, _, _⟩) (v := ?_) rfl (by kernel_rfl) (by kernel_rfl) (by kernel_rfl) (fun _ _ _ h => h) (Or.inl ⟨by rfl, ?_⟩) hHeld ?_
  rotate_left
  · intro w hSw; have c15 := (hF.below hSw hF.lt).cells.2.2.2.2.2.2.2.2.2.2.2.2.2.2.2; go_simp; try with_reducible rfl
  try simp only [Act.put, List.setIfInBounds_toArray, List.set_cons_zero, List.set_cons_succ]
  refine wpAnyH_ready (rs := [1]) (by kernel_rfl) (by simp) ?_
  refine AllReadyH.cons (o := ⟨some 4, _, _, _, _, _⟩) rfl (fun K hK => ?_) AllReadyH.nil
  go_simp
  have hP1 := hHeld
  with_reducible refine (j1 _ (hJ.below hHeld)).mono ?_
  rintro e1 v1 ⟨v, rfl, hG1, hb1⟩
  have hQ1 := hP1.trans (hb1.mono hP1.size)
  have hG1 := hG1.mono hP1.size
  have hM1 := hM.below hQ1
  have hs1 := hQ1.size
  go_wp2_with fail
  clear hHeld
  refine hK.out _ _ (hQ1) (fun hHeld => ?_)
  clear hK K
  try simp only [Act.put, List.setIfInBounds_toArray, List.set_cons_zero, List.set_cons_succ]
  refine wpAnyH_ready (rs := [4]) (by kernel_rfl) (by simp) ?_
  refine AllReadyH.cons (o := ⟨some 7, _, _, _, _, _⟩) rfl (fun K hK => ?_) AllReadyH.nil
  refine step_append_bytes rfl (.tmp 4) (.tmp 6) rfl v rfl b k d rfl w1.heap.size H M hG1 hM1 hlt w1 hQ1 hs1 ?_
  intro v2 w4 hG4 hB4 hN4
  clear hHeld
  refine hK.out _ _ (hB4) (fun hHeld => ?_)
  clear hK K
  try simp only [Act.put, List.setIfInBounds_toArray, List.set_cons_zero, List.set_cons_succ]
  refine wpAnyH_take (i := 5) (oi := ⟨some 2, _, _, _, _, _⟩) (v := ?_) rfl (by kernel_rfl) (by kernel_rfl) (by kernel_rfl) (fun _ _ _ h => h) (Or.inl ⟨by rfl, ?_⟩) hHeld ?_
  rotate_left
  · intro w hSw; go_simp; try with_reducible rfl
  try simp only [Act.put, List.setIfInBounds_toArray, List.set_cons_zero, List.set_cons_succ]
  refine wpAnyH_done (by kernel_rfl) ?_ _
  go_wp2_with fail
  go_ret
  exact ⟨v2, rfl, by rw [← hL2]; exact (hG4.out).mono hB.size, hB.trans (hHeld.mono hB.size)⟩

/-- what Encode answers -/
def RetEnc (ok : Bool) (l : List UInt8) (w : World) (e : Ending) (w' : World) : Prop :=
  if ok then ∃ g, e = .returned (.tuple #[.slice (some ⟨g, 0, none⟩) l.length l.length, .int .i64 0]) ∧ w.heap.size ≤ g ∧ Own w' g l ∧ Below w.heap.size w w'
  else e = .returned (.tuple #[.slice none 0 0, .int .i64 1]) ∧ Below w.heap.size w w'

theorem valid_small (h : Hd) (n k : Nat) (hv : validF h n k = true) : n ≤ 127 ∧ k ≤ 4 := by
  unfold validF at hv
  have hsec : ∀ {k}, secF h k = true → k ≤ 4 := by
    intro k hs; unfold secF at hs; split at hs
    · have := of_decide_eq_true hs; omega
    · have := of_decide_eq_true hs; omega
  split at hv
  · obtain ⟨_, _, h1, _, _, _, h2⟩ := of_decide_eq_true hv
    have := hsec h1; omega
  · split at hv
    · obtain ⟨_, h1, h2⟩ := of_decide_eq_true hv
      have := hsec h1
      unfold sizeF at h2; omega
    · cases hv

set_option maxHeartbeats 2000000 in
set_option maxRecDepth 100000 in
theorem encode_any (h : Hd) (a : Option Addr) (n c : Nat) (P : List UInt8) (b : Option Addr) (k d : Nat) (M : List UInt8) (w : World) (ho : HOk h) (hJ : IsB w a n c P) (hM : IsB w b k d M) :
    Calls Try.prog 20 #[fv h (.slice a n c) (.slice b k d)] w (RetEnc (validF h n k) (encL h P M) w) := by
  have hJm := hJ.max
  have hMm := hM.max
  have j1 := fun w => vframe_any h a n c b k d w hJm hMm
  have hvv := hval_of h n k ho
  have hsm := valid_small h n k
  have j2 := fun w hv hJ hM hn hk => body_any h a n c P b k d M w hv hJ hM hn hk
  have e2 : encL h P M = appL (bodyL h P M) := rfl
  rw [e2]
  generalize validF h n k = z at *
  have hlB : (bodyL h P M).length ≤ 26 + n + k := by
    have := length_preL_le h
    unfold bodyL headL
    rw [List.length_append, List.length_append, hJ.length, hM.length]; omega
  generalize bodyL h P M = L at *
  clear e2
  rw [show fv h (.slice a n c) (.slice b k d) = .agg (fvl h (.slice a n c) (.slice b k d)).toArray from rfl]
  go_enter Try.func20, Try.ntmps20
  have hF := (Fk.new w h (.slice a n c) (.slice b k d)).fr
  have hB := (Below.refl w.heap.size w).alloc (Nat.le_refl _) (.cells (fvl h (.slice a n c) (.slice b k d)).toArray 31)
  have hJ := hJ.below hB
  have hM := hM.below hB
  go_wp2_with (refine wpList_load_frame (op := ⟨some 4, _, _, _, _, _⟩) rfl (.tmp 1) rfl rfl hF ?_)
  generalize w.alloc _ = w1 at *
  with_reducible refine (j1 _).mono ?_
  rintro e2 w2 ⟨rfl, hb2⟩
  have hF := hF.below hb2 hF.lt
  have hJ := hJ.below hb2
  have hM := hM.below hb2
  have hB := hB.trans (hb2.mono hB.size)
  clear hb2
  cases z
  · go_wp2_with fail
    go_ret2
    exact ⟨rfl, hB⟩
  · obtain ⟨hn8, hk8⟩ := hsm rfl
    have hV := hvv rfl
    go_wp2_with (refine wpList_load_frame (op := ⟨some 7, _, _, _, _, _⟩) rfl (.tmp 1) rfl rfl hF ?_)
    with_reducible refine (j2 _ hV hJ hM (by omega) (by omega)).mono ?_
    rintro e3 w3 ⟨v, rfl, hG, hb3⟩
    have hB3 := hB.trans (hb3.mono hB.size)
    obtain ⟨ad, cp, rfl, hI⟩ := hG.isB (by omega)
    go_wp2_with fail
    with_reducible refine (appendCrc_any _ _ _ L _ hI (by omega)).mono ?_
    rintro e4 w4 ⟨g, rfl, hg, hO, hb4⟩
    go_wp2_with fail
    go_ret2
    exact ⟨g, rfl, Nat.le_trans hB3.size hg, hO, hB3.trans (hb4.mono hB3.size)⟩

/-- what Header answers -/
def hdrL (h : Hd) (n k : Nat) (P : List UInt8) : List UInt8 := if validF h n (if h.se then 4 else k) = true then headL h P else []

theorem Fk.setM {w : World} {g : Nat} {h : Hd} {p m : Value} (e : Fk w g h p m) (m' : Value) : Fk (w.setCell ⟨g, 15, none⟩ m') g h p m' := by
  have := heap_setCell_same w g 15 _ 31 m' e
  unfold Fk
  rw [this]; rfl

set_option maxHeartbeats 2000000 in
set_option maxRecDepth 100000 in
theorem Header_any (h : Hd) (a : Option Addr) (n c : Nat) (P : List UInt8) (b : Option Addr) (k d : Nat) (M : List UInt8) (w : World) (ho : HOk h) (hJ : IsB w a n c P) (hM : IsB w b k d M) :
    Calls Try.prog 30 #[fv h (.slice a n c) (.slice b k d)] w (RetG (hdrL h n k P) w) := by
  have hJm := hJ.max
  have hMm := hM.max
  have hL : hdrL h n k P = if validF h n (if h.se then 4 else k) = true then headL h P else [] := rfl
  generalize hdrL h n k P = L at hL ⊢
  have hJ0 := hJ
  obtain ⟨w0, hw0⟩ : ∃ g, g = w.heap.size + 1 := ⟨_, rfl⟩
  rw [show fv h (.slice a n c) (.slice b k d) = .agg (fvl h (.slice a n c) (.slice b k d)).toArray from rfl]
  go_enter Try.func30, Try.ntmps30
  have hK := Fk.new w h (.slice a n c) (.slice b k d)
  have hF := (Fk.new w h (.slice a n c) (.slice b k d)).fr
  have hB := (Below.refl w.heap.size w).alloc (Nat.le_refl _) (.cells (fvl h (.slice a n c) (.slice b k d)).toArray 31)
  have hJ := hJ.below hB
  have hM := hM.below hB
  have c3 := hF.cells.2.2.2.1
  cases hse : h.se
  · rw [hse] at c3 hL
    have hvv := hval_of h n k ho
    have hsm := valid_small h n k
    have j1 := fun w => vframe_any h a n c b k d w hJm hMm
    have j2 := fun w hv hJ hn => header_any h a n c P (.slice b k d) w hv hJ hn
    simp only [Bool.false_eq_true, if_false] at hL
    have HL := hid hL
    clear hL hK
    generalize validF h n k = z at *
    go_wp2_with (refine wpList_load_frame (op := ⟨some 7, _, _, _, _, _⟩) rfl (.tmp 1) rfl rfl hF ?_)
    generalize w.alloc _ = w1 at *
    with_reducible refine (j1 _).mono ?_
    rintro e2 w2 ⟨rfl, hb2⟩
    have hF := hF.below hb2 hF.lt
    have hJ := hJ.below hb2
    have hB := hB.trans (hb2.mono hB.size)
    clear hb2 c3
    cases z
    · go_wp2_with fail
      go_ret
      exact ⟨_, rfl, by rw [HL.out]; exact Gr.nil _ _, hB⟩
    · obtain ⟨hn8, hk8⟩ := hsm rfl
      have hV := hvv rfl
      go_wp2_with (refine wpList_load_frame (op := ⟨some 10, _, _, _, _, _⟩) rfl (.tmp 1) rfl rfl hF ?_)
      with_reducible refine (j2 _ hV hJ (by omega)).mono ?_
      rintro e3 w3 ⟨v, rfl, hG, hb3⟩
      go_wp2_with fail
      go_ret
      exact ⟨v, rfl, by rw [HL.out]; exact hG.mono hB.size, hB.trans (hb3.mono hB.size)⟩
  · rw [hse] at c3 hL
    have hvv := hval_of h n 4 ho
    have hsm := valid_small h n 4
    have hmk := fun u => run_make_bytes 4 4 rfl (by omega) u
    simp only [if_true] at hL
    have HL := hid hL
    have j1 := fun w => vframe_any h a n c (some ⟨w0, 0, none⟩) 4 4 w hJm (by omega)
    have j2 := fun w hv hJ hn => header_any h a n c P (.slice (some ⟨w0, 0, none⟩) 4 4) w hv hJ hn
    generalize validF h n 4 = z at *
    have hF2 := (Fk.new w h (.slice a n c) (.slice (some ⟨w0, 0, none⟩) 4 4)).fr
    have hB1 := (Below.refl w.heap.size w).alloc (Nat.le_refl _) (.cells (fvl h (.slice a n c) (.slice (some ⟨w0, 0, none⟩) 4 4)).toArray 31)
    have hx := (Below.refl (w.heap.size + 1) (w.alloc (.cells (fvl h (.slice a n c) (.slice (some ⟨w0, 0, none⟩) 4 4)).toArray 31))).alloc (by simp) (.cells (row (zeros 4)) 5)
    have hF2 := hF2.below hx (Nat.lt_succ_self _)
    have hB2 := hB1.trans (hx.mono (Nat.le_succ _))
    have hJ2 := hJ0.below hB2
    subst hw0
    clear hL hK hF hB hJ hM hB1 hx
    go_wp2_with (refine wpList_load_frame (op := ⟨some 7, _, _, _, _, _⟩) rfl (.tmp 1) rfl rfl hF2 ?_)
    change Calls _ _ _ ((w.alloc (.cells (fvl h (.slice a n c) (.slice (some ⟨w.heap.size + 1, 0, none⟩) 4 4)).toArray 31)).alloc (.cells (row (zeros 4)) 5)) _
    generalize (w.alloc _).alloc _ = w1 at *
    clear hmk c3
    with_reducible refine (j1 _).mono ?_
    rintro e2 w2 ⟨rfl, hb2⟩
    have hF := hF2.below hb2 hF2.lt
    have hJ := hJ2.below hb2
    have hB := hB2.trans (hb2.mono hB2.size)
    clear hb2 hF2 hJ2 hB2
    cases z
    · go_wp2_with fail
      go_ret
      exact ⟨_, rfl, by rw [HL.out]; exact Gr.nil _ _, hB⟩
    · obtain ⟨hn8, hk8⟩ := hsm rfl
      have hV := hvv rfl
      go_wp2_with (refine wpList_load_frame (op := ⟨some 10, _, _, _, _, _⟩) rfl (.tmp 1) rfl rfl hF ?_)
      with_reducible refine (j2 _ hV hJ (by omega)).mono ?_
      rintro e3 w3 ⟨v, rfl, hG, hb3⟩
      go_wp2_with fail
      go_ret
      exact ⟨v, rfl, by rw [HL.out]; exact hG.mono hB.size, hB.trans (hb3.mono hB.size)⟩
end Go.Proofs.Ytmbiophckeiehaa
