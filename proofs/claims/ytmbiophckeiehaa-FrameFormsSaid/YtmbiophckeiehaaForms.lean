/-
  The program and the reference say the same of a frame.
-/
import Derived.Test.YtmbiophckeiehaaRefHdr
import Derived.Test.YtmbiophckeiehaaSame5
import Derived.Test.YtmbiophckeiehaaKnown05
import Derived.Test.YtmbiophckeiehaaAf
namespace Go.Proofs.Ytmbiophckeiehaa
open Go.RowKit
set_option linter.unusedSimpArgs false
set_option linter.unusedVariables false

/-- what both Encodes answer -/
def RetE2 (L : List UInt8) (z : Int) (w : World) (e : Ending) (w' : World) : Prop :=
  ∃ p c, e = .returned (.tuple #[.slice p L.length c, .int .i64 z]) ∧ IsB w' p L.length c L ∧ Below w.heap.size w w'
def LE (h : Hd) (n k : Nat) (P M : List UInt8) : List UInt8 := if validF h n k then encL h P M else []
def ZE (h : Hd) (n k : Nat) : Int := if validF h n k then 0 else 1

theorem enc_u (h : Hd) (a : Option Addr) (n c : Nat) (P : List UInt8) (b : Option Addr) (k d : Nat) (M : List UInt8) (w : World) (ho : HOk h) (hJ : IsB w a n c P) (hM : IsB w b k d M) (hn : n ≤ 140737488355000) : Calls Try.prog 20 #[fv h (.slice a n c) (.slice b k d)] w (RetE2 (LE h n k P M) (ZE h n k) w) := by
  have hl : validF h n k = true → (encL h P M).length ≤ 127 := fun hv => by rw [length_encL, hJ.length, hM.length]; exact (length_of_valid h n k hv).2
  refine (encode_any h a n c P b k d M w ho hJ hM).mono ?_
  intro e w' hh
  unfold RetEnc at hh
  unfold RetE2 LE ZE
  cases hv : validF h n k
  · rw [hv] at hh
    simp only [Bool.false_eq_true, if_false] at hh ⊢
    exact ⟨none, 0, hh.1, isB_nil _, hh.2⟩
  · rw [hv] at hh
    simp only [if_true] at hh ⊢
    obtain ⟨g, h1, h2, h3, h4⟩ := hh
    exact ⟨_, _, h1, h3.isB (by have := hl hv; omega), h4⟩
theorem renc_u (h : Hd) (a : Option Addr) (n c : Nat) (P : List UInt8) (b : Option Addr) (k d : Nat) (M : List UInt8) (w : World) (ho : HOk h) (hJ : IsB w a n c P) (hM : IsB w b k d M) (hn : n ≤ 140737488355000) : Calls Try.prog 11 #[fv h (.slice a n c) (.slice b k d)] w (RetE2 (LE h n k P M) (ZE h n k) w) := by
  have hl : validF h n k = true → (encL h P M).length ≤ 127 := fun hv => by rw [length_encL, hJ.length, hM.length]; exact (length_of_valid h n k hv).2
  refine (rencode_any h a n c P b k d M w ho hJ hM hn).mono ?_
  intro e w' hh
  unfold RetEncR at hh
  unfold RetE2 LE ZE
  cases hv : validF h n k
  · rw [hv] at hh
    simp only [Bool.false_eq_true, if_false] at hh ⊢
    exact ⟨none, 0, hh.1, isB_nil _, hh.2⟩
  · rw [hv] at hh
    simp only [if_true] at hh ⊢
    obtain ⟨v, h1, h2, h3⟩ := hh
    obtain ⟨p, q, rfl, hI⟩ := h2.isB (by have := hl hv; omega)
    exact ⟨_, _, h1, hI, h3⟩

set_option maxHeartbeats 8000000 in
set_option maxRecDepth 100000 in
theorem forms_any (h : Hd) (a : Option Addr) (n c : Nat) (P : List UInt8) (b : Option Addr) (k d : Nat) (M : List UInt8) (w : World) (ho : HOk h) (hJ : IsB w a n c P) (hM : IsB w b k d M) (hn : n ≤ 140737488355000) :
    Calls Try.prog 8 #[fv h (.slice a n c) (.slice b k d)] w (RetS (.bool true) w) := by
  have hJm := hJ.max
  have hMm := hM.max
  have hJ0 := hJ
  have hM0 := hM
  have e1 := fun w hJ hM => enc_u h a n c P b k d M w ho hJ hM hn
  have e2 := fun w hJ hM => renc_u h a n c P b k d M w ho hJ hM hn
  unfold RetE2 at e1 e2
  have a1 := fun w => ackfor_any h a n c b k d w hJm hMm
  have a2 := fun w hJ hM => rackfor_any h a n c P b k d M w ho hJ hM hn
  unfold RetAck at a1 a2
  have v1 := fun w => vframe_any h a n c b k d w hJm hMm
  have v2 := fun w hJ => rvalid_any5 h a n c P b k d w ho hJ hn hMm
  have z1 := fun w => siz_any h a n c b k d w hJm hMm
  have z2 := fun w hJ => rsize_any h a n c P b k d w ho hJ hn hMm
  have r1 := fun w => room_any h a n c b k d w hJm hMm
  have r2 := fun w hJ => rroom_any h a n c P b k d w ho hJ hn hMm
  have h1 := fun w hJ hM => Header_any h a n c P b k d M w ho hJ hM
  have h2 := fun w hJ hM => rHeader_any h a n c P b k d M w ho hJ hM hn
  have hLH : (hdrL h n k P).length ≤ 281474976710656 := by
    have := length_preL_le h
    have := hJ.length
    unfold hdrL
    by_cases hc : validF h n (if h.se then 4 else k) = true
    · rw [if_pos hc]; unfold headL; rw [List.length_append]; omega
    · rw [if_neg hc]; simp
  generalize hdrL h n k P = LH at *
  generalize LE h n k P M = LL at *
  generalize ZE h n k = zz at *
  generalize (if ackB h n k = true then ackH h.sq else zH) = HX at *
  generalize ackB h n k = ab at *
  generalize validF h n k = vb at *
  generalize sizF h n k = sz at *
  generalize roomF h n k = rm at *
  have hxh : (LH == LH) = true := by simp
  have hxl : (LL == LL) = true := by simp
  have hF := (Fk.new w h (.slice a n c) (.slice b k d)).fr
  have hB := (Below.refl w.heap.size w).alloc (Nat.le_refl _) (.cells (fvl h (.slice a n c) (.slice b k d)).toArray 31)
  rw [show fv h (.slice a n c) (.slice b k d) = .agg (fvl h (.slice a n c) (.slice b k d)).toArray from rfl]
  go_enter Try.func8, Try.ntmps8
  go_wp2_with ((with_reducible refine wpList_load_frame (op := ⟨some 12, _, _, _, _, _⟩) ?_ (.tmp 1) ?_ ?_ hF ?_); (· exact rfl); (· exact rfl); (· exact rfl))
  generalize w.alloc _ = w1 at *
  with_reducible refine (e1 _ (hJ0.below hB) (hM0.below hB)).mono ?_
  rintro e w2 ⟨pa, ca, rfl, hIa, hb⟩
  have hF := hF.below hb hF.lt
  have hB := hB.trans (hb.mono hB.size)
  clear hb e1
  go_wp2_with ((with_reducible refine wpList_load_frame (op := ⟨some 17, _, _, _, _, _⟩) ?_ (.tmp 1) ?_ ?_ hF ?_); (· exact rfl); (· exact rfl); (· exact rfl))
  with_reducible refine (e2 _ (hJ0.below hB) (hM0.below hB)).mono ?_
  rintro e w3 ⟨pb, cb, rfl, hIb, hb⟩
  have hF := hF.below hb hF.lt
  have hIa := hIa.below hb
  have hB := hB.trans (hb.mono hB.size)
  clear hb e2
  go_wp2_with ((with_reducible refine wpList_load_frame (op := ⟨some 22, _, _, _, _, _⟩) ?_ (.tmp 1) ?_ ?_ hF ?_); (· exact rfl); (· exact rfl); (· exact rfl))
  with_reducible refine (a1 _).mono ?_
  rintro e w4 ⟨rfl, hb⟩
  have hx := (Below.refl w4.heap.size w4).alloc (Nat.le_refl _) (.cells #[.int .i64 0, .bool false, .bool false, .bool false, .int .u8 0, .int .u16 0, .int .i64 0, .int .u16 0, .int .u64 0, .int .i64 0, .int .u16 0, .int .u64 0, .int .u32 0, .int .u8 0, .slice none 0 0, .slice none 0 0] 31)
  have hK : Fk (w4.alloc (.cells #[.int .i64 0, .bool false, .bool false, .bool false, .int .u8 0, .int .u16 0, .int .i64 0, .int .u16 0, .int .u64 0, .int .i64 0, .int .u16 0, .int .u64 0, .int .u32 0, .int .u8 0, .slice none 0 0, .slice none 0 0] 31)) w4.heap.size zH (.slice none 0 0) (.slice none 0 0) := Fk.new w4 zH (.slice none 0 0) (.slice none 0 0)
  go_upto_region 4 with (((with_reducible refine wpList_store_frame (op := ⟨none, _, _, _, _, _⟩) ?_ (.tmp 7) (.tmp 24) ?_ ?_ (h := HX) (p := .slice none 0 0) (m := .slice none 0 0) ?_ hK ?_ ?_ ?_); (· exact rfl); (· exact rfl); (· exact rfl); (· exact rfl); (· exact rfl); (· exact rfl); intro w6 hR6 hO6))
  have hb := (hb.trans ((hx.trans (hO6.below (Nat.le_refl _) (by simp))).mono hb.size))
  have hF := hF.below hb hF.lt
  have hIa := hIa.below hb
  have hIb := hIb.below hb
  have hB := hB.trans (hb.mono hB.size)
  have hF7 := hR6.out
  clear hb hx hK hO6 hR6 a1
  generalize w4.heap.size = b7 at *
  go_wp2_with ((with_reducible refine wpList_load_frame (op := ⟨some 27, _, _, _, _, _⟩) ?_ (.tmp 1) ?_ ?_ hF ?_); (· exact rfl); (· exact rfl); (· exact rfl))
  with_reducible refine (a2 _ (hJ0.below hB) (hM0.below hB)).mono ?_
  rintro e w8 ⟨rfl, hb⟩
  have hx := (Below.refl w8.heap.size w8).alloc (Nat.le_refl _) (.cells #[.int .i64 0, .bool false, .bool false, .bool false, .int .u8 0, .int .u16 0, .int .i64 0, .int .u16 0, .int .u64 0, .int .i64 0, .int .u16 0, .int .u64 0, .int .u32 0, .int .u8 0, .slice none 0 0, .slice none 0 0] 31)
  have hK : Fk (w8.alloc (.cells #[.int .i64 0, .bool false, .bool false, .bool false, .int .u8 0, .int .u16 0, .int .i64 0, .int .u16 0, .int .u64 0, .int .i64 0, .int .u16 0, .int .u64 0, .int .u32 0, .int .u8 0, .slice none 0 0, .slice none 0 0] 31)) w8.heap.size zH (.slice none 0 0) (.slice none 0 0) := Fk.new w8 zH (.slice none 0 0) (.slice none 0 0)
  go_upto_region 5 with (((with_reducible refine wpList_store_frame (op := ⟨none, _, _, _, _, _⟩) ?_ (.tmp 9) (.tmp 29) ?_ ?_ (h := HX) (p := .slice none 0 0) (m := .slice none 0 0) ?_ hK ?_ ?_ ?_); (· exact rfl); (· exact rfl); (· exact rfl); (· exact rfl); (· exact rfl); (· exact rfl); intro w5 hR5 hO5))
  have hb := (hb.trans ((hx.trans (hO5.below (Nat.le_refl _) (by simp))).mono hb.size))
  have hF := hF.below hb hF.lt
  have hF7 := hF7.below hb hF7.lt
  have hIa := hIa.below hb
  have hIb := hIb.below hb
  have hB := hB.trans (hb.mono hB.size)
  have hF9 := hR5.out
  have hJ := hJ0.below hB
  have hM := hM0.below hB
  clear hb hx hK hO5 hR5 a2
  generalize w8.heap.size = b9 at *
  refine wp_region_held_drew (S := fun w' => Below w5.heap.size w5 w') (by kernel_rfl) (below_drewN (Below.refl _ _) 1) (fun hHeld => ?_)
  refine wpAnyH_frame (g := w.heap.size) (h := h) (p := .slice a n c) (m := .slice b k d) (i := 0) (oi := ⟨some 31, _, _, _, _, _⟩) rfl (by kernel_rfl) (by kernel_rfl) (by kernel_rfl) (fun _ _ _ h => h) (by rfl) (.tmp 1) rfl rfl  (fun _ h => hF.below h hF.lt) hHeld ?_
  try simp only [Act.put, List.setIfInBounds_toArray, List.set_cons_zero, List.set_cons_succ]
  refine wpAnyH_frame (g := w.heap.size) (h := h) (p := .slice a n c) (m := .slice b k d) (i := 2) (oi := ⟨some 33, _, _, _, _, _⟩) rfl (by kernel_rfl) (by kernel_rfl) (by kernel_rfl) (fun _ _ _ h => h) (by rfl) (.tmp 1) rfl rfl  (fun _ h => hF.below h hF.lt) hHeld ?_
  try simp only [Act.put, List.setIfInBounds_toArray, List.set_cons_zero, List.set_cons_succ]
  refine wpAnyH_ready (rs := [1]) (by kernel_rfl) (by simp) ?_
  refine AllReadyH.cons (o := ⟨some 32, _, _, _, _, _⟩) rfl (fun K hK => ?_) AllReadyH.nil
  go_simp
  with_reducible refine (v1 _).mono ?_
  rintro e u1 ⟨rfl, hb1⟩
  have hq1 := hHeld.trans (hb1.mono hHeld.size)
  go_wp2_with fail
  clear hHeld
  refine hK.out _ _ (hq1) (fun hHeld => ?_)
  clear hK K
  try simp only [Act.put, List.setIfInBounds_toArray, List.set_cons_zero, List.set_cons_succ]
  refine wpAnyH_ready (rs := [3]) (by kernel_rfl) (by simp) ?_
  refine AllReadyH.cons (o := ⟨some 34, _, _, _, _, _⟩) rfl (fun K hK => ?_) AllReadyH.nil
  go_simp
  with_reducible refine (v2 _ (hJ.below hHeld)).mono ?_
  rintro e u3 ⟨rfl, hb3⟩
  have hq3 := hHeld.trans (hb3.mono hHeld.size)
  go_wp2_with fail
  clear hHeld
  refine hK.out _ _ (hq3) (fun hHeld => ?_)
  clear hK K
  try simp only [Act.put, List.setIfInBounds_toArray, List.set_cons_zero, List.set_cons_succ]
  refine wpAnyH_take (i := 4) (oi := ⟨some 35, _, _, _, _, _⟩) (v := ?_) rfl (by kernel_rfl) (by kernel_rfl) (by kernel_rfl) (fun _ _ _ h => h) (Or.inl ⟨by rfl, ?_⟩) hHeld ?_
  rotate_left
  · intro w hSw; go_simp; try with_reducible rfl
  try simp only [Act.put, List.setIfInBounds_toArray, List.set_cons_zero, List.set_cons_succ]
  refine wpAnyH_take (i := 5) (oi := ⟨some 36, _, _, _, _, _⟩) (v := ?_) rfl (by kernel_rfl) (by kernel_rfl) (by kernel_rfl) (fun _ _ _ h => h) (Or.inl ⟨by rfl, ?_⟩) hHeld ?_
  rotate_left
  · intro w hSw; go_simp; try with_reducible rfl
  try simp only [Act.put, List.setIfInBounds_toArray, List.set_cons_zero, List.set_cons_succ]
  refine wpAnyH_frame (g := w.heap.size) (h := h) (p := .slice a n c) (m := .slice b k d) (i := 6) (oi := ⟨some 37, _, _, _, _, _⟩) rfl (by kernel_rfl) (by kernel_rfl) (by kernel_rfl) (fun _ _ _ h => h) (by rfl) (.tmp 1) rfl rfl  (fun _ h => hF.below h hF.lt) hHeld ?_
  try simp only [Act.put, List.setIfInBounds_toArray, List.set_cons_zero, List.set_cons_succ]
  refine wpAnyH_frame (g := w.heap.size) (h := h) (p := .slice a n c) (m := .slice b k d) (i := 8) (oi := ⟨some 39, _, _, _, _, _⟩) rfl (by kernel_rfl) (by kernel_rfl) (by kernel_rfl) (fun _ _ _ h => h) (by rfl) (.tmp 1) rfl rfl  (fun _ h => hF.below h hF.lt) hHeld ?_
  try simp only [Act.put, List.setIfInBounds_toArray, List.set_cons_zero, List.set_cons_succ]
  refine wpAnyH_ready (rs := [7]) (by kernel_rfl) (by simp) ?_
  refine AllReadyH.cons (o := ⟨some 38, _, _, _, _, _⟩) rfl (fun K hK => ?_) AllReadyH.nil
  go_simp
  with_reducible refine (z1 _).mono ?_
  rintro e u7 ⟨rfl, hb7⟩
  have hq7 := hHeld.trans (hb7.mono hHeld.size)
  go_wp2_with fail
  clear hHeld
  refine hK.out _ _ (hq7) (fun hHeld => ?_)
  clear hK K
  try simp only [Act.put, List.setIfInBounds_toArray, List.set_cons_zero, List.set_cons_succ]
  refine wpAnyH_ready (rs := [9]) (by kernel_rfl) (by simp) ?_
  refine AllReadyH.cons (o := ⟨some 40, _, _, _, _, _⟩) rfl (fun K hK => ?_) AllReadyH.nil
  go_simp
  with_reducible refine (z2 _ (hJ.below hHeld)).mono ?_
  rintro e u9 ⟨rfl, hb9⟩
  have hq9 := hHeld.trans (hb9.mono hHeld.size)
  go_wp2_with fail
  clear hHeld
  refine hK.out _ _ (hq9) (fun hHeld => ?_)
  clear hK K
  try simp only [Act.put, List.setIfInBounds_toArray, List.set_cons_zero, List.set_cons_succ]
  refine wpAnyH_take (i := 10) (oi := ⟨some 41, _, _, _, _, _⟩) (v := ?_) rfl (by kernel_rfl) (by kernel_rfl) (by kernel_rfl) (fun _ _ _ h => h) (Or.inl ⟨by rfl, ?_⟩) hHeld ?_
  rotate_left
  · intro w hSw; go_simp; try with_reducible rfl
  try simp only [Act.put, List.setIfInBounds_toArray, List.set_cons_zero, List.set_cons_succ]
  refine wpAnyH_take (i := 11) (oi := ⟨some 42, _, _, _, _, _⟩) (v := ?_) rfl (by kernel_rfl) (by kernel_rfl) (by kernel_rfl) (fun _ _ _ h => h) (Or.inl ⟨by rfl, ?_⟩) hHeld ?_
  rotate_left
  · intro w hSw; go_simp; try with_reducible rfl
  try simp only [Act.put, List.setIfInBounds_toArray, List.set_cons_zero, List.set_cons_succ]
  refine wpAnyH_take (i := 12) (oi := ⟨some 43, _, _, _, _, _⟩) (v := ?_) rfl (by kernel_rfl) (by kernel_rfl) (by kernel_rfl) (fun _ _ _ h => h) (Or.inl ⟨by rfl, ?_⟩) hHeld ?_
  rotate_left
  · intro w hSw; go_simp; try with_reducible rfl
  try simp only [Act.put, List.setIfInBounds_toArray, List.set_cons_zero, List.set_cons_succ]
  refine wpAnyH_frame (g := w.heap.size) (h := h) (p := .slice a n c) (m := .slice b k d) (i := 13) (oi := ⟨some 44, _, _, _, _, _⟩) rfl (by kernel_rfl) (by kernel_rfl) (by kernel_rfl) (fun _ _ _ h => h) (by rfl) (.tmp 1) rfl rfl  (fun _ h => hF.below h hF.lt) hHeld ?_
  try simp only [Act.put, List.setIfInBounds_toArray, List.set_cons_zero, List.set_cons_succ]
  refine wpAnyH_frame (g := w.heap.size) (h := h) (p := .slice a n c) (m := .slice b k d) (i := 15) (oi := ⟨some 46, _, _, _, _, _⟩) rfl (by kernel_rfl) (by kernel_rfl) (by kernel_rfl) (fun _ _ _ h => h) (by rfl) (.tmp 1) rfl rfl  (fun _ h => hF.below h hF.lt) hHeld ?_
  try simp only [Act.put, List.setIfInBounds_toArray, List.set_cons_zero, List.set_cons_succ]
  refine wpAnyH_ready (rs := [14]) (by kernel_rfl) (by simp) ?_
  refine AllReadyH.cons (o := ⟨some 45, _, _, _, _, _⟩) rfl (fun K hK => ?_) AllReadyH.nil
  go_simp
  with_reducible refine (r1 _).mono ?_
  rintro e u14 ⟨rfl, hb14⟩
  have hq14 := hHeld.trans (hb14.mono hHeld.size)
  go_wp2_with fail
  clear hHeld
  refine hK.out _ _ (hq14) (fun hHeld => ?_)
  clear hK K
  try simp only [Act.put, List.setIfInBounds_toArray, List.set_cons_zero, List.set_cons_succ]
  refine wpAnyH_ready (rs := [16]) (by kernel_rfl) (by simp) ?_
  refine AllReadyH.cons (o := ⟨some 47, _, _, _, _, _⟩) rfl (fun K hK => ?_) AllReadyH.nil
  go_simp
  with_reducible refine (r2 _ (hJ.below hHeld)).mono ?_
  rintro e u16 ⟨rfl, hb16⟩
  have hq16 := hHeld.trans (hb16.mono hHeld.size)
  go_wp2_with fail
  clear hHeld
  refine hK.out _ _ (hq16) (fun hHeld => ?_)
  clear hK K
  try simp only [Act.put, List.setIfInBounds_toArray, List.set_cons_zero, List.set_cons_succ]
  refine wpAnyH_take (i := 17) (oi := ⟨some 48, _, _, _, _, _⟩) (v := ?_) rfl (by kernel_rfl) (by kernel_rfl) (by kernel_rfl) (fun _ _ _ h => h) (Or.inl ⟨by rfl, ?_⟩) hHeld ?_
  rotate_left
  · intro w hSw; go_simp; try with_reducible rfl
  try simp only [Act.put, List.setIfInBounds_toArray, List.set_cons_zero, List.set_cons_succ]
  refine wpAnyH_take (i := 18) (oi := ⟨some 49, _, _, _, _, _⟩) (v := ?_) rfl (by kernel_rfl) (by kernel_rfl) (by kernel_rfl) (fun _ _ _ h => h) (Or.inl ⟨by rfl, ?_⟩) hHeld ?_
  rotate_left
  · intro w hSw; go_simp; try with_reducible rfl
  try simp only [Act.put, List.setIfInBounds_toArray, List.set_cons_zero, List.set_cons_succ]
  refine wpAnyH_take (i := 19) (oi := ⟨some 50, _, _, _, _, _⟩) (v := ?_) rfl (by kernel_rfl) (by kernel_rfl) (by kernel_rfl) (fun _ _ _ h => h) (Or.inl ⟨by rfl, ?_⟩) hHeld ?_
  rotate_left
  · intro w hSw; go_simp; try with_reducible rfl
  try simp only [Act.put, List.setIfInBounds_toArray, List.set_cons_zero, List.set_cons_succ]
  refine wpAnyH_frame (g := w.heap.size) (h := h) (p := .slice a n c) (m := .slice b k d) (i := 20) (oi := ⟨some 51, _, _, _, _, _⟩) rfl (by kernel_rfl) (by kernel_rfl) (by kernel_rfl) (fun _ _ _ h => h) (by rfl) (.tmp 1) rfl rfl  (fun _ h => hF.below h hF.lt) hHeld ?_
  try simp only [Act.put, List.setIfInBounds_toArray, List.set_cons_zero, List.set_cons_succ]
  refine wpAnyH_frame (g := w.heap.size) (h := h) (p := .slice a n c) (m := .slice b k d) (i := 22) (oi := ⟨some 53, _, _, _, _, _⟩) rfl (by kernel_rfl) (by kernel_rfl) (by kernel_rfl) (fun _ _ _ h => h) (by rfl) (.tmp 1) rfl rfl  (fun _ h => hF.below h hF.lt) hHeld ?_
  try simp only [Act.put, List.setIfInBounds_toArray, List.set_cons_zero, List.set_cons_succ]
  refine wpAnyH_ready (rs := [21]) (by kernel_rfl) (by simp) ?_
  refine AllReadyH.cons (o := ⟨some 52, _, _, _, _, _⟩) rfl (fun K hK => ?_) AllReadyH.nil
  go_simp
  with_reducible refine (h1 _ (hJ.below hHeld) (hM.below hHeld)).mono ?_
  rintro e u21 ⟨v21, rfl, hG21, hb21⟩
  obtain ⟨xa21, xc21, rfl, hI21⟩ := hG21.isB hLH
  clear hG21
  have hq21 := hHeld.trans (hb21.mono hHeld.size)
  go_wp2_with fail
  clear hHeld
  refine hK.out _ _ (hq21) (fun hHeld => ?_)
  clear hK K
  try simp only [Act.put, List.setIfInBounds_toArray, List.set_cons_zero, List.set_cons_succ]
  refine wpAnyH_ready (rs := [23]) (by kernel_rfl) (by simp) ?_
  refine AllReadyH.cons (o := ⟨some 54, _, _, _, _, _⟩) rfl (fun K hK => ?_) AllReadyH.nil
  go_simp
  with_reducible refine (h2 _ (hJ.below hHeld) (hM.below hHeld)).mono ?_
  rintro e u23 ⟨v23, rfl, hG23, hb23⟩
  obtain ⟨xa23, xc23, rfl, hI23⟩ := hG23.isB hLH
  clear hG23
  have hI21 := hI21.below hb23
  have hq23 := hHeld.trans (hb23.mono hHeld.size)
  go_wp2_with fail
  clear hHeld
  refine hK.out _ _ (hq23) (fun hHeld => ?_)
  clear hK K
  try simp only [Act.put, List.setIfInBounds_toArray, List.set_cons_zero, List.set_cons_succ]
  refine wpAnyH_ready (rs := [24]) (by kernel_rfl) (by simp) ?_
  refine AllReadyH.cons (o := ⟨some 55, _, _, _, _, _⟩) rfl (fun K hK => ?_) AllReadyH.nil
  go_simp
  with_reducible refine (same_any _ _ _ LH _ _ _ LH _ hI21 hI23).mono ?_
  rintro e u24 ⟨rfl, hb24⟩
  rw [hxh]
  have hq24 := hHeld.trans (hb24.mono hHeld.size)
  go_wp2_with fail
  clear hHeld
  refine hK.out _ _ (hq24) (fun hHeld => ?_)
  clear hK K
  try simp only [Act.put, List.setIfInBounds_toArray, List.set_cons_zero, List.set_cons_succ]
  refine wpAnyH_take (i := 25) (oi := ⟨some 56, _, _, _, _, _⟩) (v := ?_) rfl (by kernel_rfl) (by kernel_rfl) (by kernel_rfl) (fun _ _ _ h => h) (Or.inl ⟨by rfl, ?_⟩) hHeld ?_
  rotate_left
  · intro w hSw; go_simp; try with_reducible rfl
  try simp only [Act.put, List.setIfInBounds_toArray, List.set_cons_zero, List.set_cons_succ]
  refine wpAnyH_take (i := 26) (oi := ⟨some 57, _, _, _, _, _⟩) (v := ?_) rfl (by kernel_rfl) (by kernel_rfl) (by kernel_rfl) (fun _ _ _ h => h) (Or.inl ⟨by rfl, ?_⟩) hHeld ?_
  rotate_left
  · intro w hSw; go_simp; try with_reducible rfl
  try simp only [Act.put, List.setIfInBounds_toArray, List.set_cons_zero, List.set_cons_succ]
  refine wpAnyH_take (i := 27) (oi := ⟨some 58, _, _, _, _, _⟩) (v := ?_) rfl (by kernel_rfl) (by kernel_rfl) (by kernel_rfl) (fun _ _ _ h => h) (Or.inl ⟨by rfl, ?_⟩) hHeld ?_
  rotate_left
  · intro w hSw; go_simp; try with_reducible rfl
  try simp only [Act.put, List.setIfInBounds_toArray, List.set_cons_zero, List.set_cons_succ]
  refine wpAnyH_take (i := 28) (oi := ⟨some 59, _, _, _, _, _⟩) (v := ?_) rfl (by kernel_rfl) (by kernel_rfl) (by kernel_rfl) (fun _ _ _ h => h) (Or.inl ⟨by rfl, ?_⟩) hHeld ?_
  rotate_left
  · intro w hSw; go_simp; try with_reducible rfl
  try simp only [Act.put, List.setIfInBounds_toArray, List.set_cons_zero, List.set_cons_succ]
  refine wpAnyH_take (i := 29) (oi := ⟨some 60, _, _, _, _, _⟩) (v := ?_) rfl (by kernel_rfl) (by kernel_rfl) (by kernel_rfl) (fun _ _ _ h => h) (Or.inl ⟨by rfl, ?_⟩) hHeld ?_
  rotate_left
  · intro w hSw; go_simp; try with_reducible rfl
  try simp only [Act.put, List.setIfInBounds_toArray, List.set_cons_zero, List.set_cons_succ]
  refine wpAnyH_take (i := 30) (oi := ⟨some 61, _, _, _, _, _⟩) (v := ?_) rfl (by kernel_rfl) (by kernel_rfl) (by kernel_rfl) (fun _ _ _ h => h) (Or.inl ⟨by rfl, ?_⟩) hHeld ?_
  rotate_left
  · intro w hSw; go_simp; try with_reducible rfl
  try simp only [Act.put, List.setIfInBounds_toArray, List.set_cons_zero, List.set_cons_succ]
  refine wpAnyH_take (i := 31) (oi := ⟨some 62, _, _, _, _, _⟩) (v := ?_) rfl (by kernel_rfl) (by kernel_rfl) (by kernel_rfl) (fun _ _ _ h => h) (Or.inl ⟨by rfl, ?_⟩) hHeld ?_
  rotate_left
  · intro w hSw; go_simp; try with_reducible rfl
  try simp only [Act.put, List.setIfInBounds_toArray, List.set_cons_zero, List.set_cons_succ]
  refine wpAnyH_take (i := 32) (oi := ⟨some 63, _, _, _, _, _⟩) (v := ?_) rfl (by kernel_rfl) (by kernel_rfl) (by kernel_rfl) (fun _ _ _ h => h) (Or.inl ⟨by rfl, ?_⟩) hHeld ?_
  rotate_left
  · intro w hSw; go_simp; try with_reducible rfl
  try simp only [Act.put, List.setIfInBounds_toArray, List.set_cons_zero, List.set_cons_succ]
  refine wpAnyH_take (i := 33) (oi := ⟨some 64, _, _, _, _, _⟩) (v := ?_) rfl (by kernel_rfl) (by kernel_rfl) (by kernel_rfl) (fun _ _ _ h => h) (Or.inl ⟨by rfl, ?_⟩) hHeld ?_
  rotate_left
  · intro w hSw; go_simp; try with_reducible rfl
  try simp only [Act.put, List.setIfInBounds_toArray, List.set_cons_zero, List.set_cons_succ]
  refine wpAnyH_ready (rs := [34]) (by kernel_rfl) (by simp) ?_
  refine AllReadyH.cons (o := ⟨some 65, _, _, _, _, _⟩) rfl (fun K hK => ?_) AllReadyH.nil
  go_simp
  with_reducible refine (same_any _ _ _ LL _ _ _ LL _ (hIa.below hHeld) (hIb.below hHeld)).mono ?_
  rintro e u34 ⟨rfl, hb34⟩
  rw [hxl]
  have hq34 := hHeld.trans (hb34.mono hHeld.size)
  go_wp2_with fail
  clear hHeld
  refine hK.out _ _ (hq34) (fun hHeld => ?_)
  clear hK K
  try simp only [Act.put, List.setIfInBounds_toArray, List.set_cons_zero, List.set_cons_succ]
  refine wpAnyH_take (i := 35) (oi := ⟨some 66, _, _, _, _, _⟩) (v := ?_) rfl (by kernel_rfl) (by kernel_rfl) (by kernel_rfl) (fun _ _ _ h => h) (Or.inl ⟨by rfl, ?_⟩) hHeld ?_
  rotate_left
  · intro w hSw; go_simp; try with_reducible rfl
  try simp only [Act.put, List.setIfInBounds_toArray, List.set_cons_zero, List.set_cons_succ]
  refine wpAnyH_take (i := 36) (oi := ⟨some 67, _, _, _, _, _⟩) (v := ?_) rfl (by kernel_rfl) (by kernel_rfl) (by kernel_rfl) (fun _ _ _ h => h) (Or.inl ⟨by rfl, ?_⟩) hHeld ?_
  rotate_left
  · intro w hSw; go_simp; try with_reducible rfl
  try simp only [Act.put, List.setIfInBounds_toArray, List.set_cons_zero, List.set_cons_succ]
  refine wpAnyH_take (i := 37) (oi := ⟨some 68, _, _, _, _, _⟩) (v := ?_) rfl (by kernel_rfl) (by kernel_rfl) (by kernel_rfl) (fun _ _ _ h => h) (Or.inl ⟨by rfl, ?_⟩) hHeld ?_
  rotate_left
  · intro w hSw; go_simp; try with_reducible rfl
  try simp only [Act.put, List.setIfInBounds_toArray, List.set_cons_zero, List.set_cons_succ]
  refine wpAnyH_take (i := 38) (oi := ⟨some 69, _, _, _, _, _⟩) (v := ?_) rfl (by kernel_rfl) (by kernel_rfl) (by kernel_rfl) (fun _ _ _ h => h) (Or.inl ⟨by rfl, ?_⟩) hHeld ?_
  rotate_left
  · intro w hSw; go_simp; try with_reducible rfl
  try simp only [Act.put, List.setIfInBounds_toArray, List.set_cons_zero, List.set_cons_succ]
  refine wpAnyH_take (i := 39) (oi := ⟨some 70, _, _, _, _, _⟩) (v := ?_) rfl (by kernel_rfl) (by kernel_rfl) (by kernel_rfl) (fun _ _ _ h => h) (Or.inl ⟨by rfl, ?_⟩) hHeld ?_
  rotate_left
  · intro w hSw; go_simp; try with_reducible rfl
  try simp only [Act.put, List.setIfInBounds_toArray, List.set_cons_zero, List.set_cons_succ]
  refine wpAnyH_take (i := 40) (oi := ⟨some 71, _, _, _, _, _⟩) (v := ?_) rfl (by kernel_rfl) (by kernel_rfl) (by kernel_rfl) (fun _ _ _ h => h) (Or.inl ⟨by rfl, ?_⟩) hHeld ?_
  rotate_left
  · intro w hSw; go_simp; try with_reducible rfl
  try simp only [Act.put, List.setIfInBounds_toArray, List.set_cons_zero, List.set_cons_succ]
  refine wpAnyH_take (i := 41) (oi := ⟨some 72, _, _, _, _, _⟩) (v := ?_) rfl (by kernel_rfl) (by kernel_rfl) (by kernel_rfl) (fun _ _ _ h => h) (Or.inl ⟨by rfl, ?_⟩) hHeld ?_
  rotate_left
  · intro w hSw; go_simp; try with_reducible rfl
  try simp only [Act.put, List.setIfInBounds_toArray, List.set_cons_zero, List.set_cons_succ]
  refine wpAnyH_frame (g := b7) (h := HX) (p := .slice none 0 0) (m := .slice none 0 0) (i := 42) (oi := ⟨some 73, _, _, _, _, _⟩) rfl (by kernel_rfl) (by kernel_rfl) (by kernel_rfl) (fun _ _ _ h => h) (by rfl) (.tmp 7) rfl rfl  (fun _ h => hF7.below h hF7.lt) hHeld ?_
  try simp only [Act.put, List.setIfInBounds_toArray, List.set_cons_zero, List.set_cons_succ]
  refine wpAnyH_frame (g := b9) (h := HX) (p := .slice none 0 0) (m := .slice none 0 0) (i := 43) (oi := ⟨some 74, _, _, _, _, _⟩) rfl (by kernel_rfl) (by kernel_rfl) (by kernel_rfl) (fun _ _ _ h => h) (by rfl) (.tmp 9) rfl rfl  (fun _ h => hF9.below h hF9.lt) hHeld ?_
  try simp only [Act.put, List.setIfInBounds_toArray, List.set_cons_zero, List.set_cons_succ]
  refine wpAnyH_ready (rs := [44]) (by kernel_rfl) (by simp) ?_
  refine AllReadyH.cons (o := ⟨some 75, _, _, _, _, _⟩) rfl (fun K hK => ?_) AllReadyH.nil
  go_simp
  with_reducible refine (rsame_eq HX none 0 0 [] none 0 0 [] none 0 none 0 _ (isB_nil _) (isB_nil _) (isB_nil _) (isB_nil _)).mono ?_
  rintro e u44 ⟨rfl, hb44⟩
  have hq44 := hHeld.trans (hb44.mono hHeld.size)
  go_wp2_with fail
  clear hHeld
  refine hK.out _ _ (hq44) (fun hHeld => ?_)
  clear hK K
  try simp only [Act.put, List.setIfInBounds_toArray, List.set_cons_zero, List.set_cons_succ]
  refine wpAnyH_take (i := 45) (oi := ⟨some 76, _, _, _, _, _⟩) (v := ?_) rfl (by kernel_rfl) (by kernel_rfl) (by kernel_rfl) (fun _ _ _ h => h) (Or.inl ⟨by rfl, ?_⟩) hHeld ?_
  rotate_left
  · intro w hSw; go_simp; try with_reducible rfl
  try simp only [Act.put, List.setIfInBounds_toArray, List.set_cons_zero, List.set_cons_succ]
  refine wpAnyH_take (i := 46) (oi := ⟨some 2, _, _, _, _, _⟩) (v := ?_) rfl (by kernel_rfl) (by kernel_rfl) (by kernel_rfl) (fun _ _ _ h => h) (Or.inl ⟨by rfl, ?_⟩) hHeld ?_
  rotate_left
  · intro w hSw; go_simp; try with_reducible rfl
  try simp only [Act.put, List.setIfInBounds_toArray, List.set_cons_zero, List.set_cons_succ]
  refine wpAnyH_done (by kernel_rfl) ?_ _
  go_wp2_with fail
  go_ret
  exact ⟨rfl, hB.trans (hHeld.mono hB.size)⟩
end Go.Proofs.Ytmbiophckeiehaa
