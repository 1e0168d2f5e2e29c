/-
  The bytes of a frame before its code.
-/
import Derived.Test.YtmbiophckeiehaaFp4
namespace Go.Proofs.Ytmbiophckeiehaa
open Go.RowKit
set_option linter.unusedSimpArgs false
set_option linter.unusedVariables false

set_option maxHeartbeats 8000000 in
set_option maxRecDepth 100000 in
theorem header_any (h : Hd) (a : Option Addr) (n c : Nat) (P : List UInt8) (m : Value) (w : World) (hv : HVal h) (hJ : IsB w a n c P) (hn : n ≤ 140737488355000) :
    Calls Try.prog 51 #[fv h (.slice a n c) m] w (RetG (headL h P) w) := by
  have j1 := fun w => first_any h (.slice a n c) m w hv.k.1 hv.k.2
  have j2 := fun w => modes_any h (.slice a n c) m w hv.dm.1 hv.dm.2 hv.sm.1 hv.sm.2
  have hrow : row [firstB h, modesB h, UInt8.ofNat h.sq.toNat] = #[.int .u8 ((firstB h).toNat : Int), .int .u8 ((modesB h).toNat : Int), .int .u8 h.sq] := by
    have := hv.ok.sq
    have e : Value.int .u8 h.sq = bv (UInt8.ofNat h.sq.toNat) := by
      simp only [bv, UInt8.toNat_ofNat']
      congr 1; omega
    rw [e]; rfl
  have ja := appAddr_any
  simp only [av] at ja
  have hlP := hJ.length
  have upn : U64 h.pn := by have := hv.ok.pn; unfold U64; omega
  have uct : U64 h.ct := by have := hv.ok.ct; unfold U64; omega
  have uky : U64 h.ky := by have := hv.ok.ky; unfold U64; omega
  have i1 : I64 1 := by unfold I64; omega
  have i2 : I64 2 := by unfold I64; omega
  have i4 : I64 4 := by unfold I64; omega
  have wpn : IntKind.u64.wrap h.pn = h.pn := by have := hv.ok.pn; rw [IntKind.wrap_u64]; omega
  have wct : IntKind.u64.wrap h.ct = h.ct := by have := hv.ok.ct; rw [IntKind.wrap_u64]; omega
  have wky : IntKind.u64.wrap h.ky = h.ky := by have := hv.ok.ky; rw [IntKind.wrap_u64]; omega
  rw [show fv h (.slice a n c) m = .agg (fvl h (.slice a n c) m).toArray from rfl]
  go_enter Try.func51, Try.ntmps51
  have hF := (Fk.new w h (.slice a n c) m).fr
  have hB := (Below.refl w.heap.size w).alloc (Nat.le_refl _) (.cells (fvl h (.slice a n c) m).toArray 31)
  have hJ := hJ.below hB
  go_wp2_with fail
  generalize w.alloc _ = w1 at *
  refine wp_region_held_drew (S := fun w' => Below w.heap.size w w' ∧ Fr w' w.heap.size h (.slice a n c) m ∧ IsB w' a n c P) (by kernel_rfl) (⟨below_drewN hB 1, hF.drew, hJ.below (below_drewN (Below.refl _ _) 1)⟩) (fun hHeld => ?_)
  refine wpAnyH_frame (g := w.heap.size) (h := h) (p := .slice a n c) (m := m) (i := 0) (oi := ⟨some 4, _, _, _, _, _⟩) rfl (by kernel_rfl) (by kernel_rfl) (by kernel_rfl) (fun _ _ _ h => h) (by rfl) (.tmp 1) rfl rfl  (fun _ h => h.2.1) hHeld ?_
  try simp only [Act.put, List.setIfInBounds_toArray, List.set_cons_zero, List.set_cons_succ]
  refine wpAnyH_frame (g := w.heap.size) (h := h) (p := .slice a n c) (m := m) (i := 2) (oi := ⟨some 6, _, _, _, _, _⟩) rfl (by kernel_rfl) (by kernel_rfl) (by kernel_rfl) (fun _ _ _ h => h) (by rfl) (.tmp 1) rfl rfl  (fun _ h => h.2.1) hHeld ?_
  try simp only [Act.put, List.setIfInBounds_toArray, List.set_cons_zero, List.set_cons_succ]
  refine wpAnyH_take (i := 4) (oi := ⟨some 8, _, _, _, _, _⟩) (v := ?_) rfl (by kernel_rfl) (by kernel_rfl) (by kernel_rfl) (fun _ _ _ h => h) (Or.inl ⟨by rfl, ?_⟩) hHeld ?_
  rotate_left
  · intro w hSw; go_simp; try with_reducible rfl
  try simp only [Act.put, List.setIfInBounds_toArray, List.set_cons_zero, List.set_cons_succ]
  refine wpAnyH_take (i := 5) (oi := ⟨some 9, _, _, _, _, _⟩) (v := ?_) rfl (by kernel_rfl) (by kernel_rfl) (by kernel_rfl) (fun _ _ _ h => h) (Or.inl ⟨by rfl, ?_⟩) hHeld ?_
  rotate_left
  · intro w hSw; have c4 := hSw.2.1.cells.2.2.2.2.1; go_simp; try with_reducible rfl
  try simp only [Act.put, List.setIfInBounds_toArray, List.set_cons_zero, List.set_cons_succ]
  refine wpAnyH_ready (rs := [1]) (by kernel_rfl) (by simp) ?_
  refine AllReadyH.cons (o := ⟨some 5, _, _, _, _, _⟩) rfl (fun K hK => ?_) AllReadyH.nil
  go_simp
  have hP1 := hHeld
  with_reducible refine (j1 _).mono ?_
  rintro e1 v1 ⟨rfl, hb1⟩
  have hQ1 := hP1.1.trans (hb1.mono hP1.1.size)
  have hR1 := hP1.2.1.below hb1 hP1.2.1.lt
  have hI1 := hP1.2.2.below hb1
  go_wp2_with fail
  clear hHeld
  refine hK.out _ _ (⟨hQ1, hR1, hI1⟩) (fun hHeld => ?_)
  clear hK K
  try simp only [Act.put, List.setIfInBounds_toArray, List.set_cons_zero, List.set_cons_succ]
  refine wpAnyH_ready (rs := [3]) (by kernel_rfl) (by simp) ?_
  refine AllReadyH.cons (o := ⟨some 7, _, _, _, _, _⟩) rfl (fun K hK => ?_) AllReadyH.nil
  go_simp
  have hP3 := hHeld
  with_reducible refine (j2 _).mono ?_
  rintro e3 v3 ⟨rfl, hb3⟩
  have hQ3 := hP3.1.trans (hb3.mono hP3.1.size)
  have hR3 := hP3.2.1.below hb3 hP3.2.1.lt
  have hI3 := hP3.2.2.below hb3
  go_wp2_with fail
  clear hHeld
  refine hK.out _ _ (⟨hQ3, hR3, hI3⟩) (fun hHeld => ?_)
  clear hK K
  try simp only [Act.put, List.setIfInBounds_toArray, List.set_cons_zero, List.set_cons_succ]
  refine wpAnyH_ready (rs := [6]) (by kernel_rfl) (by simp) ?_
  refine AllReadyH.cons (o := ⟨some 10, _, _, _, _, _⟩) rfl (fun K hK => ?_) AllReadyH.nil
  go_simp
  have hx := (Below.refl v3.heap.size v3).alloc (Nat.le_refl _) (.cells #[.int .u8 ((firstB h).toNat : Int), .int .u8 ((modesB h).toNat : Int), .int .u8 h.sq] 5)
  have hO6 := Own.new v3 [firstB h, modesB h, UInt8.ofNat h.sq.toNat]
  rw [hrow] at hO6
  have hB6 := hQ3.alloc hQ3.size (.cells #[.int .u8 ((firstB h).toNat : Int), .int .u8 ((modesB h).toNat : Int), .int .u8 h.sq] 5)
  have hR6 := hR3.below hx hR3.lt
  have hz6 := hQ3.size
  have hI6 := hI3.below hx
  clear hHeld
  refine hK.out _ _ (⟨hB6, hR6, hI6⟩) (fun hHeld => ?_)
  clear hK K
  try simp only [Act.put, List.setIfInBounds_toArray, List.set_cons_zero, List.set_cons_succ]
  refine wpAnyH_take (i := 7) (oi := ⟨some 3, _, _, _, _, _⟩) (v := ?_) rfl (by kernel_rfl) (by kernel_rfl) (by kernel_rfl) (fun _ _ _ h => h) (Or.inl ⟨by rfl, ?_⟩) hHeld ?_
  rotate_left
  · intro w hSw; go_simp; try with_reducible rfl
  try simp only [Act.put, List.setIfInBounds_toArray, List.set_cons_zero, List.set_cons_succ]
  refine wpAnyH_done (by kernel_rfl) ?_ _
  obtain ⟨g6, hg6d⟩ : ∃ g, g = v3.heap.size := ⟨_, rfl⟩
  obtain ⟨R6, hR6d⟩ : ∃ R, R = [firstB h, modesB h, UInt8.ofNat h.sq.toNat] := ⟨_, rfl⟩
  have H6 := hid hR6d
  have hl6 : R6.length = 3 := by rw [hR6d]; rfl
  rw [← hR6d, ← hg6d] at hO6
  have hg6 : w.heap.size ≤ g6 := by rw [hg6d]; exact hz6
  rw [← hg6d]
  clear hHeld hP1 hP3 hb1 hb3 hQ1 hQ3 hR1 hR3 hI1 hI3 hrow hJ hR6d hg6d hz6 hx hF hB
  generalize v3.alloc _ = w6 at *
  have hF := hR6
  have hI := hI6
  have hB := hB6
  clear hR6 hI6 hB6
  have hs := hB.size
  have J6h : Hid (IsB w6 (some ⟨g6, 0, none⟩) 3 3 R6) := hid (by have := hO6.isB (by omega); rwa [hl6] at this)
  have GR : Hid (Gr w6 w.heap.size (.slice (some ⟨g6, 0, none⟩) 3 3) R6) := hid (by have := hO6.gr hg6 (by omega); rwa [hl6] at this)
  by_cases hk : h.k = 2
  · cases hse : h.se
    · obtain ⟨c0, _, _, c3, _, _, _, _, _, _, _, _, _, _, c14, _⟩ := hF.cells
      rw [hse] at c3
      rw [hk] at c0
      have hG : Gr w6 w.heap.size (.slice (some ⟨g6, 0, none⟩) 3 3) R6 := GR.out -- hO6h.out.gr hg6 (by omega)
      go_wp2_with (with_reducible refine wpList_append_bytes (o := ⟨some 42, _, _, _, _, _⟩) rfl (.tmp 39) (.tmp 41) rfl (.slice (some ⟨g6, 0, none⟩) 3 3) rfl a n c rfl w.heap.size R6 P hG hI (by omega) w hB hs ?_; intro v7 w7 hG7 hB7 _)
      go_ret
      refine ⟨v7, rfl, ?_, hB7⟩
      have e : headL h P = R6 ++ P := by
        unfold headL preL
        rw [if_pos hk, hse, H6.out]
        simp [List.append_assoc]
      rw [e]; exact hG7.out
    · obtain ⟨c0, _, _, c3, _, c5, c6, c7, c8, c9, c10, c11, c12, c13, c14, _⟩ := hF.cells
      rw [hse] at c3
      rw [hk] at c0
      go_wp2_with fail
      clear c0 c3 c5 c6 c7 c8 c9 c10 c11 c12 c13 c14
      have J6 : IsB w6 (some ⟨g6, 0, none⟩) 3 3 R6 := J6h.out
      with_reducible refine (append_any _ 3 3 R6 _ 4 4 _ J6 (by omega) uct i4 (Or.inl ⟨by omega, by omega, rfl⟩)).mono ?_
      rintro e7 w7 ⟨g7, rfl, hg7, hO7, hb⟩
      have hF := hF.below hb hF.lt
      have hI := hI.below hb
      have hB := hB.trans (hb.mono hB.size)
      have hg7 := Nat.le_trans hs hg7
      have hs := hB.size
      have q8 : (beBytes h.ct.toNat 4).length ≤ 8 := by rw [length_beBytes]; omega
      have hl7 : (R6 ++ beBytes h.ct.toNat 4).length ≤ R6.length + 8 := by rw [List.length_append]; omega
      clear q8
      obtain ⟨R7, hR7⟩ : ∃ R, R = R6 ++ beBytes h.ct.toNat 4 := ⟨_, rfl⟩
      rw [← hR7] at hO7 hl7 ⊢
      have HR7 := hid hR7
      clear hR7 hb
      obtain ⟨c0, _, _, c3, _, c5, c6, c7, c8, c9, c10, c11, c12, c13, c14, _⟩ := hF.cells
      rw [hse] at c3
      rw [hk] at c0
      go_wp2_with fail
      clear c0 c3 c5 c6 c7 c8 c9 c10 c11 c12 c13 c14
      have J7 : IsB w7 (some ⟨g7, 0, none⟩) R7.length R7.length R7 := hO7.isB (by omega)
      with_reducible refine (append_any _ R7.length R7.length R7 _ 1 1 _ J7 (by omega) uky i1 (Or.inl ⟨by omega, by omega, rfl⟩)).mono ?_
      rintro e8 w8 ⟨g8, rfl, hg8, hO8, hb⟩
      have hF := hF.below hb hF.lt
      have hI := hI.below hb
      have hB := hB.trans (hb.mono hB.size)
      have hg8 := Nat.le_trans hs hg8
      have hs := hB.size
      have q8 : (beBytes h.ky.toNat 1).length ≤ 8 := by rw [length_beBytes]; omega
      have hl8 : (R7 ++ beBytes h.ky.toNat 1).length ≤ R7.length + 8 := by rw [List.length_append]; omega
      clear q8
      obtain ⟨R8, hR8⟩ : ∃ R, R = R7 ++ beBytes h.ky.toNat 1 := ⟨_, rfl⟩
      rw [← hR8] at hO8 hl8 ⊢
      have HR8 := hid hR8
      clear hR8 hb
      obtain ⟨c0, _, _, c3, _, _, _, _, _, _, _, _, _, _, c14, _⟩ := hF.cells
      rw [hse] at c3
      rw [hk] at c0
      have hG := hO8.gr hg8 (by omega)
      go_wp2_with (with_reducible refine wpList_append_bytes (o := ⟨some 42, _, _, _, _, _⟩) rfl (.tmp 39) (.tmp 41) rfl (.slice (some ⟨g8, 0, none⟩) R8.length R8.length) rfl a n c rfl w.heap.size R8 P hG hI (by omega) w hB hs ?_; intro v9 w9 hG9 hB9 _)
      go_ret
      refine ⟨v9, rfl, ?_, hB9⟩
      have e : headL h P = R8 ++ P := by
        unfold headL preL
        rw [if_pos hk, hse, HR8.out, HR7.out, H6.out]
        simp [List.append_assoc]
      rw [e]; exact hG9.out
  · cases hse : h.se
    · obtain ⟨c0, _, _, c3, _, c5, c6, c7, c8, c9, c10, c11, c12, c13, c14, _⟩ := hF.cells
      rw [hse] at c3
      go_wp2_with fail
      clear c0 c3 c5 c6 c7 c8 c9 c10 c11 c12 c13 c14
      have J6 : IsB w6 (some ⟨g6, 0, none⟩) 3 3 R6 := J6h.out
      with_reducible refine (append_any _ 3 3 R6 _ 2 2 _ J6 (by omega) upn i2 (Or.inl ⟨by omega, by omega, rfl⟩)).mono ?_
      rintro e7 w7 ⟨g7, rfl, hg7, hO7, hb⟩
      have hF := hF.below hb hF.lt
      have hI := hI.below hb
      have hB := hB.trans (hb.mono hB.size)
      have hg7 := Nat.le_trans hs hg7
      have hs := hB.size
      have q8 : (beBytes h.pn.toNat 2).length ≤ 8 := by rw [length_beBytes]; omega
      have hl7 : (R6 ++ beBytes h.pn.toNat 2).length ≤ R6.length + 8 := by rw [List.length_append]; omega
      clear q8
      obtain ⟨R7, hR7⟩ : ∃ R, R = R6 ++ beBytes h.pn.toNat 2 := ⟨_, rfl⟩
      rw [← hR7] at hO7 hl7 ⊢
      have HR7 := hid hR7
      clear hR7 hb
      obtain ⟨c0, _, _, c3, _, c5, c6, c7, c8, c9, c10, c11, c12, c13, c14, _⟩ := hF.cells
      rw [hse] at c3
      go_wp2_with fail
      clear c0 c3 c5 c6 c7 c8 c9 c10 c11 c12 c13 c14
      have J7 : IsB w7 (some ⟨g7, 0, none⟩) R7.length R7.length R7 := hO7.isB (by omega)
      with_reducible refine (ja _ R7.length R7.length R7 h.dm h.ds h.dx _ J7 (by omega) hv.ok.d).mono ?_
      rintro e8 w8 ⟨g8, rfl, hg8, hO8, hb⟩
      have hF := hF.below hb hF.lt
      have hI := hI.below hb
      have hB := hB.trans (hb.mono hB.size)
      have hg8 := Nat.le_trans hs hg8
      have hs := hB.size
      have q8 : (adL h.dm h.ds h.dx).length ≤ 8 := by rw [length_adL]; exact asz_le _
      have hl8 : (R7 ++ adL h.dm h.ds h.dx).length ≤ R7.length + 8 := by rw [List.length_append]; omega
      clear q8
      obtain ⟨R8, hR8⟩ : ∃ R, R = R7 ++ adL h.dm h.ds h.dx := ⟨_, rfl⟩
      rw [← hR8] at hO8 hl8 ⊢
      have HR8 := hid hR8
      clear hR8 hb
      obtain ⟨c0, _, _, c3, _, c5, c6, c7, c8, c9, c10, c11, c12, c13, c14, _⟩ := hF.cells
      rw [hse] at c3
      go_wp2_with fail
      clear c0 c3 c5 c6 c7 c8 c9 c10 c11 c12 c13 c14
      have J8 : IsB w8 (some ⟨g8, 0, none⟩) R8.length R8.length R8 := hO8.isB (by omega)
      with_reducible refine (ja _ R8.length R8.length R8 h.sm h.ss h.sx _ J8 (by omega) hv.ok.s).mono ?_
      rintro e9 w9 ⟨g9, rfl, hg9, hO9, hb⟩
      have hF := hF.below hb hF.lt
      have hI := hI.below hb
      have hB := hB.trans (hb.mono hB.size)
      have hg9 := Nat.le_trans hs hg9
      have hs := hB.size
      have q8 : (adL h.sm h.ss h.sx).length ≤ 8 := by rw [length_adL]; exact asz_le _
      have hl9 : (R8 ++ adL h.sm h.ss h.sx).length ≤ R8.length + 8 := by rw [List.length_append]; omega
      clear q8
      obtain ⟨R9, hR9⟩ : ∃ R, R = R8 ++ adL h.sm h.ss h.sx := ⟨_, rfl⟩
      rw [← hR9] at hO9 hl9 ⊢
      have HR9 := hid hR9
      clear hR9 hb
      obtain ⟨c0, _, _, c3, _, _, _, _, _, _, _, _, _, _, c14, _⟩ := hF.cells
      rw [hse] at c3
      have hG := hO9.gr hg9 (by omega)
      go_wp2_with (with_reducible refine wpList_append_bytes (o := ⟨some 42, _, _, _, _, _⟩) rfl (.tmp 39) (.tmp 41) rfl (.slice (some ⟨g9, 0, none⟩) R9.length R9.length) rfl a n c rfl w.heap.size R9 P hG hI (by omega) w hB hs ?_; intro v10 w10 hG10 hB10 _)
      go_ret
      refine ⟨v10, rfl, ?_, hB10⟩
      have e : headL h P = R9 ++ P := by
        unfold headL preL
        rw [if_neg hk, hse, HR9.out, HR8.out, HR7.out, H6.out]
        simp [List.append_assoc]
      rw [e]; exact hG10.out
    · obtain ⟨c0, _, _, c3, _, c5, c6, c7, c8, c9, c10, c11, c12, c13, c14, _⟩ := hF.cells
      rw [hse] at c3
      go_wp2_with fail
      clear c0 c3 c5 c6 c7 c8 c9 c10 c11 c12 c13 c14
      have J6 : IsB w6 (some ⟨g6, 0, none⟩) 3 3 R6 := J6h.out
      with_reducible refine (append_any _ 3 3 R6 _ 2 2 _ J6 (by omega) upn i2 (Or.inl ⟨by omega, by omega, rfl⟩)).mono ?_
      rintro e7 w7 ⟨g7, rfl, hg7, hO7, hb⟩
      have hF := hF.below hb hF.lt
      have hI := hI.below hb
      have hB := hB.trans (hb.mono hB.size)
      have hg7 := Nat.le_trans hs hg7
      have hs := hB.size
      have q8 : (beBytes h.pn.toNat 2).length ≤ 8 := by rw [length_beBytes]; omega
      have hl7 : (R6 ++ beBytes h.pn.toNat 2).length ≤ R6.length + 8 := by rw [List.length_append]; omega
      clear q8
      obtain ⟨R7, hR7⟩ : ∃ R, R = R6 ++ beBytes h.pn.toNat 2 := ⟨_, rfl⟩
      rw [← hR7] at hO7 hl7 ⊢
      have HR7 := hid hR7
      clear hR7 hb
      obtain ⟨c0, _, _, c3, _, c5, c6, c7, c8, c9, c10, c11, c12, c13, c14, _⟩ := hF.cells
      rw [hse] at c3
      go_wp2_with fail
      clear c0 c3 c5 c6 c7 c8 c9 c10 c11 c12 c13 c14
      have J7 : IsB w7 (some ⟨g7, 0, none⟩) R7.length R7.length R7 := hO7.isB (by omega)
      with_reducible refine (ja _ R7.length R7.length R7 h.dm h.ds h.dx _ J7 (by omega) hv.ok.d).mono ?_
      rintro e8 w8 ⟨g8, rfl, hg8, hO8, hb⟩
      have hF := hF.below hb hF.lt
      have hI := hI.below hb
      have hB := hB.trans (hb.mono hB.size)
      have hg8 := Nat.le_trans hs hg8
      have hs := hB.size
      have q8 : (adL h.dm h.ds h.dx).length ≤ 8 := by rw [length_adL]; exact asz_le _
      have hl8 : (R7 ++ adL h.dm h.ds h.dx).length ≤ R7.length + 8 := by rw [List.length_append]; omega
      clear q8
      obtain ⟨R8, hR8⟩ : ∃ R, R = R7 ++ adL h.dm h.ds h.dx := ⟨_, rfl⟩
      rw [← hR8] at hO8 hl8 ⊢
      have HR8 := hid hR8
      clear hR8 hb
      obtain ⟨c0, _, _, c3, _, c5, c6, c7, c8, c9, c10, c11, c12, c13, c14, _⟩ := hF.cells
      rw [hse] at c3
      go_wp2_with fail
      clear c0 c3 c5 c6 c7 c8 c9 c10 c11 c12 c13 c14
      have J8 : IsB w8 (some ⟨g8, 0, none⟩) R8.length R8.length R8 := hO8.isB (by omega)
      with_reducible refine (ja _ R8.length R8.length R8 h.sm h.ss h.sx _ J8 (by omega) hv.ok.s).mono ?_
      rintro e9 w9 ⟨g9, rfl, hg9, hO9, hb⟩
      have hF := hF.below hb hF.lt
      have hI := hI.below hb
      have hB := hB.trans (hb.mono hB.size)
      have hg9 := Nat.le_trans hs hg9
      have hs := hB.size
      have q8 : (adL h.sm h.ss h.sx).length ≤ 8 := by rw [length_adL]; exact asz_le _
      have hl9 : (R8 ++ adL h.sm h.ss h.sx).length ≤ R8.length + 8 := by rw [List.length_append]; omega
      clear q8
      obtain ⟨R9, hR9⟩ : ∃ R, R = R8 ++ adL h.sm h.ss h.sx := ⟨_, rfl⟩
      rw [← hR9] at hO9 hl9 ⊢
      have HR9 := hid hR9
      clear hR9 hb
      obtain ⟨c0, _, _, c3, _, c5, c6, c7, c8, c9, c10, c11, c12, c13, c14, _⟩ := hF.cells
      rw [hse] at c3
      go_wp2_with fail
      clear c0 c3 c5 c6 c7 c8 c9 c10 c11 c12 c13 c14
      have J9 : IsB w9 (some ⟨g9, 0, none⟩) R9.length R9.length R9 := hO9.isB (by omega)
      with_reducible refine (append_any _ R9.length R9.length R9 _ 4 4 _ J9 (by omega) uct i4 (Or.inl ⟨by omega, by omega, rfl⟩)).mono ?_
      rintro e10 w10 ⟨g10, rfl, hg10, hO10, hb⟩
      have hF := hF.below hb hF.lt
      have hI := hI.below hb
      have hB := hB.trans (hb.mono hB.size)
      have hg10 := Nat.le_trans hs hg10
      have hs := hB.size
      have q8 : (beBytes h.ct.toNat 4).length ≤ 8 := by rw [length_beBytes]; omega
      have hl10 : (R9 ++ beBytes h.ct.toNat 4).length ≤ R9.length + 8 := by rw [List.length_append]; omega
      clear q8
      obtain ⟨R10, hR10⟩ : ∃ R, R = R9 ++ beBytes h.ct.toNat 4 := ⟨_, rfl⟩
      rw [← hR10] at hO10 hl10 ⊢
      have HR10 := hid hR10
      clear hR10 hb
      obtain ⟨c0, _, _, c3, _, c5, c6, c7, c8, c9, c10, c11, c12, c13, c14, _⟩ := hF.cells
      rw [hse] at c3
      go_wp2_with fail
      clear c0 c3 c5 c6 c7 c8 c9 c10 c11 c12 c13 c14
      have J10 : IsB w10 (some ⟨g10, 0, none⟩) R10.length R10.length R10 := hO10.isB (by omega)
      with_reducible refine (append_any _ R10.length R10.length R10 _ 1 1 _ J10 (by omega) uky i1 (Or.inl ⟨by omega, by omega, rfl⟩)).mono ?_
      rintro e11 w11 ⟨g11, rfl, hg11, hO11, hb⟩
      have hF := hF.below hb hF.lt
      have hI := hI.below hb
      have hB := hB.trans (hb.mono hB.size)
      have hg11 := Nat.le_trans hs hg11
      have hs := hB.size
      have q8 : (beBytes h.ky.toNat 1).length ≤ 8 := by rw [length_beBytes]; omega
      have hl11 : (R10 ++ beBytes h.ky.toNat 1).length ≤ R10.length + 8 := by rw [List.length_append]; omega
      clear q8
      obtain ⟨R11, hR11⟩ : ∃ R, R = R10 ++ beBytes h.ky.toNat 1 := ⟨_, rfl⟩
      rw [← hR11] at hO11 hl11 ⊢
      have HR11 := hid hR11
      clear hR11 hb
      obtain ⟨c0, _, _, c3, _, _, _, _, _, _, _, _, _, _, c14, _⟩ := hF.cells
      rw [hse] at c3
      have hG := hO11.gr hg11 (by omega)
      go_wp2_with (with_reducible refine wpList_append_bytes (o := ⟨some 42, _, _, _, _, _⟩) rfl (.tmp 39) (.tmp 41) rfl (.slice (some ⟨g11, 0, none⟩) R11.length R11.length) rfl a n c rfl w.heap.size R11 P hG hI (by omega) w hB hs ?_; intro v12 w12 hG12 hB12 _)
      go_ret
      refine ⟨v12, rfl, ?_, hB12⟩
      have e : headL h P = R11 ++ P := by
        unfold headL preL
        rw [if_neg hk, hse, HR11.out, HR10.out, HR9.out, HR8.out, HR7.out, H6.out]
        simp [List.append_assoc]
      rw [e]; exact hG12.out
end Go.Proofs.Ytmbiophckeiehaa
