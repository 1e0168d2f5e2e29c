/-
  The reference's Valid, Size and Room of a frame.
-/
import Derived.Test.YtmbiophckeiehaaRf
namespace Go.Proofs.Ytmbiophckeiehaa
open Go.RowKit
set_option linter.unusedSimpArgs false
set_option linter.unusedVariables false

set_option maxHeartbeats 2000000 in
set_option maxRecDepth 100000 in
theorem rone_any (m s e : Int) (w : World) :
    Calls Try.prog 49 #[av m s e] w (RetS (.bool ((validA m s e && !decide (m = 0)) && !bcA m s e)) w) := by
  have h1 := rsome_any m s e
  have h2 := rbcast_any m s e
  generalize (validA m s e && !decide (m = 0)) = x at *
  generalize bcA m s e = y at *
  simp only [av] at h1 h2 ⊢
  have hA := Ar.of_heap (heap_alloc_new w (.cells #[.int .i64 m, .int .u16 s, .int .u64 e] 27))
  have hB := (Below.refl w.heap.size w).alloc (Nat.le_refl _) (.cells #[.int .i64 m, .int .u16 s, .int .u64 e] 27)
  have hsz : w.heap.size < (w.alloc (.cells #[.int .i64 m, .int .u16 s, .int .u64 e] 27)).heap.size := by simp
  go_enter Try.func49, Try.ntmps49
  go_wp2_with fail
  generalize w.alloc _ = w1 at *
  with_reducible refine (h1 _).mono ?_
  rintro e1 w2 ⟨rfl, hb2⟩
  obtain ⟨c0, c1, c2⟩ := (hA.below hb2 hsz).cells
  have hB := hB.trans (hb2.mono hB.size)
  cases x
  · go_wp2_with fail
    go_ret
    exact ⟨ret_bool rfl, hB⟩
  · go_wp2_with fail
    with_reducible refine (h2 _).mono ?_
    rintro e1 w3 ⟨rfl, hb3⟩
    go_wp2_with fail
    go_ret
    exact ⟨ret_bool (by simp), hB.trans (hb3.mono hB.size)⟩

set_option maxHeartbeats 2000000 in
set_option maxRecDepth 100000 in
theorem rvalid_ack (h : Hd) (a : Option Addr) (n c : Nat) (b : Option Addr) (k d : Nat) (w : World) (h2 : h.k = 2) :
    Calls Try.prog 25 #[fv h (.slice a n c) (.slice b k d)] w (RetS (.bool (validF h n k)) w) := by
  have hv : validF h n k = ackF h n k := by unfold validF; rw [if_pos h2]
  rw [hv]
  have HS : Hid (ackF h n k = decide (h.ar = false ∧ h.se = false ∧ (h.ct = 0 ∧ h.ky = 0 ∧ k = 0) ∧ h.pn = 0 ∧ (h.dm = 0 ∧ h.ds = 0 ∧ h.dx = 0) ∧ (h.sm = 0 ∧ h.ss = 0 ∧ h.sx = 0) ∧ n = 0)) := hid (by
    unfold ackF
    rw [Bool.eq_iff_iff]
    simp only [decide_eq_true_eq]
    constructor
    · rintro ⟨h1, h2, h3, h4⟩
      unfold secF at h3; rw [if_neg (by rw [h2]; decide)] at h3
      exact ⟨h1, h2, of_decide_eq_true h3, h4⟩
    · rintro ⟨h1, h2, h3, h4⟩
      refine ⟨h1, h2, ?_, h4⟩
      unfold secF; rw [if_neg (by rw [h2]; decide)]
      exact decide_eq_true h3)
  generalize ackF h n k = z at HS ⊢
  clear hv
  obtain ⟨hk, ar, pe, se, sq, pn, dm, ds, dx, sm, ss, sx, ct, ky⟩ := h
  dsimp only at HS h2
  subst h2
  simp only [fv, fvl]
  have hB := (Below.refl w.heap.size w).alloc (Nat.le_refl _) (.cells #[.int .i64 2, .bool ar, .bool pe, .bool se, .int .u8 sq, .int .u16 pn, .int .i64 dm, .int .u16 ds, .int .u64 dx, .int .i64 sm, .int .u16 ss, .int .u64 sx, .int .u32 ct, .int .u8 ky, .slice a n c, .slice b k d] 31)
  cases ar
  · cases se
    · by_cases h3 : pn = 0 ∧ ct = 0 ∧ ky = 0
      · obtain ⟨rfl, rfl, rfl⟩ := h3
        by_cases h4 : dm = 0 ∧ ds = 0 ∧ dx = 0
        · obtain ⟨rfl, rfl, rfl⟩ := h4
          by_cases h5 : sm = 0 ∧ ss = 0 ∧ sx = 0
          · obtain ⟨rfl, rfl, rfl⟩ := h5
            by_cases h6 : n = 0
            · subst h6
              go_enter Try.func25, Try.ntmps25
              go_wp2_with fail
              go_ret
              exact ⟨ret_bool (by rw [HS.out, Bool.eq_iff_iff]; simp), hB⟩
            · have HT : Hid (z = false) := hid (by rw [HS.out]; simp; omega)
              clear HS
              go_enter Try.func25, Try.ntmps25
              go_wp2_with fail
              go_ret
              exact ⟨ret_bool (by rw [HT.out]), hB⟩
          · have HT : Hid (z = false) := hid (by rw [HS.out]; simp; omega)
            have hq : (sm == 0 && (ss == 0 && sx == 0)) = false := by simp; omega
            clear HS
            go_enter Try.func25, Try.ntmps25
            go_wp2_with fail
            all_goals go_ret
            all_goals (refine ⟨ret_bool ?_, (Below.refl _ _).alloc (Nat.le_refl _) _⟩; rw [HT.out] <;> (clear HT; first | rfl | (simp only [beq_eq_false_iff_ne, ne_eq]; omega) | (simp; omega)))
        · have HT : Hid (z = false) := hid (by rw [HS.out]; simp; omega)
          clear HS
          go_enter Try.func25, Try.ntmps25
          go_wp2_with fail
          all_goals go_ret
          all_goals (refine ⟨ret_bool ?_, (Below.refl _ _).alloc (Nat.le_refl _) _⟩; rw [HT.out] <;> (clear HT; first | rfl | (simp only [beq_eq_false_iff_ne, ne_eq]; omega) | (simp; omega)))
      · have HT : Hid (z = false) := hid (by rw [HS.out]; simp; omega)
        clear HS
        go_enter Try.func25, Try.ntmps25
        go_wp2_with fail
        all_goals go_ret
        all_goals (refine ⟨ret_bool ?_, (Below.refl _ _).alloc (Nat.le_refl _) _⟩; rw [HT.out] <;> (clear HT; first | rfl | (simp only [beq_eq_false_iff_ne, ne_eq]; omega) | (simp; omega)))
    · go_enter Try.func25, Try.ntmps25
      go_wp2_with fail
      go_ret
      exact ⟨ret_bool (by rw [HS.out]; simp), hB⟩
  · go_enter Try.func25, Try.ntmps25
    go_wp2_with fail
    go_ret
    exact ⟨ret_bool (by rw [HS.out]; simp), hB⟩

theorem adrF_eq (h : Hd) : adrF h = ((validA h.dm h.ds h.dx && !decide (h.dm = 0)) && (((validA h.sm h.ss h.sx && !decide (h.sm = 0)) && !bcA h.sm h.ss h.sx) && !(h.ar && bcA h.dm h.ds h.dx))) := by
  unfold adrF
  rw [Bool.eq_iff_iff]
  generalize validA h.dm h.ds h.dx = x1
  generalize validA h.sm h.ss h.sx = x2
  generalize bcA h.sm h.ss h.sx = x3
  generalize bcA h.dm h.ds h.dx = x4
  cases x1 <;> cases x2 <;> cases x3 <;> cases x4 <;> cases h.ar <;> simp

set_option maxHeartbeats 8000000 in
set_option maxRecDepth 100000 in
theorem rvalid_on (h : Hd) (a : Option Addr) (n c : Nat) (P : List UInt8) (b : Option Addr) (k d : Nat) (w : World) (ho : HOk h) (hJ : IsB w a n c P) (hn : n ≤ 140737488355000) (hk8 : k ≤ 281474976710656) (h2 : ¬h.k = 2) :
    Calls Try.prog 25 #[fv h (.slice a n c) (.slice b k d)] w (RetS (.bool (validF h n k)) w) := by
  have hlP := hJ.length
  have HS : Hid (validF h n k = if h.k = 1 ∨ h.k = 3 then decide (adrF h = true ∧ secF h k = true ∧ sizeF h n k ≤ 127) else false) := hid (by unfold validF; rw [if_neg h2])
  have HA := hid (adrF_eq h)
  have HSec : Hid (secF h k = if h.se then decide (k = 4) else decide (h.ct = 0 ∧ h.ky = 0 ∧ k = 0)) := hid rfl
  have HSz : Hid (sizeF h n k = (preL h).length + n + k + 2) := hid (by rw [length_preL]; unfold sizeF; omega)
  have hpl := length_preL_le h
  have hVal : adrF h = true → (h.k = 1 ∨ h.k = 3) → HVal h := by
    intro ha h13
    unfold adrF at ha
    obtain ⟨_, ⟨_, h3⟩, ⟨_, h4⟩, _⟩ := of_decide_eq_true ha
    unfold validA at h3 h4
    have h5 := of_decide_eq_true h3
    have h6 := of_decide_eq_true h4
    exact ⟨ho, by omega, by omega, by omega⟩
  have jh0 := fun w hv hJ => rheader_any h a n c P (.slice b k d) w hv hJ hn
  have hhl : (headL h P).length = (preL h).length + n := by unfold headL; rw [List.length_append, hlP]
  have i1 := rsome_any h.dm h.ds h.dx
  have i2 := rone_any h.sm h.ss h.sx
  have i3 := rbcast_any h.dm h.ds h.dx
  generalize validF h n k = z at HS ⊢
  generalize adrF h = za at *
  generalize secF h k = zs at *
  generalize sizeF h n k = y4 at *
  generalize (preL h).length = pl at *
  generalize headL h P = HL at *
  generalize (validA h.dm h.ds h.dx && !decide (h.dm = 0)) = x1 at *
  generalize ((validA h.sm h.ss h.sx && !decide (h.sm = 0)) && !bcA h.sm h.ss h.sx) = x2 at *
  generalize bcA h.dm h.ds h.dx = x3 at *
  simp only [av] at i1 i2 i3
  rw [show fv h (.slice a n c) (.slice b k d) = .agg (fvl h (.slice a n c) (.slice b k d)).toArray from rfl]
  go_enter Try.func25, Try.ntmps25
  have hF := (Fk.new w h (.slice a n c) (.slice b k d)).fr
  have hB := (Below.refl w.heap.size w).alloc (Nat.le_refl _) (.cells (fvl h (.slice a n c) (.slice b k d)).toArray 31)
  have hJ := hJ.below hB
  have c0 := hF.cells.1
  by_cases h13 : h.k = 1 ∨ h.k = 3
  · have HT : Hid (z = decide (za = true ∧ zs = true ∧ y4 ≤ 127)) := hid (by rw [HS.out, if_pos h13])
    have hVal := fun ha => hVal ha h13
    clear HS h2
    go_upto_region 1 with (fail)
    generalize w.alloc _ = w1 at *
    have HR : ∀ (w2 : World), Fr w2 w.heap.size h (.slice a n c) (.slice b k d) → IsB w2 a n c P → Below w.heap.size w w2 → True := fun _ _ _ _ => trivial
    clear HR
    have k13 := hid h13
    clear h13
    rcases k13.out with h13 | h13
    all_goals rw [h13] at c0
    all_goals clear h13 k13
    · have c1 := hF.cells.2.1
      have c6 := hF.cells.2.2.2.2.2.2.1
      have c7 := hF.cells.2.2.2.2.2.2.2.1
      have c8 := hF.cells.2.2.2.2.2.2.2.2.1
      go_wp2_with fail
      clear c0 c1 c6 c7 c8
      with_reducible refine (i1 _).mono ?_
      rintro e2 w2 ⟨rfl, hb2⟩
      have hF := hF.below hb2 hF.lt
      have hJ := hJ.below hb2
      have hB := hB.trans (hb2.mono hB.size)
      clear hb2
      cases x1
      · go_wp2_with fail
        go_ret
        exact ⟨ret_bool (by rw [HT.out]; rw [HA.out]; rfl), hB⟩
      have c1 := hF.cells.2.1
      have c9 := hF.cells.2.2.2.2.2.2.2.2.2.1
      have c10 := hF.cells.2.2.2.2.2.2.2.2.2.2.1
      have c11 := hF.cells.2.2.2.2.2.2.2.2.2.2.2.1
      go_wp2_with fail
      clear c1 c9 c10 c11
      with_reducible refine (i2 _).mono ?_
      rintro e3 w3 ⟨rfl, hb3⟩
      have hF := hF.below hb3 hF.lt
      have hJ := hJ.below hb3
      have hB := hB.trans (hb3.mono hB.size)
      clear hb3
      cases x2
      · go_wp2_with fail
        go_ret
        exact ⟨ret_bool (by rw [HT.out]; rw [HA.out]; rfl), hB⟩
      cases har : h.ar
      · rw [har] at HA
        have hF3 := hF
        clear hF3
        have hza : za = true := by rw [HA.out]; rfl
        have hV := hVal hza
        have jh := fun w hJ => jh0 w hV hJ
        cases hse : h.se
        · rw [hse] at HSec
          by_cases hk4 : h.ct = 0 ∧ h.ky = 0 ∧ k = 0
          rotate_left
          · have HT2 : Hid (z = false) := hid (by rw [HT.out, HSec.out]; simp [hk4])
            have c1 := hF.cells.2.1
            rw [har] at c1
            have c3 := hF.cells.2.2.2.1
            have c12 := hF.cells.2.2.2.2.2.2.2.2.2.2.2.2.1
            have c13 := hF.cells.2.2.2.2.2.2.2.2.2.2.2.2.2.1
            have c15 := hF.cells.2.2.2.2.2.2.2.2.2.2.2.2.2.2.2
            rw [hse] at c3
            clear HT HSec HSz
            go_wp2_with fail
            all_goals go_ret
            all_goals (refine ⟨ret_bool ?_, hB⟩; rw [HT2.out] <;> (clear HT2; first | rfl | (simp; omega) | (exfalso; omega)))
          obtain ⟨hct, hky, hk4⟩ := hk4
          have hk5 : ((k : Int) != 0) = false := by simp; omega
          have HK4 := hid hk4
          have HCT := hid hct
          have HKY := hid hky
          clear hk4
          have c1 := hF.cells.2.1
          rw [har] at c1
          have c3 := hF.cells.2.2.2.1
          have c12 := hF.cells.2.2.2.2.2.2.2.2.2.2.2.2.1
          have c13 := hF.cells.2.2.2.2.2.2.2.2.2.2.2.2.2.1
          have c15 := hF.cells.2.2.2.2.2.2.2.2.2.2.2.2.2.2.2
          rw [hse] at c3
          rw [hct] at c12
          rw [hky] at c13
          go_upto_region 11 with (fail)
          clear c3 c15 c1 c12 c13
          clear hct hky
          refine wp_region_held_drew (S := fun w' => Below w3.heap.size w3 w') (by kernel_rfl) (below_drewN (Below.refl _ _) 1) (fun hHeld => ?_)
          refine wpAnyH_frame (g := w.heap.size) (h := h) (p := .slice a n c) (m := .slice b k d) (i := 0) (oi := ⟨some 105, _, _, _, _, _⟩) rfl (by kernel_rfl) (by kernel_rfl) (by kernel_rfl) (fun _ _ _ h => h) (by rfl) (.tmp 1) rfl rfl  (fun _ h => hF.below h hF.lt) hHeld ?_
          try simp only [Act.put, List.setIfInBounds_toArray, List.set_cons_zero, List.set_cons_succ]
          refine wpAnyH_take (i := 3) (oi := ⟨some 108, _, _, _, _, _⟩) (v := ?_) rfl (by kernel_rfl) (by kernel_rfl) (by kernel_rfl) (fun _ _ _ h => h) (Or.inl ⟨by rfl, ?_⟩) hHeld ?_
          rotate_left
          · intro w hSw; go_simp; try with_reducible rfl
          try simp only [Act.put, List.setIfInBounds_toArray, List.set_cons_zero, List.set_cons_succ]
          refine wpAnyH_take (i := 4) (oi := ⟨some 109, _, _, _, _, _⟩) (v := ?_) rfl (by kernel_rfl) (by kernel_rfl) (by kernel_rfl) (fun _ _ _ h => h) (Or.inl ⟨by rfl, ?_⟩) hHeld ?_
          rotate_left
          · intro w hSw; have c15 := (hF.below hSw hF.lt).cells.2.2.2.2.2.2.2.2.2.2.2.2.2.2.2; go_simp; try with_reducible rfl
          try simp only [Act.put, List.setIfInBounds_toArray, List.set_cons_zero, List.set_cons_succ]
          refine wpAnyH_take (i := 5) (oi := ⟨some 110, _, _, _, _, _⟩) (v := ?_) rfl (by kernel_rfl) (by kernel_rfl) (by kernel_rfl) (fun _ _ _ h => h) (Or.inl ⟨by rfl, ?_⟩) hHeld ?_
          rotate_left
          · intro w hSw; go_simp; try with_reducible rfl
          try simp only [Act.put, List.setIfInBounds_toArray, List.set_cons_zero, List.set_cons_succ]
          refine wpAnyH_ready (rs := [1]) (by kernel_rfl) (by simp) ?_
          refine AllReadyH.cons (o := ⟨some 106, _, _, _, _, _⟩) rfl (fun K hK => ?_) AllReadyH.nil
          go_simp
          have hP1 := hHeld
          with_reducible refine (jh _ (hJ.below hHeld)).mono ?_
          rintro e1 v1 ⟨v, rfl, hG1, hb1⟩
          have hQ1 := hP1.trans (hb1.mono hP1.size)
          obtain ⟨va, vc, rfl⟩ := hG1.form
          clear hG1 hb1 hP1
          go_wp2_with fail
          clear hHeld
          refine hK.out _ _ (hQ1) (fun hHeld => ?_)
          clear hK K
          try simp only [Act.put, List.setIfInBounds_toArray, List.set_cons_zero, List.set_cons_succ]
          refine wpAnyH_take (i := 2) (oi := ⟨some 107, _, _, _, _, _⟩) (v := ?_) rfl (by kernel_rfl) (by kernel_rfl) (by kernel_rfl) (fun _ _ _ h => h) (Or.inl ⟨by rfl, ?_⟩) hHeld ?_
          rotate_left
          · intro w hSw; go_simp; try with_reducible rfl
          try simp only [Act.put, List.setIfInBounds_toArray, List.set_cons_zero, List.set_cons_succ]
          refine wpAnyH_take (i := 6) (oi := ⟨some 111, _, _, _, _, _⟩) (v := ?_) rfl (by kernel_rfl) (by kernel_rfl) (by kernel_rfl) (fun _ _ _ h => h) (Or.inl ⟨by rfl, ?_⟩) hHeld ?_
          rotate_left
          · intro w hSw; go_simp; try with_reducible rfl
          try simp only [Act.put, List.setIfInBounds_toArray, List.set_cons_zero, List.set_cons_succ]
          refine wpAnyH_take (i := 7) (oi := ⟨some 112, _, _, _, _, _⟩) (v := ?_) rfl (by kernel_rfl) (by kernel_rfl) (by kernel_rfl) (fun _ _ _ h => h) (Or.inl ⟨by rfl, ?_⟩) hHeld ?_
          rotate_left
          · intro w hSw; go_simp; try with_reducible rfl
          try simp only [Act.put, List.setIfInBounds_toArray, List.set_cons_zero, List.set_cons_succ]
          refine wpAnyH_take (i := 8) (oi := ⟨some 113, _, _, _, _, _⟩) (v := ?_) rfl (by kernel_rfl) (by kernel_rfl) (by kernel_rfl) (fun _ _ _ h => h) (Or.inl ⟨by rfl, ?_⟩) hHeld ?_
          rotate_left
          · intro w hSw; go_simp; try with_reducible rfl
          try simp only [Act.put, List.setIfInBounds_toArray, List.set_cons_zero, List.set_cons_succ]
          refine wpAnyH_take (i := 9) (oi := ⟨some 2, _, _, _, _, _⟩) (v := ?_) rfl (by kernel_rfl) (by kernel_rfl) (by kernel_rfl) (fun _ _ _ h => h) (Or.inl ⟨by rfl, ?_⟩) hHeld ?_
          rotate_left
          · intro w hSw; go_simp; try with_reducible rfl
          try simp only [Act.put, List.setIfInBounds_toArray, List.set_cons_zero, List.set_cons_succ]
          refine wpAnyH_done (by kernel_rfl) ?_ _
          go_wp2_with fail
          go_ret
          exact ⟨ret_bool (by rw [HT.out, hza, HSec.out, HSz.out]; rw [Bool.eq_iff_iff]; simp [HK4.out, HCT.out, HKY.out, IntKind.wrap, IntKind.bits, IntKind.signed]; try omega), hB.trans (hHeld.mono hB.size)⟩
        · rw [hse] at HSec
          by_cases hk4 : k = 4
          rotate_left
          · have HT2 : Hid (z = false) := hid (by rw [HT.out, HSec.out]; simp [hk4])
            have c1 := hF.cells.2.1
            rw [har] at c1
            have c3 := hF.cells.2.2.2.1
            have c15 := hF.cells.2.2.2.2.2.2.2.2.2.2.2.2.2.2.2
            rw [hse] at c3
            have hk5 : ((k : Int) != 4) = true := by simp; omega
            go_wp2_with fail
            go_ret
            exact ⟨ret_bool (by rw [HT2.out]), hB⟩
          have hk5 : ((k : Int) != 4) = false := by simp; omega
          have HK4 := hid hk4
          clear hk4
          have c1 := hF.cells.2.1
          rw [har] at c1
          have c3 := hF.cells.2.2.2.1
          have c15 := hF.cells.2.2.2.2.2.2.2.2.2.2.2.2.2.2.2
          rw [hse] at c3
          go_upto_region 11 with (fail)
          clear c3 c15 c1
          refine wp_region_held_drew (S := fun w' => Below w3.heap.size w3 w') (by kernel_rfl) (below_drewN (Below.refl _ _) 1) (fun hHeld => ?_)
          refine wpAnyH_frame (g := w.heap.size) (h := h) (p := .slice a n c) (m := .slice b k d) (i := 0) (oi := ⟨some 105, _, _, _, _, _⟩) rfl (by kernel_rfl) (by kernel_rfl) (by kernel_rfl) (fun _ _ _ h => h) (by rfl) (.tmp 1) rfl rfl  (fun _ h => hF.below h hF.lt) hHeld ?_
          try simp only [Act.put, List.setIfInBounds_toArray, List.set_cons_zero, List.set_cons_succ]
          refine wpAnyH_take (i := 3) (oi := ⟨some 108, _, _, _, _, _⟩) (v := ?_) rfl (by kernel_rfl) (by kernel_rfl) (by kernel_rfl) (fun _ _ _ h => h) (Or.inl ⟨by rfl, ?_⟩) hHeld ?_
          rotate_left
          · intro w hSw; go_simp; try with_reducible rfl
          try simp only [Act.put, List.setIfInBounds_toArray, List.set_cons_zero, List.set_cons_succ]
          refine wpAnyH_take (i := 4) (oi := ⟨some 109, _, _, _, _, _⟩) (v := ?_) rfl (by kernel_rfl) (by kernel_rfl) (by kernel_rfl) (fun _ _ _ h => h) (Or.inl ⟨by rfl, ?_⟩) hHeld ?_
          rotate_left
          · intro w hSw; have c15 := (hF.below hSw hF.lt).cells.2.2.2.2.2.2.2.2.2.2.2.2.2.2.2; go_simp; try with_reducible rfl
          try simp only [Act.put, List.setIfInBounds_toArray, List.set_cons_zero, List.set_cons_succ]
          refine wpAnyH_take (i := 5) (oi := ⟨some 110, _, _, _, _, _⟩) (v := ?_) rfl (by kernel_rfl) (by kernel_rfl) (by kernel_rfl) (fun _ _ _ h => h) (Or.inl ⟨by rfl, ?_⟩) hHeld ?_
          rotate_left
          · intro w hSw; go_simp; try with_reducible rfl
          try simp only [Act.put, List.setIfInBounds_toArray, List.set_cons_zero, List.set_cons_succ]
          refine wpAnyH_ready (rs := [1]) (by kernel_rfl) (by simp) ?_
          refine AllReadyH.cons (o := ⟨some 106, _, _, _, _, _⟩) rfl (fun K hK => ?_) AllReadyH.nil
          go_simp
          have hP1 := hHeld
          with_reducible refine (jh _ (hJ.below hHeld)).mono ?_
          rintro e1 v1 ⟨v, rfl, hG1, hb1⟩
          have hQ1 := hP1.trans (hb1.mono hP1.size)
          obtain ⟨va, vc, rfl⟩ := hG1.form
          clear hG1 hb1 hP1
          go_wp2_with fail
          clear hHeld
          refine hK.out _ _ (hQ1) (fun hHeld => ?_)
          clear hK K
          try simp only [Act.put, List.setIfInBounds_toArray, List.set_cons_zero, List.set_cons_succ]
          refine wpAnyH_take (i := 2) (oi := ⟨some 107, _, _, _, _, _⟩) (v := ?_) rfl (by kernel_rfl) (by kernel_rfl) (by kernel_rfl) (fun _ _ _ h => h) (Or.inl ⟨by rfl, ?_⟩) hHeld ?_
          rotate_left
          · intro w hSw; go_simp; try with_reducible rfl
          try simp only [Act.put, List.setIfInBounds_toArray, List.set_cons_zero, List.set_cons_succ]
          refine wpAnyH_take (i := 6) (oi := ⟨some 111, _, _, _, _, _⟩) (v := ?_) rfl (by kernel_rfl) (by kernel_rfl) (by kernel_rfl) (fun _ _ _ h => h) (Or.inl ⟨by rfl, ?_⟩) hHeld ?_
          rotate_left
          · intro w hSw; go_simp; try with_reducible rfl
          try simp only [Act.put, List.setIfInBounds_toArray, List.set_cons_zero, List.set_cons_succ]
          refine wpAnyH_take (i := 7) (oi := ⟨some 112, _, _, _, _, _⟩) (v := ?_) rfl (by kernel_rfl) (by kernel_rfl) (by kernel_rfl) (fun _ _ _ h => h) (Or.inl ⟨by rfl, ?_⟩) hHeld ?_
          rotate_left
          · intro w hSw; go_simp; try with_reducible rfl
          try simp only [Act.put, List.setIfInBounds_toArray, List.set_cons_zero, List.set_cons_succ]
          refine wpAnyH_take (i := 8) (oi := ⟨some 113, _, _, _, _, _⟩) (v := ?_) rfl (by kernel_rfl) (by kernel_rfl) (by kernel_rfl) (fun _ _ _ h => h) (Or.inl ⟨by rfl, ?_⟩) hHeld ?_
          rotate_left
          · intro w hSw; go_simp; try with_reducible rfl
          try simp only [Act.put, List.setIfInBounds_toArray, List.set_cons_zero, List.set_cons_succ]
          refine wpAnyH_take (i := 9) (oi := ⟨some 2, _, _, _, _, _⟩) (v := ?_) rfl (by kernel_rfl) (by kernel_rfl) (by kernel_rfl) (fun _ _ _ h => h) (Or.inl ⟨by rfl, ?_⟩) hHeld ?_
          rotate_left
          · intro w hSw; go_simp; try with_reducible rfl
          try simp only [Act.put, List.setIfInBounds_toArray, List.set_cons_zero, List.set_cons_succ]
          refine wpAnyH_done (by kernel_rfl) ?_ _
          go_wp2_with fail
          go_ret
          exact ⟨ret_bool (by rw [HT.out, hza, HSec.out, HSz.out]; rw [Bool.eq_iff_iff]; simp [HK4.out, IntKind.wrap, IntKind.bits, IntKind.signed]; try omega), hB.trans (hHeld.mono hB.size)⟩
      · rw [har] at HA
        have c1 := hF.cells.2.1
        have c6 := hF.cells.2.2.2.2.2.2.1
        have c7 := hF.cells.2.2.2.2.2.2.2.1
        have c8 := hF.cells.2.2.2.2.2.2.2.2.1
        rw [har] at c1
        go_wp2_with fail
        clear c1 c6 c7 c8
        with_reducible refine (i3 _).mono ?_
        rintro e4 w4 ⟨rfl, hb4⟩
        have hF := hF.below hb4 hF.lt
        have hJ := hJ.below hb4
        have hB := hB.trans (hb4.mono hB.size)
        clear hb4
        cases x3
        rotate_left
        · go_wp2_with fail
          go_ret
          exact ⟨ret_bool (by rw [HT.out]; rw [HA.out]; rfl), hB⟩
        have hza : za = true := by rw [HA.out]; rfl
        have hV := hVal hza
        have jh := fun w hJ => jh0 w hV hJ
        cases hse : h.se
        · rw [hse] at HSec
          by_cases hk4 : h.ct = 0 ∧ h.ky = 0 ∧ k = 0
          rotate_left
          · have HT2 : Hid (z = false) := hid (by rw [HT.out, HSec.out]; simp [hk4])
            have c3 := hF.cells.2.2.2.1
            have c12 := hF.cells.2.2.2.2.2.2.2.2.2.2.2.2.1
            have c13 := hF.cells.2.2.2.2.2.2.2.2.2.2.2.2.2.1
            have c15 := hF.cells.2.2.2.2.2.2.2.2.2.2.2.2.2.2.2
            rw [hse] at c3
            clear HT HSec HSz
            go_wp2_with fail
            all_goals go_ret
            all_goals (refine ⟨ret_bool ?_, hB⟩; rw [HT2.out] <;> (clear HT2; first | rfl | (simp; omega) | (exfalso; omega)))
          obtain ⟨hct, hky, hk4⟩ := hk4
          have hk5 : ((k : Int) != 0) = false := by simp; omega
          have HK4 := hid hk4
          have HCT := hid hct
          have HKY := hid hky
          clear hk4
          have c3 := hF.cells.2.2.2.1
          have c12 := hF.cells.2.2.2.2.2.2.2.2.2.2.2.2.1
          have c13 := hF.cells.2.2.2.2.2.2.2.2.2.2.2.2.2.1
          have c15 := hF.cells.2.2.2.2.2.2.2.2.2.2.2.2.2.2.2
          rw [hse] at c3
          rw [hct] at c12
          rw [hky] at c13
          go_upto_region 11 with (fail)
          clear c3 c15 c12 c13
          clear hct hky
          refine wp_region_held_drew (S := fun w' => Below w4.heap.size w4 w') (by kernel_rfl) (below_drewN (Below.refl _ _) 1) (fun hHeld => ?_)
          refine wpAnyH_frame (g := w.heap.size) (h := h) (p := .slice a n c) (m := .slice b k d) (i := 0) (oi := ⟨some 105, _, _, _, _, _⟩) rfl (by kernel_rfl) (by kernel_rfl) (by kernel_rfl) (fun _ _ _ h => h) (by rfl) (.tmp 1) rfl rfl  (fun _ h => hF.below h hF.lt) hHeld ?_
          try simp only [Act.put, List.setIfInBounds_toArray, List.set_cons_zero, List.set_cons_succ]
          refine wpAnyH_take (i := 3) (oi := ⟨some 108, _, _, _, _, _⟩) (v := ?_) rfl (by kernel_rfl) (by kernel_rfl) (by kernel_rfl) (fun _ _ _ h => h) (Or.inl ⟨by rfl, ?_⟩) hHeld ?_
          rotate_left
          · intro w hSw; go_simp; try with_reducible rfl
          try simp only [Act.put, List.setIfInBounds_toArray, List.set_cons_zero, List.set_cons_succ]
          refine wpAnyH_take (i := 4) (oi := ⟨some 109, _, _, _, _, _⟩) (v := ?_) rfl (by kernel_rfl) (by kernel_rfl) (by kernel_rfl) (fun _ _ _ h => h) (Or.inl ⟨by rfl, ?_⟩) hHeld ?_
          rotate_left
          · intro w hSw; have c15 := (hF.below hSw hF.lt).cells.2.2.2.2.2.2.2.2.2.2.2.2.2.2.2; go_simp; try with_reducible rfl
          try simp only [Act.put, List.setIfInBounds_toArray, List.set_cons_zero, List.set_cons_succ]
          refine wpAnyH_take (i := 5) (oi := ⟨some 110, _, _, _, _, _⟩) (v := ?_) rfl (by kernel_rfl) (by kernel_rfl) (by kernel_rfl) (fun _ _ _ h => h) (Or.inl ⟨by rfl, ?_⟩) hHeld ?_
          rotate_left
          · intro w hSw; go_simp; try with_reducible rfl
          try simp only [Act.put, List.setIfInBounds_toArray, List.set_cons_zero, List.set_cons_succ]
          refine wpAnyH_ready (rs := [1]) (by kernel_rfl) (by simp) ?_
          refine AllReadyH.cons (o := ⟨some 106, _, _, _, _, _⟩) rfl (fun K hK => ?_) AllReadyH.nil
          go_simp
          have hP1 := hHeld
          with_reducible refine (jh _ (hJ.below hHeld)).mono ?_
          rintro e1 v1 ⟨v, rfl, hG1, hb1⟩
          have hQ1 := hP1.trans (hb1.mono hP1.size)
          obtain ⟨va, vc, rfl⟩ := hG1.form
          clear hG1 hb1 hP1
          go_wp2_with fail
          clear hHeld
          refine hK.out _ _ (hQ1) (fun hHeld => ?_)
          clear hK K
          try simp only [Act.put, List.setIfInBounds_toArray, List.set_cons_zero, List.set_cons_succ]
          refine wpAnyH_take (i := 2) (oi := ⟨some 107, _, _, _, _, _⟩) (v := ?_) rfl (by kernel_rfl) (by kernel_rfl) (by kernel_rfl) (fun _ _ _ h => h) (Or.inl ⟨by rfl, ?_⟩) hHeld ?_
          rotate_left
          · intro w hSw; go_simp; try with_reducible rfl
          try simp only [Act.put, List.setIfInBounds_toArray, List.set_cons_zero, List.set_cons_succ]
          refine wpAnyH_take (i := 6) (oi := ⟨some 111, _, _, _, _, _⟩) (v := ?_) rfl (by kernel_rfl) (by kernel_rfl) (by kernel_rfl) (fun _ _ _ h => h) (Or.inl ⟨by rfl, ?_⟩) hHeld ?_
          rotate_left
          · intro w hSw; go_simp; try with_reducible rfl
          try simp only [Act.put, List.setIfInBounds_toArray, List.set_cons_zero, List.set_cons_succ]
          refine wpAnyH_take (i := 7) (oi := ⟨some 112, _, _, _, _, _⟩) (v := ?_) rfl (by kernel_rfl) (by kernel_rfl) (by kernel_rfl) (fun _ _ _ h => h) (Or.inl ⟨by rfl, ?_⟩) hHeld ?_
          rotate_left
          · intro w hSw; go_simp; try with_reducible rfl
          try simp only [Act.put, List.setIfInBounds_toArray, List.set_cons_zero, List.set_cons_succ]
          refine wpAnyH_take (i := 8) (oi := ⟨some 113, _, _, _, _, _⟩) (v := ?_) rfl (by kernel_rfl) (by kernel_rfl) (by kernel_rfl) (fun _ _ _ h => h) (Or.inl ⟨by rfl, ?_⟩) hHeld ?_
          rotate_left
          · intro w hSw; go_simp; try with_reducible rfl
          try simp only [Act.put, List.setIfInBounds_toArray, List.set_cons_zero, List.set_cons_succ]
          refine wpAnyH_take (i := 9) (oi := ⟨some 2, _, _, _, _, _⟩) (v := ?_) rfl (by kernel_rfl) (by kernel_rfl) (by kernel_rfl) (fun _ _ _ h => h) (Or.inl ⟨by rfl, ?_⟩) hHeld ?_
          rotate_left
          · intro w hSw; go_simp; try with_reducible rfl
          try simp only [Act.put, List.setIfInBounds_toArray, List.set_cons_zero, List.set_cons_succ]
          refine wpAnyH_done (by kernel_rfl) ?_ _
          go_wp2_with fail
          go_ret
          exact ⟨ret_bool (by rw [HT.out, hza, HSec.out, HSz.out]; rw [Bool.eq_iff_iff]; simp [HK4.out, HCT.out, HKY.out, IntKind.wrap, IntKind.bits, IntKind.signed]; try omega), hB.trans (hHeld.mono hB.size)⟩
        · rw [hse] at HSec
          by_cases hk4 : k = 4
          rotate_left
          · have HT2 : Hid (z = false) := hid (by rw [HT.out, HSec.out]; simp [hk4])
            have c3 := hF.cells.2.2.2.1
            have c15 := hF.cells.2.2.2.2.2.2.2.2.2.2.2.2.2.2.2
            rw [hse] at c3
            have hk5 : ((k : Int) != 4) = true := by simp; omega
            go_wp2_with fail
            go_ret
            exact ⟨ret_bool (by rw [HT2.out]), hB⟩
          have hk5 : ((k : Int) != 4) = false := by simp; omega
          have HK4 := hid hk4
          clear hk4
          have c3 := hF.cells.2.2.2.1
          have c15 := hF.cells.2.2.2.2.2.2.2.2.2.2.2.2.2.2.2
          rw [hse] at c3
          go_upto_region 11 with (fail)
          clear c3 c15
          refine wp_region_held_drew (S := fun w' => Below w4.heap.size w4 w') (by kernel_rfl) (below_drewN (Below.refl _ _) 1) (fun hHeld => ?_)
          refine wpAnyH_frame (g := w.heap.size) (h := h) (p := .slice a n c) (m := .slice b k d) (i := 0) (oi := ⟨some 105, _, _, _, _, _⟩) rfl (by kernel_rfl) (by kernel_rfl) (by kernel_rfl) (fun _ _ _ h => h) (by rfl) (.tmp 1) rfl rfl  (fun _ h => hF.below h hF.lt) hHeld ?_
          try simp only [Act.put, List.setIfInBounds_toArray, List.set_cons_zero, List.set_cons_succ]
          refine wpAnyH_take (i := 3) (oi := ⟨some 108, _, _, _, _, _⟩) (v := ?_) rfl (by kernel_rfl) (by kernel_rfl) (by kernel_rfl) (fun _ _ _ h => h) (Or.inl ⟨by rfl, ?_⟩) hHeld ?_
          rotate_left
          · intro w hSw; go_simp; try with_reducible rfl
          try simp only [Act.put, List.setIfInBounds_toArray, List.set_cons_zero, List.set_cons_succ]
          refine wpAnyH_take (i := 4) (oi := ⟨some 109, _, _, _, _, _⟩) (v := ?_) rfl (by kernel_rfl) (by kernel_rfl) (by kernel_rfl) (fun _ _ _ h => h) (Or.inl ⟨by rfl, ?_⟩) hHeld ?_
          rotate_left
          · intro w hSw; have c15 := (hF.below hSw hF.lt).cells.2.2.2.2.2.2.2.2.2.2.2.2.2.2.2; go_simp; try with_reducible rfl
          try simp only [Act.put, List.setIfInBounds_toArray, List.set_cons_zero, List.set_cons_succ]
          refine wpAnyH_take (i := 5) (oi := ⟨some 110, _, _, _, _, _⟩) (v := ?_) rfl (by kernel_rfl) (by kernel_rfl) (by kernel_rfl) (fun _ _ _ h => h) (Or.inl ⟨by rfl, ?_⟩) hHeld ?_
          rotate_left
          · intro w hSw; go_simp; try with_reducible rfl
          try simp only [Act.put, List.setIfInBounds_toArray, List.set_cons_zero, List.set_cons_succ]
          refine wpAnyH_ready (rs := [1]) (by kernel_rfl) (by simp) ?_
          refine AllReadyH.cons (o := ⟨some 106, _, _, _, _, _⟩) rfl (fun K hK => ?_) AllReadyH.nil
          go_simp
          have hP1 := hHeld
          with_reducible refine (jh _ (hJ.below hHeld)).mono ?_
          rintro e1 v1 ⟨v, rfl, hG1, hb1⟩
          have hQ1 := hP1.trans (hb1.mono hP1.size)
          obtain ⟨va, vc, rfl⟩ := hG1.form
          clear hG1 hb1 hP1
          go_wp2_with fail
          clear hHeld
          refine hK.out _ _ (hQ1) (fun hHeld => ?_)
          clear hK K
          try simp only [Act.put, List.setIfInBounds_toArray, List.set_cons_zero, List.set_cons_succ]
          refine wpAnyH_take (i := 2) (oi := ⟨some 107, _, _, _, _, _⟩) (v := ?_) rfl (by kernel_rfl) (by kernel_rfl) (by kernel_rfl) (fun _ _ _ h => h) (Or.inl ⟨by rfl, ?_⟩) hHeld ?_
          rotate_left
          · intro w hSw; go_simp; try with_reducible rfl
          try simp only [Act.put, List.setIfInBounds_toArray, List.set_cons_zero, List.set_cons_succ]
          refine wpAnyH_take (i := 6) (oi := ⟨some 111, _, _, _, _, _⟩) (v := ?_) rfl (by kernel_rfl) (by kernel_rfl) (by kernel_rfl) (fun _ _ _ h => h) (Or.inl ⟨by rfl, ?_⟩) hHeld ?_
          rotate_left
          · intro w hSw; go_simp; try with_reducible rfl
          try simp only [Act.put, List.setIfInBounds_toArray, List.set_cons_zero, List.set_cons_succ]
          refine wpAnyH_take (i := 7) (oi := ⟨some 112, _, _, _, _, _⟩) (v := ?_) rfl (by kernel_rfl) (by kernel_rfl) (by kernel_rfl) (fun _ _ _ h => h) (Or.inl ⟨by rfl, ?_⟩) hHeld ?_
          rotate_left
          · intro w hSw; go_simp; try with_reducible rfl
          try simp only [Act.put, List.setIfInBounds_toArray, List.set_cons_zero, List.set_cons_succ]
          refine wpAnyH_take (i := 8) (oi := ⟨some 113, _, _, _, _, _⟩) (v := ?_) rfl (by kernel_rfl) (by kernel_rfl) (by kernel_rfl) (fun _ _ _ h => h) (Or.inl ⟨by rfl, ?_⟩) hHeld ?_
          rotate_left
          · intro w hSw; go_simp; try with_reducible rfl
          try simp only [Act.put, List.setIfInBounds_toArray, List.set_cons_zero, List.set_cons_succ]
          refine wpAnyH_take (i := 9) (oi := ⟨some 2, _, _, _, _, _⟩) (v := ?_) rfl (by kernel_rfl) (by kernel_rfl) (by kernel_rfl) (fun _ _ _ h => h) (Or.inl ⟨by rfl, ?_⟩) hHeld ?_
          rotate_left
          · intro w hSw; go_simp; try with_reducible rfl
          try simp only [Act.put, List.setIfInBounds_toArray, List.set_cons_zero, List.set_cons_succ]
          refine wpAnyH_done (by kernel_rfl) ?_ _
          go_wp2_with fail
          go_ret
          exact ⟨ret_bool (by rw [HT.out, hza, HSec.out, HSz.out]; rw [Bool.eq_iff_iff]; simp [HK4.out, IntKind.wrap, IntKind.bits, IntKind.signed]; try omega), hB.trans (hHeld.mono hB.size)⟩
    · have c1 := hF.cells.2.1
      have c6 := hF.cells.2.2.2.2.2.2.1
      have c7 := hF.cells.2.2.2.2.2.2.2.1
      have c8 := hF.cells.2.2.2.2.2.2.2.2.1
      go_wp2_with fail
      clear c0 c1 c6 c7 c8
      with_reducible refine (i1 _).mono ?_
      rintro e2 w2 ⟨rfl, hb2⟩
      have hF := hF.below hb2 hF.lt
      have hJ := hJ.below hb2
      have hB := hB.trans (hb2.mono hB.size)
      clear hb2
      cases x1
      · go_wp2_with fail
        go_ret
        exact ⟨ret_bool (by rw [HT.out]; rw [HA.out]; rfl), hB⟩
      have c1 := hF.cells.2.1
      have c9 := hF.cells.2.2.2.2.2.2.2.2.2.1
      have c10 := hF.cells.2.2.2.2.2.2.2.2.2.2.1
      have c11 := hF.cells.2.2.2.2.2.2.2.2.2.2.2.1
      go_wp2_with fail
      clear c1 c9 c10 c11
      with_reducible refine (i2 _).mono ?_
      rintro e3 w3 ⟨rfl, hb3⟩
      have hF := hF.below hb3 hF.lt
      have hJ := hJ.below hb3
      have hB := hB.trans (hb3.mono hB.size)
      clear hb3
      cases x2
      · go_wp2_with fail
        go_ret
        exact ⟨ret_bool (by rw [HT.out]; rw [HA.out]; rfl), hB⟩
      cases har : h.ar
      · rw [har] at HA
        have hF3 := hF
        clear hF3
        have hza : za = true := by rw [HA.out]; rfl
        have hV := hVal hza
        have jh := fun w hJ => jh0 w hV hJ
        cases hse : h.se
        · rw [hse] at HSec
          by_cases hk4 : h.ct = 0 ∧ h.ky = 0 ∧ k = 0
          rotate_left
          · have HT2 : Hid (z = false) := hid (by rw [HT.out, HSec.out]; simp [hk4])
            have c1 := hF.cells.2.1
            rw [har] at c1
            have c3 := hF.cells.2.2.2.1
            have c12 := hF.cells.2.2.2.2.2.2.2.2.2.2.2.2.1
            have c13 := hF.cells.2.2.2.2.2.2.2.2.2.2.2.2.2.1
            have c15 := hF.cells.2.2.2.2.2.2.2.2.2.2.2.2.2.2.2
            rw [hse] at c3
            clear HT HSec HSz
            go_wp2_with fail
            all_goals go_ret
            all_goals (refine ⟨ret_bool ?_, hB⟩; rw [HT2.out] <;> (clear HT2; first | rfl | (simp; omega) | (exfalso; omega)))
          obtain ⟨hct, hky, hk4⟩ := hk4
          have hk5 : ((k : Int) != 0) = false := by simp; omega
          have HK4 := hid hk4
          have HCT := hid hct
          have HKY := hid hky
          clear hk4
          have c1 := hF.cells.2.1
          rw [har] at c1
          have c3 := hF.cells.2.2.2.1
          have c12 := hF.cells.2.2.2.2.2.2.2.2.2.2.2.2.1
          have c13 := hF.cells.2.2.2.2.2.2.2.2.2.2.2.2.2.1
          have c15 := hF.cells.2.2.2.2.2.2.2.2.2.2.2.2.2.2.2
          rw [hse] at c3
          rw [hct] at c12
          rw [hky] at c13
          go_upto_region 11 with (fail)
          clear c3 c15 c1 c12 c13
          clear hct hky
          refine wp_region_held_drew (S := fun w' => Below w3.heap.size w3 w') (by kernel_rfl) (below_drewN (Below.refl _ _) 1) (fun hHeld => ?_)
          refine wpAnyH_frame (g := w.heap.size) (h := h) (p := .slice a n c) (m := .slice b k d) (i := 0) (oi := ⟨some 105, _, _, _, _, _⟩) rfl (by kernel_rfl) (by kernel_rfl) (by kernel_rfl) (fun _ _ _ h => h) (by rfl) (.tmp 1) rfl rfl  (fun _ h => hF.below h hF.lt) hHeld ?_
          try simp only [Act.put, List.setIfInBounds_toArray, List.set_cons_zero, List.set_cons_succ]
          refine wpAnyH_take (i := 3) (oi := ⟨some 108, _, _, _, _, _⟩) (v := ?_) rfl (by kernel_rfl) (by kernel_rfl) (by kernel_rfl) (fun _ _ _ h => h) (Or.inl ⟨by rfl, ?_⟩) hHeld ?_
          rotate_left
          · intro w hSw; go_simp; try with_reducible rfl
          try simp only [Act.put, List.setIfInBounds_toArray, List.set_cons_zero, List.set_cons_succ]
          refine wpAnyH_take (i := 4) (oi := ⟨some 109, _, _, _, _, _⟩) (v := ?_) rfl (by kernel_rfl) (by kernel_rfl) (by kernel_rfl) (fun _ _ _ h => h) (Or.inl ⟨by rfl, ?_⟩) hHeld ?_
          rotate_left
          · intro w hSw; have c15 := (hF.below hSw hF.lt).cells.2.2.2.2.2.2.2.2.2.2.2.2.2.2.2; go_simp; try with_reducible rfl
          try simp only [Act.put, List.setIfInBounds_toArray, List.set_cons_zero, List.set_cons_succ]
          refine wpAnyH_take (i := 5) (oi := ⟨some 110, _, _, _, _, _⟩) (v := ?_) rfl (by kernel_rfl) (by kernel_rfl) (by kernel_rfl) (fun _ _ _ h => h) (Or.inl ⟨by rfl, ?_⟩) hHeld ?_
          rotate_left
          · intro w hSw; go_simp; try with_reducible rfl
          try simp only [Act.put, List.setIfInBounds_toArray, List.set_cons_zero, List.set_cons_succ]
          refine wpAnyH_ready (rs := [1]) (by kernel_rfl) (by simp) ?_
          refine AllReadyH.cons (o := ⟨some 106, _, _, _, _, _⟩) rfl (fun K hK => ?_) AllReadyH.nil
          go_simp
          have hP1 := hHeld
          with_reducible refine (jh _ (hJ.below hHeld)).mono ?_
          rintro e1 v1 ⟨v, rfl, hG1, hb1⟩
          have hQ1 := hP1.trans (hb1.mono hP1.size)
          obtain ⟨va, vc, rfl⟩ := hG1.form
          clear hG1 hb1 hP1
          go_wp2_with fail
          clear hHeld
          refine hK.out _ _ (hQ1) (fun hHeld => ?_)
          clear hK K
          try simp only [Act.put, List.setIfInBounds_toArray, List.set_cons_zero, List.set_cons_succ]
          refine wpAnyH_take (i := 2) (oi := ⟨some 107, _, _, _, _, _⟩) (v := ?_) rfl (by kernel_rfl) (by kernel_rfl) (by kernel_rfl) (fun _ _ _ h => h) (Or.inl ⟨by rfl, ?_⟩) hHeld ?_
          rotate_left
          · intro w hSw; go_simp; try with_reducible rfl
          try simp only [Act.put, List.setIfInBounds_toArray, List.set_cons_zero, List.set_cons_succ]
          refine wpAnyH_take (i := 6) (oi := ⟨some 111, _, _, _, _, _⟩) (v := ?_) rfl (by kernel_rfl) (by kernel_rfl) (by kernel_rfl) (fun _ _ _ h => h) (Or.inl ⟨by rfl, ?_⟩) hHeld ?_
          rotate_left
          · intro w hSw; go_simp; try with_reducible rfl
          try simp only [Act.put, List.setIfInBounds_toArray, List.set_cons_zero, List.set_cons_succ]
          refine wpAnyH_take (i := 7) (oi := ⟨some 112, _, _, _, _, _⟩) (v := ?_) rfl (by kernel_rfl) (by kernel_rfl) (by kernel_rfl) (fun _ _ _ h => h) (Or.inl ⟨by rfl, ?_⟩) hHeld ?_
          rotate_left
          · intro w hSw; go_simp; try with_reducible rfl
          try simp only [Act.put, List.setIfInBounds_toArray, List.set_cons_zero, List.set_cons_succ]
          refine wpAnyH_take (i := 8) (oi := ⟨some 113, _, _, _, _, _⟩) (v := ?_) rfl (by kernel_rfl) (by kernel_rfl) (by kernel_rfl) (fun _ _ _ h => h) (Or.inl ⟨by rfl, ?_⟩) hHeld ?_
          rotate_left
          · intro w hSw; go_simp; try with_reducible rfl
          try simp only [Act.put, List.setIfInBounds_toArray, List.set_cons_zero, List.set_cons_succ]
          refine wpAnyH_take (i := 9) (oi := ⟨some 2, _, _, _, _, _⟩) (v := ?_) rfl (by kernel_rfl) (by kernel_rfl) (by kernel_rfl) (fun _ _ _ h => h) (Or.inl ⟨by rfl, ?_⟩) hHeld ?_
          rotate_left
          · intro w hSw; go_simp; try with_reducible rfl
          try simp only [Act.put, List.setIfInBounds_toArray, List.set_cons_zero, List.set_cons_succ]
          refine wpAnyH_done (by kernel_rfl) ?_ _
          go_wp2_with fail
          go_ret
          exact ⟨ret_bool (by rw [HT.out, hza, HSec.out, HSz.out]; rw [Bool.eq_iff_iff]; simp [HK4.out, HCT.out, HKY.out, IntKind.wrap, IntKind.bits, IntKind.signed]; try omega), hB.trans (hHeld.mono hB.size)⟩
        · rw [hse] at HSec
          by_cases hk4 : k = 4
          rotate_left
          · have HT2 : Hid (z = false) := hid (by rw [HT.out, HSec.out]; simp [hk4])
            have c1 := hF.cells.2.1
            rw [har] at c1
            have c3 := hF.cells.2.2.2.1
            have c15 := hF.cells.2.2.2.2.2.2.2.2.2.2.2.2.2.2.2
            rw [hse] at c3
            have hk5 : ((k : Int) != 4) = true := by simp; omega
            go_wp2_with fail
            go_ret
            exact ⟨ret_bool (by rw [HT2.out]), hB⟩
          have hk5 : ((k : Int) != 4) = false := by simp; omega
          have HK4 := hid hk4
          clear hk4
          have c1 := hF.cells.2.1
          rw [har] at c1
          have c3 := hF.cells.2.2.2.1
          have c15 := hF.cells.2.2.2.2.2.2.2.2.2.2.2.2.2.2.2
          rw [hse] at c3
          go_upto_region 11 with (fail)
          clear c3 c15 c1
          refine wp_region_held_drew (S := fun w' => Below w3.heap.size w3 w') (by kernel_rfl) (below_drewN (Below.refl _ _) 1) (fun hHeld => ?_)
          refine wpAnyH_frame (g := w.heap.size) (h := h) (p := .slice a n c) (m := .slice b k d) (i := 0) (oi := ⟨some 105, _, _, _, _, _⟩) rfl (by kernel_rfl) (by kernel_rfl) (by kernel_rfl) (fun _ _ _ h => h) (by rfl) (.tmp 1) rfl rfl  (fun _ h => hF.below h hF.lt) hHeld ?_
          try simp only [Act.put, List.setIfInBounds_toArray, List.set_cons_zero, List.set_cons_succ]
          refine wpAnyH_take (i := 3) (oi := ⟨some 108, _, _, _, _, _⟩) (v := ?_) rfl (by kernel_rfl) (by kernel_rfl) (by kernel_rfl) (fun _ _ _ h => h) (Or.inl ⟨by rfl, ?_⟩) hHeld ?_
          rotate_left
          · intro w hSw; go_simp; try with_reducible rfl
          try simp only [Act.put, List.setIfInBounds_toArray, List.set_cons_zero, List.set_cons_succ]
          refine wpAnyH_take (i := 4) (oi := ⟨some 109, _, _, _, _, _⟩) (v := ?_) rfl (by kernel_rfl) (by kernel_rfl) (by kernel_rfl) (fun _ _ _ h => h) (Or.inl ⟨by rfl, ?_⟩) hHeld ?_
          rotate_left
          · intro w hSw; have c15 := (hF.below hSw hF.lt).cells.2.2.2.2.2.2.2.2.2.2.2.2.2.2.2; go_simp; try with_reducible rfl
          try simp only [Act.put, List.setIfInBounds_toArray, List.set_cons_zero, List.set_cons_succ]
          refine wpAnyH_take (i := 5) (oi := ⟨some 110, _, _, _, _, _⟩) (v := ?_) rfl (by kernel_rfl) (by kernel_rfl) (by kernel_rfl) (fun _ _ _ h => h) (Or.inl ⟨by rfl, ?_⟩) hHeld ?_
          rotate_left
          · intro w hSw; go_simp; try with_reducible rfl
          try simp only [Act.put, List.setIfInBounds_toArray, List.set_cons_zero, List.set_cons_succ]
          refine wpAnyH_ready (rs := [1]) (by kernel_rfl) (by simp) ?_
          refine AllReadyH.cons (o := ⟨some 106, _, _, _, _, _⟩) rfl (fun K hK => ?_) AllReadyH.nil
          go_simp
          have hP1 := hHeld
          with_reducible refine (jh _ (hJ.below hHeld)).mono ?_
          rintro e1 v1 ⟨v, rfl, hG1, hb1⟩
          have hQ1 := hP1.trans (hb1.mono hP1.size)
          obtain ⟨va, vc, rfl⟩ := hG1.form
          clear hG1 hb1 hP1
          go_wp2_with fail
          clear hHeld
          refine hK.out _ _ (hQ1) (fun hHeld => ?_)
          clear hK K
          try simp only [Act.put, List.setIfInBounds_toArray, List.set_cons_zero, List.set_cons_succ]
          refine wpAnyH_take (i := 2) (oi := ⟨some 107, _, _, _, _, _⟩) (v := ?_) rfl (by kernel_rfl) (by kernel_rfl) (by kernel_rfl) (fun _ _ _ h => h) (Or.inl ⟨by rfl, ?_⟩) hHeld ?_
          rotate_left
          · intro w hSw; go_simp; try with_reducible rfl
          try simp only [Act.put, List.setIfInBounds_toArray, List.set_cons_zero, List.set_cons_succ]
          refine wpAnyH_take (i := 6) (oi := ⟨some 111, _, _, _, _, _⟩) (v := ?_) rfl (by kernel_rfl) (by kernel_rfl) (by kernel_rfl) (fun _ _ _ h => h) (Or.inl ⟨by rfl, ?_⟩) hHeld ?_
          rotate_left
          · intro w hSw; go_simp; try with_reducible rfl
          try simp only [Act.put, List.setIfInBounds_toArray, List.set_cons_zero, List.set_cons_succ]
          refine wpAnyH_take (i := 7) (oi := ⟨some 112, _, _, _, _, _⟩) (v := ?_) rfl (by kernel_rfl) (by kernel_rfl) (by kernel_rfl) (fun _ _ _ h => h) (Or.inl ⟨by rfl, ?_⟩) hHeld ?_
          rotate_left
          · intro w hSw; go_simp; try with_reducible rfl
          try simp only [Act.put, List.setIfInBounds_toArray, List.set_cons_zero, List.set_cons_succ]
          refine wpAnyH_take (i := 8) (oi := ⟨some 113, _, _, _, _, _⟩) (v := ?_) rfl (by kernel_rfl) (by kernel_rfl) (by kernel_rfl) (fun _ _ _ h => h) (Or.inl ⟨by rfl, ?_⟩) hHeld ?_
          rotate_left
          · intro w hSw; go_simp; try with_reducible rfl
          try simp only [Act.put, List.setIfInBounds_toArray, List.set_cons_zero, List.set_cons_succ]
          refine wpAnyH_take (i := 9) (oi := ⟨some 2, _, _, _, _, _⟩) (v := ?_) rfl (by kernel_rfl) (by kernel_rfl) (by kernel_rfl) (fun _ _ _ h => h) (Or.inl ⟨by rfl, ?_⟩) hHeld ?_
          rotate_left
          · intro w hSw; go_simp; try with_reducible rfl
          try simp only [Act.put, List.setIfInBounds_toArray, List.set_cons_zero, List.set_cons_succ]
          refine wpAnyH_done (by kernel_rfl) ?_ _
          go_wp2_with fail
          go_ret
          exact ⟨ret_bool (by rw [HT.out, hza, HSec.out, HSz.out]; rw [Bool.eq_iff_iff]; simp [HK4.out, IntKind.wrap, IntKind.bits, IntKind.signed]; try omega), hB.trans (hHeld.mono hB.size)⟩
      · rw [har] at HA
        have c1 := hF.cells.2.1
        have c6 := hF.cells.2.2.2.2.2.2.1
        have c7 := hF.cells.2.2.2.2.2.2.2.1
        have c8 := hF.cells.2.2.2.2.2.2.2.2.1
        rw [har] at c1
        go_wp2_with fail
        clear c1 c6 c7 c8
        with_reducible refine (i3 _).mono ?_
        rintro e4 w4 ⟨rfl, hb4⟩
        have hF := hF.below hb4 hF.lt
        have hJ := hJ.below hb4
        have hB := hB.trans (hb4.mono hB.size)
        clear hb4
        cases x3
        rotate_left
        · go_wp2_with fail
          go_ret
          exact ⟨ret_bool (by rw [HT.out]; rw [HA.out]; rfl), hB⟩
        have hza : za = true := by rw [HA.out]; rfl
        have hV := hVal hza
        have jh := fun w hJ => jh0 w hV hJ
        cases hse : h.se
        · rw [hse] at HSec
          by_cases hk4 : h.ct = 0 ∧ h.ky = 0 ∧ k = 0
          rotate_left
          · have HT2 : Hid (z = false) := hid (by rw [HT.out, HSec.out]; simp [hk4])
            have c3 := hF.cells.2.2.2.1
            have c12 := hF.cells.2.2.2.2.2.2.2.2.2.2.2.2.1
            have c13 := hF.cells.2.2.2.2.2.2.2.2.2.2.2.2.2.1
            have c15 := hF.cells.2.2.2.2.2.2.2.2.2.2.2.2.2.2.2
            rw [hse] at c3
            clear HT HSec HSz
            go_wp2_with fail
            all_goals go_ret
            all_goals (refine ⟨ret_bool ?_, hB⟩; rw [HT2.out] <;> (clear HT2; first | rfl | (simp; omega) | (exfalso; omega)))
          obtain ⟨hct, hky, hk4⟩ := hk4
          have hk5 : ((k : Int) != 0) = false := by simp; omega
          have HK4 := hid hk4
          have HCT := hid hct
          have HKY := hid hky
          clear hk4
          have c3 := hF.cells.2.2.2.1
          have c12 := hF.cells.2.2.2.2.2.2.2.2.2.2.2.2.1
          have c13 := hF.cells.2.2.2.2.2.2.2.2.2.2.2.2.2.1
          have c15 := hF.cells.2.2.2.2.2.2.2.2.2.2.2.2.2.2.2
          rw [hse] at c3
          rw [hct] at c12
          rw [hky] at c13
          go_upto_region 11 with (fail)
          clear c3 c15 c12 c13
          clear hct hky
          refine wp_region_held_drew (S := fun w' => Below w4.heap.size w4 w') (by kernel_rfl) (below_drewN (Below.refl _ _) 1) (fun hHeld => ?_)
          refine wpAnyH_frame (g := w.heap.size) (h := h) (p := .slice a n c) (m := .slice b k d) (i := 0) (oi := ⟨some 105, _, _, _, _, _⟩) rfl (by kernel_rfl) (by kernel_rfl) (by kernel_rfl) (fun _ _ _ h => h) (by rfl) (.tmp 1) rfl rfl  (fun _ h => hF.below h hF.lt) hHeld ?_
          try simp only [Act.put, List.setIfInBounds_toArray, List.set_cons_zero, List.set_cons_succ]
          refine wpAnyH_take (i := 3) (oi := ⟨some 108, _, _, _, _, _⟩) (v := ?_) rfl (by kernel_rfl) (by kernel_rfl) (by kernel_rfl) (fun _ _ _ h => h) (Or.inl ⟨by rfl, ?_⟩) hHeld ?_
          rotate_left
          · intro w hSw; go_simp; try with_reducible rfl
          try simp only [Act.put, List.setIfInBounds_toArray, List.set_cons_zero, List.set_cons_succ]
          refine wpAnyH_take (i := 4) (oi := ⟨some 109, _, _, _, _, _⟩) (v := ?_) rfl (by kernel_rfl) (by kernel_rfl) (by kernel_rfl) (fun _ _ _ h => h) (Or.inl ⟨by rfl, ?_⟩) hHeld ?_
          rotate_left
          · intro w hSw; have c15 := (hF.below hSw hF.lt).cells.2.2.2.2.2.2.2.2.2.2.2.2.2.2.2; go_simp; try with_reducible rfl
          try simp only [Act.put, List.setIfInBounds_toArray, List.set_cons_zero, List.set_cons_succ]
          refine wpAnyH_take (i := 5) (oi := ⟨some 110, _, _, _, _, _⟩) (v := ?_) rfl (by kernel_rfl) (by kernel_rfl) (by kernel_rfl) (fun _ _ _ h => h) (Or.inl ⟨by rfl, ?_⟩) hHeld ?_
          rotate_left
          · intro w hSw; go_simp; try with_reducible rfl
          try simp only [Act.put, List.setIfInBounds_toArray, List.set_cons_zero, List.set_cons_succ]
          refine wpAnyH_ready (rs := [1]) (by kernel_rfl) (by simp) ?_
          refine AllReadyH.cons (o := ⟨some 106, _, _, _, _, _⟩) rfl (fun K hK => ?_) AllReadyH.nil
          go_simp
          have hP1 := hHeld
          with_reducible refine (jh _ (hJ.below hHeld)).mono ?_
          rintro e1 v1 ⟨v, rfl, hG1, hb1⟩
          have hQ1 := hP1.trans (hb1.mono hP1.size)
          obtain ⟨va, vc, rfl⟩ := hG1.form
          clear hG1 hb1 hP1
          go_wp2_with fail
          clear hHeld
          refine hK.out _ _ (hQ1) (fun hHeld => ?_)
          clear hK K
          try simp only [Act.put, List.setIfInBounds_toArray, List.set_cons_zero, List.set_cons_succ]
          refine wpAnyH_take (i := 2) (oi := ⟨some 107, _, _, _, _, _⟩) (v := ?_) rfl (by kernel_rfl) (by kernel_rfl) (by kernel_rfl) (fun _ _ _ h => h) (Or.inl ⟨by rfl, ?_⟩) hHeld ?_
          rotate_left
          · intro w hSw; go_simp; try with_reducible rfl
          try simp only [Act.put, List.setIfInBounds_toArray, List.set_cons_zero, List.set_cons_succ]
          refine wpAnyH_take (i := 6) (oi := ⟨some 111, _, _, _, _, _⟩) (v := ?_) rfl (by kernel_rfl) (by kernel_rfl) (by kernel_rfl) (fun _ _ _ h => h) (Or.inl ⟨by rfl, ?_⟩) hHeld ?_
          rotate_left
          · intro w hSw; go_simp; try with_reducible rfl
          try simp only [Act.put, List.setIfInBounds_toArray, List.set_cons_zero, List.set_cons_succ]
          refine wpAnyH_take (i := 7) (oi := ⟨some 112, _, _, _, _, _⟩) (v := ?_) rfl (by kernel_rfl) (by kernel_rfl) (by kernel_rfl) (fun _ _ _ h => h) (Or.inl ⟨by rfl, ?_⟩) hHeld ?_
          rotate_left
          · intro w hSw; go_simp; try with_reducible rfl
          try simp only [Act.put, List.setIfInBounds_toArray, List.set_cons_zero, List.set_cons_succ]
          refine wpAnyH_take (i := 8) (oi := ⟨some 113, _, _, _, _, _⟩) (v := ?_) rfl (by kernel_rfl) (by kernel_rfl) (by kernel_rfl) (fun _ _ _ h => h) (Or.inl ⟨by rfl, ?_⟩) hHeld ?_
          rotate_left
          · intro w hSw; go_simp; try with_reducible rfl
          try simp only [Act.put, List.setIfInBounds_toArray, List.set_cons_zero, List.set_cons_succ]
          refine wpAnyH_take (i := 9) (oi := ⟨some 2, _, _, _, _, _⟩) (v := ?_) rfl (by kernel_rfl) (by kernel_rfl) (by kernel_rfl) (fun _ _ _ h => h) (Or.inl ⟨by rfl, ?_⟩) hHeld ?_
          rotate_left
          · intro w hSw; go_simp; try with_reducible rfl
          try simp only [Act.put, List.setIfInBounds_toArray, List.set_cons_zero, List.set_cons_succ]
          refine wpAnyH_done (by kernel_rfl) ?_ _
          go_wp2_with fail
          go_ret
          exact ⟨ret_bool (by rw [HT.out, hza, HSec.out, HSz.out]; rw [Bool.eq_iff_iff]; simp [HK4.out, HCT.out, HKY.out, IntKind.wrap, IntKind.bits, IntKind.signed]; try omega), hB.trans (hHeld.mono hB.size)⟩
        · rw [hse] at HSec
          by_cases hk4 : k = 4
          rotate_left
          · have HT2 : Hid (z = false) := hid (by rw [HT.out, HSec.out]; simp [hk4])
            have c3 := hF.cells.2.2.2.1
            have c15 := hF.cells.2.2.2.2.2.2.2.2.2.2.2.2.2.2.2
            rw [hse] at c3
            have hk5 : ((k : Int) != 4) = true := by simp; omega
            go_wp2_with fail
            go_ret
            exact ⟨ret_bool (by rw [HT2.out]), hB⟩
          have hk5 : ((k : Int) != 4) = false := by simp; omega
          have HK4 := hid hk4
          clear hk4
          have c3 := hF.cells.2.2.2.1
          have c15 := hF.cells.2.2.2.2.2.2.2.2.2.2.2.2.2.2.2
          rw [hse] at c3
          go_upto_region 11 with (fail)
          clear c3 c15
          refine wp_region_held_drew (S := fun w' => Below w4.heap.size w4 w') (by kernel_rfl) (below_drewN (Below.refl _ _) 1) (fun hHeld => ?_)
          refine wpAnyH_frame (g := w.heap.size) (h := h) (p := .slice a n c) (m := .slice b k d) (i := 0) (oi := ⟨some 105, _, _, _, _, _⟩) rfl (by kernel_rfl) (by kernel_rfl) (by kernel_rfl) (fun _ _ _ h => h) (by rfl) (.tmp 1) rfl rfl  (fun _ h => hF.below h hF.lt) hHeld ?_
          try simp only [Act.put, List.setIfInBounds_toArray, List.set_cons_zero, List.set_cons_succ]
          refine wpAnyH_take (i := 3) (oi := ⟨some 108, _, _, _, _, _⟩) (v := ?_) rfl (by kernel_rfl) (by kernel_rfl) (by kernel_rfl) (fun _ _ _ h => h) (Or.inl ⟨by rfl, ?_⟩) hHeld ?_
          rotate_left
          · intro w hSw; go_simp; try with_reducible rfl
          try simp only [Act.put, List.setIfInBounds_toArray, List.set_cons_zero, List.set_cons_succ]
          refine wpAnyH_take (i := 4) (oi := ⟨some 109, _, _, _, _, _⟩) (v := ?_) rfl (by kernel_rfl) (by kernel_rfl) (by kernel_rfl) (fun _ _ _ h => h) (Or.inl ⟨by rfl, ?_⟩) hHeld ?_
          rotate_left
          · intro w hSw; have c15 := (hF.below hSw hF.lt).cells.2.2.2.2.2.2.2.2.2.2.2.2.2.2.2; go_simp; try with_reducible rfl
          try simp only [Act.put, List.setIfInBounds_toArray, List.set_cons_zero, List.set_cons_succ]
          refine wpAnyH_take (i := 5) (oi := ⟨some 110, _, _, _, _, _⟩) (v := ?_) rfl (by kernel_rfl) (by kernel_rfl) (by kernel_rfl) (fun _ _ _ h => h) (Or.inl ⟨by rfl, ?_⟩) hHeld ?_
          rotate_left
          · intro w hSw; go_simp; try with_reducible rfl
          try simp only [Act.put, List.setIfInBounds_toArray, List.set_cons_zero, List.set_cons_succ]
          refine wpAnyH_ready (rs := [1]) (by kernel_rfl) (by simp) ?_
          refine AllReadyH.cons (o := ⟨some 106, _, _, _, _, _⟩) rfl (fun K hK => ?_) AllReadyH.nil
          go_simp
          have hP1 := hHeld
          with_reducible refine (jh _ (hJ.below hHeld)).mono ?_
          rintro e1 v1 ⟨v, rfl, hG1, hb1⟩
          have hQ1 := hP1.trans (hb1.mono hP1.size)
          obtain ⟨va, vc, rfl⟩ := hG1.form
          clear hG1 hb1 hP1
          go_wp2_with fail
          clear hHeld
          refine hK.out _ _ (hQ1) (fun hHeld => ?_)
          clear hK K
          try simp only [Act.put, List.setIfInBounds_toArray, List.set_cons_zero, List.set_cons_succ]
          refine wpAnyH_take (i := 2) (oi := ⟨some 107, _, _, _, _, _⟩) (v := ?_) rfl (by kernel_rfl) (by kernel_rfl) (by kernel_rfl) (fun _ _ _ h => h) (Or.inl ⟨by rfl, ?_⟩) hHeld ?_
          rotate_left
          · intro w hSw; go_simp; try with_reducible rfl
          try simp only [Act.put, List.setIfInBounds_toArray, List.set_cons_zero, List.set_cons_succ]
          refine wpAnyH_take (i := 6) (oi := ⟨some 111, _, _, _, _, _⟩) (v := ?_) rfl (by kernel_rfl) (by kernel_rfl) (by kernel_rfl) (fun _ _ _ h => h) (Or.inl ⟨by rfl, ?_⟩) hHeld ?_
          rotate_left
          · intro w hSw; go_simp; try with_reducible rfl
          try simp only [Act.put, List.setIfInBounds_toArray, List.set_cons_zero, List.set_cons_succ]
          refine wpAnyH_take (i := 7) (oi := ⟨some 112, _, _, _, _, _⟩) (v := ?_) rfl (by kernel_rfl) (by kernel_rfl) (by kernel_rfl) (fun _ _ _ h => h) (Or.inl ⟨by rfl, ?_⟩) hHeld ?_
          rotate_left
          · intro w hSw; go_simp; try with_reducible rfl
          try simp only [Act.put, List.setIfInBounds_toArray, List.set_cons_zero, List.set_cons_succ]
          refine wpAnyH_take (i := 8) (oi := ⟨some 113, _, _, _, _, _⟩) (v := ?_) rfl (by kernel_rfl) (by kernel_rfl) (by kernel_rfl) (fun _ _ _ h => h) (Or.inl ⟨by rfl, ?_⟩) hHeld ?_
          rotate_left
          · intro w hSw; go_simp; try with_reducible rfl
          try simp only [Act.put, List.setIfInBounds_toArray, List.set_cons_zero, List.set_cons_succ]
          refine wpAnyH_take (i := 9) (oi := ⟨some 2, _, _, _, _, _⟩) (v := ?_) rfl (by kernel_rfl) (by kernel_rfl) (by kernel_rfl) (fun _ _ _ h => h) (Or.inl ⟨by rfl, ?_⟩) hHeld ?_
          rotate_left
          · intro w hSw; go_simp; try with_reducible rfl
          try simp only [Act.put, List.setIfInBounds_toArray, List.set_cons_zero, List.set_cons_succ]
          refine wpAnyH_done (by kernel_rfl) ?_ _
          go_wp2_with fail
          go_ret
          exact ⟨ret_bool (by rw [HT.out, hza, HSec.out, HSz.out]; rw [Bool.eq_iff_iff]; simp [HK4.out, IntKind.wrap, IntKind.bits, IntKind.signed]; try omega), hB.trans (hHeld.mono hB.size)⟩
  · have HT : Hid (z = false) := hid (by rw [HS.out, if_neg h13])
    clear HS
    have q1 : ¬h.k = 1 := fun e => h13 (Or.inl e)
    have q3 : ¬h.k = 3 := fun e => h13 (Or.inr e)
    clear h13
    go_wp2_with fail
    go_ret
    exact ⟨ret_bool (by rw [HT.out]), hB⟩
end Go.Proofs.Ytmbiophckeiehaa
