/-
  Pruning a list changes nothing about what is known then or later: the law's walk.
-/
import Derived.Test.YtcmpdpcncjggkaaDoorOnce7
import Derived.Test.YtcmpdpcncjggkaaDoorSeen
namespace Go.Proofs.YtcmpdpcncjggkaaDoor
open Go.RowKit
set_option linter.unusedSimpArgs false
set_option linter.unusedVariables false

theorem known_pruned {l : List Ent} (h : VL l) {now j : Int} (hj : now ≤ j) (ht : timeB j = true) (m s e q : Int) : knownL (pruneL l now) m s e q j = knownL l m s e q j := by
  unfold knownL; rw [pruneR_ok h ht, pruneR_ok (h.prune now) ht, pruneL_pruneL l hj]

set_option maxHeartbeats 16000000 in
set_option maxRecDepth 100000 in
theorem prunes_walk (a0 : Option Addr) (len0 cap0 : Nat) (q0 : Int) (w : World) (hT : IsI w a0 len0 cap0) (hq : 0 ≤ q0 ∧ q0 < 256) (G : GL w) :
    Calls Tryd.prog 7 #[.slice a0 len0 cap0, .int .u8 q0] w (RetS (.bool true) w) := by
  obtain ⟨hq1, hq2⟩ := hq
  go_enter Tryd.func7, Tryd.ntmps7
  go_wp2_with fail
  with_reducible refine (new_any a0 len0 cap0 w hT).mono ?_
  rintro e1 w1 ⟨g, rfl, hg, hT1, hb1⟩
  go_wp2_with fail
  with_reducible refine (seen_any g w1 hT1).mono ?_
  rintro e2 w2 ⟨v, L, rfl, hV, hG2, hT2, hO2⟩
  have hs2 := hO2.size
  obtain ⟨p, cp, rfl, hI2⟩ := hG2.isE (by have := hV.len; omega)
  clear hI2
  go_wp2_with fail
  with_reducible refine (next_any g 40 w2 hT2 (by omega) (by omega)).mono ?_
  rintro e3 w3 ⟨now, rfl, hnow, hT3, hO3⟩
  go_wp2_with fail
  with_reducible refine (device_good g w3 hT3).mono ?_
  rintro e4 w4 ⟨m, s, x, rfl, hx3, ⟨hsen, hs100⟩, hT4, hO4⟩
  have hgw1 := hT1.lt
  have hG4 := (hG2.only (hO3.trans hO4) hgw1)
  have hb4 := hb1.trans (((hO2.trans hO3).trans hO4).below hg hb1.size)
  obtain ⟨p', cp', hv, hI4⟩ := hG4.isE (by have := hV.len; omega)
  injection hv with e1 e2 e3
  subst e1 e3
  clear e2 hG4 hG2 hT1 hT2 hT3 hT4 hO2 hO3 hO4
  have hb5 := (Below.refl w4.heap.size w4).alloc (Nat.le_refl _) (.cells #[.int .i64 m, .int .u16 s, .int .u64 x] 28)
  have hA5 : (w4.alloc (.cells #[.int .i64 m, .int .u16 s, .int .u64 x] 28)).rangeAt w4.heap.size 0 (avl m s x) := Ar.of_heap (heap_alloc_new w4 _)
  have hsz5 : (w4.alloc (.cells #[.int .i64 m, .int .u16 s, .int .u64 x] 28)).heap.size = w4.heap.size + 1 := by simp
  have hpr := prune_any p L.length cp L (now : Int) _ (hI4.below hb5)
  have htn : timeB (now : Int) = true := by simp [timeB]; omega
  rw [pruneR_ok hV htn] at hpr
  have HV := hid hV
  have hlp := pruneL_len L (now : Int)
  clear htn
  simp only [av]
  go_wp2_with fail
  generalize w4.alloc (.cells #[.int .i64 m, .int .u16 s, .int .u64 x] 28) = w5 at *
  with_reducible refine hpr.mono ?_
  rintro e6 w6 ⟨v6, rfl, hG6, hb6⟩
  obtain ⟨p5, cp5, rfl, hI5⟩ := hG6.isE (by have := hV.len; simp only at hlp ⊢; omega)
  have hI6 := (hI4.below hb5).below hb6
  have hA6 := rangeAt_below hA5 hb6 (by omega)
  have hb06 := (hb4.trans (hb5.mono (by have := hb4.size; omega))).trans (hb6.mono (by have := hb4.size; have := hb5.size; omega))
  have hs6 : w4.heap.size < w6.heap.size := by have := hb6.size; omega
  clear hpr hG6 hI4 hb5 hb6 hA5 hb4 hV hsz5
  have hnl : ¬ ((pruneL L (now : Int)).length : Int) > (L.length : Int) := by omega
  go_wp2_with fail
  go_loopw [11] (fun tj wr => ∃ k : Nat, k ≤ 40 ∧ tj = .int .i64 ((now : Int) + k) ∧ Below w6.heap.size w6 wr) (fun tj _ => ((now : Int) + 40 - intOf tj).toNat)
  case atStart => exact ⟨0, by omega, by simp, Below.refl _ _⟩
  case round =>
    obtain ⟨k, hk, rfl, hB⟩ := hrel
    by_cases hlt : k < 40
    · have hKL : ∃ K, knownL L m s x (q0.tmod 4) ((now : Int) + k) = K := ⟨_, rfl⟩
      obtain ⟨K, hKL⟩ := hKL
      have hKK := hid ((known_pruned HV.out (show (now : Int) ≤ (now : Int) + k by omega) (by simp [timeB]; omega) m s x (q0.tmod 4)).trans hKL)
      have hKL := hid hKL
      have hArr := rangeAt_below hA6 hB hs6
      have hI5 := hI5.below hB
      have hI6 := hI6.below hB
      have hsz := hB.size
      generalize hj : (now : Int) + (k : Int) = j at *
      have hj40 : j < (now : Int) + 40 := by omega
      go_wp2_with fail
      refine wp_region_held_drew (S := fun w' => Below wr.heap.size wr w' ∧ w'.rangeAt w4.heap.size 0 (avl m s x)) (by kernel_rfl) (⟨below_drewN (Below.refl _ _) 1, hArr⟩) (fun hHeld => ?_)
      refine wpAnyH_take (i := 0) (oi := ⟨some 42, _, _, _, _, _⟩) (v := ?_) rfl (by kernel_rfl) (by kernel_rfl) (by kernel_rfl) (fun _ _ _ h => h) (Or.inl ⟨by rfl, ?_⟩) hHeld ?_
      rotate_left
      · intro w hSw; go_simp; try with_reducible rfl
      try simp only [Act.put, List.setIfInBounds_toArray, List.set_cons_zero, List.set_cons_succ]
      refine wpAnyH_addr (g := w4.heap.size) (o := 0) (m := m) (s := s) (e := x) (i := 1) (oi := ⟨some 43, _, _, _, _, _⟩) rfl (by kernel_rfl) (by kernel_rfl) (by kernel_rfl) (fun _ _ _ h => h) (by rfl) (.tmp 8) rfl rfl  (fun _ h => h.2) hHeld ?_
      try simp only [Act.put, List.setIfInBounds_toArray, List.set_cons_zero, List.set_cons_succ]
      refine wpAnyH_take (i := 2) (oi := ⟨some 44, _, _, _, _, _⟩) (v := ?_) rfl (by kernel_rfl) (by kernel_rfl) (by kernel_rfl) (fun _ _ _ h => h) (Or.inl ⟨by rfl, ?_⟩) hHeld ?_
      rotate_left
      · intro w hSw; go_simp; try with_reducible rfl
      try simp only [Act.put, List.setIfInBounds_toArray, List.set_cons_zero, List.set_cons_succ]
      refine wpAnyH_take (i := 3) (oi := ⟨some 45, _, _, _, _, _⟩) (v := ?_) rfl (by kernel_rfl) (by kernel_rfl) (by kernel_rfl) (fun _ _ _ h => h) (Or.inl ⟨by rfl, ?_⟩) hHeld ?_
      rotate_left
      · intro w hSw; go_simp; try with_reducible rfl
      try simp only [Act.put, List.setIfInBounds_toArray, List.set_cons_zero, List.set_cons_succ]
      refine wpAnyH_take (i := 4) (oi := ⟨some 46, _, _, _, _, _⟩) (v := ?_) rfl (by kernel_rfl) (by kernel_rfl) (by kernel_rfl) (fun _ _ _ h => h) (Or.inl ⟨by rfl, ?_⟩) hHeld ?_
      rotate_left
      · intro w hSw; go_simp; try with_reducible rfl
      try simp only [Act.put, List.setIfInBounds_toArray, List.set_cons_zero, List.set_cons_succ]
      refine wpAnyH_take (i := 6) (oi := ⟨some 48, _, _, _, _, _⟩) (v := ?_) rfl (by kernel_rfl) (by kernel_rfl) (by kernel_rfl) (fun _ _ _ h => h) (Or.inl ⟨by rfl, ?_⟩) hHeld ?_
      rotate_left
      · intro w hSw; go_simp; try with_reducible rfl
      try simp only [Act.put, List.setIfInBounds_toArray, List.set_cons_zero, List.set_cons_succ]
      refine wpAnyH_addr (g := w4.heap.size) (o := 0) (m := m) (s := s) (e := x) (i := 7) (oi := ⟨some 49, _, _, _, _, _⟩) rfl (by kernel_rfl) (by kernel_rfl) (by kernel_rfl) (fun _ _ _ h => h) (by rfl) (.tmp 8) rfl rfl  (fun _ h => h.2) hHeld ?_
      try simp only [Act.put, List.setIfInBounds_toArray, List.set_cons_zero, List.set_cons_succ]
      refine wpAnyH_take (i := 8) (oi := ⟨some 50, _, _, _, _, _⟩) (v := ?_) rfl (by kernel_rfl) (by kernel_rfl) (by kernel_rfl) (fun _ _ _ h => h) (Or.inl ⟨by rfl, ?_⟩) hHeld ?_
      rotate_left
      · intro w hSw; go_simp; try with_reducible rfl
      try simp only [Act.put, List.setIfInBounds_toArray, List.set_cons_zero, List.set_cons_succ]
      refine wpAnyH_take (i := 9) (oi := ⟨some 51, _, _, _, _, _⟩) (v := ?_) rfl (by kernel_rfl) (by kernel_rfl) (by kernel_rfl) (fun _ _ _ h => h) (Or.inl ⟨by rfl, ?_⟩) hHeld ?_
      rotate_left
      · intro w hSw; go_simp; try with_reducible rfl
      try simp only [Act.put, List.setIfInBounds_toArray, List.set_cons_zero, List.set_cons_succ]
      refine wpAnyH_take (i := 10) (oi := ⟨some 52, _, _, _, _, _⟩) (v := ?_) rfl (by kernel_rfl) (by kernel_rfl) (by kernel_rfl) (fun _ _ _ h => h) (Or.inl ⟨by rfl, ?_⟩) hHeld ?_
      rotate_left
      · intro w hSw; go_simp; try with_reducible rfl
      try simp only [Act.put, List.setIfInBounds_toArray, List.set_cons_zero, List.set_cons_succ]
      refine wpAnyH_ready (rs := [5]) (by kernel_rfl) (by simp) ?_
      refine AllReadyH.cons (o := ⟨some 47, _, _, _, _, _⟩) rfl (fun K hK => ?_) AllReadyH.nil
      go_simp
      have hP4 := hHeld
      have hh := known7_any p5 (pruneL L now).length cp5 (pruneL L now) m s x (q0.tmod 4) j _ (hI5.below hP4.1)
      rw [hKK.out] at hh
      with_reducible refine hh.mono ?_
      rintro e9 w9 ⟨rfl, hb9⟩
      have hQ4 := seq hP4.1 hb9
      have k1 := rangeAt_below hP4.2 hb9 (by have := hP4.1.size; omega)
      clear hh
      go_wp2_with fail
      clear hHeld
      refine hK.out _ _ (⟨hQ4, k1⟩) (fun hHeld => ?_)
      clear hK K
      try simp only [Act.put, List.setIfInBounds_toArray, List.set_cons_zero, List.set_cons_succ]
      refine wpAnyH_ready (rs := [11]) (by kernel_rfl) (by simp) ?_
      refine AllReadyH.cons (o := ⟨some 53, _, _, _, _, _⟩) rfl (fun K hK => ?_) AllReadyH.nil
      go_simp
      have hP4 := hHeld
      have hh := known7_any p L.length cp L m s x (q0.tmod 4) j _ (hI6.below hP4.1)
      rw [hKL.out] at hh
      with_reducible refine hh.mono ?_
      rintro e9 w9 ⟨rfl, hb9⟩
      have hQ4 := seq hP4.1 hb9
      have k1 := rangeAt_below hP4.2 hb9 (by have := hP4.1.size; omega)
      clear hh
      go_wp2_with fail
      clear hHeld
      refine hK.out _ _ (⟨hQ4, k1⟩) (fun hHeld => ?_)
      clear hK K
      try simp only [Act.put, List.setIfInBounds_toArray, List.set_cons_zero, List.set_cons_succ]
      refine wpAnyH_take (i := 12) (oi := ⟨some 54, _, _, _, _, _⟩) (v := .bool false) rfl (by kernel_rfl) (by kernel_rfl) (by kernel_rfl) (fun _ _ _ h => h) (Or.inl ⟨by rfl, ?_⟩) hHeld ?_
      · intro w hSw; go_simp
      try simp only [Act.put, List.setIfInBounds_toArray, List.set_cons_zero, List.set_cons_succ]
      refine wpAnyH_done (by kernel_rfl) ?_ _
      go_wp2_with fail
      go_roundw
      case rel => have hd : decide (L.length < (pruneL L (now : Int)).length) = false := by simp; omega
                  simp only [hd]
                  refine ⟨_, _, _, _, _, _, _, _, _, _, _, _, _, _, _, _, _, _, _, _, _, ?_, rfl⟩; exact ⟨k + 1, by omega, by rw [← hj]; go_num, hB.trans (hHeld.1.mono hsz)⟩
      case measure => simp [intOf]; omega
    · obtain rfl : k = 40 := by omega
      go_wp2_with fail
      with_reducible refine (known_any wr ((G.on hb06).on hB)).mono ?_
      rintro e9 w9 ⟨rfl, hb9⟩
      have hbz := seq (seq hb06 hB) hb9
      go_wp2_with fail
      go_ret
      exact ⟨ret_bool rfl, hbz⟩
end Go.Proofs.YtcmpdpcncjggkaaDoor
