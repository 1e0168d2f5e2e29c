/-
  A list stays valid; what is recorded is known at that time: the law's walk.
-/
import Derived.Test.YtcmpdpcncjggkaaDoorPrun7
namespace Go.Proofs.YtcmpdpcncjggkaaDoor
open Go.RowKit
set_option linter.unusedSimpArgs false
set_option linter.unusedVariables false

theorem known_rec {l : List Ent} (h : VL l) {m s e q now : Int} (hs : senderB m s e = true) (h0 : 0 ≤ now) (h1 : now < 1000) : knownL (recR l m s e q now).1 m s e q now = true := by
  have ht : timeB now = true := by simp [timeB]; omega
  cases hh : hasF (pruneL l now) m s e q with
  | true =>
    rw [recR_has h hs ht hh]
    obtain ⟨x, hx, hk⟩ := (hasF_iff _ _ _ _ _).1 hh
    exact known_mem (h.prune now) ht hx hk (mem_pruneL.1 hx).2
  | false =>
    have hv := recR_valid h hs ht (q := q)
    rw [recR_new h hs ht hh] at hv ⊢
    exact known_mem hv ht (x := ⟨m, s, e, q, min (now + 16) 1099511627776⟩) (List.mem_append_right _ (List.mem_singleton.2 rfl)) (by simp [sameF]) (by simp only; omega)

set_option maxHeartbeats 16000000 in
set_option maxRecDepth 100000 in
theorem bounded_walk (a0 : Option Addr) (len0 cap0 : Nat) (a2 : Option Addr) (len2 cap2 : Nat) (l2 : List UInt8) (w : World) (hT : IsI w a0 len0 cap0) (hO : IsB w a2 len2 cap2 l2) (hc2 : cap2 ≤ 140737488351232) (G : GL w) :
    Calls Tryd.prog 6 #[.slice a0 len0 cap0, .slice a2 len2 cap2] w (RetS (.bool true) w) := by
  have hle2 := hO.le
  have hmx2 := hO.max
  go_enter Tryd.func6, Tryd.ntmps6
  go_wp2_with fail
  with_reducible refine (new_any a0 len0 cap0 w hT).mono ?_
  rintro e1 w1 ⟨g, rfl, hg, hT1, hb1⟩
  go_wp2_with fail
  with_reducible refine (seen_any g w1 hT1).mono ?_
  rintro e2 w2 ⟨v, L0, rfl, hV, hG2, hT2, hO2⟩
  have hs2 := hO2.size
  have hgw1 := hT1.lt
  have hb2 := hb1.trans (hO2.below hg hb1.size)
  have HV := hid hV
  have hB1 : g < w1.heap.size ∧ w1.heap.size ≤ w2.heap.size := ⟨hgw1, hs2⟩
  generalize w1.heap.size = B1 at *
  clear hV hT1 hO2 hb1 hs2 hgw1
  go_wp2_with fail
  go_loopw [6, 7] (fun tv ti wr => ∃ (i : Nat) (v : Value) (L : List Ent), i ≤ len2 ∧ i ≤ 100 ∧ ti = .int .i64 i ∧ tv = v ∧ Hid (VL L) ∧ GrE wr B1 v L ∧ TapeAt wr g ∧ Below w.heap.size w wr ∧ B1 ≤ wr.heap.size) (fun _ ti _ => len2 - (intOf ti).toNat)
  case atStart => exact ⟨0, _, L0, Nat.zero_le _, by omega, rfl, rfl, HV, hG2, hT2, hb2, hB1.2⟩
  case round =>
    have hgB := hB1.1
    clear HV hG2 hT2 hb2 hB1
    obtain ⟨i, v, L, hi, hi100, rfl, rfl, HV, hG, hTr, hB, hBw⟩ := hrel
    by_cases hlt : i < len2
    · by_cases hlt1 : i < 100
      ·
        obtain ⟨b2, off2, rfl, hbl2, hcc2⟩ := hO.some (by omega)
        have hx := (hB.cell (p := ⟨b2, off2 + i, none⟩) hbl2).trans (hcc2 i hlt)
        clear hcc2
        generalize ((l2.getD i 0).toNat : Int) = q at hx
        obtain ⟨p, cp, rfl, hI⟩ := hG.isE (by have := HV.out.len; omega)
        clear hI
        go_wp2_with fail
        with_reducible refine (device_good g wr hTr).mono ?_
        rintro e3 w3 ⟨m, s, x, rfl, hx3, ⟨hsen, hs100⟩, hT3, hO3⟩
        go_wp2_with fail
        with_reducible refine (next_any g 40 w3 hT3 (by omega) (by omega)).mono ?_
        rintro e4 w4 ⟨now, rfl, hnow, hT4, hO4⟩
        have hO34 := hO3.trans hO4
        have hG4 := hG.only hO34 hgB
        have hs4 := hO34.size
        have hgs : w.heap.size ≤ g := hg
        have hB4 : Below w.heap.size w w4 := hB.trans (hO34.below hgs hB.size)
        have hx4 : w4.cell? ⟨b2, off2 + i, none⟩ = some (.int .u8 q) := (World.cell?_of_block (w := wr) (a := ⟨b2, off2 + i, none⟩) (hO34.block b2 (by have := hB.size; omega) (by omega))).trans hx
        obtain ⟨p', cp', hv, hI4⟩ := hG4.isE (by have := HV.out.len; omega)
        injection hv with e1 e2 e3
        subst e1 e3
        clear e2 hG4 hG hTr hT3 hO3 hO4 hx hB hO34
        have hb5 := (Below.refl w4.heap.size w4).alloc (Nat.le_refl _) (.cells #[.int .i64 m, .int .u16 s, .int .u64 x] 28)
        have hA5 : (w4.alloc (.cells #[.int .i64 m, .int .u16 s, .int .u64 x] 28)).rangeAt w4.heap.size 0 (avl m s x) := Ar.of_heap (heap_alloc_new w4 _)
        have hsz5 : (w4.alloc (.cells #[.int .i64 m, .int .u16 s, .int .u64 x] 28)).heap.size = w4.heap.size + 1 := by simp
        have hI5 := hI4.below hb5
        have hlb2 : b2 < w4.heap.size := by have := hB4.size; omega
        have hx5 := (hb5.cell (p := ⟨b2, off2 + i, none⟩) hlb2).trans hx4
        have hT5 := hT4.below hb5
        have hB5 := hB4.trans (hb5.mono hB4.size)
        have hrec := fun W h => record_any p L.length cp L m s x q (now : Int) W h
        have htn : timeB (now : Int) = true := by simp [timeB]; omega
        have herr := recR_err HV.out (q := q) hsen htn
        have hvl := recR_valid HV.out (q := q) hsen htn
        have hkn := known_rec HV.out (q := q) hsen (show (0 : Int) ≤ (now : Int) by omega) (by omega)
        generalize recR L m s x q (now : Int) = RR at hrec herr hvl hkn
        obtain ⟨R, bb, er⟩ := RR
        simp only at herr hvl hkn
        subst herr
        have HRV := hid hvl
        have HVal := hid ((validL_iff R).2 hvl)
        have HKn := hid hkn
        have hRl : R.length ≤ 32 := hvl.len
        clear htn hvl hkn hb5 hI4 hx4 hT4 hB4 HV
        simp only [av]
        go_wp2_with fail
        generalize w4.alloc (.cells #[.int .i64 m, .int .u16 s, .int .u64 x] 28) = w5 at *
        have hB15 : B1 ≤ w5.heap.size := by omega
        refine wp_region_held_drew (S := fun w' => Below w5.heap.size w5 w' ∧ w'.rangeAt w4.heap.size 0 (avl m s x) ∧ w'.cell? ⟨b2, off2 + i, none⟩ = some (.int .u8 q)) (by kernel_rfl) (⟨below_drewN (Below.refl _ _) 1, hA5, hx5⟩) (fun hHeld => ?_)
        refine wpAnyH_take (i := 0) (oi := ⟨some 32, _, _, _, _, _⟩) (v := ?_) rfl (by kernel_rfl) (by kernel_rfl) (by kernel_rfl) (fun _ _ _ h => h) (Or.inl ⟨by rfl, ?_⟩) hHeld ?_
        rotate_left
        · intro w hSw; go_simp; try with_reducible rfl
        try simp only [Act.put, List.setIfInBounds_toArray, List.set_cons_zero, List.set_cons_succ]
        refine wpAnyH_addr (g := w4.heap.size) (o := 0) (m := m) (s := s) (e := x) (i := 1) (oi := ⟨some 33, _, _, _, _, _⟩) rfl (by kernel_rfl) (by kernel_rfl) (by kernel_rfl) (fun _ _ _ h => h) (by rfl) (.tmp 8) rfl rfl  (fun _ h => h.2.1) hHeld ?_
        try simp only [Act.put, List.setIfInBounds_toArray, List.set_cons_zero, List.set_cons_succ]
        refine wpAnyH_take (i := 2) (oi := ⟨some 34, _, _, _, _, _⟩) (v := ?_) rfl (by kernel_rfl) (by kernel_rfl) (by kernel_rfl) (fun _ _ _ h => h) (Or.inl ⟨by rfl, ?_⟩) hHeld ?_
        rotate_left
        · intro w hSw; go_simp; try with_reducible rfl
        try simp only [Act.put, List.setIfInBounds_toArray, List.set_cons_zero, List.set_cons_succ]
        refine wpAnyH_take (i := 3) (oi := ⟨some 35, _, _, _, _, _⟩) (v := ?_) rfl (by kernel_rfl) (by kernel_rfl) (by kernel_rfl) (fun _ _ _ h => h) (Or.inl ⟨by rfl, ?_⟩) hHeld ?_
        rotate_left
        · intro w hSw; go_simp; try with_reducible rfl
        try simp only [Act.put, List.setIfInBounds_toArray, List.set_cons_zero, List.set_cons_succ]
        refine wpAnyH_take (i := 4) (oi := ⟨some 36, _, _, _, _, _⟩) (v := ?_) rfl (by kernel_rfl) (by kernel_rfl) (by kernel_rfl) (fun _ _ _ h => h) (Or.inl ⟨by rfl, ?_⟩) hHeld ?_
        rotate_left
        · intro w hSw; go_simp; try with_reducible rfl
        try simp only [Act.put, List.setIfInBounds_toArray, List.set_cons_zero, List.set_cons_succ]
        refine wpAnyH_take (i := 5) (oi := ⟨some 37, _, _, _, _, _⟩) (v := ?_) rfl (by kernel_rfl) (by kernel_rfl) (by kernel_rfl) (fun _ _ _ h => h) (Or.inl ⟨by rfl, ?_⟩) hHeld ?_
        rotate_left
        · intro w hSw; have kq := hSw.2.2; go_simp; try with_reducible rfl
        try simp only [Act.put, List.setIfInBounds_toArray, List.set_cons_zero, List.set_cons_succ]
        refine wpAnyH_take (i := 6) (oi := ⟨some 38, _, _, _, _, _⟩) (v := ?_) rfl (by kernel_rfl) (by kernel_rfl) (by kernel_rfl) (fun _ _ _ h => h) (Or.inl ⟨by rfl, ?_⟩) hHeld ?_
        rotate_left
        · intro w hSw; go_simp; try with_reducible rfl
        try simp only [Act.put, List.setIfInBounds_toArray, List.set_cons_zero, List.set_cons_succ]
        refine wpAnyH_ready (rs := [7]) (by kernel_rfl) (by simp) ?_
        refine AllReadyH.cons (o := ⟨some 39, _, _, _, _, _⟩) rfl (fun K hK => ?_) AllReadyH.nil
        go_simp
        have hP4 := hHeld
        with_reducible refine (hrec _ (hI5.below hP4.1)).mono ?_
        rintro e7 w7 ⟨v7, rfl, hG7, hb7⟩
        obtain ⟨p7, cp7, rfl, hI7⟩ := hG7.isE (by simp only; omega)
        have hB7 : B1 ≤ w7.heap.size := by have := hb7.size; have := hP4.1.size; omega
        replace hG7 := hG7.mono (C := B1) (by have := hP4.1.size; omega)
        have hQ4 := seq hP4.1 hb7
        have k1 := rangeAt_below hP4.2.1 hb7 (by have := hP4.1.size; omega)
        have k2 := (hb7.cell (p := ⟨b2, off2 + i, none⟩) (by have := hP4.1.size; show b2 < _; omega)).trans hP4.2.2
        go_wp2_with fail
        clear hHeld
        refine hK.out _ _ (⟨hQ4, k1, k2⟩) (fun hHeld => ?_)
        clear hK K
        try simp only [Act.put, List.setIfInBounds_toArray, List.set_cons_zero, List.set_cons_succ]
        refine wpAnyH_take (i := 8) (oi := ⟨some 31, _, _, _, _, _⟩) (v := ?_) rfl (by kernel_rfl) (by kernel_rfl) (by kernel_rfl) (fun _ _ _ h => h) (Or.inl ⟨by rfl, ?_⟩) hHeld ?_
        rotate_left
        · intro w hSw; go_simp; try with_reducible rfl
        try simp only [Act.put, List.setIfInBounds_toArray, List.set_cons_zero, List.set_cons_succ]
        refine wpAnyH_take (i := 9) (oi := ⟨some 40, _, _, _, _, _⟩) (v := ?_) rfl (by kernel_rfl) (by kernel_rfl) (by kernel_rfl) (fun _ _ _ h => h) (Or.inl ⟨by rfl, ?_⟩) hHeld ?_
        rotate_left
        · intro w hSw; go_simp; try with_reducible rfl
        try simp only [Act.put, List.setIfInBounds_toArray, List.set_cons_zero, List.set_cons_succ]
        refine wpAnyH_take (i := 10) (oi := ⟨some 41, _, _, _, _, _⟩) (v := ?_) rfl (by kernel_rfl) (by kernel_rfl) (by kernel_rfl) (fun _ _ _ h => h) (Or.inl ⟨by rfl, ?_⟩) hHeld ?_
        rotate_left
        · intro w hSw; go_simp; try with_reducible rfl
        try simp only [Act.put, List.setIfInBounds_toArray, List.set_cons_zero, List.set_cons_succ]
        refine wpAnyH_take (i := 11) (oi := ⟨some 42, _, _, _, _, _⟩) (v := ?_) rfl (by kernel_rfl) (by kernel_rfl) (by kernel_rfl) (fun _ _ _ h => h) (Or.inl ⟨by rfl, ?_⟩) hHeld ?_
        rotate_left
        · intro w hSw; go_simp; try with_reducible rfl
        try simp only [Act.put, List.setIfInBounds_toArray, List.set_cons_zero, List.set_cons_succ]
        refine wpAnyH_take (i := 12) (oi := ⟨some 10, _, _, _, _, _⟩) (v := ?_) rfl (by kernel_rfl) (by kernel_rfl) (by kernel_rfl) (fun _ _ _ h => h) (Or.inl ⟨by rfl, ?_⟩) hHeld ?_
        rotate_left
        · intro w hSw; go_simp; try with_reducible rfl
        try simp only [Act.put, List.setIfInBounds_toArray, List.set_cons_zero, List.set_cons_succ]
        refine wpAnyH_take (i := 13) (oi := ⟨some 11, _, _, _, _, _⟩) (v := ?_) rfl (by kernel_rfl) (by kernel_rfl) (by kernel_rfl) (fun _ _ _ h => h) (Or.inl ⟨by rfl, ?_⟩) hHeld ?_
        rotate_left
        · intro w hSw; go_simp; try with_reducible rfl
        try simp only [Act.put, List.setIfInBounds_toArray, List.set_cons_zero, List.set_cons_succ]
        refine wpAnyH_take (i := 14) (oi := ⟨some 12, _, _, _, _, _⟩) (v := ?_) rfl (by kernel_rfl) (by kernel_rfl) (by kernel_rfl) (fun _ _ _ h => h) (Or.inl ⟨by rfl, ?_⟩) hHeld ?_
        rotate_left
        · intro w hSw; go_simp; try with_reducible rfl
        try simp only [Act.put, List.setIfInBounds_toArray, List.set_cons_zero, List.set_cons_succ]
        refine wpAnyH_done (by kernel_rfl) ?_ _
        have hT7 := hT5.below hHeld.1
        have hb07 := seq hB5 hHeld.1
        have hs57 : w4.heap.size < w7.heap.size := by have := hHeld.1.size; omega
        clear hHeld
        go_wp2_with fail
        refine wp_region_held_drew (S := fun w' => Below w7.heap.size w7 w' ∧ w'.rangeAt w4.heap.size 0 (avl m s x) ∧ w'.cell? ⟨b2, off2 + i, none⟩ = some (.int .u8 q)) (by kernel_rfl) (⟨below_drewN (Below.refl _ _) 1, k1, k2⟩) (fun hHeld => ?_)
        refine wpAnyH_take (i := 0) (oi := ⟨some 43, _, _, _, _, _⟩) (v := ?_) rfl (by kernel_rfl) (by kernel_rfl) (by kernel_rfl) (fun _ _ _ h => h) (Or.inl ⟨by rfl, ?_⟩) hHeld ?_
        rotate_left
        · intro w hSw; go_simp; try with_reducible rfl
        try simp only [Act.put, List.setIfInBounds_toArray, List.set_cons_zero, List.set_cons_succ]
        refine wpAnyH_take (i := 1) (oi := ⟨some 44, _, _, _, _, _⟩) (v := ?_) rfl (by kernel_rfl) (by kernel_rfl) (by kernel_rfl) (fun _ _ _ h => h) (Or.inl ⟨by rfl, ?_⟩) hHeld ?_
        rotate_left
        · intro w hSw; go_simp; try with_reducible rfl
        try simp only [Act.put, List.setIfInBounds_toArray, List.set_cons_zero, List.set_cons_succ]
        refine wpAnyH_take (i := 2) (oi := ⟨some 45, _, _, _, _, _⟩) (v := ?_) rfl (by kernel_rfl) (by kernel_rfl) (by kernel_rfl) (fun _ _ _ h => h) (Or.inl ⟨by rfl, ?_⟩) hHeld ?_
        rotate_left
        · intro w hSw; go_simp; try with_reducible rfl
        try simp only [Act.put, List.setIfInBounds_toArray, List.set_cons_zero, List.set_cons_succ]
        refine wpAnyH_take (i := 3) (oi := ⟨some 46, _, _, _, _, _⟩) (v := ?_) rfl (by kernel_rfl) (by kernel_rfl) (by kernel_rfl) (fun _ _ _ h => h) (Or.inl ⟨by rfl, ?_⟩) hHeld ?_
        rotate_left
        · intro w hSw; go_simp; try with_reducible rfl
        try simp only [Act.put, List.setIfInBounds_toArray, List.set_cons_zero, List.set_cons_succ]
        refine wpAnyH_take (i := 4) (oi := ⟨some 47, _, _, _, _, _⟩) (v := ?_) rfl (by kernel_rfl) (by kernel_rfl) (by kernel_rfl) (fun _ _ _ h => h) (Or.inl ⟨by rfl, ?_⟩) hHeld ?_
        rotate_left
        · intro w hSw; go_simp; try with_reducible rfl
        try simp only [Act.put, List.setIfInBounds_toArray, List.set_cons_zero, List.set_cons_succ]
        refine wpAnyH_take (i := 5) (oi := ⟨some 48, _, _, _, _, _⟩) (v := .bool false) rfl (by kernel_rfl) (by kernel_rfl) (by kernel_rfl) (fun _ _ _ h => h) (Or.inl ⟨by rfl, ?_⟩) hHeld ?_
        · intro w hSw; go_simp; (try simp); (try omega)
        try simp only [Act.put, List.setIfInBounds_toArray, List.set_cons_zero, List.set_cons_succ]
        refine wpAnyH_take (i := 6) (oi := ⟨some 49, _, _, _, _, _⟩) (v := ?_) rfl (by kernel_rfl) (by kernel_rfl) (by kernel_rfl) (fun _ _ _ h => h) (Or.inl ⟨by rfl, ?_⟩) hHeld ?_
        rotate_left
        · intro w hSw; go_simp; try with_reducible rfl
        try simp only [Act.put, List.setIfInBounds_toArray, List.set_cons_zero, List.set_cons_succ]
        refine wpAnyH_take (i := 7) (oi := ⟨some 50, _, _, _, _, _⟩) (v := ?_) rfl (by kernel_rfl) (by kernel_rfl) (by kernel_rfl) (fun _ _ _ h => h) (Or.inl ⟨by rfl, ?_⟩) hHeld ?_
        rotate_left
        · intro w hSw; go_simp; try with_reducible rfl
        try simp only [Act.put, List.setIfInBounds_toArray, List.set_cons_zero, List.set_cons_succ]
        refine wpAnyH_take (i := 8) (oi := ⟨some 51, _, _, _, _, _⟩) (v := ?_) rfl (by kernel_rfl) (by kernel_rfl) (by kernel_rfl) (fun _ _ _ h => h) (Or.inl ⟨by rfl, ?_⟩) hHeld ?_
        rotate_left
        · intro w hSw; go_simp; try with_reducible rfl
        try simp only [Act.put, List.setIfInBounds_toArray, List.set_cons_zero, List.set_cons_succ]
        refine wpAnyH_ready (rs := [9]) (by kernel_rfl) (by simp) ?_
        refine AllReadyH.cons (o := ⟨some 52, _, _, _, _, _⟩) rfl (fun K hK => ?_) AllReadyH.nil
        go_simp
        have hP4 := hHeld
        have hh := valid7_any p7 R.length cp7 R _ (hI7.below hP4.1)
        rw [HVal.out] at hh
        with_reducible refine hh.mono ?_
        rintro e9 w9 ⟨rfl, hb9⟩
        have hQ4 := seq hP4.1 hb9
        have k1 := rangeAt_below hP4.2.1 hb9 (by have := hP4.1.size; omega)
        have k2 := (hb9.cell (p := ⟨b2, off2 + i, none⟩) (by have := hP4.1.size; show b2 < _; omega)).trans hP4.2.2
        clear hh
        go_wp2_with fail
        clear hHeld
        refine hK.out _ _ (⟨hQ4, k1, k2⟩) (fun hHeld => ?_)
        clear hK K
        try simp only [Act.put, List.setIfInBounds_toArray, List.set_cons_zero, List.set_cons_succ]
        refine wpAnyH_take (i := 10) (oi := ⟨some 53, _, _, _, _, _⟩) (v := ?_) rfl (by kernel_rfl) (by kernel_rfl) (by kernel_rfl) (fun _ _ _ h => h) (Or.inl ⟨by rfl, ?_⟩) hHeld ?_
        rotate_left
        · intro w hSw; go_simp; try with_reducible rfl
        try simp only [Act.put, List.setIfInBounds_toArray, List.set_cons_zero, List.set_cons_succ]
        refine wpAnyH_take (i := 11) (oi := ⟨some 54, _, _, _, _, _⟩) (v := ?_) rfl (by kernel_rfl) (by kernel_rfl) (by kernel_rfl) (fun _ _ _ h => h) (Or.inl ⟨by rfl, ?_⟩) hHeld ?_
        rotate_left
        · intro w hSw; go_simp; try with_reducible rfl
        try simp only [Act.put, List.setIfInBounds_toArray, List.set_cons_zero, List.set_cons_succ]
        refine wpAnyH_take (i := 12) (oi := ⟨some 55, _, _, _, _, _⟩) (v := ?_) rfl (by kernel_rfl) (by kernel_rfl) (by kernel_rfl) (fun _ _ _ h => h) (Or.inl ⟨by rfl, ?_⟩) hHeld ?_
        rotate_left
        · intro w hSw; go_simp; try with_reducible rfl
        try simp only [Act.put, List.setIfInBounds_toArray, List.set_cons_zero, List.set_cons_succ]
        refine wpAnyH_take (i := 13) (oi := ⟨some 56, _, _, _, _, _⟩) (v := ?_) rfl (by kernel_rfl) (by kernel_rfl) (by kernel_rfl) (fun _ _ _ h => h) (Or.inl ⟨by rfl, ?_⟩) hHeld ?_
        rotate_left
        · intro w hSw; go_simp; try with_reducible rfl
        try simp only [Act.put, List.setIfInBounds_toArray, List.set_cons_zero, List.set_cons_succ]
        refine wpAnyH_addr (g := w4.heap.size) (o := 0) (m := m) (s := s) (e := x) (i := 14) (oi := ⟨some 57, _, _, _, _, _⟩) rfl (by kernel_rfl) (by kernel_rfl) (by kernel_rfl) (fun _ _ _ h => h) (by rfl) (.tmp 8) rfl rfl  (fun _ h => h.2.1) hHeld ?_
        try simp only [Act.put, List.setIfInBounds_toArray, List.set_cons_zero, List.set_cons_succ]
        refine wpAnyH_take (i := 15) (oi := ⟨some 58, _, _, _, _, _⟩) (v := ?_) rfl (by kernel_rfl) (by kernel_rfl) (by kernel_rfl) (fun _ _ _ h => h) (Or.inl ⟨by rfl, ?_⟩) hHeld ?_
        rotate_left
        · intro w hSw; go_simp; try with_reducible rfl
        try simp only [Act.put, List.setIfInBounds_toArray, List.set_cons_zero, List.set_cons_succ]
        refine wpAnyH_take (i := 16) (oi := ⟨some 59, _, _, _, _, _⟩) (v := ?_) rfl (by kernel_rfl) (by kernel_rfl) (by kernel_rfl) (fun _ _ _ h => h) (Or.inl ⟨by rfl, ?_⟩) hHeld ?_
        rotate_left
        · intro w hSw; go_simp; try with_reducible rfl
        try simp only [Act.put, List.setIfInBounds_toArray, List.set_cons_zero, List.set_cons_succ]
        refine wpAnyH_take (i := 17) (oi := ⟨some 60, _, _, _, _, _⟩) (v := ?_) rfl (by kernel_rfl) (by kernel_rfl) (by kernel_rfl) (fun _ _ _ h => h) (Or.inl ⟨by rfl, ?_⟩) hHeld ?_
        rotate_left
        · intro w hSw; go_simp; try with_reducible rfl
        try simp only [Act.put, List.setIfInBounds_toArray, List.set_cons_zero, List.set_cons_succ]
        refine wpAnyH_take (i := 18) (oi := ⟨some 61, _, _, _, _, _⟩) (v := ?_) rfl (by kernel_rfl) (by kernel_rfl) (by kernel_rfl) (fun _ _ _ h => h) (Or.inl ⟨by rfl, ?_⟩) hHeld ?_
        rotate_left
        · intro w hSw; have kq := hSw.2.2; go_simp; try with_reducible rfl
        try simp only [Act.put, List.setIfInBounds_toArray, List.set_cons_zero, List.set_cons_succ]
        refine wpAnyH_take (i := 19) (oi := ⟨some 62, _, _, _, _, _⟩) (v := ?_) rfl (by kernel_rfl) (by kernel_rfl) (by kernel_rfl) (fun _ _ _ h => h) (Or.inl ⟨by rfl, ?_⟩) hHeld ?_
        rotate_left
        · intro w hSw; go_simp; try with_reducible rfl
        try simp only [Act.put, List.setIfInBounds_toArray, List.set_cons_zero, List.set_cons_succ]
        refine wpAnyH_ready (rs := [20]) (by kernel_rfl) (by simp) ?_
        refine AllReadyH.cons (o := ⟨some 63, _, _, _, _, _⟩) rfl (fun K hK => ?_) AllReadyH.nil
        go_simp
        have hP4 := hHeld
        have hh := known7_any p7 R.length cp7 R m s x q (now : Int) _ (hI7.below hP4.1)
        rw [HKn.out] at hh
        with_reducible refine hh.mono ?_
        rintro e9 w9 ⟨rfl, hb9⟩
        have hQ4 := seq hP4.1 hb9
        have k1 := rangeAt_below hP4.2.1 hb9 (by have := hP4.1.size; omega)
        have k2 := (hb9.cell (p := ⟨b2, off2 + i, none⟩) (by have := hP4.1.size; show b2 < _; omega)).trans hP4.2.2
        clear hh
        go_wp2_with fail
        clear hHeld
        refine hK.out _ _ (⟨hQ4, k1, k2⟩) (fun hHeld => ?_)
        clear hK K
        try simp only [Act.put, List.setIfInBounds_toArray, List.set_cons_zero, List.set_cons_succ]
        refine wpAnyH_take (i := 21) (oi := ⟨some 64, _, _, _, _, _⟩) (v := ?_) rfl (by kernel_rfl) (by kernel_rfl) (by kernel_rfl) (fun _ _ _ h => h) (Or.inl ⟨by rfl, ?_⟩) hHeld ?_
        rotate_left
        · intro w hSw; go_simp; try with_reducible rfl
        try simp only [Act.put, List.setIfInBounds_toArray, List.set_cons_zero, List.set_cons_succ]
        refine wpAnyH_take (i := 22) (oi := ⟨some 65, _, _, _, _, _⟩) (v := ?_) rfl (by kernel_rfl) (by kernel_rfl) (by kernel_rfl) (fun _ _ _ h => h) (Or.inl ⟨by rfl, ?_⟩) hHeld ?_
        rotate_left
        · intro w hSw; go_simp; try with_reducible rfl
        try simp only [Act.put, List.setIfInBounds_toArray, List.set_cons_zero, List.set_cons_succ]
        refine wpAnyH_done (by kernel_rfl) ?_ _
        have hs9 := hHeld.1.size
        go_wp2_with fail
        go_roundw
        case rel => exact ⟨i + 1, _, R, by omega, by omega, by go_num, rfl, HRV, hG7.below hHeld.1, hT7.below hHeld.1, seq hb07 hHeld.1, by omega⟩
        case measure => simp [intOf]; omega
      · obtain rfl : i = 100 := by omega
        go_wp2_with fail
        with_reducible refine (known_any wr (G.on hB)).mono ?_
        rintro e9 w9 ⟨rfl, hb9⟩
        go_wp2_with fail
        go_ret
        exact ⟨ret_bool rfl, seq hB hb9⟩
    · obtain rfl : i = len2 := by omega
      go_wp2_with fail
      with_reducible refine (known_any wr (G.on hB)).mono ?_
      rintro e9 w9 ⟨rfl, hb9⟩
      go_wp2_with fail
      go_ret
      exact ⟨ret_bool rfl, seq hB hb9⟩
end Go.Proofs.YtcmpdpcncjggkaaDoor
