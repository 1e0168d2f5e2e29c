/-
  The reference's Record.
-/
import Derived.Test.YtcmpdpcncjggkaaDoorRefK
namespace Go.Proofs.YtcmpdpcncjggkaaDoor
open Go.RowKit
set_option linter.unusedSimpArgs false
set_option linter.unusedVariables false

theorem leastTo_one (l : List Ent) : leastTo l 1 = 0 := by simp [leastTo]
theorem knownL_again {l : List Ent} (h : VL l) {now : Int} (ht : timeB now = true) (m s e q : Int) : knownL (pruneL l now) m s e q now = hasF (pruneL l now) m s e q := by
  rw [knownL_eq, pruneR_ok (h.prune now) ht, pruneL_pruneL l (Int.le_refl _)]

set_option maxHeartbeats 16000000 in
set_option maxRecDepth 100000 in
theorem rrecord_any (a : Option Addr) (len cap : Nat) (l : List Ent) (m s e q now : Int) (w : World) (hI : IsE w a len cap l) :
    Calls Tryd.prog 17 #[.slice a len cap, av m s e, .int .u8 q, .int .i64 now] w (RetRec (recR l m s e q now) w) := by
  have hB0 := (Below.refl w.heap.size w).alloc (Nat.le_refl _) (.cells #[.int .i64 m, .int .u16 s, .int .u64 e] 28)
  have hA0 : Ar (w.alloc (.cells #[.int .i64 m, .int .u16 s, .int .u64 e] 28)) w.heap.size m s e := Ar.of_heap (heap_alloc_new w _)
  have hsz : (w.alloc (.cells #[.int .i64 m, .int .u16 s, .int .u64 e] 28)).heap.size = w.heap.size + 1 := by simp
  have hI1 := hI.below hB0
  have hv := rvalid7_any a len cap l _ hI1
  have hsn := rsender_any m s e
  have ht0 := rprune_any a len cap l now
  simp only [av] at hsn
  have HV : Hid (validL l = true → VL l) := hid (validL_iff l).1
  have HR : Hid (recR l m s e q now = if senderB m s e then (if (pruneR l now).2 = 0 then (if hasF (pruneR l now).1 m s e q then ((pruneR l now).1, false, 0) else (evict (pruneR l now).1 ++ [⟨m, s, e, q, min (now + 16) 1099511627776⟩], true, 0)) else ((pruneR l now).1, false, (pruneR l now).2)) else ([], false, 1)) := hid rfl
  have HP : Hid (pruneR l now = if validL l then (if timeB now then (pruneL l now, 0) else ([], 2)) else ([], 1)) := hid rfl
  have HT : Hid (timeB now = true → 0 ≤ now ∧ now ≤ 1099511627776) := hid (fun h => by simpa [timeB] using h)
  have HK : Hid (VL l → timeB now = true → knownL (pruneL l now) m s e q now = hasF (pruneL l now) m s e q) := hid (fun h1 h2 => knownL_again h1 h2 m s e q)
  have HLn : Hid (VL l → (pruneL l now).length ≤ 32) := hid (fun h => (h.prune now).len)
  generalize recR l m s e q now = R at HR ⊢
  generalize validL l = V at hv HV HP
  generalize senderB m s e = SB at hsn HR
  generalize pruneR l now = P at ht0 HR HP
  generalize timeB now = T at HP HT HK
  rw [av]
  go_enter Tryd.func17, Tryd.ntmps17
  go_wp2_with fail
  generalize w.alloc (.cells #[.int .i64 m, .int .u16 s, .int .u64 e] 28) = w1 at *
  with_reducible refine hv.mono ?_
  rintro e1 w2 ⟨rfl, hb2⟩
  have hB2 := hB0.trans (hb2.mono hB0.size)
  have hA2 := hA0.below hb2 (by omega)
  have hI2 := hI1.below hb2
  have hs2 := hb2.size
  obtain ⟨c0, c1, c2⟩ := hA2.cells
  clear hb2 hB0 hA0 hI1 hv
  cases V
  · have HP2 := HP.out
    simp only [Bool.false_eq_true, if_false] at HP2
    have HR2 : R = ([], false, 1) := by rw [HR.out, HP2]; simp
    subst HR2
    go_wp2_with fail
    go_ret3
    exact ⟨_, rfl, GrE.nil _ _, hB2⟩
  · go_wp2_with fail
    with_reducible refine (hsn w2).mono ?_
    rintro e3 w3 ⟨rfl, hb3⟩
    have hB3 := seq hB2 hb3
    have hA3 := hA2.below hb3 (by omega)
    have hI3 := hI2.below hb3
    have hs3 := hb3.size
    clear hb3 hB2 hA2 hI2 hsn c0 c1 c2
    cases SB
    · have HR2 : R = ([], false, 1) := by rw [HR.out]; simp
      subst HR2
      go_wp2_with fail
      go_ret3
      exact ⟨_, rfl, GrE.nil _ _, hB3⟩
    · go_wp2_with fail
      with_reducible refine (ht0 w3 hI3).mono ?_
      rintro e4 w4 ⟨v, rfl, hG, hb4⟩
      have hB4 := seq hB3 hb4
      have hA4 := hA3.below hb4 (by omega)
      have hs4 := hb4.size
      replace hG := hG.mono (C := w.heap.size + 1) (by omega)
      obtain ⟨c0, c1, c2⟩ := hA4.cells
      clear hb4 hB3 hA3 hI3 ht0
      cases T
      · have HP2 := HP.out
        simp only [if_true, Bool.false_eq_true, if_false] at HP2
        have HR2 : R = ([], false, 2) := by rw [HR.out, HP2]; simp
        subst HR2
        subst HP2
        go_wp2_with fail
        go_ret3
        exact ⟨_, rfl, GrE.nil _ _, hB4⟩
      · have HP2 := HP.out
        simp only [if_true] at HP2
        obtain ⟨hn0, hn1⟩ := HT.out (by simp)
        have hV := HV.out (by simp)
        have hk := HK.out hV (by simp)
        have hlen := HLn.out hV
        have HR2 : R = (if hasF (pruneL l now) m s e q then (pruneL l now, false, 0) else (evict (pruneL l now) ++ [⟨m, s, e, q, min (now + 16) 1099511627776⟩], true, 0)) := by rw [HR.out, HP2]; simp
        subst HP2
        clear HT HK HV HLn HP HR hV
        generalize pruneL l now = L at *
        obtain ⟨p, cp, rfl, hI4⟩ := hG.isE (by simp only; omega)
        have hrk := rknown7_any p L.length cp L m s e q now w4 hI4
        rw [hk] at hrk
        simp only [av] at hrk
        generalize hasF L m s e q = Y at hrk HR2
        have HQ := hid HR2
        clear hk HR2
        go_wp2_with fail
        with_reducible refine hrk.mono ?_
        rintro e5 w5 ⟨rfl, hb5⟩
        have hB5 := seq hB4 hb5
        have hA5 := hA4.below hb5 (by omega)
        have hG5 := hG.below hb5
        have hI5 := hI4.below hb5
        have hs5 := hb5.size
        clear hrk hb5 hB4 hA4 hG hI4 c0 c1 c2
        have HR2 := HQ.out
        clear HQ
        cases Y
        · simp only [Bool.false_eq_true, if_false] at HR2
          subst HR2
          by_cases hfull : L.length = 32
          · rw [hfull] at hI5
            obtain ⟨b, off, rfl, hbl, hcc⟩ := hI5.some (by omega)
            have HE0 : Hid (evict L = L.take (leastTo L 32) ++ L.drop (leastTo L 32 + 1)) := hid (by unfold evict; rw [if_pos hfull])
            rw [hfull]
            have hcc := hid hcc
            go_wp2_with fail
            go_loopw [13, 14] (fun tk ti wr => ∃ i k : Nat, 1 ≤ i ∧ i ≤ 32 ∧ ti = .int .i64 i ∧ tk = .int .i64 k ∧ Hid (k = leastTo L i) ∧ Below w5.heap.size w5 wr) (fun _ ti _ => 32 - (intOf ti).toNat)
            case atStart => exact ⟨1, 0, by omega, by omega, rfl, rfl, hid (leastTo_one L).symm, Below.refl _ _⟩
            case round =>
              obtain ⟨i, k, hi1, hi, rfl, rfl, hf, hB⟩ := hrel
              have hk := leastTo_lt L i
              rw [← hf.out] at hk
              by_cases hlt : i < 32
              · have hK := rangeAt_below (hcc.out i hlt) hB hbl
                have hJ := rangeAt_below (hcc.out k (by omega)) hB hbl
                generalize hx : L.getD i dE = x at hK
                generalize hy : L.getD k dE = y at hJ
                have HX := hid hx
                have HY := hid hy
                clear hx hy
                obtain ⟨k0, k1, k2, k3, k4⟩ := el_cells hK
                obtain ⟨j0, j1, j2, j3, j4⟩ := el_cells hJ
                clear hK hJ
                have hk32 : k < 32 := by omega
                by_cases hxy : x.u < y.u
                · go_wp2_with fail
                  go_quiet (fail)
                  go_wp2_with fail
                  go_roundw
                  case rel => exact ⟨i + 1, i, by omega, by omega, by go_num, rfl, hid (by rw [leastTo, ← hf.out, HX.out, HY.out, if_pos (by omega)]), below_drewN hB _⟩
                  case measure => simp [intOf]; omega
                · go_wp2_with fail
                  go_quiet (fail)
                  go_wp2_with fail
                  go_roundw
                  case rel => exact ⟨i + 1, k, by omega, by omega, by go_num, rfl, hid (by rw [leastTo, ← hf.out, HX.out, HY.out, if_neg (by omega)]), below_drewN hB _⟩
                  case measure => simp [intOf]; omega
              · obtain rfl : i = 32 := by omega
                have HE : Hid (evict L = L.take k ++ L.drop (k + 1)) := hid (by rw [HE0.out, hf.out])
                have hIr := hI5.below hB
                obtain ⟨hs1, hI1⟩ := slice_fullE hIr k (by omega)
                obtain ⟨p, hs2', hI2, hp0⟩ := slice_tailE hIr (k + 1) (by omega)
                have hpp : ∃ ad, p = some ad := by
                  rw [hp0]; split
                  · exact ⟨_, rfl⟩
                  · exact ⟨_, rfl⟩
                obtain ⟨ad, rfl⟩ := hpp
                have hp : (if cp = k + 1 then some (⟨b, off, none⟩ : Addr) else some ⟨b, off + (k + 1) * 5, none⟩) = some ad := by
                  rw [hp0]; split
                  · rfl
                  · simp [Addr.add_mid]
                have hw : IntKind.i64.wrap ((k : Int) + 1) = (k : Int) + 1 := by simp [IntKind.wrap, IntKind.bits, IntKind.signed]; omega
                have HP := hid hp
                have h0k : (0 : Int) ≤ (k : Int) + 1 := by omega
                have h1k : (k : Int) + 1 ≤ (32 : Int) := by omega
                have htk : ((k : Int) + 1).toNat = k + 1 := by omega
                have HW := hid hw
                have hle := hIr.le
                have hsr := hB.size
                clear hs2' hp hp0 hw hIr
                have hkk : k < 32 := by omega
                go_wp2_with fail
                refine wp_region_held_drew (S := fun w' => Below wr.heap.size wr w') (by kernel_rfl) (below_drewN (Below.refl _ _) 1) (fun hHeld => ?_)
                refine wpAnyH_take (i := 0) (oi := ⟨some 59, _, _, _, _, _⟩) (v := ?_) rfl (by kernel_rfl) (by kernel_rfl) (by kernel_rfl) (fun _ _ _ h => h) (Or.inl ⟨by rfl, ?_⟩) hHeld ?_
                rotate_left
                · intro w hSw; go_simp; try with_reducible rfl
                try simp only [Act.put, List.setIfInBounds_toArray, List.set_cons_zero, List.set_cons_succ]
                refine wpAnyH_take (i := 1) (oi := ⟨some 60, _, _, _, _, _⟩) (v := ?_) rfl (by kernel_rfl) (by kernel_rfl) (by kernel_rfl) (fun _ _ _ h => h) (Or.inl ⟨by rfl, ?_⟩) hHeld ?_
                rotate_left
                · intro w hSw; go_simp; try with_reducible rfl
                try simp only [Act.put, List.setIfInBounds_toArray, List.set_cons_zero, List.set_cons_succ]
                refine wpAnyH_take (i := 2) (oi := ⟨some 61, _, _, _, _, _⟩) (v := ?_) rfl (by kernel_rfl) (by kernel_rfl) (by kernel_rfl) (fun _ _ _ h => h) (Or.inl ⟨by rfl, ?_⟩) hHeld ?_
                rotate_left
                · intro w hSw; go_simp; try with_reducible rfl
                try simp only [Act.put, List.setIfInBounds_toArray, List.set_cons_zero, List.set_cons_succ]
                refine wpAnyH_take (i := 3) (oi := ⟨some 62, _, _, _, _, _⟩) (v := ?_) rfl (by kernel_rfl) (by kernel_rfl) (by kernel_rfl) (fun _ _ _ h => h) (Or.inl ⟨by rfl, ?_⟩) hHeld ?_
                rotate_left
                · intro w hSw; go_simp; try with_reducible rfl
                try simp only [Act.put, List.setIfInBounds_toArray, List.set_cons_zero, List.set_cons_succ]
                refine wpAnyH_take (i := 4) (oi := ⟨some 63, _, _, _, _, _⟩) (v := ?_) rfl (by kernel_rfl) (by kernel_rfl) (by kernel_rfl) (fun _ _ _ h => h) (Or.inl ⟨by rfl, ?_⟩) hHeld ?_
                rotate_left
                · intro w hSw; go_simp; try with_reducible rfl
                try simp only [Act.put, List.setIfInBounds_toArray, List.set_cons_zero, List.set_cons_succ]
                refine wpAnyH_take (i := 5) (oi := ⟨some 64, _, _, _, _, _⟩) (v := ?_) rfl (by kernel_rfl) (by kernel_rfl) (by kernel_rfl) (fun _ _ _ h => h) (Or.inl ⟨by rfl, ?_⟩) hHeld ?_
                rotate_left
                · intro w hSw; go_simp; try with_reducible rfl
                try simp only [Act.put, List.setIfInBounds_toArray, List.set_cons_zero, List.set_cons_succ]
                refine wpAnyH_take (i := 6) (oi := ⟨some 65, _, _, _, _, _⟩) (v := .int .i64 ((k : Int) + 1)) rfl (by kernel_rfl) (by kernel_rfl) (by kernel_rfl) (fun _ _ _ h => h) (Or.inl ⟨by rfl, ?_⟩) hHeld ?_
                · intro w hSw; go_simp; rw [HW.out]
                try simp only [Act.put, List.setIfInBounds_toArray, List.set_cons_zero, List.set_cons_succ]
                refine wpAnyH_take (i := 7) (oi := ⟨some 66, _, _, _, _, _⟩) (v := .slice (some ad) (32 - (k + 1)) (cp - (k + 1))) rfl (by kernel_rfl) (by kernel_rfl) (by kernel_rfl) (fun _ _ _ h => h) (Or.inl ⟨by rfl, ?_⟩) hHeld ?_
                · intro w hSw; go_simp; exact HP.out
                try simp only [Act.put, List.setIfInBounds_toArray, List.set_cons_zero, List.set_cons_succ]
                refine wpAnyH_ready (rs := [8]) (by kernel_rfl) (by simp) ?_
                refine AllReadyH.cons (o := ⟨some 67, _, _, _, _, _⟩) rfl (fun K hK => ?_) AllReadyH.nil
                refine step_append_full rfl (.tmp 62) (.tmp 66) rfl b off k ?_ ad (32 - (k + 1)) (cp - (k + 1)) ?_ wr.heap.size (L.take k) (L.drop (k + 1)) (hI1.below hHeld) (hI2.below hHeld) (by omega) wr hHeld hHeld.size ?_
                · exact rfl
                · exact rfl
                intro v9 w9 hO9 hB9
                clear hHeld
                refine hK.out _ _ (hB9) (fun hHeld => ?_)
                clear hK K
                try simp only [Act.put, List.setIfInBounds_toArray, List.set_cons_zero, List.set_cons_succ]
                refine wpAnyH_take (i := 9) (oi := ⟨some 11, _, _, _, _, _⟩) (v := ?_) rfl (by kernel_rfl) (by kernel_rfl) (by kernel_rfl) (fun _ _ _ h => h) (Or.inl ⟨by rfl, ?_⟩) hHeld ?_
                rotate_left
                · intro w hSw; go_simp; try with_reducible rfl
                try simp only [Act.put, List.setIfInBounds_toArray, List.set_cons_zero, List.set_cons_succ]
                refine wpAnyH_done (by kernel_rfl) ?_ _
                have hO := OneE.mono hO9.out (C := w.heap.size + 1) (by omega)
                have hBW := seq (seq hB5 hB) hB9
                have hAr := rangeAt_below (rangeAt_below hA5 hB (by omega)) hB9 (by omega)
                have hsW : w.heap.size + 1 ≤ w9.heap.size := by have := hB9.size; omega
                have hll : (L.take k ++ L.drop (k + 1)).length = 31 := by rw [List.length_append, List.length_take, List.length_drop]; omega
                generalize L.take k ++ L.drop (k + 1) = L9 at *
                clear hHeld
                go_wp2_with fail
                refine wp_region_held_drew (S := fun w' => Below (w.heap.size + 1) w9 w' ∧ w'.rangeAt w.heap.size 0 (avl m s e)) (by kernel_rfl) (⟨below_drewN (Below.refl _ _) 1, hAr⟩) (fun hHeld => ?_)
                refine wpAnyH_take (i := 0) (oi := ⟨some 68, _, _, _, _, _⟩) (v := ?_) rfl (by kernel_rfl) (by kernel_rfl) (by kernel_rfl) (fun _ _ _ h => h) (Or.inl ⟨by rfl, ?_⟩) hHeld ?_
                rotate_left
                · intro w hSw; go_simp; try with_reducible rfl
                try simp only [Act.put, List.setIfInBounds_toArray, List.set_cons_zero, List.set_cons_succ]
                refine wpAnyH_addr (g := w.heap.size) (o := 0) (m := m) (s := s) (e := e) (i := 1) (oi := ⟨some 69, _, _, _, _, _⟩) rfl (by kernel_rfl) (by kernel_rfl) (by kernel_rfl) (fun _ _ _ h => h) (by rfl) (.tmp 5) rfl rfl  (fun _ h => h.2) hHeld ?_
                try simp only [Act.put, List.setIfInBounds_toArray, List.set_cons_zero, List.set_cons_succ]
                refine wpAnyH_take (i := 2) (oi := ⟨some 70, _, _, _, _, _⟩) (v := ?_) rfl (by kernel_rfl) (by kernel_rfl) (by kernel_rfl) (fun _ _ _ h => h) (Or.inl ⟨by rfl, ?_⟩) hHeld ?_
                rotate_left
                · intro w hSw; go_simp; try with_reducible rfl
                try simp only [Act.put, List.setIfInBounds_toArray, List.set_cons_zero, List.set_cons_succ]
                refine wpAnyH_take (i := 3) (oi := ⟨some 71, _, _, _, _, _⟩) (v := ?_) rfl (by kernel_rfl) (by kernel_rfl) (by kernel_rfl) (fun _ _ _ h => h) (Or.inl ⟨by rfl, ?_⟩) hHeld ?_
                rotate_left
                · intro w hSw; go_simp; try with_reducible rfl
                try simp only [Act.put, List.setIfInBounds_toArray, List.set_cons_zero, List.set_cons_succ]
                refine wpAnyH_ready (rs := [4]) (by kernel_rfl) (by simp) ?_
                refine AllReadyH.cons (o := ⟨some 72, _, _, _, _, _⟩) rfl (fun K hK => ?_) AllReadyH.nil
                go_simp
                have hP4 := hHeld
                have hO19 := hO.below (below_drewN (Below.refl _ _) 1)
                with_reducible refine (rlater_any now _ hn0 hn1).mono ?_
                rintro e20 w20 ⟨rfl, hb20⟩
                have hs20 := hb20.size
                have hQ4 := hP4.1.trans (hb20.mono (Nat.le_trans hsW hP4.1.size))
                have k1 := rangeAt_below hP4.2 hb20 (Nat.lt_of_lt_of_le hsW hP4.1.size)
                have hO20 := OneE.below hO19 hb20
                go_wp2_with fail
                clear hHeld
                refine hK.out _ _ (⟨hQ4, k1⟩) (fun hHeld => ?_)
                clear hK K
                try simp only [Act.put, List.setIfInBounds_toArray, List.set_cons_zero, List.set_cons_succ]
                refine wpAnyH_take (i := 5) (oi := ⟨some 73, _, _, _, _, _⟩) (v := .agg #[.int .i64 m, .int .u16 s, .int .u64 e, .int .u8 q, .int .i64 (min (now + 16) 1099511627776)]) rfl (by kernel_rfl) (by kernel_rfl) (by kernel_rfl) (fun _ _ _ h => h) (Or.inl ⟨by rfl, ?_⟩) hHeld ?_
                · intro w hSw; simp only [av]; go_simp
                try simp only [Act.put, List.setIfInBounds_toArray, List.set_cons_zero, List.set_cons_succ]
                refine wpAnyH_ready (rs := [6]) (by kernel_rfl) (by simp) ?_
                refine AllReadyH.cons (o := ⟨some 74, _, _, _, _, _⟩) rfl (fun K hK => ?_) AllReadyH.nil
                refine step_build_one rfl (.tmp 73) rfl ⟨m, s, e, q, min (now + 16) 1099511627776⟩ rfl ?_
                have hone := isE_one w20 ⟨m, s, e, q, min (now + 16) 1099511627776⟩
                have hb21 := (Below.refl w20.heap.size w20).alloc (Nat.le_refl _) (.cells (el ⟨m, s, e, q, min (now + 16) 1099511627776⟩).toArray 36)
                have hsz20 : w.heap.size + 1 ≤ w20.heap.size := Nat.le_trans hsW hQ4.size
                have hQ5 := hQ4.trans (hb21.mono hsz20)
                have k2 := rangeAt_below k1 hb21 hsz20
                have hO21 := hO20.below hb21
                clear hHeld
                refine hK.out _ _ (⟨hQ5, k2⟩) (fun hHeld => ?_)
                clear hK K
                try simp only [Act.put, List.setIfInBounds_toArray, List.set_cons_zero, List.set_cons_succ]
                refine wpAnyH_ready (rs := [7]) (by kernel_rfl) (by simp) ?_
                refine AllReadyH.cons (o := ⟨some 75, _, _, _, _, _⟩) rfl (fun K hK => ?_) AllReadyH.nil
                refine step_append_one rfl (.tmp 68) (.tmp 74) rfl v9 rfl ⟨w20.heap.size, 0, none⟩ 1 1 rfl (w.heap.size + 1) L9 [⟨m, s, e, q, min (now + 16) 1099511627776⟩] hO21 hone (by omega) (by omega) w9 hQ5 (Nat.le_trans hsW hQ5.size) ?_
                intro v30 w30 hG30 hB30
                have k3 := rangeAt_below hAr hB30 (Nat.lt_succ_self _)
                clear hHeld
                refine hK.out _ _ (⟨hB30, k3⟩) (fun hHeld => ?_)
                clear hK K
                try simp only [Act.put, List.setIfInBounds_toArray, List.set_cons_zero, List.set_cons_succ]
                refine wpAnyH_take (i := 8) (oi := ⟨some 8, _, _, _, _, _⟩) (v := ?_) rfl (by kernel_rfl) (by kernel_rfl) (by kernel_rfl) (fun _ _ _ h => h) (Or.inl ⟨by rfl, ?_⟩) hHeld ?_
                rotate_left
                · intro w hSw; go_simp; try with_reducible rfl
                try simp only [Act.put, List.setIfInBounds_toArray, List.set_cons_zero, List.set_cons_succ]
                refine wpAnyH_take (i := 9) (oi := ⟨some 9, _, _, _, _, _⟩) (v := ?_) rfl (by kernel_rfl) (by kernel_rfl) (by kernel_rfl) (fun _ _ _ h => h) (Or.inl ⟨by rfl, ?_⟩) hHeld ?_
                rotate_left
                · intro w hSw; go_simp; try with_reducible rfl
                try simp only [Act.put, List.setIfInBounds_toArray, List.set_cons_zero, List.set_cons_succ]
                refine wpAnyH_take (i := 10) (oi := ⟨some 10, _, _, _, _, _⟩) (v := ?_) rfl (by kernel_rfl) (by kernel_rfl) (by kernel_rfl) (fun _ _ _ h => h) (Or.inl ⟨by rfl, ?_⟩) hHeld ?_
                rotate_left
                · intro w hSw; go_simp; try with_reducible rfl
                try simp only [Act.put, List.setIfInBounds_toArray, List.set_cons_zero, List.set_cons_succ]
                refine wpAnyH_done (by kernel_rfl) ?_ _
                go_wp2_with fail
                go_ret3
                refine ⟨v30, rfl, ?_, hBW.trans (hB30.mono (Nat.le_succ _))⟩
                show GrE _ _ _ (evict L ++ [⟨m, s, e, q, min (now + 16) 1099511627776⟩])
                rw [HE.out]; exact hG30.out.mono (Nat.le_succ _)
          · have HE : Hid (evict L = L) := hid (by unfold evict; rw [if_neg hfull])
            have hO : OneE w5 (w.heap.size + 1) (.slice p L.length cp) L := .inl hG5
            have hBW := hB5
            have hAr : w5.rangeAt w.heap.size 0 (avl m s e) := hA5
            have hsW : w.heap.size + 1 ≤ w5.heap.size := by omega
            go_wp2_with fail
            refine wp_region_held_drew (S := fun w' => Below (w.heap.size + 1) w5 w' ∧ w'.rangeAt w.heap.size 0 (avl m s e)) (by kernel_rfl) (⟨below_drewN (Below.refl _ _) 1, hAr⟩) (fun hHeld => ?_)
            refine wpAnyH_take (i := 0) (oi := ⟨some 68, _, _, _, _, _⟩) (v := ?_) rfl (by kernel_rfl) (by kernel_rfl) (by kernel_rfl) (fun _ _ _ h => h) (Or.inl ⟨by rfl, ?_⟩) hHeld ?_
            rotate_left
            · intro w hSw; go_simp; try with_reducible rfl
            try simp only [Act.put, List.setIfInBounds_toArray, List.set_cons_zero, List.set_cons_succ]
            refine wpAnyH_addr (g := w.heap.size) (o := 0) (m := m) (s := s) (e := e) (i := 1) (oi := ⟨some 69, _, _, _, _, _⟩) rfl (by kernel_rfl) (by kernel_rfl) (by kernel_rfl) (fun _ _ _ h => h) (by rfl) (.tmp 5) rfl rfl  (fun _ h => h.2) hHeld ?_
            try simp only [Act.put, List.setIfInBounds_toArray, List.set_cons_zero, List.set_cons_succ]
            refine wpAnyH_take (i := 2) (oi := ⟨some 70, _, _, _, _, _⟩) (v := ?_) rfl (by kernel_rfl) (by kernel_rfl) (by kernel_rfl) (fun _ _ _ h => h) (Or.inl ⟨by rfl, ?_⟩) hHeld ?_
            rotate_left
            · intro w hSw; go_simp; try with_reducible rfl
            try simp only [Act.put, List.setIfInBounds_toArray, List.set_cons_zero, List.set_cons_succ]
            refine wpAnyH_take (i := 3) (oi := ⟨some 71, _, _, _, _, _⟩) (v := ?_) rfl (by kernel_rfl) (by kernel_rfl) (by kernel_rfl) (fun _ _ _ h => h) (Or.inl ⟨by rfl, ?_⟩) hHeld ?_
            rotate_left
            · intro w hSw; go_simp; try with_reducible rfl
            try simp only [Act.put, List.setIfInBounds_toArray, List.set_cons_zero, List.set_cons_succ]
            refine wpAnyH_ready (rs := [4]) (by kernel_rfl) (by simp) ?_
            refine AllReadyH.cons (o := ⟨some 72, _, _, _, _, _⟩) rfl (fun K hK => ?_) AllReadyH.nil
            go_simp
            have hP4 := hHeld
            have hO19 := hO.below (below_drewN (Below.refl _ _) 1)
            with_reducible refine (rlater_any now _ hn0 hn1).mono ?_
            rintro e20 w20 ⟨rfl, hb20⟩
            have hs20 := hb20.size
            have hQ4 := hP4.1.trans (hb20.mono (Nat.le_trans hsW hP4.1.size))
            have k1 := rangeAt_below hP4.2 hb20 (Nat.lt_of_lt_of_le hsW hP4.1.size)
            have hO20 := OneE.below hO19 hb20
            go_wp2_with fail
            clear hHeld
            refine hK.out _ _ (⟨hQ4, k1⟩) (fun hHeld => ?_)
            clear hK K
            try simp only [Act.put, List.setIfInBounds_toArray, List.set_cons_zero, List.set_cons_succ]
            refine wpAnyH_take (i := 5) (oi := ⟨some 73, _, _, _, _, _⟩) (v := .agg #[.int .i64 m, .int .u16 s, .int .u64 e, .int .u8 q, .int .i64 (min (now + 16) 1099511627776)]) rfl (by kernel_rfl) (by kernel_rfl) (by kernel_rfl) (fun _ _ _ h => h) (Or.inl ⟨by rfl, ?_⟩) hHeld ?_
            · intro w hSw; simp only [av]; go_simp
            try simp only [Act.put, List.setIfInBounds_toArray, List.set_cons_zero, List.set_cons_succ]
            refine wpAnyH_ready (rs := [6]) (by kernel_rfl) (by simp) ?_
            refine AllReadyH.cons (o := ⟨some 74, _, _, _, _, _⟩) rfl (fun K hK => ?_) AllReadyH.nil
            refine step_build_one rfl (.tmp 73) rfl ⟨m, s, e, q, min (now + 16) 1099511627776⟩ rfl ?_
            have hone := isE_one w20 ⟨m, s, e, q, min (now + 16) 1099511627776⟩
            have hb21 := (Below.refl w20.heap.size w20).alloc (Nat.le_refl _) (.cells (el ⟨m, s, e, q, min (now + 16) 1099511627776⟩).toArray 36)
            have hsz20 : w.heap.size + 1 ≤ w20.heap.size := Nat.le_trans hsW hQ4.size
            have hQ5 := hQ4.trans (hb21.mono hsz20)
            have k2 := rangeAt_below k1 hb21 hsz20
            have hO21 := hO20.below hb21
            clear hHeld
            refine hK.out _ _ (⟨hQ5, k2⟩) (fun hHeld => ?_)
            clear hK K
            try simp only [Act.put, List.setIfInBounds_toArray, List.set_cons_zero, List.set_cons_succ]
            refine wpAnyH_ready (rs := [7]) (by kernel_rfl) (by simp) ?_
            refine AllReadyH.cons (o := ⟨some 75, _, _, _, _, _⟩) rfl (fun K hK => ?_) AllReadyH.nil
            refine step_append_one rfl (.tmp 68) (.tmp 74) rfl (.slice p L.length cp) rfl ⟨w20.heap.size, 0, none⟩ 1 1 rfl (w.heap.size + 1) L [⟨m, s, e, q, min (now + 16) 1099511627776⟩] hO21 hone (by omega) (by omega) w5 hQ5 (Nat.le_trans hsW hQ5.size) ?_
            intro v30 w30 hG30 hB30
            have k3 := rangeAt_below hAr hB30 (Nat.lt_succ_self _)
            clear hHeld
            refine hK.out _ _ (⟨hB30, k3⟩) (fun hHeld => ?_)
            clear hK K
            try simp only [Act.put, List.setIfInBounds_toArray, List.set_cons_zero, List.set_cons_succ]
            refine wpAnyH_take (i := 8) (oi := ⟨some 8, _, _, _, _, _⟩) (v := ?_) rfl (by kernel_rfl) (by kernel_rfl) (by kernel_rfl) (fun _ _ _ h => h) (Or.inl ⟨by rfl, ?_⟩) hHeld ?_
            rotate_left
            · intro w hSw; go_simp; try with_reducible rfl
            try simp only [Act.put, List.setIfInBounds_toArray, List.set_cons_zero, List.set_cons_succ]
            refine wpAnyH_take (i := 9) (oi := ⟨some 9, _, _, _, _, _⟩) (v := ?_) rfl (by kernel_rfl) (by kernel_rfl) (by kernel_rfl) (fun _ _ _ h => h) (Or.inl ⟨by rfl, ?_⟩) hHeld ?_
            rotate_left
            · intro w hSw; go_simp; try with_reducible rfl
            try simp only [Act.put, List.setIfInBounds_toArray, List.set_cons_zero, List.set_cons_succ]
            refine wpAnyH_take (i := 10) (oi := ⟨some 10, _, _, _, _, _⟩) (v := ?_) rfl (by kernel_rfl) (by kernel_rfl) (by kernel_rfl) (fun _ _ _ h => h) (Or.inl ⟨by rfl, ?_⟩) hHeld ?_
            rotate_left
            · intro w hSw; go_simp; try with_reducible rfl
            try simp only [Act.put, List.setIfInBounds_toArray, List.set_cons_zero, List.set_cons_succ]
            refine wpAnyH_done (by kernel_rfl) ?_ _
            go_wp2_with fail
            go_ret3
            refine ⟨v30, rfl, ?_, hBW.trans (hB30.mono (Nat.le_succ _))⟩
            show GrE _ _ _ (evict L ++ [⟨m, s, e, q, min (now + 16) 1099511627776⟩])
            rw [HE.out]; exact hG30.out.mono (Nat.le_succ _)
        · simp only [if_true] at HR2
          subst HR2
          go_wp2_with fail
          go_ret3
          exact ⟨_, rfl, hG5.mono (Nat.le_succ _), hB5⟩
end Go.Proofs.YtcmpdpcncjggkaaDoor
