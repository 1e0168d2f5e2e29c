/-
  Masks: a prefix contains the addresses that have its first bits.
-/
import Derived.Test.YtogiignhjmhjnaaDoorCovers
import Derived.Test.YtogiignhjmhjnaaDoorCommon
import Derived.Test.YtogiignhjmhjnaaDoorKnown04
import Derived.Test.YtogiignhjmhjnaaDoorTapeAddr
import Derived.Test.YtogiignhjmhjnaaDoorMaskMath
import Derived.Test.YtogiignhjmhjnaaDoorMod
import Derived.BigRegion
import Derived.Deep.DeepCutAuto
namespace Go.Proofs.YtogiignhjmhjnaaDoor
open Go.RowKit

theorem Ry.only {w w' : World} {g k : Nat} {l : List UInt8} (h : Ry w g l) (hO : Only k w w') (hg : g < w.heap.size) (hk : g ≠ k) : Ry w' g l := by
  intro j v hj
  have := h j v hj
  simp only [World.cell?] at this ⊢
  rw [hO.block g hg hk]; exact this
theorem Pr.only {w w' : World} {g k : Nat} {l : List UInt8} {n : Int} (h : Pr w g l n) (hO : Only k w w') (hg : g < w.heap.size) (hk : g ≠ k) : Pr w' g l n := by
  intro j v hj
  have := h j v hj
  simp only [World.cell?] at this ⊢
  rw [hO.block g hg hk]; exact this
theorem Pk.only {w w' : World} {g k : Nat} {l : List UInt8} {n : Int} (h : Pk w g l n) (hO : Only k w w') (hg : g < w.heap.size) (hk : g ≠ k) : Pk w' g l n := by
  unfold Pk; rw [hO.block g hg hk]; exact h
theorem step_store_pfx {ops : Array Oper} {o : Oper} {a : Act} {w : World} {K : Act → World → Prop} {Q : Exit → Act → World → Prop} {E : Prop} {g : Nat} {l0 l : List UInt8} {n0 n : Int} (hgd : o.guard = none) (x y : Operand) (ho : o.op = .store 35 x y)
    (hx : a.eval x = .pointer (some ⟨g, 0, none⟩)) (hy : a.eval y = pv l n) (hK : Pk w g l0 n0) (hl0 : l0.length = 16) (hl : l.length = 16)
    (h : ∀ w', Hid (Pr w' g l n) → Only g w w' → K (a.put o.dst undef) w') :
    if Region.wanted o (yielded ops a.tmps) = true then Oper.wp Tryd.prog o a w K Q else E := by
  have hw : Region.wanted o (yielded ops a.tmps) = true := by simp [Region.wanted, hgd]
  rw [if_pos hw]
  have hlen := length_pl l0 n0 hl0
  have hth : w.there g 0 17 := fun j hj => ⟨by rw [Nat.zero_add, cell_of_row w g j _ _ _ hK]; simp; omega, frozen_of_row w g (0 + j) _ _ hK⟩
  have hsz : ((pl l n).toArray).size = 17 := by simp [length_pl l n hl]
  refine wp_store_mid 35 x y ho g 0 (pl l n).toArray hx (by rw [hy]; rfl) (by rw [hsz]; exact hth) (by rw [hsz]; exact pfx_info) (all_oneCell_toArray (fun v hv => by
    unfold pl at hv; simp at hv; rcases hv with ⟨b, _, rfl⟩ | rfl <;> rfl)) ?_
  exact h _ (hid (World.rangeAt_setCells_same w g 0 _ (by rw [show (pl l n).toArray.toList.length = 17 from by simp [length_pl l n hl]]; exact hth))) (only_cells _ _ _ _ (Only.refl g w))

set_option maxHeartbeats 8000000 in
set_option maxRecDepth 100000 in
theorem masks_walk (a b : List UInt8) (m n : Int) (w : World) (ha : a.length = 16) (hbl : b.length = 16) (hm : I64 m) (hn : I64 n) (G : GL w) :
    Calls Tryd.prog 8 #[iv a, iv b, .int .i64 m, .int .i64 n] w (RetS (.bool true) w) := by
  have hRa : Ry ((w.alloc (.cells (row a) 23)).alloc (.cells (row b) 23)) w.heap.size a := (Ik.new w a).ry.below ((Below.refl (w.heap.size + 1) _).alloc (by simp) _) (Nat.lt_succ_self _)
  have hRb : Ry ((w.alloc (.cells (row a) 23)).alloc (.cells (row b) 23)) (w.heap.size + 1) b := by
    have := (Ik.new (w.alloc (.cells (row a) 23)) b).ry
    rwa [World.size_alloc] at this
  have hB := two_below w (.cells (row a) 23) (.cells (row b) 23)
  have d1 := fun w => mod_any m 129 w (by decide) (by decide) hm
  have d2 := fun w => mod_any n 129 w (by decide) (by decide) hn
  have hm0 := Int.emod_nonneg m (show (129 : Int) ≠ 0 by decide)
  have hm1 := Int.emod_lt_of_pos m (show (0 : Int) < 129 by decide)
  have hn0 := Int.emod_nonneg n (show (129 : Int) ≠ 0 by decide)
  have hn1 := Int.emod_lt_of_pos n (show (0 : Int) < 129 by decide)
  generalize m % 129 = M at *
  generalize n % 129 = N at *
  obtain ⟨M, rfl⟩ := Int.eq_ofNat_of_zero_le hm0
  obtain ⟨N, rfl⟩ := Int.eq_ofNat_of_zero_le hn0
  have kM : clamp (M : Int) = M := by unfold clamp; omega
  have kN : clamp (N : Int) = N := by unfold clamp; omega
  have iM : I64 (M : Int) := by unfold I64; omega
  have iN : I64 (N : Int) := by unfold I64; omega
  have cm := fun w => mask_any a ha M iM w
  have cn := fun w => mask_any a ha N iN w
  rw [kM] at cm
  rw [kN] at cn
  have hPl := length_mL a M
  have hQl := length_mL a N
  rw [iv, iv]
  go_enter Tryd.func8, Tryd.ntmps8
  go_wp2_with fail
  generalize (w.alloc _).alloc _ = w2 at hRa hRb hB ⊢
  with_reducible refine (d1 _).mono ?_
  rintro e v ⟨rfl, rfl⟩
  go_wp2_with fail
  with_reducible refine (d2 _).mono ?_
  rintro e v ⟨rfl, rfl⟩
  go_upto_region 2 with (fail)
  go_cut [9, 10] (fun p q wc => ∃ gp gq, p = .pointer (some ⟨gp, 0, none⟩) ∧ q = .pointer (some ⟨gq, 0, none⟩) ∧ Pr wc gp (mL a M) M ∧ Pr wc gq (mL a N) N ∧ Ry wc w.heap.size a ∧ Ry wc (w.heap.size + 1) b ∧ Below w.heap.size w wc)
  case first =>
    refine wp_region_held_drew (S := fun w' => Below w.heap.size w w' ∧ Ry w' w.heap.size a ∧ Ry w' (w.heap.size + 1) b) (by kernel_rfl) (⟨below_drewN hB 1, hRa.drew, hRb.drew⟩) (fun hHeld => ?_)
    generalize w2.drew = v0 at hHeld ⊢
    refine wpAnyH_ip (g := w.heap.size) (l := a) (i := 0) (oi := ⟨some 15, _, _, _, _, _⟩) rfl (by kernel_rfl) (by kernel_rfl) (by kernel_rfl) (fun _ _ _ h => h) (by rfl) (.tmp 4) rfl rfl ha (fun _ h => h.2.1) hHeld ?_
    try simp only [Act.put, List.setIfInBounds_toArray, List.set_cons_zero, List.set_cons_succ]
    refine wpAnyH_take (i := 1) (oi := ⟨some 16, _, _, _, _, _⟩) (v := ?_) rfl (by kernel_rfl) (by kernel_rfl) (by kernel_rfl) (fun _ _ _ h => h) (Or.inl ⟨by rfl, ?_⟩) hHeld ?_
    rotate_left
    · intro w hSw; go_simp; try with_reducible rfl
    try simp only [Act.put, List.setIfInBounds_toArray, List.set_cons_zero, List.set_cons_succ]
    refine wpAnyH_ip (g := w.heap.size) (l := a) (i := 3) (oi := ⟨some 18, _, _, _, _, _⟩) rfl (by kernel_rfl) (by kernel_rfl) (by kernel_rfl) (fun _ _ _ h => h) (by rfl) (.tmp 4) rfl rfl ha (fun _ h => h.2.1) hHeld ?_
    try simp only [Act.put, List.setIfInBounds_toArray, List.set_cons_zero, List.set_cons_succ]
    refine wpAnyH_take (i := 4) (oi := ⟨some 19, _, _, _, _, _⟩) (v := ?_) rfl (by kernel_rfl) (by kernel_rfl) (by kernel_rfl) (fun _ _ _ h => h) (Or.inl ⟨by rfl, ?_⟩) hHeld ?_
    rotate_left
    · intro w hSw; go_simp; try with_reducible rfl
    try simp only [Act.put, List.setIfInBounds_toArray, List.set_cons_zero, List.set_cons_succ]
    refine wpAnyH_ready (rs := [2, 6, 7]) (by kernel_rfl) (by simp) ?_
    refine (AllReadyH.cons (o := ⟨some 17, _, _, _, _, _⟩) rfl ?_ (AllReadyH.cons (o := ⟨some 9, _, _, _, _, _⟩) rfl ?_ (AllReadyH.cons (o := ⟨some 10, _, _, _, _, _⟩) rfl ?_ AllReadyH.nil)))
    · intro K hK
      go_simp
      have hP := hHeld
      with_reducible refine (cm _).mono ?_
      rintro e v1 ⟨rfl, hb⟩
      have hS : Below w.heap.size w v1 ∧ Ry v1 w.heap.size a ∧ Ry v1 (w.heap.size + 1) b := ⟨hP.1.trans (hb.mono hP.1.size), hP.2.1.below hb (hP.2.1.lt ha), hP.2.2.below hb (hP.2.2.lt hbl)⟩
      go_wp2_with fail
      clear hHeld hP hb
      refine hK.out _ _ hS (fun hHeld => ?_)
      clear hK K hS
      try simp only [Act.put, List.setIfInBounds_toArray, List.set_cons_zero, List.set_cons_succ]
      refine wpAnyH_ready (rs := [5, 6, 7]) (by kernel_rfl) (by simp) ?_
      refine (AllReadyH.cons (o := ⟨some 20, _, _, _, _, _⟩) rfl ?_ (AllReadyH.cons (o := ⟨some 9, _, _, _, _, _⟩) rfl ?_ (AllReadyH.cons (o := ⟨some 10, _, _, _, _, _⟩) rfl ?_ AllReadyH.nil)))
      · intro K hK
        go_simp
        have hP := hHeld
        with_reducible refine (cn _).mono ?_
        rintro e v2 ⟨rfl, hb⟩
        have hS : Below w.heap.size w v2 ∧ Ry v2 w.heap.size a ∧ Ry v2 (w.heap.size + 1) b := ⟨hP.1.trans (hb.mono hP.1.size), hP.2.1.below hb (hP.2.1.lt ha), hP.2.2.below hb (hP.2.2.lt hbl)⟩
        go_wp2_with fail
        clear hHeld hP hb
        refine hK.out _ _ hS (fun hHeld => ?_)
        clear hK K hS
        try simp only [Act.put, List.setIfInBounds_toArray, List.set_cons_zero, List.set_cons_succ]
        refine wpAnyH_ready (rs := [6, 7]) (by kernel_rfl) (by simp) ?_
        refine (AllReadyH.cons (o := ⟨some 9, _, _, _, _, _⟩) rfl ?_ (AllReadyH.cons (o := ⟨some 10, _, _, _, _, _⟩) rfl ?_ AllReadyH.nil))
        · intro K hK
          go_simp
          have hP := hHeld
          have hx := (Below.refl v2.heap.size v2).alloc (Nat.le_refl _) (.cells #[.int .u8 0, .int .u8 0, .int .u8 0, .int .u8 0, .int .u8 0, .int .u8 0, .int .u8 0, .int .u8 0, .int .u8 0, .int .u8 0, .int .u8 0, .int .u8 0, .int .u8 0, .int .u8 0, .int .u8 0, .int .u8 0, .int .i64 0] 35)
          have hS : Below w.heap.size w (v2.alloc (.cells #[.int .u8 0, .int .u8 0, .int .u8 0, .int .u8 0, .int .u8 0, .int .u8 0, .int .u8 0, .int .u8 0, .int .u8 0, .int .u8 0, .int .u8 0, .int .u8 0, .int .u8 0, .int .u8 0, .int .u8 0, .int .u8 0, .int .i64 0] 35)) ∧ Ry (v2.alloc (.cells #[.int .u8 0, .int .u8 0, .int .u8 0, .int .u8 0, .int .u8 0, .int .u8 0, .int .u8 0, .int .u8 0, .int .u8 0, .int .u8 0, .int .u8 0, .int .u8 0, .int .u8 0, .int .u8 0, .int .u8 0, .int .u8 0, .int .i64 0] 35)) w.heap.size a ∧ Ry (v2.alloc (.cells #[.int .u8 0, .int .u8 0, .int .u8 0, .int .u8 0, .int .u8 0, .int .u8 0, .int .u8 0, .int .u8 0, .int .u8 0, .int .u8 0, .int .u8 0, .int .u8 0, .int .u8 0, .int .u8 0, .int .u8 0, .int .u8 0, .int .i64 0] 35)) (w.heap.size + 1) b := ⟨hP.1.alloc hP.1.size (.cells #[.int .u8 0, .int .u8 0, .int .u8 0, .int .u8 0, .int .u8 0, .int .u8 0, .int .u8 0, .int .u8 0, .int .u8 0, .int .u8 0, .int .u8 0, .int .u8 0, .int .u8 0, .int .u8 0, .int .u8 0, .int .u8 0, .int .i64 0] 35), hP.2.1.below hx (hP.2.1.lt ha), hP.2.2.below hx (hP.2.2.lt hbl)⟩
          have hpa := hP.2.1.lt ha
          have hpb := hP.2.2.lt hbl
          have hp := Pk.zero v2
          clear hHeld hP hx
          refine hK.out _ _ hS (fun hHeld => ?_)
          clear hK K hS
          try simp only [Act.put, List.setIfInBounds_toArray, List.set_cons_zero, List.set_cons_succ]
          generalize v2.alloc (.cells #[.int .u8 0, .int .u8 0, .int .u8 0, .int .u8 0, .int .u8 0, .int .u8 0, .int .u8 0, .int .u8 0, .int .u8 0, .int .u8 0, .int .u8 0, .int .u8 0, .int .u8 0, .int .u8 0, .int .u8 0, .int .u8 0, .int .i64 0] 35) = v3 at hHeld hp ⊢
          refine wpAnyH_ready (rs := [7]) (by kernel_rfl) (by simp) ?_
          refine (AllReadyH.cons (o := ⟨some 10, _, _, _, _, _⟩) rfl ?_ AllReadyH.nil)
          · intro K hK
            go_simp
            have hP := hHeld
            have hx := (Below.refl v3.heap.size v3).alloc (Nat.le_refl _) (.cells #[.int .u8 0, .int .u8 0, .int .u8 0, .int .u8 0, .int .u8 0, .int .u8 0, .int .u8 0, .int .u8 0, .int .u8 0, .int .u8 0, .int .u8 0, .int .u8 0, .int .u8 0, .int .u8 0, .int .u8 0, .int .u8 0, .int .i64 0] 35)
            have hS : Below w.heap.size w (v3.alloc (.cells #[.int .u8 0, .int .u8 0, .int .u8 0, .int .u8 0, .int .u8 0, .int .u8 0, .int .u8 0, .int .u8 0, .int .u8 0, .int .u8 0, .int .u8 0, .int .u8 0, .int .u8 0, .int .u8 0, .int .u8 0, .int .u8 0, .int .i64 0] 35)) ∧ Ry (v3.alloc (.cells #[.int .u8 0, .int .u8 0, .int .u8 0, .int .u8 0, .int .u8 0, .int .u8 0, .int .u8 0, .int .u8 0, .int .u8 0, .int .u8 0, .int .u8 0, .int .u8 0, .int .u8 0, .int .u8 0, .int .u8 0, .int .u8 0, .int .i64 0] 35)) w.heap.size a ∧ Ry (v3.alloc (.cells #[.int .u8 0, .int .u8 0, .int .u8 0, .int .u8 0, .int .u8 0, .int .u8 0, .int .u8 0, .int .u8 0, .int .u8 0, .int .u8 0, .int .u8 0, .int .u8 0, .int .u8 0, .int .u8 0, .int .u8 0, .int .u8 0, .int .i64 0] 35)) (w.heap.size + 1) b := ⟨hP.1.alloc hP.1.size (.cells #[.int .u8 0, .int .u8 0, .int .u8 0, .int .u8 0, .int .u8 0, .int .u8 0, .int .u8 0, .int .u8 0, .int .u8 0, .int .u8 0, .int .u8 0, .int .u8 0, .int .u8 0, .int .u8 0, .int .u8 0, .int .u8 0, .int .i64 0] 35), hP.2.1.below hx (hP.2.1.lt ha), hP.2.2.below hx (hP.2.2.lt hbl)⟩
            have hqa := hP.2.1.lt ha
            have hqb := hP.2.2.lt hbl
            have hne := Nat.ne_of_lt hp.lt
            have hp := hp.below hx hp.lt
            have hq := Pk.zero v3
            clear hHeld hP hx
            refine hK.out _ _ hS (fun hHeld => ?_)
            clear hK K hS
            try simp only [Act.put, List.setIfInBounds_toArray, List.set_cons_zero, List.set_cons_succ]
            generalize v3.alloc (.cells #[.int .u8 0, .int .u8 0, .int .u8 0, .int .u8 0, .int .u8 0, .int .u8 0, .int .u8 0, .int .u8 0, .int .u8 0, .int .u8 0, .int .u8 0, .int .u8 0, .int .u8 0, .int .u8 0, .int .u8 0, .int .u8 0, .int .i64 0] 35) = v4 at hHeld hp hq ⊢
            refine wpAnyH_ready (rs := [8]) (by kernel_rfl) (by simp) ?_
            refine (AllReadyH.cons (o := ⟨none, _, _, _, _, _⟩) rfl ?_ AllReadyH.nil)
            · intro K hK
              refine step_store_pfx rfl (.tmp 9) (.tmp 17) rfl rfl rfl hp (length_zeros 16) hPl ?_
              intro v5 hR hO
              have hP := hHeld
              have hS : Below w.heap.size w v5 ∧ Ry v5 w.heap.size a ∧ Ry v5 (w.heap.size + 1) b := ⟨hP.1.trans (hO.below (by omega) hP.1.size), hP.2.1.only hO (hP.2.1.lt ha) (by omega), hP.2.2.only hO (hP.2.2.lt hbl) (by omega)⟩
              have hpp := hR.out
              have hq := hq.only hO hq.lt (by omega)
              clear hHeld hP hO hR
              refine hK.out _ _ hS (fun hHeld => ?_)
              clear hK K hS
              try simp only [Act.put, List.setIfInBounds_toArray, List.set_cons_zero, List.set_cons_succ]
              refine wpAnyH_ready (rs := [9]) (by kernel_rfl) (by simp) ?_
              refine (AllReadyH.cons (o := ⟨none, _, _, _, _, _⟩) rfl ?_ AllReadyH.nil)
              · intro K hK
                refine step_store_pfx rfl (.tmp 10) (.tmp 20) rfl rfl rfl hq (length_zeros 16) hQl ?_
                intro v6 hR hO
                have hP := hHeld
                have hS : Below w.heap.size w v6 ∧ Ry v6 w.heap.size a ∧ Ry v6 (w.heap.size + 1) b := ⟨hP.1.trans (hO.below (by omega) hP.1.size), hP.2.1.only hO (hP.2.1.lt ha) (by omega), hP.2.2.only hO (hP.2.2.lt hbl) (by omega)⟩
                have hqq := hR.out
                have hpp := hpp.only hO (hpp.lt hPl) (by omega)
                clear hHeld hP hO hR
                refine hK.out _ _ hS (fun hHeld => ?_)
                clear hK K hS
                try simp only [Act.put, List.setIfInBounds_toArray, List.set_cons_zero, List.set_cons_succ]
                refine wpAnyH_done (by kernel_rfl) ?_ _
                go_wp2_with fail
                go_meet
                exact ⟨_, _, rfl, rfl, hpp, hqq, hHeld.2.1, hHeld.2.2, hHeld.1⟩
        · intro K hK
          go_simp
          have hP := hHeld
          have hx := (Below.refl v2.heap.size v2).alloc (Nat.le_refl _) (.cells #[.int .u8 0, .int .u8 0, .int .u8 0, .int .u8 0, .int .u8 0, .int .u8 0, .int .u8 0, .int .u8 0, .int .u8 0, .int .u8 0, .int .u8 0, .int .u8 0, .int .u8 0, .int .u8 0, .int .u8 0, .int .u8 0, .int .i64 0] 35)
          have hS : Below w.heap.size w (v2.alloc (.cells #[.int .u8 0, .int .u8 0, .int .u8 0, .int .u8 0, .int .u8 0, .int .u8 0, .int .u8 0, .int .u8 0, .int .u8 0, .int .u8 0, .int .u8 0, .int .u8 0, .int .u8 0, .int .u8 0, .int .u8 0, .int .u8 0, .int .i64 0] 35)) ∧ Ry (v2.alloc (.cells #[.int .u8 0, .int .u8 0, .int .u8 0, .int .u8 0, .int .u8 0, .int .u8 0, .int .u8 0, .int .u8 0, .int .u8 0, .int .u8 0, .int .u8 0, .int .u8 0, .int .u8 0, .int .u8 0, .int .u8 0, .int .u8 0, .int .i64 0] 35)) w.heap.size a ∧ Ry (v2.alloc (.cells #[.int .u8 0, .int .u8 0, .int .u8 0, .int .u8 0, .int .u8 0, .int .u8 0, .int .u8 0, .int .u8 0, .int .u8 0, .int .u8 0, .int .u8 0, .int .u8 0, .int .u8 0, .int .u8 0, .int .u8 0, .int .u8 0, .int .i64 0] 35)) (w.heap.size + 1) b := ⟨hP.1.alloc hP.1.size (.cells #[.int .u8 0, .int .u8 0, .int .u8 0, .int .u8 0, .int .u8 0, .int .u8 0, .int .u8 0, .int .u8 0, .int .u8 0, .int .u8 0, .int .u8 0, .int .u8 0, .int .u8 0, .int .u8 0, .int .u8 0, .int .u8 0, .int .i64 0] 35), hP.2.1.below hx (hP.2.1.lt ha), hP.2.2.below hx (hP.2.2.lt hbl)⟩
          have hqa := hP.2.1.lt ha
          have hqb := hP.2.2.lt hbl
          have hq := Pk.zero v2
          clear hHeld hP hx
          refine hK.out _ _ hS (fun hHeld => ?_)
          clear hK K hS
          try simp only [Act.put, List.setIfInBounds_toArray, List.set_cons_zero, List.set_cons_succ]
          generalize v2.alloc (.cells #[.int .u8 0, .int .u8 0, .int .u8 0, .int .u8 0, .int .u8 0, .int .u8 0, .int .u8 0, .int .u8 0, .int .u8 0, .int .u8 0, .int .u8 0, .int .u8 0, .int .u8 0, .int .u8 0, .int .u8 0, .int .u8 0, .int .i64 0] 35) = v7 at hHeld hq ⊢
          refine wpAnyH_ready (rs := [6]) (by kernel_rfl) (by simp) ?_
          refine (AllReadyH.cons (o := ⟨some 9, _, _, _, _, _⟩) rfl ?_ AllReadyH.nil)
          · intro K hK
            go_simp
            have hP := hHeld
            have hx := (Below.refl v7.heap.size v7).alloc (Nat.le_refl _) (.cells #[.int .u8 0, .int .u8 0, .int .u8 0, .int .u8 0, .int .u8 0, .int .u8 0, .int .u8 0, .int .u8 0, .int .u8 0, .int .u8 0, .int .u8 0, .int .u8 0, .int .u8 0, .int .u8 0, .int .u8 0, .int .u8 0, .int .i64 0] 35)
            have hS : Below w.heap.size w (v7.alloc (.cells #[.int .u8 0, .int .u8 0, .int .u8 0, .int .u8 0, .int .u8 0, .int .u8 0, .int .u8 0, .int .u8 0, .int .u8 0, .int .u8 0, .int .u8 0, .int .u8 0, .int .u8 0, .int .u8 0, .int .u8 0, .int .u8 0, .int .i64 0] 35)) ∧ Ry (v7.alloc (.cells #[.int .u8 0, .int .u8 0, .int .u8 0, .int .u8 0, .int .u8 0, .int .u8 0, .int .u8 0, .int .u8 0, .int .u8 0, .int .u8 0, .int .u8 0, .int .u8 0, .int .u8 0, .int .u8 0, .int .u8 0, .int .u8 0, .int .i64 0] 35)) w.heap.size a ∧ Ry (v7.alloc (.cells #[.int .u8 0, .int .u8 0, .int .u8 0, .int .u8 0, .int .u8 0, .int .u8 0, .int .u8 0, .int .u8 0, .int .u8 0, .int .u8 0, .int .u8 0, .int .u8 0, .int .u8 0, .int .u8 0, .int .u8 0, .int .u8 0, .int .i64 0] 35)) (w.heap.size + 1) b := ⟨hP.1.alloc hP.1.size (.cells #[.int .u8 0, .int .u8 0, .int .u8 0, .int .u8 0, .int .u8 0, .int .u8 0, .int .u8 0, .int .u8 0, .int .u8 0, .int .u8 0, .int .u8 0, .int .u8 0, .int .u8 0, .int .u8 0, .int .u8 0, .int .u8 0, .int .i64 0] 35), hP.2.1.below hx (hP.2.1.lt ha), hP.2.2.below hx (hP.2.2.lt hbl)⟩
            have hpa := hP.2.1.lt ha
            have hpb := hP.2.2.lt hbl
            have hne := Nat.ne_of_lt hq.lt
            have hq := hq.below hx hq.lt
            have hp := Pk.zero v7
            clear hHeld hP hx
            refine hK.out _ _ hS (fun hHeld => ?_)
            clear hK K hS
            try simp only [Act.put, List.setIfInBounds_toArray, List.set_cons_zero, List.set_cons_succ]
            generalize v7.alloc (.cells #[.int .u8 0, .int .u8 0, .int .u8 0, .int .u8 0, .int .u8 0, .int .u8 0, .int .u8 0, .int .u8 0, .int .u8 0, .int .u8 0, .int .u8 0, .int .u8 0, .int .u8 0, .int .u8 0, .int .u8 0, .int .u8 0, .int .i64 0] 35) = v8 at hHeld hp hq ⊢
            refine wpAnyH_ready (rs := [8]) (by kernel_rfl) (by simp) ?_
            refine (AllReadyH.cons (o := ⟨none, _, _, _, _, _⟩) rfl ?_ AllReadyH.nil)
            · intro K hK
              refine step_store_pfx rfl (.tmp 9) (.tmp 17) rfl rfl rfl hp (length_zeros 16) hPl ?_
              intro v9 hR hO
              have hP := hHeld
              have hS : Below w.heap.size w v9 ∧ Ry v9 w.heap.size a ∧ Ry v9 (w.heap.size + 1) b := ⟨hP.1.trans (hO.below (by omega) hP.1.size), hP.2.1.only hO (hP.2.1.lt ha) (by omega), hP.2.2.only hO (hP.2.2.lt hbl) (by omega)⟩
              have hpp := hR.out
              have hq := hq.only hO hq.lt (by omega)
              clear hHeld hP hO hR
              refine hK.out _ _ hS (fun hHeld => ?_)
              clear hK K hS
              try simp only [Act.put, List.setIfInBounds_toArray, List.set_cons_zero, List.set_cons_succ]
              refine wpAnyH_ready (rs := [9]) (by kernel_rfl) (by simp) ?_
              refine (AllReadyH.cons (o := ⟨none, _, _, _, _, _⟩) rfl ?_ AllReadyH.nil)
              · intro K hK
                refine step_store_pfx rfl (.tmp 10) (.tmp 20) rfl rfl rfl hq (length_zeros 16) hQl ?_
                intro v10 hR hO
                have hP := hHeld
                have hS : Below w.heap.size w v10 ∧ Ry v10 w.heap.size a ∧ Ry v10 (w.heap.size + 1) b := ⟨hP.1.trans (hO.below (by omega) hP.1.size), hP.2.1.only hO (hP.2.1.lt ha) (by omega), hP.2.2.only hO (hP.2.2.lt hbl) (by omega)⟩
                have hqq := hR.out
                have hpp := hpp.only hO (hpp.lt hPl) (by omega)
                clear hHeld hP hO hR
                refine hK.out _ _ hS (fun hHeld => ?_)
                clear hK K hS
                try simp only [Act.put, List.setIfInBounds_toArray, List.set_cons_zero, List.set_cons_succ]
                refine wpAnyH_done (by kernel_rfl) ?_ _
                go_wp2_with fail
                go_meet
                exact ⟨_, _, rfl, rfl, hpp, hqq, hHeld.2.1, hHeld.2.2, hHeld.1⟩
      · intro K hK
        go_simp
        have hP := hHeld
        have hx := (Below.refl v1.heap.size v1).alloc (Nat.le_refl _) (.cells #[.int .u8 0, .int .u8 0, .int .u8 0, .int .u8 0, .int .u8 0, .int .u8 0, .int .u8 0, .int .u8 0, .int .u8 0, .int .u8 0, .int .u8 0, .int .u8 0, .int .u8 0, .int .u8 0, .int .u8 0, .int .u8 0, .int .i64 0] 35)
        have hS : Below w.heap.size w (v1.alloc (.cells #[.int .u8 0, .int .u8 0, .int .u8 0, .int .u8 0, .int .u8 0, .int .u8 0, .int .u8 0, .int .u8 0, .int .u8 0, .int .u8 0, .int .u8 0, .int .u8 0, .int .u8 0, .int .u8 0, .int .u8 0, .int .u8 0, .int .i64 0] 35)) ∧ Ry (v1.alloc (.cells #[.int .u8 0, .int .u8 0, .int .u8 0, .int .u8 0, .int .u8 0, .int .u8 0, .int .u8 0, .int .u8 0, .int .u8 0, .int .u8 0, .int .u8 0, .int .u8 0, .int .u8 0, .int .u8 0, .int .u8 0, .int .u8 0, .int .i64 0] 35)) w.heap.size a ∧ Ry (v1.alloc (.cells #[.int .u8 0, .int .u8 0, .int .u8 0, .int .u8 0, .int .u8 0, .int .u8 0, .int .u8 0, .int .u8 0, .int .u8 0, .int .u8 0, .int .u8 0, .int .u8 0, .int .u8 0, .int .u8 0, .int .u8 0, .int .u8 0, .int .i64 0] 35)) (w.heap.size + 1) b := ⟨hP.1.alloc hP.1.size (.cells #[.int .u8 0, .int .u8 0, .int .u8 0, .int .u8 0, .int .u8 0, .int .u8 0, .int .u8 0, .int .u8 0, .int .u8 0, .int .u8 0, .int .u8 0, .int .u8 0, .int .u8 0, .int .u8 0, .int .u8 0, .int .u8 0, .int .i64 0] 35), hP.2.1.below hx (hP.2.1.lt ha), hP.2.2.below hx (hP.2.2.lt hbl)⟩
        have hpa := hP.2.1.lt ha
        have hpb := hP.2.2.lt hbl
        have hp := Pk.zero v1
        clear hHeld hP hx
        refine hK.out _ _ hS (fun hHeld => ?_)
        clear hK K hS
        try simp only [Act.put, List.setIfInBounds_toArray, List.set_cons_zero, List.set_cons_succ]
        generalize v1.alloc (.cells #[.int .u8 0, .int .u8 0, .int .u8 0, .int .u8 0, .int .u8 0, .int .u8 0, .int .u8 0, .int .u8 0, .int .u8 0, .int .u8 0, .int .u8 0, .int .u8 0, .int .u8 0, .int .u8 0, .int .u8 0, .int .u8 0, .int .i64 0] 35) = v11 at hHeld hp ⊢
        refine wpAnyH_ready (rs := [5, 7]) (by kernel_rfl) (by simp) ?_
        refine (AllReadyH.cons (o := ⟨some 20, _, _, _, _, _⟩) rfl ?_ (AllReadyH.cons (o := ⟨some 10, _, _, _, _, _⟩) rfl ?_ AllReadyH.nil))
        · intro K hK
          go_simp
          have hP := hHeld
          with_reducible refine (cn _).mono ?_
          rintro e v12 ⟨rfl, hb⟩
          have hS : Below w.heap.size w v12 ∧ Ry v12 w.heap.size a ∧ Ry v12 (w.heap.size + 1) b := ⟨hP.1.trans (hb.mono hP.1.size), hP.2.1.below hb (hP.2.1.lt ha), hP.2.2.below hb (hP.2.2.lt hbl)⟩
          have hp := hp.below hb hp.lt
          go_wp2_with fail
          clear hHeld hP hb
          refine hK.out _ _ hS (fun hHeld => ?_)
          clear hK K hS
          try simp only [Act.put, List.setIfInBounds_toArray, List.set_cons_zero, List.set_cons_succ]
          refine wpAnyH_ready (rs := [7]) (by kernel_rfl) (by simp) ?_
          refine (AllReadyH.cons (o := ⟨some 10, _, _, _, _, _⟩) rfl ?_ AllReadyH.nil)
          · intro K hK
            go_simp
            have hP := hHeld
            have hx := (Below.refl v12.heap.size v12).alloc (Nat.le_refl _) (.cells #[.int .u8 0, .int .u8 0, .int .u8 0, .int .u8 0, .int .u8 0, .int .u8 0, .int .u8 0, .int .u8 0, .int .u8 0, .int .u8 0, .int .u8 0, .int .u8 0, .int .u8 0, .int .u8 0, .int .u8 0, .int .u8 0, .int .i64 0] 35)
            have hS : Below w.heap.size w (v12.alloc (.cells #[.int .u8 0, .int .u8 0, .int .u8 0, .int .u8 0, .int .u8 0, .int .u8 0, .int .u8 0, .int .u8 0, .int .u8 0, .int .u8 0, .int .u8 0, .int .u8 0, .int .u8 0, .int .u8 0, .int .u8 0, .int .u8 0, .int .i64 0] 35)) ∧ Ry (v12.alloc (.cells #[.int .u8 0, .int .u8 0, .int .u8 0, .int .u8 0, .int .u8 0, .int .u8 0, .int .u8 0, .int .u8 0, .int .u8 0, .int .u8 0, .int .u8 0, .int .u8 0, .int .u8 0, .int .u8 0, .int .u8 0, .int .u8 0, .int .i64 0] 35)) w.heap.size a ∧ Ry (v12.alloc (.cells #[.int .u8 0, .int .u8 0, .int .u8 0, .int .u8 0, .int .u8 0, .int .u8 0, .int .u8 0, .int .u8 0, .int .u8 0, .int .u8 0, .int .u8 0, .int .u8 0, .int .u8 0, .int .u8 0, .int .u8 0, .int .u8 0, .int .i64 0] 35)) (w.heap.size + 1) b := ⟨hP.1.alloc hP.1.size (.cells #[.int .u8 0, .int .u8 0, .int .u8 0, .int .u8 0, .int .u8 0, .int .u8 0, .int .u8 0, .int .u8 0, .int .u8 0, .int .u8 0, .int .u8 0, .int .u8 0, .int .u8 0, .int .u8 0, .int .u8 0, .int .u8 0, .int .i64 0] 35), hP.2.1.below hx (hP.2.1.lt ha), hP.2.2.below hx (hP.2.2.lt hbl)⟩
            have hqa := hP.2.1.lt ha
            have hqb := hP.2.2.lt hbl
            have hne := Nat.ne_of_lt hp.lt
            have hp := hp.below hx hp.lt
            have hq := Pk.zero v12
            clear hHeld hP hx
            refine hK.out _ _ hS (fun hHeld => ?_)
            clear hK K hS
            try simp only [Act.put, List.setIfInBounds_toArray, List.set_cons_zero, List.set_cons_succ]
            generalize v12.alloc (.cells #[.int .u8 0, .int .u8 0, .int .u8 0, .int .u8 0, .int .u8 0, .int .u8 0, .int .u8 0, .int .u8 0, .int .u8 0, .int .u8 0, .int .u8 0, .int .u8 0, .int .u8 0, .int .u8 0, .int .u8 0, .int .u8 0, .int .i64 0] 35) = v13 at hHeld hp hq ⊢
            refine wpAnyH_ready (rs := [8]) (by kernel_rfl) (by simp) ?_
            refine (AllReadyH.cons (o := ⟨none, _, _, _, _, _⟩) rfl ?_ AllReadyH.nil)
            · intro K hK
              refine step_store_pfx rfl (.tmp 9) (.tmp 17) rfl rfl rfl hp (length_zeros 16) hPl ?_
              intro v14 hR hO
              have hP := hHeld
              have hS : Below w.heap.size w v14 ∧ Ry v14 w.heap.size a ∧ Ry v14 (w.heap.size + 1) b := ⟨hP.1.trans (hO.below (by omega) hP.1.size), hP.2.1.only hO (hP.2.1.lt ha) (by omega), hP.2.2.only hO (hP.2.2.lt hbl) (by omega)⟩
              have hpp := hR.out
              have hq := hq.only hO hq.lt (by omega)
              clear hHeld hP hO hR
              refine hK.out _ _ hS (fun hHeld => ?_)
              clear hK K hS
              try simp only [Act.put, List.setIfInBounds_toArray, List.set_cons_zero, List.set_cons_succ]
              refine wpAnyH_ready (rs := [9]) (by kernel_rfl) (by simp) ?_
              refine (AllReadyH.cons (o := ⟨none, _, _, _, _, _⟩) rfl ?_ AllReadyH.nil)
              · intro K hK
                refine step_store_pfx rfl (.tmp 10) (.tmp 20) rfl rfl rfl hq (length_zeros 16) hQl ?_
                intro v15 hR hO
                have hP := hHeld
                have hS : Below w.heap.size w v15 ∧ Ry v15 w.heap.size a ∧ Ry v15 (w.heap.size + 1) b := ⟨hP.1.trans (hO.below (by omega) hP.1.size), hP.2.1.only hO (hP.2.1.lt ha) (by omega), hP.2.2.only hO (hP.2.2.lt hbl) (by omega)⟩
                have hqq := hR.out
                have hpp := hpp.only hO (hpp.lt hPl) (by omega)
                clear hHeld hP hO hR
                refine hK.out _ _ hS (fun hHeld => ?_)
                clear hK K hS
                try simp only [Act.put, List.setIfInBounds_toArray, List.set_cons_zero, List.set_cons_succ]
                refine wpAnyH_done (by kernel_rfl) ?_ _
                go_wp2_with fail
                go_meet
                exact ⟨_, _, rfl, rfl, hpp, hqq, hHeld.2.1, hHeld.2.2, hHeld.1⟩
        · intro K hK
          go_simp
          have hP := hHeld
          have hx := (Below.refl v11.heap.size v11).alloc (Nat.le_refl _) (.cells #[.int .u8 0, .int .u8 0, .int .u8 0, .int .u8 0, .int .u8 0, .int .u8 0, .int .u8 0, .int .u8 0, .int .u8 0, .int .u8 0, .int .u8 0, .int .u8 0, .int .u8 0, .int .u8 0, .int .u8 0, .int .u8 0, .int .i64 0] 35)
          have hS : Below w.heap.size w (v11.alloc (.cells #[.int .u8 0, .int .u8 0, .int .u8 0, .int .u8 0, .int .u8 0, .int .u8 0, .int .u8 0, .int .u8 0, .int .u8 0, .int .u8 0, .int .u8 0, .int .u8 0, .int .u8 0, .int .u8 0, .int .u8 0, .int .u8 0, .int .i64 0] 35)) ∧ Ry (v11.alloc (.cells #[.int .u8 0, .int .u8 0, .int .u8 0, .int .u8 0, .int .u8 0, .int .u8 0, .int .u8 0, .int .u8 0, .int .u8 0, .int .u8 0, .int .u8 0, .int .u8 0, .int .u8 0, .int .u8 0, .int .u8 0, .int .u8 0, .int .i64 0] 35)) w.heap.size a ∧ Ry (v11.alloc (.cells #[.int .u8 0, .int .u8 0, .int .u8 0, .int .u8 0, .int .u8 0, .int .u8 0, .int .u8 0, .int .u8 0, .int .u8 0, .int .u8 0, .int .u8 0, .int .u8 0, .int .u8 0, .int .u8 0, .int .u8 0, .int .u8 0, .int .i64 0] 35)) (w.heap.size + 1) b := ⟨hP.1.alloc hP.1.size (.cells #[.int .u8 0, .int .u8 0, .int .u8 0, .int .u8 0, .int .u8 0, .int .u8 0, .int .u8 0, .int .u8 0, .int .u8 0, .int .u8 0, .int .u8 0, .int .u8 0, .int .u8 0, .int .u8 0, .int .u8 0, .int .u8 0, .int .i64 0] 35), hP.2.1.below hx (hP.2.1.lt ha), hP.2.2.below hx (hP.2.2.lt hbl)⟩
          have hqa := hP.2.1.lt ha
          have hqb := hP.2.2.lt hbl
          have hne := Nat.ne_of_lt hp.lt
          have hp := hp.below hx hp.lt
          have hq := Pk.zero v11
          clear hHeld hP hx
          refine hK.out _ _ hS (fun hHeld => ?_)
          clear hK K hS
          try simp only [Act.put, List.setIfInBounds_toArray, List.set_cons_zero, List.set_cons_succ]
          generalize v11.alloc (.cells #[.int .u8 0, .int .u8 0, .int .u8 0, .int .u8 0, .int .u8 0, .int .u8 0, .int .u8 0, .int .u8 0, .int .u8 0, .int .u8 0, .int .u8 0, .int .u8 0, .int .u8 0, .int .u8 0, .int .u8 0, .int .u8 0, .int .i64 0] 35) = v16 at hHeld hp hq ⊢
          refine wpAnyH_ready (rs := [5]) (by kernel_rfl) (by simp) ?_
          refine (AllReadyH.cons (o := ⟨some 20, _, _, _, _, _⟩) rfl ?_ AllReadyH.nil)
          · intro K hK
            go_simp
            have hP := hHeld
            with_reducible refine (cn _).mono ?_
            rintro e v17 ⟨rfl, hb⟩
            have hS : Below w.heap.size w v17 ∧ Ry v17 w.heap.size a ∧ Ry v17 (w.heap.size + 1) b := ⟨hP.1.trans (hb.mono hP.1.size), hP.2.1.below hb (hP.2.1.lt ha), hP.2.2.below hb (hP.2.2.lt hbl)⟩
            have hp := hp.below hb hp.lt
            have hq := hq.below hb hq.lt
            go_wp2_with fail
            clear hHeld hP hb
            refine hK.out _ _ hS (fun hHeld => ?_)
            clear hK K hS
            try simp only [Act.put, List.setIfInBounds_toArray, List.set_cons_zero, List.set_cons_succ]
            refine wpAnyH_ready (rs := [8]) (by kernel_rfl) (by simp) ?_
            refine (AllReadyH.cons (o := ⟨none, _, _, _, _, _⟩) rfl ?_ AllReadyH.nil)
            · intro K hK
              refine step_store_pfx rfl (.tmp 9) (.tmp 17) rfl rfl rfl hp (length_zeros 16) hPl ?_
              intro v18 hR hO
              have hP := hHeld
              have hS : Below w.heap.size w v18 ∧ Ry v18 w.heap.size a ∧ Ry v18 (w.heap.size + 1) b := ⟨hP.1.trans (hO.below (by omega) hP.1.size), hP.2.1.only hO (hP.2.1.lt ha) (by omega), hP.2.2.only hO (hP.2.2.lt hbl) (by omega)⟩
              have hpp := hR.out
              have hq := hq.only hO hq.lt (by omega)
              clear hHeld hP hO hR
              refine hK.out _ _ hS (fun hHeld => ?_)
              clear hK K hS
              try simp only [Act.put, List.setIfInBounds_toArray, List.set_cons_zero, List.set_cons_succ]
              refine wpAnyH_ready (rs := [9]) (by kernel_rfl) (by simp) ?_
              refine (AllReadyH.cons (o := ⟨none, _, _, _, _, _⟩) rfl ?_ AllReadyH.nil)
              · intro K hK
                refine step_store_pfx rfl (.tmp 10) (.tmp 20) rfl rfl rfl hq (length_zeros 16) hQl ?_
                intro v19 hR hO
                have hP := hHeld
                have hS : Below w.heap.size w v19 ∧ Ry v19 w.heap.size a ∧ Ry v19 (w.heap.size + 1) b := ⟨hP.1.trans (hO.below (by omega) hP.1.size), hP.2.1.only hO (hP.2.1.lt ha) (by omega), hP.2.2.only hO (hP.2.2.lt hbl) (by omega)⟩
                have hqq := hR.out
                have hpp := hpp.only hO (hpp.lt hPl) (by omega)
                clear hHeld hP hO hR
                refine hK.out _ _ hS (fun hHeld => ?_)
                clear hK K hS
                try simp only [Act.put, List.setIfInBounds_toArray, List.set_cons_zero, List.set_cons_succ]
                refine wpAnyH_done (by kernel_rfl) ?_ _
                go_wp2_with fail
                go_meet
                exact ⟨_, _, rfl, rfl, hpp, hqq, hHeld.2.1, hHeld.2.2, hHeld.1⟩
      · intro K hK
        go_simp
        have hP := hHeld
        have hx := (Below.refl v1.heap.size v1).alloc (Nat.le_refl _) (.cells #[.int .u8 0, .int .u8 0, .int .u8 0, .int .u8 0, .int .u8 0, .int .u8 0, .int .u8 0, .int .u8 0, .int .u8 0, .int .u8 0, .int .u8 0, .int .u8 0, .int .u8 0, .int .u8 0, .int .u8 0, .int .u8 0, .int .i64 0] 35)
        have hS : Below w.heap.size w (v1.alloc (.cells #[.int .u8 0, .int .u8 0, .int .u8 0, .int .u8 0, .int .u8 0, .int .u8 0, .int .u8 0, .int .u8 0, .int .u8 0, .int .u8 0, .int .u8 0, .int .u8 0, .int .u8 0, .int .u8 0, .int .u8 0, .int .u8 0, .int .i64 0] 35)) ∧ Ry (v1.alloc (.cells #[.int .u8 0, .int .u8 0, .int .u8 0, .int .u8 0, .int .u8 0, .int .u8 0, .int .u8 0, .int .u8 0, .int .u8 0, .int .u8 0, .int .u8 0, .int .u8 0, .int .u8 0, .int .u8 0, .int .u8 0, .int .u8 0, .int .i64 0] 35)) w.heap.size a ∧ Ry (v1.alloc (.cells #[.int .u8 0, .int .u8 0, .int .u8 0, .int .u8 0, .int .u8 0, .int .u8 0, .int .u8 0, .int .u8 0, .int .u8 0, .int .u8 0, .int .u8 0, .int .u8 0, .int .u8 0, .int .u8 0, .int .u8 0, .int .u8 0, .int .i64 0] 35)) (w.heap.size + 1) b := ⟨hP.1.alloc hP.1.size (.cells #[.int .u8 0, .int .u8 0, .int .u8 0, .int .u8 0, .int .u8 0, .int .u8 0, .int .u8 0, .int .u8 0, .int .u8 0, .int .u8 0, .int .u8 0, .int .u8 0, .int .u8 0, .int .u8 0, .int .u8 0, .int .u8 0, .int .i64 0] 35), hP.2.1.below hx (hP.2.1.lt ha), hP.2.2.below hx (hP.2.2.lt hbl)⟩
        have hqa := hP.2.1.lt ha
        have hqb := hP.2.2.lt hbl
        have hq := Pk.zero v1
        clear hHeld hP hx
        refine hK.out _ _ hS (fun hHeld => ?_)
        clear hK K hS
        try simp only [Act.put, List.setIfInBounds_toArray, List.set_cons_zero, List.set_cons_succ]
        generalize v1.alloc (.cells #[.int .u8 0, .int .u8 0, .int .u8 0, .int .u8 0, .int .u8 0, .int .u8 0, .int .u8 0, .int .u8 0, .int .u8 0, .int .u8 0, .int .u8 0, .int .u8 0, .int .u8 0, .int .u8 0, .int .u8 0, .int .u8 0, .int .i64 0] 35) = v20 at hHeld hq ⊢
        refine wpAnyH_ready (rs := [5, 6]) (by kernel_rfl) (by simp) ?_
        refine (AllReadyH.cons (o := ⟨some 20, _, _, _, _, _⟩) rfl ?_ (AllReadyH.cons (o := ⟨some 9, _, _, _, _, _⟩) rfl ?_ AllReadyH.nil))
        · intro K hK
          go_simp
          have hP := hHeld
          with_reducible refine (cn _).mono ?_
          rintro e v21 ⟨rfl, hb⟩
          have hS : Below w.heap.size w v21 ∧ Ry v21 w.heap.size a ∧ Ry v21 (w.heap.size + 1) b := ⟨hP.1.trans (hb.mono hP.1.size), hP.2.1.below hb (hP.2.1.lt ha), hP.2.2.below hb (hP.2.2.lt hbl)⟩
          have hq := hq.below hb hq.lt
          go_wp2_with fail
          clear hHeld hP hb
          refine hK.out _ _ hS (fun hHeld => ?_)
          clear hK K hS
          try simp only [Act.put, List.setIfInBounds_toArray, List.set_cons_zero, List.set_cons_succ]
          refine wpAnyH_ready (rs := [6]) (by kernel_rfl) (by simp) ?_
          refine (AllReadyH.cons (o := ⟨some 9, _, _, _, _, _⟩) rfl ?_ AllReadyH.nil)
          · intro K hK
            go_simp
            have hP := hHeld
            have hx := (Below.refl v21.heap.size v21).alloc (Nat.le_refl _) (.cells #[.int .u8 0, .int .u8 0, .int .u8 0, .int .u8 0, .int .u8 0, .int .u8 0, .int .u8 0, .int .u8 0, .int .u8 0, .int .u8 0, .int .u8 0, .int .u8 0, .int .u8 0, .int .u8 0, .int .u8 0, .int .u8 0, .int .i64 0] 35)
            have hS : Below w.heap.size w (v21.alloc (.cells #[.int .u8 0, .int .u8 0, .int .u8 0, .int .u8 0, .int .u8 0, .int .u8 0, .int .u8 0, .int .u8 0, .int .u8 0, .int .u8 0, .int .u8 0, .int .u8 0, .int .u8 0, .int .u8 0, .int .u8 0, .int .u8 0, .int .i64 0] 35)) ∧ Ry (v21.alloc (.cells #[.int .u8 0, .int .u8 0, .int .u8 0, .int .u8 0, .int .u8 0, .int .u8 0, .int .u8 0, .int .u8 0, .int .u8 0, .int .u8 0, .int .u8 0, .int .u8 0, .int .u8 0, .int .u8 0, .int .u8 0, .int .u8 0, .int .i64 0] 35)) w.heap.size a ∧ Ry (v21.alloc (.cells #[.int .u8 0, .int .u8 0, .int .u8 0, .int .u8 0, .int .u8 0, .int .u8 0, .int .u8 0, .int .u8 0, .int .u8 0, .int .u8 0, .int .u8 0, .int .u8 0, .int .u8 0, .int .u8 0, .int .u8 0, .int .u8 0, .int .i64 0] 35)) (w.heap.size + 1) b := ⟨hP.1.alloc hP.1.size (.cells #[.int .u8 0, .int .u8 0, .int .u8 0, .int .u8 0, .int .u8 0, .int .u8 0, .int .u8 0, .int .u8 0, .int .u8 0, .int .u8 0, .int .u8 0, .int .u8 0, .int .u8 0, .int .u8 0, .int .u8 0, .int .u8 0, .int .i64 0] 35), hP.2.1.below hx (hP.2.1.lt ha), hP.2.2.below hx (hP.2.2.lt hbl)⟩
            have hpa := hP.2.1.lt ha
            have hpb := hP.2.2.lt hbl
            have hne := Nat.ne_of_lt hq.lt
            have hq := hq.below hx hq.lt
            have hp := Pk.zero v21
            clear hHeld hP hx
            refine hK.out _ _ hS (fun hHeld => ?_)
            clear hK K hS
            try simp only [Act.put, List.setIfInBounds_toArray, List.set_cons_zero, List.set_cons_succ]
            generalize v21.alloc (.cells #[.int .u8 0, .int .u8 0, .int .u8 0, .int .u8 0, .int .u8 0, .int .u8 0, .int .u8 0, .int .u8 0, .int .u8 0, .int .u8 0, .int .u8 0, .int .u8 0, .int .u8 0, .int .u8 0, .int .u8 0, .int .u8 0, .int .i64 0] 35) = v22 at hHeld hp hq ⊢
            refine wpAnyH_ready (rs := [8]) (by kernel_rfl) (by simp) ?_
            refine (AllReadyH.cons (o := ⟨none, _, _, _, _, _⟩) rfl ?_ AllReadyH.nil)
            · intro K hK
              refine step_store_pfx rfl (.tmp 9) (.tmp 17) rfl rfl rfl hp (length_zeros 16) hPl ?_
              intro v23 hR hO
              have hP := hHeld
              have hS : Below w.heap.size w v23 ∧ Ry v23 w.heap.size a ∧ Ry v23 (w.heap.size + 1) b := ⟨hP.1.trans (hO.below (by omega) hP.1.size), hP.2.1.only hO (hP.2.1.lt ha) (by omega), hP.2.2.only hO (hP.2.2.lt hbl) (by omega)⟩
              have hpp := hR.out
              have hq := hq.only hO hq.lt (by omega)
              clear hHeld hP hO hR
              refine hK.out _ _ hS (fun hHeld => ?_)
              clear hK K hS
              try simp only [Act.put, List.setIfInBounds_toArray, List.set_cons_zero, List.set_cons_succ]
              refine wpAnyH_ready (rs := [9]) (by kernel_rfl) (by simp) ?_
              refine (AllReadyH.cons (o := ⟨none, _, _, _, _, _⟩) rfl ?_ AllReadyH.nil)
              · intro K hK
                refine step_store_pfx rfl (.tmp 10) (.tmp 20) rfl rfl rfl hq (length_zeros 16) hQl ?_
                intro v24 hR hO
                have hP := hHeld
                have hS : Below w.heap.size w v24 ∧ Ry v24 w.heap.size a ∧ Ry v24 (w.heap.size + 1) b := ⟨hP.1.trans (hO.below (by omega) hP.1.size), hP.2.1.only hO (hP.2.1.lt ha) (by omega), hP.2.2.only hO (hP.2.2.lt hbl) (by omega)⟩
                have hqq := hR.out
                have hpp := hpp.only hO (hpp.lt hPl) (by omega)
                clear hHeld hP hO hR
                refine hK.out _ _ hS (fun hHeld => ?_)
                clear hK K hS
                try simp only [Act.put, List.setIfInBounds_toArray, List.set_cons_zero, List.set_cons_succ]
                refine wpAnyH_done (by kernel_rfl) ?_ _
                go_wp2_with fail
                go_meet
                exact ⟨_, _, rfl, rfl, hpp, hqq, hHeld.2.1, hHeld.2.2, hHeld.1⟩
        · intro K hK
          go_simp
          have hP := hHeld
          have hx := (Below.refl v20.heap.size v20).alloc (Nat.le_refl _) (.cells #[.int .u8 0, .int .u8 0, .int .u8 0, .int .u8 0, .int .u8 0, .int .u8 0, .int .u8 0, .int .u8 0, .int .u8 0, .int .u8 0, .int .u8 0, .int .u8 0, .int .u8 0, .int .u8 0, .int .u8 0, .int .u8 0, .int .i64 0] 35)
          have hS : Below w.heap.size w (v20.alloc (.cells #[.int .u8 0, .int .u8 0, .int .u8 0, .int .u8 0, .int .u8 0, .int .u8 0, .int .u8 0, .int .u8 0, .int .u8 0, .int .u8 0, .int .u8 0, .int .u8 0, .int .u8 0, .int .u8 0, .int .u8 0, .int .u8 0, .int .i64 0] 35)) ∧ Ry (v20.alloc (.cells #[.int .u8 0, .int .u8 0, .int .u8 0, .int .u8 0, .int .u8 0, .int .u8 0, .int .u8 0, .int .u8 0, .int .u8 0, .int .u8 0, .int .u8 0, .int .u8 0, .int .u8 0, .int .u8 0, .int .u8 0, .int .u8 0, .int .i64 0] 35)) w.heap.size a ∧ Ry (v20.alloc (.cells #[.int .u8 0, .int .u8 0, .int .u8 0, .int .u8 0, .int .u8 0, .int .u8 0, .int .u8 0, .int .u8 0, .int .u8 0, .int .u8 0, .int .u8 0, .int .u8 0, .int .u8 0, .int .u8 0, .int .u8 0, .int .u8 0, .int .i64 0] 35)) (w.heap.size + 1) b := ⟨hP.1.alloc hP.1.size (.cells #[.int .u8 0, .int .u8 0, .int .u8 0, .int .u8 0, .int .u8 0, .int .u8 0, .int .u8 0, .int .u8 0, .int .u8 0, .int .u8 0, .int .u8 0, .int .u8 0, .int .u8 0, .int .u8 0, .int .u8 0, .int .u8 0, .int .i64 0] 35), hP.2.1.below hx (hP.2.1.lt ha), hP.2.2.below hx (hP.2.2.lt hbl)⟩
          have hpa := hP.2.1.lt ha
          have hpb := hP.2.2.lt hbl
          have hne := Nat.ne_of_lt hq.lt
          have hq := hq.below hx hq.lt
          have hp := Pk.zero v20
          clear hHeld hP hx
          refine hK.out _ _ hS (fun hHeld => ?_)
          clear hK K hS
          try simp only [Act.put, List.setIfInBounds_toArray, List.set_cons_zero, List.set_cons_succ]
          generalize v20.alloc (.cells #[.int .u8 0, .int .u8 0, .int .u8 0, .int .u8 0, .int .u8 0, .int .u8 0, .int .u8 0, .int .u8 0, .int .u8 0, .int .u8 0, .int .u8 0, .int .u8 0, .int .u8 0, .int .u8 0, .int .u8 0, .int .u8 0, .int .i64 0] 35) = v25 at hHeld hp hq ⊢
          refine wpAnyH_ready (rs := [5]) (by kernel_rfl) (by simp) ?_
          refine (AllReadyH.cons (o := ⟨some 20, _, _, _, _, _⟩) rfl ?_ AllReadyH.nil)
          · intro K hK
            go_simp
            have hP := hHeld
            with_reducible refine (cn _).mono ?_
            rintro e v26 ⟨rfl, hb⟩
            have hS : Below w.heap.size w v26 ∧ Ry v26 w.heap.size a ∧ Ry v26 (w.heap.size + 1) b := ⟨hP.1.trans (hb.mono hP.1.size), hP.2.1.below hb (hP.2.1.lt ha), hP.2.2.below hb (hP.2.2.lt hbl)⟩
            have hp := hp.below hb hp.lt
            have hq := hq.below hb hq.lt
            go_wp2_with fail
            clear hHeld hP hb
            refine hK.out _ _ hS (fun hHeld => ?_)
            clear hK K hS
            try simp only [Act.put, List.setIfInBounds_toArray, List.set_cons_zero, List.set_cons_succ]
            refine wpAnyH_ready (rs := [8]) (by kernel_rfl) (by simp) ?_
            refine (AllReadyH.cons (o := ⟨none, _, _, _, _, _⟩) rfl ?_ AllReadyH.nil)
            · intro K hK
              refine step_store_pfx rfl (.tmp 9) (.tmp 17) rfl rfl rfl hp (length_zeros 16) hPl ?_
              intro v27 hR hO
              have hP := hHeld
              have hS : Below w.heap.size w v27 ∧ Ry v27 w.heap.size a ∧ Ry v27 (w.heap.size + 1) b := ⟨hP.1.trans (hO.below (by omega) hP.1.size), hP.2.1.only hO (hP.2.1.lt ha) (by omega), hP.2.2.only hO (hP.2.2.lt hbl) (by omega)⟩
              have hpp := hR.out
              have hq := hq.only hO hq.lt (by omega)
              clear hHeld hP hO hR
              refine hK.out _ _ hS (fun hHeld => ?_)
              clear hK K hS
              try simp only [Act.put, List.setIfInBounds_toArray, List.set_cons_zero, List.set_cons_succ]
              refine wpAnyH_ready (rs := [9]) (by kernel_rfl) (by simp) ?_
              refine (AllReadyH.cons (o := ⟨none, _, _, _, _, _⟩) rfl ?_ AllReadyH.nil)
              · intro K hK
                refine step_store_pfx rfl (.tmp 10) (.tmp 20) rfl rfl rfl hq (length_zeros 16) hQl ?_
                intro v28 hR hO
                have hP := hHeld
                have hS : Below w.heap.size w v28 ∧ Ry v28 w.heap.size a ∧ Ry v28 (w.heap.size + 1) b := ⟨hP.1.trans (hO.below (by omega) hP.1.size), hP.2.1.only hO (hP.2.1.lt ha) (by omega), hP.2.2.only hO (hP.2.2.lt hbl) (by omega)⟩
                have hqq := hR.out
                have hpp := hpp.only hO (hpp.lt hPl) (by omega)
                clear hHeld hP hO hR
                refine hK.out _ _ hS (fun hHeld => ?_)
                clear hK K hS
                try simp only [Act.put, List.setIfInBounds_toArray, List.set_cons_zero, List.set_cons_succ]
                refine wpAnyH_done (by kernel_rfl) ?_ _
                go_wp2_with fail
                go_meet
                exact ⟨_, _, rfl, rfl, hpp, hqq, hHeld.2.1, hHeld.2.2, hHeld.1⟩
    · intro K hK
      go_simp
      have hP := hHeld
      have hx := (Below.refl v0.heap.size v0).alloc (Nat.le_refl _) (.cells #[.int .u8 0, .int .u8 0, .int .u8 0, .int .u8 0, .int .u8 0, .int .u8 0, .int .u8 0, .int .u8 0, .int .u8 0, .int .u8 0, .int .u8 0, .int .u8 0, .int .u8 0, .int .u8 0, .int .u8 0, .int .u8 0, .int .i64 0] 35)
      have hS : Below w.heap.size w (v0.alloc (.cells #[.int .u8 0, .int .u8 0, .int .u8 0, .int .u8 0, .int .u8 0, .int .u8 0, .int .u8 0, .int .u8 0, .int .u8 0, .int .u8 0, .int .u8 0, .int .u8 0, .int .u8 0, .int .u8 0, .int .u8 0, .int .u8 0, .int .i64 0] 35)) ∧ Ry (v0.alloc (.cells #[.int .u8 0, .int .u8 0, .int .u8 0, .int .u8 0, .int .u8 0, .int .u8 0, .int .u8 0, .int .u8 0, .int .u8 0, .int .u8 0, .int .u8 0, .int .u8 0, .int .u8 0, .int .u8 0, .int .u8 0, .int .u8 0, .int .i64 0] 35)) w.heap.size a ∧ Ry (v0.alloc (.cells #[.int .u8 0, .int .u8 0, .int .u8 0, .int .u8 0, .int .u8 0, .int .u8 0, .int .u8 0, .int .u8 0, .int .u8 0, .int .u8 0, .int .u8 0, .int .u8 0, .int .u8 0, .int .u8 0, .int .u8 0, .int .u8 0, .int .i64 0] 35)) (w.heap.size + 1) b := ⟨hP.1.alloc hP.1.size (.cells #[.int .u8 0, .int .u8 0, .int .u8 0, .int .u8 0, .int .u8 0, .int .u8 0, .int .u8 0, .int .u8 0, .int .u8 0, .int .u8 0, .int .u8 0, .int .u8 0, .int .u8 0, .int .u8 0, .int .u8 0, .int .u8 0, .int .i64 0] 35), hP.2.1.below hx (hP.2.1.lt ha), hP.2.2.below hx (hP.2.2.lt hbl)⟩
      have hpa := hP.2.1.lt ha
      have hpb := hP.2.2.lt hbl
      have hp := Pk.zero v0
      clear hHeld hP hx
      refine hK.out _ _ hS (fun hHeld => ?_)
      clear hK K hS
      try simp only [Act.put, List.setIfInBounds_toArray, List.set_cons_zero, List.set_cons_succ]
      generalize v0.alloc (.cells #[.int .u8 0, .int .u8 0, .int .u8 0, .int .u8 0, .int .u8 0, .int .u8 0, .int .u8 0, .int .u8 0, .int .u8 0, .int .u8 0, .int .u8 0, .int .u8 0, .int .u8 0, .int .u8 0, .int .u8 0, .int .u8 0, .int .i64 0] 35) = v29 at hHeld hp ⊢
      refine wpAnyH_ready (rs := [2, 7]) (by kernel_rfl) (by simp) ?_
      refine (AllReadyH.cons (o := ⟨some 17, _, _, _, _, _⟩) rfl ?_ (AllReadyH.cons (o := ⟨some 10, _, _, _, _, _⟩) rfl ?_ AllReadyH.nil))
      · intro K hK
        go_simp
        have hP := hHeld
        with_reducible refine (cm _).mono ?_
        rintro e v30 ⟨rfl, hb⟩
        have hS : Below w.heap.size w v30 ∧ Ry v30 w.heap.size a ∧ Ry v30 (w.heap.size + 1) b := ⟨hP.1.trans (hb.mono hP.1.size), hP.2.1.below hb (hP.2.1.lt ha), hP.2.2.below hb (hP.2.2.lt hbl)⟩
        have hp := hp.below hb hp.lt
        go_wp2_with fail
        clear hHeld hP hb
        refine hK.out _ _ hS (fun hHeld => ?_)
        clear hK K hS
        try simp only [Act.put, List.setIfInBounds_toArray, List.set_cons_zero, List.set_cons_succ]
        refine wpAnyH_ready (rs := [5, 7]) (by kernel_rfl) (by simp) ?_
        refine (AllReadyH.cons (o := ⟨some 20, _, _, _, _, _⟩) rfl ?_ (AllReadyH.cons (o := ⟨some 10, _, _, _, _, _⟩) rfl ?_ AllReadyH.nil))
        · intro K hK
          go_simp
          have hP := hHeld
          with_reducible refine (cn _).mono ?_
          rintro e v31 ⟨rfl, hb⟩
          have hS : Below w.heap.size w v31 ∧ Ry v31 w.heap.size a ∧ Ry v31 (w.heap.size + 1) b := ⟨hP.1.trans (hb.mono hP.1.size), hP.2.1.below hb (hP.2.1.lt ha), hP.2.2.below hb (hP.2.2.lt hbl)⟩
          have hp := hp.below hb hp.lt
          go_wp2_with fail
          clear hHeld hP hb
          refine hK.out _ _ hS (fun hHeld => ?_)
          clear hK K hS
          try simp only [Act.put, List.setIfInBounds_toArray, List.set_cons_zero, List.set_cons_succ]
          refine wpAnyH_ready (rs := [7]) (by kernel_rfl) (by simp) ?_
          refine (AllReadyH.cons (o := ⟨some 10, _, _, _, _, _⟩) rfl ?_ AllReadyH.nil)
          · intro K hK
            go_simp
            have hP := hHeld
            have hx := (Below.refl v31.heap.size v31).alloc (Nat.le_refl _) (.cells #[.int .u8 0, .int .u8 0, .int .u8 0, .int .u8 0, .int .u8 0, .int .u8 0, .int .u8 0, .int .u8 0, .int .u8 0, .int .u8 0, .int .u8 0, .int .u8 0, .int .u8 0, .int .u8 0, .int .u8 0, .int .u8 0, .int .i64 0] 35)
            have hS : Below w.heap.size w (v31.alloc (.cells #[.int .u8 0, .int .u8 0, .int .u8 0, .int .u8 0, .int .u8 0, .int .u8 0, .int .u8 0, .int .u8 0, .int .u8 0, .int .u8 0, .int .u8 0, .int .u8 0, .int .u8 0, .int .u8 0, .int .u8 0, .int .u8 0, .int .i64 0] 35)) ∧ Ry (v31.alloc (.cells #[.int .u8 0, .int .u8 0, .int .u8 0, .int .u8 0, .int .u8 0, .int .u8 0, .int .u8 0, .int .u8 0, .int .u8 0, .int .u8 0, .int .u8 0, .int .u8 0, .int .u8 0, .int .u8 0, .int .u8 0, .int .u8 0, .int .i64 0] 35)) w.heap.size a ∧ Ry (v31.alloc (.cells #[.int .u8 0, .int .u8 0, .int .u8 0, .int .u8 0, .int .u8 0, .int .u8 0, .int .u8 0, .int .u8 0, .int .u8 0, .int .u8 0, .int .u8 0, .int .u8 0, .int .u8 0, .int .u8 0, .int .u8 0, .int .u8 0, .int .i64 0] 35)) (w.heap.size + 1) b := ⟨hP.1.alloc hP.1.size (.cells #[.int .u8 0, .int .u8 0, .int .u8 0, .int .u8 0, .int .u8 0, .int .u8 0, .int .u8 0, .int .u8 0, .int .u8 0, .int .u8 0, .int .u8 0, .int .u8 0, .int .u8 0, .int .u8 0, .int .u8 0, .int .u8 0, .int .i64 0] 35), hP.2.1.below hx (hP.2.1.lt ha), hP.2.2.below hx (hP.2.2.lt hbl)⟩
            have hqa := hP.2.1.lt ha
            have hqb := hP.2.2.lt hbl
            have hne := Nat.ne_of_lt hp.lt
            have hp := hp.below hx hp.lt
            have hq := Pk.zero v31
            clear hHeld hP hx
            refine hK.out _ _ hS (fun hHeld => ?_)
            clear hK K hS
            try simp only [Act.put, List.setIfInBounds_toArray, List.set_cons_zero, List.set_cons_succ]
            generalize v31.alloc (.cells #[.int .u8 0, .int .u8 0, .int .u8 0, .int .u8 0, .int .u8 0, .int .u8 0, .int .u8 0, .int .u8 0, .int .u8 0, .int .u8 0, .int .u8 0, .int .u8 0, .int .u8 0, .int .u8 0, .int .u8 0, .int .u8 0, .int .i64 0] 35) = v32 at hHeld hp hq ⊢
            refine wpAnyH_ready (rs := [8]) (by kernel_rfl) (by simp) ?_
            refine (AllReadyH.cons (o := ⟨none, _, _, _, _, _⟩) rfl ?_ AllReadyH.nil)
            · intro K hK
              refine step_store_pfx rfl (.tmp 9) (.tmp 17) rfl rfl rfl hp (length_zeros 16) hPl ?_
              intro v33 hR hO
              have hP := hHeld
              have hS : Below w.heap.size w v33 ∧ Ry v33 w.heap.size a ∧ Ry v33 (w.heap.size + 1) b := ⟨hP.1.trans (hO.below (by omega) hP.1.size), hP.2.1.only hO (hP.2.1.lt ha) (by omega), hP.2.2.only hO (hP.2.2.lt hbl) (by omega)⟩
              have hpp := hR.out
              have hq := hq.only hO hq.lt (by omega)
              clear hHeld hP hO hR
              refine hK.out _ _ hS (fun hHeld => ?_)
              clear hK K hS
              try simp only [Act.put, List.setIfInBounds_toArray, List.set_cons_zero, List.set_cons_succ]
              refine wpAnyH_ready (rs := [9]) (by kernel_rfl) (by simp) ?_
              refine (AllReadyH.cons (o := ⟨none, _, _, _, _, _⟩) rfl ?_ AllReadyH.nil)
              · intro K hK
                refine step_store_pfx rfl (.tmp 10) (.tmp 20) rfl rfl rfl hq (length_zeros 16) hQl ?_
                intro v34 hR hO
                have hP := hHeld
                have hS : Below w.heap.size w v34 ∧ Ry v34 w.heap.size a ∧ Ry v34 (w.heap.size + 1) b := ⟨hP.1.trans (hO.below (by omega) hP.1.size), hP.2.1.only hO (hP.2.1.lt ha) (by omega), hP.2.2.only hO (hP.2.2.lt hbl) (by omega)⟩
                have hqq := hR.out
                have hpp := hpp.only hO (hpp.lt hPl) (by omega)
                clear hHeld hP hO hR
                refine hK.out _ _ hS (fun hHeld => ?_)
                clear hK K hS
                try simp only [Act.put, List.setIfInBounds_toArray, List.set_cons_zero, List.set_cons_succ]
                refine wpAnyH_done (by kernel_rfl) ?_ _
                go_wp2_with fail
                go_meet
                exact ⟨_, _, rfl, rfl, hpp, hqq, hHeld.2.1, hHeld.2.2, hHeld.1⟩
        · intro K hK
          go_simp
          have hP := hHeld
          have hx := (Below.refl v30.heap.size v30).alloc (Nat.le_refl _) (.cells #[.int .u8 0, .int .u8 0, .int .u8 0, .int .u8 0, .int .u8 0, .int .u8 0, .int .u8 0, .int .u8 0, .int .u8 0, .int .u8 0, .int .u8 0, .int .u8 0, .int .u8 0, .int .u8 0, .int .u8 0, .int .u8 0, .int .i64 0] 35)
          have hS : Below w.heap.size w (v30.alloc (.cells #[.int .u8 0, .int .u8 0, .int .u8 0, .int .u8 0, .int .u8 0, .int .u8 0, .int .u8 0, .int .u8 0, .int .u8 0, .int .u8 0, .int .u8 0, .int .u8 0, .int .u8 0, .int .u8 0, .int .u8 0, .int .u8 0, .int .i64 0] 35)) ∧ Ry (v30.alloc (.cells #[.int .u8 0, .int .u8 0, .int .u8 0, .int .u8 0, .int .u8 0, .int .u8 0, .int .u8 0, .int .u8 0, .int .u8 0, .int .u8 0, .int .u8 0, .int .u8 0, .int .u8 0, .int .u8 0, .int .u8 0, .int .u8 0, .int .i64 0] 35)) w.heap.size a ∧ Ry (v30.alloc (.cells #[.int .u8 0, .int .u8 0, .int .u8 0, .int .u8 0, .int .u8 0, .int .u8 0, .int .u8 0, .int .u8 0, .int .u8 0, .int .u8 0, .int .u8 0, .int .u8 0, .int .u8 0, .int .u8 0, .int .u8 0, .int .u8 0, .int .i64 0] 35)) (w.heap.size + 1) b := ⟨hP.1.alloc hP.1.size (.cells #[.int .u8 0, .int .u8 0, .int .u8 0, .int .u8 0, .int .u8 0, .int .u8 0, .int .u8 0, .int .u8 0, .int .u8 0, .int .u8 0, .int .u8 0, .int .u8 0, .int .u8 0, .int .u8 0, .int .u8 0, .int .u8 0, .int .i64 0] 35), hP.2.1.below hx (hP.2.1.lt ha), hP.2.2.below hx (hP.2.2.lt hbl)⟩
          have hqa := hP.2.1.lt ha
          have hqb := hP.2.2.lt hbl
          have hne := Nat.ne_of_lt hp.lt
          have hp := hp.below hx hp.lt
          have hq := Pk.zero v30
          clear hHeld hP hx
          refine hK.out _ _ hS (fun hHeld => ?_)
          clear hK K hS
          try simp only [Act.put, List.setIfInBounds_toArray, List.set_cons_zero, List.set_cons_succ]
          generalize v30.alloc (.cells #[.int .u8 0, .int .u8 0, .int .u8 0, .int .u8 0, .int .u8 0, .int .u8 0, .int .u8 0, .int .u8 0, .int .u8 0, .int .u8 0, .int .u8 0, .int .u8 0, .int .u8 0, .int .u8 0, .int .u8 0, .int .u8 0, .int .i64 0] 35) = v35 at hHeld hp hq ⊢
          refine wpAnyH_ready (rs := [5]) (by kernel_rfl) (by simp) ?_
          refine (AllReadyH.cons (o := ⟨some 20, _, _, _, _, _⟩) rfl ?_ AllReadyH.nil)
          · intro K hK
            go_simp
            have hP := hHeld
            with_reducible refine (cn _).mono ?_
            rintro e v36 ⟨rfl, hb⟩
            have hS : Below w.heap.size w v36 ∧ Ry v36 w.heap.size a ∧ Ry v36 (w.heap.size + 1) b := ⟨hP.1.trans (hb.mono hP.1.size), hP.2.1.below hb (hP.2.1.lt ha), hP.2.2.below hb (hP.2.2.lt hbl)⟩
            have hp := hp.below hb hp.lt
            have hq := hq.below hb hq.lt
            go_wp2_with fail
            clear hHeld hP hb
            refine hK.out _ _ hS (fun hHeld => ?_)
            clear hK K hS
            try simp only [Act.put, List.setIfInBounds_toArray, List.set_cons_zero, List.set_cons_succ]
            refine wpAnyH_ready (rs := [8]) (by kernel_rfl) (by simp) ?_
            refine (AllReadyH.cons (o := ⟨none, _, _, _, _, _⟩) rfl ?_ AllReadyH.nil)
            · intro K hK
              refine step_store_pfx rfl (.tmp 9) (.tmp 17) rfl rfl rfl hp (length_zeros 16) hPl ?_
              intro v37 hR hO
              have hP := hHeld
              have hS : Below w.heap.size w v37 ∧ Ry v37 w.heap.size a ∧ Ry v37 (w.heap.size + 1) b := ⟨hP.1.trans (hO.below (by omega) hP.1.size), hP.2.1.only hO (hP.2.1.lt ha) (by omega), hP.2.2.only hO (hP.2.2.lt hbl) (by omega)⟩
              have hpp := hR.out
              have hq := hq.only hO hq.lt (by omega)
              clear hHeld hP hO hR
              refine hK.out _ _ hS (fun hHeld => ?_)
              clear hK K hS
              try simp only [Act.put, List.setIfInBounds_toArray, List.set_cons_zero, List.set_cons_succ]
              refine wpAnyH_ready (rs := [9]) (by kernel_rfl) (by simp) ?_
              refine (AllReadyH.cons (o := ⟨none, _, _, _, _, _⟩) rfl ?_ AllReadyH.nil)
              · intro K hK
                refine step_store_pfx rfl (.tmp 10) (.tmp 20) rfl rfl rfl hq (length_zeros 16) hQl ?_
                intro v38 hR hO
                have hP := hHeld
                have hS : Below w.heap.size w v38 ∧ Ry v38 w.heap.size a ∧ Ry v38 (w.heap.size + 1) b := ⟨hP.1.trans (hO.below (by omega) hP.1.size), hP.2.1.only hO (hP.2.1.lt ha) (by omega), hP.2.2.only hO (hP.2.2.lt hbl) (by omega)⟩
                have hqq := hR.out
                have hpp := hpp.only hO (hpp.lt hPl) (by omega)
                clear hHeld hP hO hR
                refine hK.out _ _ hS (fun hHeld => ?_)
                clear hK K hS
                try simp only [Act.put, List.setIfInBounds_toArray, List.set_cons_zero, List.set_cons_succ]
                refine wpAnyH_done (by kernel_rfl) ?_ _
                go_wp2_with fail
                go_meet
                exact ⟨_, _, rfl, rfl, hpp, hqq, hHeld.2.1, hHeld.2.2, hHeld.1⟩
      · intro K hK
        go_simp
        have hP := hHeld
        have hx := (Below.refl v29.heap.size v29).alloc (Nat.le_refl _) (.cells #[.int .u8 0, .int .u8 0, .int .u8 0, .int .u8 0, .int .u8 0, .int .u8 0, .int .u8 0, .int .u8 0, .int .u8 0, .int .u8 0, .int .u8 0, .int .u8 0, .int .u8 0, .int .u8 0, .int .u8 0, .int .u8 0, .int .i64 0] 35)
        have hS : Below w.heap.size w (v29.alloc (.cells #[.int .u8 0, .int .u8 0, .int .u8 0, .int .u8 0, .int .u8 0, .int .u8 0, .int .u8 0, .int .u8 0, .int .u8 0, .int .u8 0, .int .u8 0, .int .u8 0, .int .u8 0, .int .u8 0, .int .u8 0, .int .u8 0, .int .i64 0] 35)) ∧ Ry (v29.alloc (.cells #[.int .u8 0, .int .u8 0, .int .u8 0, .int .u8 0, .int .u8 0, .int .u8 0, .int .u8 0, .int .u8 0, .int .u8 0, .int .u8 0, .int .u8 0, .int .u8 0, .int .u8 0, .int .u8 0, .int .u8 0, .int .u8 0, .int .i64 0] 35)) w.heap.size a ∧ Ry (v29.alloc (.cells #[.int .u8 0, .int .u8 0, .int .u8 0, .int .u8 0, .int .u8 0, .int .u8 0, .int .u8 0, .int .u8 0, .int .u8 0, .int .u8 0, .int .u8 0, .int .u8 0, .int .u8 0, .int .u8 0, .int .u8 0, .int .u8 0, .int .i64 0] 35)) (w.heap.size + 1) b := ⟨hP.1.alloc hP.1.size (.cells #[.int .u8 0, .int .u8 0, .int .u8 0, .int .u8 0, .int .u8 0, .int .u8 0, .int .u8 0, .int .u8 0, .int .u8 0, .int .u8 0, .int .u8 0, .int .u8 0, .int .u8 0, .int .u8 0, .int .u8 0, .int .u8 0, .int .i64 0] 35), hP.2.1.below hx (hP.2.1.lt ha), hP.2.2.below hx (hP.2.2.lt hbl)⟩
        have hqa := hP.2.1.lt ha
        have hqb := hP.2.2.lt hbl
        have hne := Nat.ne_of_lt hp.lt
        have hp := hp.below hx hp.lt
        have hq := Pk.zero v29
        clear hHeld hP hx
        refine hK.out _ _ hS (fun hHeld => ?_)
        clear hK K hS
        try simp only [Act.put, List.setIfInBounds_toArray, List.set_cons_zero, List.set_cons_succ]
        generalize v29.alloc (.cells #[.int .u8 0, .int .u8 0, .int .u8 0, .int .u8 0, .int .u8 0, .int .u8 0, .int .u8 0, .int .u8 0, .int .u8 0, .int .u8 0, .int .u8 0, .int .u8 0, .int .u8 0, .int .u8 0, .int .u8 0, .int .u8 0, .int .i64 0] 35) = v39 at hHeld hp hq ⊢
        refine wpAnyH_ready (rs := [2]) (by kernel_rfl) (by simp) ?_
        refine (AllReadyH.cons (o := ⟨some 17, _, _, _, _, _⟩) rfl ?_ AllReadyH.nil)
        · intro K hK
          go_simp
          have hP := hHeld
          with_reducible refine (cm _).mono ?_
          rintro e v40 ⟨rfl, hb⟩
          have hS : Below w.heap.size w v40 ∧ Ry v40 w.heap.size a ∧ Ry v40 (w.heap.size + 1) b := ⟨hP.1.trans (hb.mono hP.1.size), hP.2.1.below hb (hP.2.1.lt ha), hP.2.2.below hb (hP.2.2.lt hbl)⟩
          have hp := hp.below hb hp.lt
          have hq := hq.below hb hq.lt
          go_wp2_with fail
          clear hHeld hP hb
          refine hK.out _ _ hS (fun hHeld => ?_)
          clear hK K hS
          try simp only [Act.put, List.setIfInBounds_toArray, List.set_cons_zero, List.set_cons_succ]
          refine wpAnyH_ready (rs := [5]) (by kernel_rfl) (by simp) ?_
          refine (AllReadyH.cons (o := ⟨some 20, _, _, _, _, _⟩) rfl ?_ AllReadyH.nil)
          · intro K hK
            go_simp
            have hP := hHeld
            with_reducible refine (cn _).mono ?_
            rintro e v41 ⟨rfl, hb⟩
            have hS : Below w.heap.size w v41 ∧ Ry v41 w.heap.size a ∧ Ry v41 (w.heap.size + 1) b := ⟨hP.1.trans (hb.mono hP.1.size), hP.2.1.below hb (hP.2.1.lt ha), hP.2.2.below hb (hP.2.2.lt hbl)⟩
            have hp := hp.below hb hp.lt
            have hq := hq.below hb hq.lt
            go_wp2_with fail
            clear hHeld hP hb
            refine hK.out _ _ hS (fun hHeld => ?_)
            clear hK K hS
            try simp only [Act.put, List.setIfInBounds_toArray, List.set_cons_zero, List.set_cons_succ]
            refine wpAnyH_ready (rs := [8]) (by kernel_rfl) (by simp) ?_
            refine (AllReadyH.cons (o := ⟨none, _, _, _, _, _⟩) rfl ?_ AllReadyH.nil)
            · intro K hK
              refine step_store_pfx rfl (.tmp 9) (.tmp 17) rfl rfl rfl hp (length_zeros 16) hPl ?_
              intro v42 hR hO
              have hP := hHeld
              have hS : Below w.heap.size w v42 ∧ Ry v42 w.heap.size a ∧ Ry v42 (w.heap.size + 1) b := ⟨hP.1.trans (hO.below (by omega) hP.1.size), hP.2.1.only hO (hP.2.1.lt ha) (by omega), hP.2.2.only hO (hP.2.2.lt hbl) (by omega)⟩
              have hpp := hR.out
              have hq := hq.only hO hq.lt (by omega)
              clear hHeld hP hO hR
              refine hK.out _ _ hS (fun hHeld => ?_)
              clear hK K hS
              try simp only [Act.put, List.setIfInBounds_toArray, List.set_cons_zero, List.set_cons_succ]
              refine wpAnyH_ready (rs := [9]) (by kernel_rfl) (by simp) ?_
              refine (AllReadyH.cons (o := ⟨none, _, _, _, _, _⟩) rfl ?_ AllReadyH.nil)
              · intro K hK
                refine step_store_pfx rfl (.tmp 10) (.tmp 20) rfl rfl rfl hq (length_zeros 16) hQl ?_
                intro v43 hR hO
                have hP := hHeld
                have hS : Below w.heap.size w v43 ∧ Ry v43 w.heap.size a ∧ Ry v43 (w.heap.size + 1) b := ⟨hP.1.trans (hO.below (by omega) hP.1.size), hP.2.1.only hO (hP.2.1.lt ha) (by omega), hP.2.2.only hO (hP.2.2.lt hbl) (by omega)⟩
                have hqq := hR.out
                have hpp := hpp.only hO (hpp.lt hPl) (by omega)
                clear hHeld hP hO hR
                refine hK.out _ _ hS (fun hHeld => ?_)
                clear hK K hS
                try simp only [Act.put, List.setIfInBounds_toArray, List.set_cons_zero, List.set_cons_succ]
                refine wpAnyH_done (by kernel_rfl) ?_ _
                go_wp2_with fail
                go_meet
                exact ⟨_, _, rfl, rfl, hpp, hqq, hHeld.2.1, hHeld.2.2, hHeld.1⟩
    · intro K hK
      go_simp
      have hP := hHeld
      have hx := (Below.refl v0.heap.size v0).alloc (Nat.le_refl _) (.cells #[.int .u8 0, .int .u8 0, .int .u8 0, .int .u8 0, .int .u8 0, .int .u8 0, .int .u8 0, .int .u8 0, .int .u8 0, .int .u8 0, .int .u8 0, .int .u8 0, .int .u8 0, .int .u8 0, .int .u8 0, .int .u8 0, .int .i64 0] 35)
      have hS : Below w.heap.size w (v0.alloc (.cells #[.int .u8 0, .int .u8 0, .int .u8 0, .int .u8 0, .int .u8 0, .int .u8 0, .int .u8 0, .int .u8 0, .int .u8 0, .int .u8 0, .int .u8 0, .int .u8 0, .int .u8 0, .int .u8 0, .int .u8 0, .int .u8 0, .int .i64 0] 35)) ∧ Ry (v0.alloc (.cells #[.int .u8 0, .int .u8 0, .int .u8 0, .int .u8 0, .int .u8 0, .int .u8 0, .int .u8 0, .int .u8 0, .int .u8 0, .int .u8 0, .int .u8 0, .int .u8 0, .int .u8 0, .int .u8 0, .int .u8 0, .int .u8 0, .int .i64 0] 35)) w.heap.size a ∧ Ry (v0.alloc (.cells #[.int .u8 0, .int .u8 0, .int .u8 0, .int .u8 0, .int .u8 0, .int .u8 0, .int .u8 0, .int .u8 0, .int .u8 0, .int .u8 0, .int .u8 0, .int .u8 0, .int .u8 0, .int .u8 0, .int .u8 0, .int .u8 0, .int .i64 0] 35)) (w.heap.size + 1) b := ⟨hP.1.alloc hP.1.size (.cells #[.int .u8 0, .int .u8 0, .int .u8 0, .int .u8 0, .int .u8 0, .int .u8 0, .int .u8 0, .int .u8 0, .int .u8 0, .int .u8 0, .int .u8 0, .int .u8 0, .int .u8 0, .int .u8 0, .int .u8 0, .int .u8 0, .int .i64 0] 35), hP.2.1.below hx (hP.2.1.lt ha), hP.2.2.below hx (hP.2.2.lt hbl)⟩
      have hqa := hP.2.1.lt ha
      have hqb := hP.2.2.lt hbl
      have hq := Pk.zero v0
      clear hHeld hP hx
      refine hK.out _ _ hS (fun hHeld => ?_)
      clear hK K hS
      try simp only [Act.put, List.setIfInBounds_toArray, List.set_cons_zero, List.set_cons_succ]
      generalize v0.alloc (.cells #[.int .u8 0, .int .u8 0, .int .u8 0, .int .u8 0, .int .u8 0, .int .u8 0, .int .u8 0, .int .u8 0, .int .u8 0, .int .u8 0, .int .u8 0, .int .u8 0, .int .u8 0, .int .u8 0, .int .u8 0, .int .u8 0, .int .i64 0] 35) = v44 at hHeld hq ⊢
      refine wpAnyH_ready (rs := [2, 6]) (by kernel_rfl) (by simp) ?_
      refine (AllReadyH.cons (o := ⟨some 17, _, _, _, _, _⟩) rfl ?_ (AllReadyH.cons (o := ⟨some 9, _, _, _, _, _⟩) rfl ?_ AllReadyH.nil))
      · intro K hK
        go_simp
        have hP := hHeld
        with_reducible refine (cm _).mono ?_
        rintro e v45 ⟨rfl, hb⟩
        have hS : Below w.heap.size w v45 ∧ Ry v45 w.heap.size a ∧ Ry v45 (w.heap.size + 1) b := ⟨hP.1.trans (hb.mono hP.1.size), hP.2.1.below hb (hP.2.1.lt ha), hP.2.2.below hb (hP.2.2.lt hbl)⟩
        have hq := hq.below hb hq.lt
        go_wp2_with fail
        clear hHeld hP hb
        refine hK.out _ _ hS (fun hHeld => ?_)
        clear hK K hS
        try simp only [Act.put, List.setIfInBounds_toArray, List.set_cons_zero, List.set_cons_succ]
        refine wpAnyH_ready (rs := [5, 6]) (by kernel_rfl) (by simp) ?_
        refine (AllReadyH.cons (o := ⟨some 20, _, _, _, _, _⟩) rfl ?_ (AllReadyH.cons (o := ⟨some 9, _, _, _, _, _⟩) rfl ?_ AllReadyH.nil))
        · intro K hK
          go_simp
          have hP := hHeld
          with_reducible refine (cn _).mono ?_
          rintro e v46 ⟨rfl, hb⟩
          have hS : Below w.heap.size w v46 ∧ Ry v46 w.heap.size a ∧ Ry v46 (w.heap.size + 1) b := ⟨hP.1.trans (hb.mono hP.1.size), hP.2.1.below hb (hP.2.1.lt ha), hP.2.2.below hb (hP.2.2.lt hbl)⟩
          have hq := hq.below hb hq.lt
          go_wp2_with fail
          clear hHeld hP hb
          refine hK.out _ _ hS (fun hHeld => ?_)
          clear hK K hS
          try simp only [Act.put, List.setIfInBounds_toArray, List.set_cons_zero, List.set_cons_succ]
          refine wpAnyH_ready (rs := [6]) (by kernel_rfl) (by simp) ?_
          refine (AllReadyH.cons (o := ⟨some 9, _, _, _, _, _⟩) rfl ?_ AllReadyH.nil)
          · intro K hK
            go_simp
            have hP := hHeld
            have hx := (Below.refl v46.heap.size v46).alloc (Nat.le_refl _) (.cells #[.int .u8 0, .int .u8 0, .int .u8 0, .int .u8 0, .int .u8 0, .int .u8 0, .int .u8 0, .int .u8 0, .int .u8 0, .int .u8 0, .int .u8 0, .int .u8 0, .int .u8 0, .int .u8 0, .int .u8 0, .int .u8 0, .int .i64 0] 35)
            have hS : Below w.heap.size w (v46.alloc (.cells #[.int .u8 0, .int .u8 0, .int .u8 0, .int .u8 0, .int .u8 0, .int .u8 0, .int .u8 0, .int .u8 0, .int .u8 0, .int .u8 0, .int .u8 0, .int .u8 0, .int .u8 0, .int .u8 0, .int .u8 0, .int .u8 0, .int .i64 0] 35)) ∧ Ry (v46.alloc (.cells #[.int .u8 0, .int .u8 0, .int .u8 0, .int .u8 0, .int .u8 0, .int .u8 0, .int .u8 0, .int .u8 0, .int .u8 0, .int .u8 0, .int .u8 0, .int .u8 0, .int .u8 0, .int .u8 0, .int .u8 0, .int .u8 0, .int .i64 0] 35)) w.heap.size a ∧ Ry (v46.alloc (.cells #[.int .u8 0, .int .u8 0, .int .u8 0, .int .u8 0, .int .u8 0, .int .u8 0, .int .u8 0, .int .u8 0, .int .u8 0, .int .u8 0, .int .u8 0, .int .u8 0, .int .u8 0, .int .u8 0, .int .u8 0, .int .u8 0, .int .i64 0] 35)) (w.heap.size + 1) b := ⟨hP.1.alloc hP.1.size (.cells #[.int .u8 0, .int .u8 0, .int .u8 0, .int .u8 0, .int .u8 0, .int .u8 0, .int .u8 0, .int .u8 0, .int .u8 0, .int .u8 0, .int .u8 0, .int .u8 0, .int .u8 0, .int .u8 0, .int .u8 0, .int .u8 0, .int .i64 0] 35), hP.2.1.below hx (hP.2.1.lt ha), hP.2.2.below hx (hP.2.2.lt hbl)⟩
            have hpa := hP.2.1.lt ha
            have hpb := hP.2.2.lt hbl
            have hne := Nat.ne_of_lt hq.lt
            have hq := hq.below hx hq.lt
            have hp := Pk.zero v46
            clear hHeld hP hx
            refine hK.out _ _ hS (fun hHeld => ?_)
            clear hK K hS
            try simp only [Act.put, List.setIfInBounds_toArray, List.set_cons_zero, List.set_cons_succ]
            generalize v46.alloc (.cells #[.int .u8 0, .int .u8 0, .int .u8 0, .int .u8 0, .int .u8 0, .int .u8 0, .int .u8 0, .int .u8 0, .int .u8 0, .int .u8 0, .int .u8 0, .int .u8 0, .int .u8 0, .int .u8 0, .int .u8 0, .int .u8 0, .int .i64 0] 35) = v47 at hHeld hp hq ⊢
            refine wpAnyH_ready (rs := [8]) (by kernel_rfl) (by simp) ?_
            refine (AllReadyH.cons (o := ⟨none, _, _, _, _, _⟩) rfl ?_ AllReadyH.nil)
            · intro K hK
              refine step_store_pfx rfl (.tmp 9) (.tmp 17) rfl rfl rfl hp (length_zeros 16) hPl ?_
              intro v48 hR hO
              have hP := hHeld
              have hS : Below w.heap.size w v48 ∧ Ry v48 w.heap.size a ∧ Ry v48 (w.heap.size + 1) b := ⟨hP.1.trans (hO.below (by omega) hP.1.size), hP.2.1.only hO (hP.2.1.lt ha) (by omega), hP.2.2.only hO (hP.2.2.lt hbl) (by omega)⟩
              have hpp := hR.out
              have hq := hq.only hO hq.lt (by omega)
              clear hHeld hP hO hR
              refine hK.out _ _ hS (fun hHeld => ?_)
              clear hK K hS
              try simp only [Act.put, List.setIfInBounds_toArray, List.set_cons_zero, List.set_cons_succ]
              refine wpAnyH_ready (rs := [9]) (by kernel_rfl) (by simp) ?_
              refine (AllReadyH.cons (o := ⟨none, _, _, _, _, _⟩) rfl ?_ AllReadyH.nil)
              · intro K hK
                refine step_store_pfx rfl (.tmp 10) (.tmp 20) rfl rfl rfl hq (length_zeros 16) hQl ?_
                intro v49 hR hO
                have hP := hHeld
                have hS : Below w.heap.size w v49 ∧ Ry v49 w.heap.size a ∧ Ry v49 (w.heap.size + 1) b := ⟨hP.1.trans (hO.below (by omega) hP.1.size), hP.2.1.only hO (hP.2.1.lt ha) (by omega), hP.2.2.only hO (hP.2.2.lt hbl) (by omega)⟩
                have hqq := hR.out
                have hpp := hpp.only hO (hpp.lt hPl) (by omega)
                clear hHeld hP hO hR
                refine hK.out _ _ hS (fun hHeld => ?_)
                clear hK K hS
                try simp only [Act.put, List.setIfInBounds_toArray, List.set_cons_zero, List.set_cons_succ]
                refine wpAnyH_done (by kernel_rfl) ?_ _
                go_wp2_with fail
                go_meet
                exact ⟨_, _, rfl, rfl, hpp, hqq, hHeld.2.1, hHeld.2.2, hHeld.1⟩
        · intro K hK
          go_simp
          have hP := hHeld
          have hx := (Below.refl v45.heap.size v45).alloc (Nat.le_refl _) (.cells #[.int .u8 0, .int .u8 0, .int .u8 0, .int .u8 0, .int .u8 0, .int .u8 0, .int .u8 0, .int .u8 0, .int .u8 0, .int .u8 0, .int .u8 0, .int .u8 0, .int .u8 0, .int .u8 0, .int .u8 0, .int .u8 0, .int .i64 0] 35)
          have hS : Below w.heap.size w (v45.alloc (.cells #[.int .u8 0, .int .u8 0, .int .u8 0, .int .u8 0, .int .u8 0, .int .u8 0, .int .u8 0, .int .u8 0, .int .u8 0, .int .u8 0, .int .u8 0, .int .u8 0, .int .u8 0, .int .u8 0, .int .u8 0, .int .u8 0, .int .i64 0] 35)) ∧ Ry (v45.alloc (.cells #[.int .u8 0, .int .u8 0, .int .u8 0, .int .u8 0, .int .u8 0, .int .u8 0, .int .u8 0, .int .u8 0, .int .u8 0, .int .u8 0, .int .u8 0, .int .u8 0, .int .u8 0, .int .u8 0, .int .u8 0, .int .u8 0, .int .i64 0] 35)) w.heap.size a ∧ Ry (v45.alloc (.cells #[.int .u8 0, .int .u8 0, .int .u8 0, .int .u8 0, .int .u8 0, .int .u8 0, .int .u8 0, .int .u8 0, .int .u8 0, .int .u8 0, .int .u8 0, .int .u8 0, .int .u8 0, .int .u8 0, .int .u8 0, .int .u8 0, .int .i64 0] 35)) (w.heap.size + 1) b := ⟨hP.1.alloc hP.1.size (.cells #[.int .u8 0, .int .u8 0, .int .u8 0, .int .u8 0, .int .u8 0, .int .u8 0, .int .u8 0, .int .u8 0, .int .u8 0, .int .u8 0, .int .u8 0, .int .u8 0, .int .u8 0, .int .u8 0, .int .u8 0, .int .u8 0, .int .i64 0] 35), hP.2.1.below hx (hP.2.1.lt ha), hP.2.2.below hx (hP.2.2.lt hbl)⟩
          have hpa := hP.2.1.lt ha
          have hpb := hP.2.2.lt hbl
          have hne := Nat.ne_of_lt hq.lt
          have hq := hq.below hx hq.lt
          have hp := Pk.zero v45
          clear hHeld hP hx
          refine hK.out _ _ hS (fun hHeld => ?_)
          clear hK K hS
          try simp only [Act.put, List.setIfInBounds_toArray, List.set_cons_zero, List.set_cons_succ]
          generalize v45.alloc (.cells #[.int .u8 0, .int .u8 0, .int .u8 0, .int .u8 0, .int .u8 0, .int .u8 0, .int .u8 0, .int .u8 0, .int .u8 0, .int .u8 0, .int .u8 0, .int .u8 0, .int .u8 0, .int .u8 0, .int .u8 0, .int .u8 0, .int .i64 0] 35) = v50 at hHeld hp hq ⊢
          refine wpAnyH_ready (rs := [5]) (by kernel_rfl) (by simp) ?_
          refine (AllReadyH.cons (o := ⟨some 20, _, _, _, _, _⟩) rfl ?_ AllReadyH.nil)
          · intro K hK
            go_simp
            have hP := hHeld
            with_reducible refine (cn _).mono ?_
            rintro e v51 ⟨rfl, hb⟩
            have hS : Below w.heap.size w v51 ∧ Ry v51 w.heap.size a ∧ Ry v51 (w.heap.size + 1) b := ⟨hP.1.trans (hb.mono hP.1.size), hP.2.1.below hb (hP.2.1.lt ha), hP.2.2.below hb (hP.2.2.lt hbl)⟩
            have hp := hp.below hb hp.lt
            have hq := hq.below hb hq.lt
            go_wp2_with fail
            clear hHeld hP hb
            refine hK.out _ _ hS (fun hHeld => ?_)
            clear hK K hS
            try simp only [Act.put, List.setIfInBounds_toArray, List.set_cons_zero, List.set_cons_succ]
            refine wpAnyH_ready (rs := [8]) (by kernel_rfl) (by simp) ?_
            refine (AllReadyH.cons (o := ⟨none, _, _, _, _, _⟩) rfl ?_ AllReadyH.nil)
            · intro K hK
              refine step_store_pfx rfl (.tmp 9) (.tmp 17) rfl rfl rfl hp (length_zeros 16) hPl ?_
              intro v52 hR hO
              have hP := hHeld
              have hS : Below w.heap.size w v52 ∧ Ry v52 w.heap.size a ∧ Ry v52 (w.heap.size + 1) b := ⟨hP.1.trans (hO.below (by omega) hP.1.size), hP.2.1.only hO (hP.2.1.lt ha) (by omega), hP.2.2.only hO (hP.2.2.lt hbl) (by omega)⟩
              have hpp := hR.out
              have hq := hq.only hO hq.lt (by omega)
              clear hHeld hP hO hR
              refine hK.out _ _ hS (fun hHeld => ?_)
              clear hK K hS
              try simp only [Act.put, List.setIfInBounds_toArray, List.set_cons_zero, List.set_cons_succ]
              refine wpAnyH_ready (rs := [9]) (by kernel_rfl) (by simp) ?_
              refine (AllReadyH.cons (o := ⟨none, _, _, _, _, _⟩) rfl ?_ AllReadyH.nil)
              · intro K hK
                refine step_store_pfx rfl (.tmp 10) (.tmp 20) rfl rfl rfl hq (length_zeros 16) hQl ?_
                intro v53 hR hO
                have hP := hHeld
                have hS : Below w.heap.size w v53 ∧ Ry v53 w.heap.size a ∧ Ry v53 (w.heap.size + 1) b := ⟨hP.1.trans (hO.below (by omega) hP.1.size), hP.2.1.only hO (hP.2.1.lt ha) (by omega), hP.2.2.only hO (hP.2.2.lt hbl) (by omega)⟩
                have hqq := hR.out
                have hpp := hpp.only hO (hpp.lt hPl) (by omega)
                clear hHeld hP hO hR
                refine hK.out _ _ hS (fun hHeld => ?_)
                clear hK K hS
                try simp only [Act.put, List.setIfInBounds_toArray, List.set_cons_zero, List.set_cons_succ]
                refine wpAnyH_done (by kernel_rfl) ?_ _
                go_wp2_with fail
                go_meet
                exact ⟨_, _, rfl, rfl, hpp, hqq, hHeld.2.1, hHeld.2.2, hHeld.1⟩
      · intro K hK
        go_simp
        have hP := hHeld
        have hx := (Below.refl v44.heap.size v44).alloc (Nat.le_refl _) (.cells #[.int .u8 0, .int .u8 0, .int .u8 0, .int .u8 0, .int .u8 0, .int .u8 0, .int .u8 0, .int .u8 0, .int .u8 0, .int .u8 0, .int .u8 0, .int .u8 0, .int .u8 0, .int .u8 0, .int .u8 0, .int .u8 0, .int .i64 0] 35)
        have hS : Below w.heap.size w (v44.alloc (.cells #[.int .u8 0, .int .u8 0, .int .u8 0, .int .u8 0, .int .u8 0, .int .u8 0, .int .u8 0, .int .u8 0, .int .u8 0, .int .u8 0, .int .u8 0, .int .u8 0, .int .u8 0, .int .u8 0, .int .u8 0, .int .u8 0, .int .i64 0] 35)) ∧ Ry (v44.alloc (.cells #[.int .u8 0, .int .u8 0, .int .u8 0, .int .u8 0, .int .u8 0, .int .u8 0, .int .u8 0, .int .u8 0, .int .u8 0, .int .u8 0, .int .u8 0, .int .u8 0, .int .u8 0, .int .u8 0, .int .u8 0, .int .u8 0, .int .i64 0] 35)) w.heap.size a ∧ Ry (v44.alloc (.cells #[.int .u8 0, .int .u8 0, .int .u8 0, .int .u8 0, .int .u8 0, .int .u8 0, .int .u8 0, .int .u8 0, .int .u8 0, .int .u8 0, .int .u8 0, .int .u8 0, .int .u8 0, .int .u8 0, .int .u8 0, .int .u8 0, .int .i64 0] 35)) (w.heap.size + 1) b := ⟨hP.1.alloc hP.1.size (.cells #[.int .u8 0, .int .u8 0, .int .u8 0, .int .u8 0, .int .u8 0, .int .u8 0, .int .u8 0, .int .u8 0, .int .u8 0, .int .u8 0, .int .u8 0, .int .u8 0, .int .u8 0, .int .u8 0, .int .u8 0, .int .u8 0, .int .i64 0] 35), hP.2.1.below hx (hP.2.1.lt ha), hP.2.2.below hx (hP.2.2.lt hbl)⟩
        have hpa := hP.2.1.lt ha
        have hpb := hP.2.2.lt hbl
        have hne := Nat.ne_of_lt hq.lt
        have hq := hq.below hx hq.lt
        have hp := Pk.zero v44
        clear hHeld hP hx
        refine hK.out _ _ hS (fun hHeld => ?_)
        clear hK K hS
        try simp only [Act.put, List.setIfInBounds_toArray, List.set_cons_zero, List.set_cons_succ]
        generalize v44.alloc (.cells #[.int .u8 0, .int .u8 0, .int .u8 0, .int .u8 0, .int .u8 0, .int .u8 0, .int .u8 0, .int .u8 0, .int .u8 0, .int .u8 0, .int .u8 0, .int .u8 0, .int .u8 0, .int .u8 0, .int .u8 0, .int .u8 0, .int .i64 0] 35) = v54 at hHeld hp hq ⊢
        refine wpAnyH_ready (rs := [2]) (by kernel_rfl) (by simp) ?_
        refine (AllReadyH.cons (o := ⟨some 17, _, _, _, _, _⟩) rfl ?_ AllReadyH.nil)
        · intro K hK
          go_simp
          have hP := hHeld
          with_reducible refine (cm _).mono ?_
          rintro e v55 ⟨rfl, hb⟩
          have hS : Below w.heap.size w v55 ∧ Ry v55 w.heap.size a ∧ Ry v55 (w.heap.size + 1) b := ⟨hP.1.trans (hb.mono hP.1.size), hP.2.1.below hb (hP.2.1.lt ha), hP.2.2.below hb (hP.2.2.lt hbl)⟩
          have hp := hp.below hb hp.lt
          have hq := hq.below hb hq.lt
          go_wp2_with fail
          clear hHeld hP hb
          refine hK.out _ _ hS (fun hHeld => ?_)
          clear hK K hS
          try simp only [Act.put, List.setIfInBounds_toArray, List.set_cons_zero, List.set_cons_succ]
          refine wpAnyH_ready (rs := [5]) (by kernel_rfl) (by simp) ?_
          refine (AllReadyH.cons (o := ⟨some 20, _, _, _, _, _⟩) rfl ?_ AllReadyH.nil)
          · intro K hK
            go_simp
            have hP := hHeld
            with_reducible refine (cn _).mono ?_
            rintro e v56 ⟨rfl, hb⟩
            have hS : Below w.heap.size w v56 ∧ Ry v56 w.heap.size a ∧ Ry v56 (w.heap.size + 1) b := ⟨hP.1.trans (hb.mono hP.1.size), hP.2.1.below hb (hP.2.1.lt ha), hP.2.2.below hb (hP.2.2.lt hbl)⟩
            have hp := hp.below hb hp.lt
            have hq := hq.below hb hq.lt
            go_wp2_with fail
            clear hHeld hP hb
            refine hK.out _ _ hS (fun hHeld => ?_)
            clear hK K hS
            try simp only [Act.put, List.setIfInBounds_toArray, List.set_cons_zero, List.set_cons_succ]
            refine wpAnyH_ready (rs := [8]) (by kernel_rfl) (by simp) ?_
            refine (AllReadyH.cons (o := ⟨none, _, _, _, _, _⟩) rfl ?_ AllReadyH.nil)
            · intro K hK
              refine step_store_pfx rfl (.tmp 9) (.tmp 17) rfl rfl rfl hp (length_zeros 16) hPl ?_
              intro v57 hR hO
              have hP := hHeld
              have hS : Below w.heap.size w v57 ∧ Ry v57 w.heap.size a ∧ Ry v57 (w.heap.size + 1) b := ⟨hP.1.trans (hO.below (by omega) hP.1.size), hP.2.1.only hO (hP.2.1.lt ha) (by omega), hP.2.2.only hO (hP.2.2.lt hbl) (by omega)⟩
              have hpp := hR.out
              have hq := hq.only hO hq.lt (by omega)
              clear hHeld hP hO hR
              refine hK.out _ _ hS (fun hHeld => ?_)
              clear hK K hS
              try simp only [Act.put, List.setIfInBounds_toArray, List.set_cons_zero, List.set_cons_succ]
              refine wpAnyH_ready (rs := [9]) (by kernel_rfl) (by simp) ?_
              refine (AllReadyH.cons (o := ⟨none, _, _, _, _, _⟩) rfl ?_ AllReadyH.nil)
              · intro K hK
                refine step_store_pfx rfl (.tmp 10) (.tmp 20) rfl rfl rfl hq (length_zeros 16) hQl ?_
                intro v58 hR hO
                have hP := hHeld
                have hS : Below w.heap.size w v58 ∧ Ry v58 w.heap.size a ∧ Ry v58 (w.heap.size + 1) b := ⟨hP.1.trans (hO.below (by omega) hP.1.size), hP.2.1.only hO (hP.2.1.lt ha) (by omega), hP.2.2.only hO (hP.2.2.lt hbl) (by omega)⟩
                have hqq := hR.out
                have hpp := hpp.only hO (hpp.lt hPl) (by omega)
                clear hHeld hP hO hR
                refine hK.out _ _ hS (fun hHeld => ?_)
                clear hK K hS
                try simp only [Act.put, List.setIfInBounds_toArray, List.set_cons_zero, List.set_cons_succ]
                refine wpAnyH_done (by kernel_rfl) ?_ _
                go_wp2_with fail
                go_meet
                exact ⟨_, _, rfl, rfl, hpp, hqq, hHeld.2.1, hHeld.2.2, hHeld.1⟩
  case rest =>
    obtain ⟨gp, gq, rfl, rfl, hP, hQ, hA, hBb, hBw⟩ := hcut
    have hM8 : M ≤ 128 := by omega
    have hN8 : N ≤ 128 := by omega
    obtain ⟨k, hkd⟩ : ∃ k : Nat, k = min M N := ⟨_, rfl⟩
    have hk8 : k ≤ 128 := by omega
    have ik : I64 (k : Int) := by unfold I64; omega
    have q1 := fun w => validp_any (mL a M) hPl M iM w
    rw [con_sub a ha M M hM8 (Nat.le_refl _)] at q1
    have q2 := fun w => contains_any (mL a M) a hPl ha M iM w
    rw [con_self a M hM8] at q2
    have q3 := fun w => covers_any (mL a M) (mL a N) hPl hQl M N iM iN w
    rw [cov_le a ha M N hM8 hN8] at q3
    have q4 := fun w => mask_any (mL a N) hQl k ik w
    rw [clamp_nat k hk8, mL_mL a ha k N (by omega)] at q4
    have q5 := fun w => mask_any a ha k ik w
    rw [clamp_nat k hk8] at q5
    have q6 := fun w => contains_any (mL a M) b hPl hbl M iM w
    rw [con_com a b ha hbl M hM8] at q6
    have q7 := fun w => common_any a b ha hbl w
    have hRl := length_mL a k
    generalize hc : decide ((M : Int) ≤ N) = c at q3
    generalize hd : decide ((comV a b : Int) ≥ M) = d at q6
    generalize mL a M = PL at *
    generalize mL a N = QL at *
    generalize mL a k = RL at *
    generalize comV a b = cv at *
    have st : ∀ {u u' : World}, (Below w.heap.size w u ∧ Pr u gp PL M ∧ Pr u gq QL N ∧ Ry u w.heap.size a ∧ Ry u (w.heap.size + 1) b) → Below u.heap.size u u' → (Below w.heap.size w u' ∧ Pr u' gp PL M ∧ Pr u' gq QL N ∧ Ry u' w.heap.size a ∧ Ry u' (w.heap.size + 1) b) :=
      fun h hb => ⟨h.1.trans (hb.mono h.1.size), h.2.1.below hb (h.2.1.lt hPl), h.2.2.1.below hb (h.2.2.1.lt hQl), h.2.2.2.1.below hb (h.2.2.2.1.lt ha), h.2.2.2.2.below hb (h.2.2.2.2.lt hbl)⟩
    have hc2 : decide (M ≤ N) = c := by rw [← hc]; simp
    have hd2 : decide (M ≤ cv) = d := by rw [← hd]; simp
    have HK := hid hkd
    clear cm cn d1 d2 hRa hRb hB hkd
    go_wp2_with fail
    refine wp_region_held_drew (S := fun w' => Below w.heap.size w w' ∧ Pr w' gp PL M ∧ Pr w' gq QL N ∧ Ry w' w.heap.size a ∧ Ry w' (w.heap.size + 1) b) (by kernel_rfl) (⟨below_drewN hBw 1, hP.drew, hQ.drew, hA.drew, hBb.drew⟩) (fun hHeld => ?_)
    refine wpAnyH_ready (rs := [0]) (by kernel_rfl) (by simp) ?_
    refine AllReadyH.cons (o := ⟨some 21, _, _, _, _, _⟩) rfl (fun K hK => ?_) AllReadyH.nil
    go_simp
    have hP := hHeld
    with_reducible refine (known_any _ (G.below hHeld.1 G.big)).mono ?_
    rintro e0 u0 ⟨rfl, hb⟩
    have hS := st hP hb
    go_wp2_with fail
    clear hP hb
    go_wp2_with fail
    clear hHeld
    refine hK.out _ _ (hS) (fun hHeld => ?_)
    clear hK K
    try simp only [Act.put, List.setIfInBounds_toArray, List.set_cons_zero, List.set_cons_succ]
    refine wpAnyH_take (i := 1) (oi := ⟨some 22, _, _, _, _, _⟩) (v := ?_) rfl (by kernel_rfl) (by kernel_rfl) (by kernel_rfl) (fun _ _ _ h => h) (Or.inl ⟨by rfl, ?_⟩) hHeld ?_
    rotate_left
    · intro w hSw; go_simp; try with_reducible rfl
    try simp only [Act.put, List.setIfInBounds_toArray, List.set_cons_zero, List.set_cons_succ]
    refine wpAnyH_pfx (g := gp) (l := PL) (n := M) (i := 2) (oi := ⟨some 23, _, _, _, _, _⟩) rfl (by kernel_rfl) (by kernel_rfl) (by kernel_rfl) (fun _ _ _ h => h) (by rfl) (.tmp 9) rfl rfl hPl (fun _ h => h.2.1) hHeld ?_
    try simp only [Act.put, List.setIfInBounds_toArray, List.set_cons_zero, List.set_cons_succ]
    refine wpAnyH_ready (rs := [3]) (by kernel_rfl) (by simp) ?_
    refine AllReadyH.cons (o := ⟨some 24, _, _, _, _, _⟩) rfl (fun K hK => ?_) AllReadyH.nil
    go_simp
    have hP := hHeld
    with_reducible refine (q1 _).mono ?_
    rintro e3 u3 ⟨rfl, hb⟩
    have hS := st hP hb
    go_wp2_with fail
    clear hP hb
    go_wp2_with fail
    clear hHeld
    refine hK.out _ _ (hS) (fun hHeld => ?_)
    clear hK K
    try simp only [Act.put, List.setIfInBounds_toArray, List.set_cons_zero, List.set_cons_succ]
    refine wpAnyH_take (i := 4) (oi := ⟨some 25, _, _, _, _, _⟩) (v := ?_) rfl (by kernel_rfl) (by kernel_rfl) (by kernel_rfl) (fun _ _ _ h => h) (Or.inl ⟨by rfl, ?_⟩) hHeld ?_
    rotate_left
    · intro w hSw; go_simp; try with_reducible rfl
    try simp only [Act.put, List.setIfInBounds_toArray, List.set_cons_zero, List.set_cons_succ]
    refine wpAnyH_take (i := 5) (oi := ⟨some 26, _, _, _, _, _⟩) (v := ?_) rfl (by kernel_rfl) (by kernel_rfl) (by kernel_rfl) (fun _ _ _ h => h) (Or.inl ⟨by rfl, ?_⟩) hHeld ?_
    rotate_left
    · intro w hSw; go_simp; try with_reducible rfl
    try simp only [Act.put, List.setIfInBounds_toArray, List.set_cons_zero, List.set_cons_succ]
    refine wpAnyH_pfx (g := gp) (l := PL) (n := M) (i := 6) (oi := ⟨some 27, _, _, _, _, _⟩) rfl (by kernel_rfl) (by kernel_rfl) (by kernel_rfl) (fun _ _ _ h => h) (by rfl) (.tmp 9) rfl rfl hPl (fun _ h => h.2.1) hHeld ?_
    try simp only [Act.put, List.setIfInBounds_toArray, List.set_cons_zero, List.set_cons_succ]
    refine wpAnyH_ip (g := w.heap.size) (l := a) (i := 7) (oi := ⟨some 28, _, _, _, _, _⟩) rfl (by kernel_rfl) (by kernel_rfl) (by kernel_rfl) (fun _ _ _ h => h) (by rfl) (.tmp 4) rfl rfl ha (fun _ h => h.2.2.2.1) hHeld ?_
    try simp only [Act.put, List.setIfInBounds_toArray, List.set_cons_zero, List.set_cons_succ]
    refine wpAnyH_ready (rs := [8]) (by kernel_rfl) (by simp) ?_
    refine AllReadyH.cons (o := ⟨some 29, _, _, _, _, _⟩) rfl (fun K hK => ?_) AllReadyH.nil
    go_simp
    have hP := hHeld
    with_reducible refine (q2 _).mono ?_
    rintro e8 u8 ⟨rfl, hb⟩
    have hS := st hP hb
    go_wp2_with fail
    clear hP hb
    go_wp2_with fail
    clear hHeld
    refine hK.out _ _ (hS) (fun hHeld => ?_)
    clear hK K
    try simp only [Act.put, List.setIfInBounds_toArray, List.set_cons_zero, List.set_cons_succ]
    refine wpAnyH_take (i := 9) (oi := ⟨some 30, _, _, _, _, _⟩) (v := ?_) rfl (by kernel_rfl) (by kernel_rfl) (by kernel_rfl) (fun _ _ _ h => h) (Or.inl ⟨by rfl, ?_⟩) hHeld ?_
    rotate_left
    · intro w hSw; go_simp; try with_reducible rfl
    try simp only [Act.put, List.setIfInBounds_toArray, List.set_cons_zero, List.set_cons_succ]
    refine wpAnyH_take (i := 10) (oi := ⟨some 31, _, _, _, _, _⟩) (v := ?_) rfl (by kernel_rfl) (by kernel_rfl) (by kernel_rfl) (fun _ _ _ h => h) (Or.inl ⟨by rfl, ?_⟩) hHeld ?_
    rotate_left
    · intro w hSw; go_simp; try with_reducible rfl
    try simp only [Act.put, List.setIfInBounds_toArray, List.set_cons_zero, List.set_cons_succ]
    refine wpAnyH_pfx (g := gp) (l := PL) (n := M) (i := 11) (oi := ⟨some 32, _, _, _, _, _⟩) rfl (by kernel_rfl) (by kernel_rfl) (by kernel_rfl) (fun _ _ _ h => h) (by rfl) (.tmp 9) rfl rfl hPl (fun _ h => h.2.1) hHeld ?_
    try simp only [Act.put, List.setIfInBounds_toArray, List.set_cons_zero, List.set_cons_succ]
    refine wpAnyH_pfx (g := gq) (l := QL) (n := N) (i := 12) (oi := ⟨some 33, _, _, _, _, _⟩) rfl (by kernel_rfl) (by kernel_rfl) (by kernel_rfl) (fun _ _ _ h => h) (by rfl) (.tmp 10) rfl rfl hQl (fun _ h => h.2.2.1) hHeld ?_
    try simp only [Act.put, List.setIfInBounds_toArray, List.set_cons_zero, List.set_cons_succ]
    refine wpAnyH_take (i := 14) (oi := ⟨some 35, _, _, _, _, _⟩) (v := ?_) rfl (by kernel_rfl) (by kernel_rfl) (by kernel_rfl) (fun _ _ _ h => h) (Or.inl ⟨by rfl, ?_⟩) hHeld ?_
    rotate_left
    · intro w hSw; go_simp; try with_reducible rfl
    try simp only [Act.put, List.setIfInBounds_toArray, List.set_cons_zero, List.set_cons_succ]
    refine wpAnyH_take (i := 15) (oi := ⟨some 36, _, _, _, _, _⟩) (v := ?_) rfl (by kernel_rfl) (by kernel_rfl) (by kernel_rfl) (fun _ _ _ h => h) (Or.inl ⟨by rfl, ?_⟩) hHeld ?_
    rotate_left
    · intro w hSw; go_simp; try with_reducible rfl
    try simp only [Act.put, List.setIfInBounds_toArray, List.set_cons_zero, List.set_cons_succ]
    refine wpAnyH_take (i := 16) (oi := ⟨some 37, _, _, _, _, _⟩) (v := .bool c) rfl (by kernel_rfl) (by kernel_rfl) (by kernel_rfl) (fun _ _ _ h => h) (Or.inl ⟨by rfl, ?_⟩) hHeld ?_
    · intro w hSw; go_simp
    try simp only [Act.put, List.setIfInBounds_toArray, List.set_cons_zero, List.set_cons_succ]
    refine wpAnyH_ready (rs := [13]) (by kernel_rfl) (by simp) ?_
    refine AllReadyH.cons (o := ⟨some 34, _, _, _, _, _⟩) rfl (fun K hK => ?_) AllReadyH.nil
    go_simp
    have hP := hHeld
    with_reducible refine (q3 _).mono ?_
    rintro e13 u13 ⟨rfl, hb⟩
    have hS := st hP hb
    go_wp2_with fail
    clear hP hb
    go_wp2_with fail
    clear hHeld
    refine hK.out _ _ (hS) (fun hHeld => ?_)
    clear hK K
    try simp only [Act.put, List.setIfInBounds_toArray, List.set_cons_zero, List.set_cons_succ]
    refine wpAnyH_take (i := 17) (oi := ⟨some 38, _, _, _, _, _⟩) (v := .bool true) rfl (by kernel_rfl) (by kernel_rfl) (by kernel_rfl) (fun _ _ _ h => h) (Or.inl ⟨by rfl, ?_⟩) hHeld ?_
    · intro w hSw; go_simp; try simp
    try simp only [Act.put, List.setIfInBounds_toArray, List.set_cons_zero, List.set_cons_succ]
    refine wpAnyH_take (i := 18) (oi := ⟨some 39, _, _, _, _, _⟩) (v := ?_) rfl (by kernel_rfl) (by kernel_rfl) (by kernel_rfl) (fun _ _ _ h => h) (Or.inl ⟨by rfl, ?_⟩) hHeld ?_
    rotate_left
    · intro w hSw; go_simp; try with_reducible rfl
    try simp only [Act.put, List.setIfInBounds_toArray, List.set_cons_zero, List.set_cons_succ]
    refine wpAnyH_take (i := 19) (oi := ⟨some 40, _, _, _, _, _⟩) (v := ?_) rfl (by kernel_rfl) (by kernel_rfl) (by kernel_rfl) (fun _ _ _ h => h) (Or.inl ⟨by rfl, ?_⟩) hHeld ?_
    rotate_left
    · intro w hSw; go_simp; try with_reducible rfl
    try simp only [Act.put, List.setIfInBounds_toArray, List.set_cons_zero, List.set_cons_succ]
    refine wpAnyH_take (i := 20) (oi := ⟨some 41, _, _, _, _, _⟩) (v := ?_) rfl (by kernel_rfl) (by kernel_rfl) (by kernel_rfl) (fun _ _ _ h => h) (Or.inl ⟨by rfl, ?_⟩) hHeld ?_
    rotate_left
    · intro w hSw; go_simp; try with_reducible rfl
    try simp only [Act.put, List.setIfInBounds_toArray, List.set_cons_zero, List.set_cons_succ]
    refine wpAnyH_ip (g := gq) (l := QL) (i := 21) (oi := ⟨some 42, _, _, _, _, _⟩) rfl (by kernel_rfl) (by kernel_rfl) (by kernel_rfl) (fun _ _ _ h => h) (by rfl) (.tmp 41) rfl rfl hQl (fun _ h => h.2.2.1.ry) hHeld ?_
    try simp only [Act.put, List.setIfInBounds_toArray, List.set_cons_zero, List.set_cons_succ]
    refine wpAnyH_take (i := 22) (oi := ⟨some 43, _, _, _, _, _⟩) (v := ?_) rfl (by kernel_rfl) (by kernel_rfl) (by kernel_rfl) (fun _ _ _ h => h) (Or.inl ⟨by rfl, ?_⟩) hHeld ?_
    rotate_left
    · intro w hSw; go_simp; try with_reducible rfl
    try simp only [Act.put, List.setIfInBounds_toArray, List.set_cons_zero, List.set_cons_succ]
    refine wpAnyH_take (i := 23) (oi := ⟨some 44, _, _, _, _, _⟩) (v := ?_) rfl (by kernel_rfl) (by kernel_rfl) (by kernel_rfl) (fun _ _ _ h => h) (Or.inl ⟨by rfl, ?_⟩) hHeld ?_
    rotate_left
    · intro w hSw; go_simp; try with_reducible rfl
    try simp only [Act.put, List.setIfInBounds_toArray, List.set_cons_zero, List.set_cons_succ]
    refine wpAnyH_take (i := 24) (oi := ⟨some 45, _, _, _, _, _⟩) (v := .int .i64 k) rfl (by kernel_rfl) (by kernel_rfl) (by kernel_rfl) (fun _ _ _ h => h) (Or.inl ⟨by rfl, ?_⟩) hHeld ?_
    · intro w hSw; go_simp; have := HK.out; omega
    try simp only [Act.put, List.setIfInBounds_toArray, List.set_cons_zero, List.set_cons_succ]
    refine wpAnyH_ip (g := w.heap.size) (l := a) (i := 26) (oi := ⟨some 47, _, _, _, _, _⟩) rfl (by kernel_rfl) (by kernel_rfl) (by kernel_rfl) (fun _ _ _ h => h) (by rfl) (.tmp 4) rfl rfl ha (fun _ h => h.2.2.2.1) hHeld ?_
    try simp only [Act.put, List.setIfInBounds_toArray, List.set_cons_zero, List.set_cons_succ]
    refine wpAnyH_take (i := 27) (oi := ⟨some 48, _, _, _, _, _⟩) (v := ?_) rfl (by kernel_rfl) (by kernel_rfl) (by kernel_rfl) (fun _ _ _ h => h) (Or.inl ⟨by rfl, ?_⟩) hHeld ?_
    rotate_left
    · intro w hSw; go_simp; try with_reducible rfl
    try simp only [Act.put, List.setIfInBounds_toArray, List.set_cons_zero, List.set_cons_succ]
    refine wpAnyH_take (i := 28) (oi := ⟨some 49, _, _, _, _, _⟩) (v := ?_) rfl (by kernel_rfl) (by kernel_rfl) (by kernel_rfl) (fun _ _ _ h => h) (Or.inl ⟨by rfl, ?_⟩) hHeld ?_
    rotate_left
    · intro w hSw; go_simp; try with_reducible rfl
    try simp only [Act.put, List.setIfInBounds_toArray, List.set_cons_zero, List.set_cons_succ]
    refine wpAnyH_take (i := 29) (oi := ⟨some 50, _, _, _, _, _⟩) (v := .int .i64 k) rfl (by kernel_rfl) (by kernel_rfl) (by kernel_rfl) (fun _ _ _ h => h) (Or.inl ⟨by rfl, ?_⟩) hHeld ?_
    · intro w hSw; go_simp; have := HK.out; omega
    try simp only [Act.put, List.setIfInBounds_toArray, List.set_cons_zero, List.set_cons_succ]
    refine wpAnyH_ready (rs := [25]) (by kernel_rfl) (by simp) ?_
    refine AllReadyH.cons (o := ⟨some 46, _, _, _, _, _⟩) rfl (fun K hK => ?_) AllReadyH.nil
    go_simp
    have hP := hHeld
    with_reducible refine (q4 _).mono ?_
    rintro e25 u25 ⟨rfl, hb⟩
    have hS := st hP hb
    go_wp2_with fail
    clear hP hb
    go_wp2_with fail
    clear hHeld
    refine hK.out _ _ (hS) (fun hHeld => ?_)
    clear hK K
    try simp only [Act.put, List.setIfInBounds_toArray, List.set_cons_zero, List.set_cons_succ]
    refine wpAnyH_ready (rs := [30]) (by kernel_rfl) (by simp) ?_
    refine AllReadyH.cons (o := ⟨some 51, _, _, _, _, _⟩) rfl (fun K hK => ?_) AllReadyH.nil
    go_simp
    have hP := hHeld
    with_reducible refine (q5 _).mono ?_
    rintro e30 u30 ⟨rfl, hb⟩
    have hS := st hP hb
    go_wp2_with fail
    clear hP hb
    go_wp2_with fail
    clear hHeld
    refine hK.out _ _ (hS) (fun hHeld => ?_)
    clear hK K
    try simp only [Act.put, List.setIfInBounds_toArray, List.set_cons_zero, List.set_cons_succ]
    refine wpAnyH_take (i := 31) (oi := ⟨some 52, _, _, _, _, _⟩) (v := .bool true) rfl (by kernel_rfl) (by kernel_rfl) (by kernel_rfl) (fun _ _ _ h => h) (Or.inl ⟨by rfl, ?_⟩) hHeld ?_
    · intro w hSw; go_simp; simp [pfx_guarded, pfx_eql _ _ _ _ hRl hRl]
    try simp only [Act.put, List.setIfInBounds_toArray, List.set_cons_zero, List.set_cons_succ]
    refine wpAnyH_take (i := 32) (oi := ⟨some 53, _, _, _, _, _⟩) (v := ?_) rfl (by kernel_rfl) (by kernel_rfl) (by kernel_rfl) (fun _ _ _ h => h) (Or.inl ⟨by rfl, ?_⟩) hHeld ?_
    rotate_left
    · intro w hSw; go_simp; try with_reducible rfl
    try simp only [Act.put, List.setIfInBounds_toArray, List.set_cons_zero, List.set_cons_succ]
    refine wpAnyH_take (i := 33) (oi := ⟨some 54, _, _, _, _, _⟩) (v := ?_) rfl (by kernel_rfl) (by kernel_rfl) (by kernel_rfl) (fun _ _ _ h => h) (Or.inl ⟨by rfl, ?_⟩) hHeld ?_
    rotate_left
    · intro w hSw; go_simp; try with_reducible rfl
    try simp only [Act.put, List.setIfInBounds_toArray, List.set_cons_zero, List.set_cons_succ]
    refine wpAnyH_pfx (g := gp) (l := PL) (n := M) (i := 34) (oi := ⟨some 55, _, _, _, _, _⟩) rfl (by kernel_rfl) (by kernel_rfl) (by kernel_rfl) (fun _ _ _ h => h) (by rfl) (.tmp 9) rfl rfl hPl (fun _ h => h.2.1) hHeld ?_
    try simp only [Act.put, List.setIfInBounds_toArray, List.set_cons_zero, List.set_cons_succ]
    refine wpAnyH_ip (g := w.heap.size + 1) (l := b) (i := 35) (oi := ⟨some 56, _, _, _, _, _⟩) rfl (by kernel_rfl) (by kernel_rfl) (by kernel_rfl) (fun _ _ _ h => h) (by rfl) (.tmp 5) rfl rfl hbl (fun _ h => h.2.2.2.2) hHeld ?_
    try simp only [Act.put, List.setIfInBounds_toArray, List.set_cons_zero, List.set_cons_succ]
    refine wpAnyH_ip (g := w.heap.size) (l := a) (i := 37) (oi := ⟨some 58, _, _, _, _, _⟩) rfl (by kernel_rfl) (by kernel_rfl) (by kernel_rfl) (fun _ _ _ h => h) (by rfl) (.tmp 4) rfl rfl ha (fun _ h => h.2.2.2.1) hHeld ?_
    try simp only [Act.put, List.setIfInBounds_toArray, List.set_cons_zero, List.set_cons_succ]
    refine wpAnyH_ip (g := w.heap.size + 1) (l := b) (i := 38) (oi := ⟨some 59, _, _, _, _, _⟩) rfl (by kernel_rfl) (by kernel_rfl) (by kernel_rfl) (fun _ _ _ h => h) (by rfl) (.tmp 5) rfl rfl hbl (fun _ h => h.2.2.2.2) hHeld ?_
    try simp only [Act.put, List.setIfInBounds_toArray, List.set_cons_zero, List.set_cons_succ]
    refine wpAnyH_take (i := 40) (oi := ⟨some 61, _, _, _, _, _⟩) (v := ?_) rfl (by kernel_rfl) (by kernel_rfl) (by kernel_rfl) (fun _ _ _ h => h) (Or.inl ⟨by rfl, ?_⟩) hHeld ?_
    rotate_left
    · intro w hSw; go_simp; try with_reducible rfl
    try simp only [Act.put, List.setIfInBounds_toArray, List.set_cons_zero, List.set_cons_succ]
    refine wpAnyH_ready (rs := [36]) (by kernel_rfl) (by simp) ?_
    refine AllReadyH.cons (o := ⟨some 57, _, _, _, _, _⟩) rfl (fun K hK => ?_) AllReadyH.nil
    go_simp
    have hP := hHeld
    with_reducible refine (q6 _).mono ?_
    rintro e36 u36 ⟨rfl, hb⟩
    have hS := st hP hb
    go_wp2_with fail
    clear hP hb
    go_wp2_with fail
    clear hHeld
    refine hK.out _ _ (hS) (fun hHeld => ?_)
    clear hK K
    try simp only [Act.put, List.setIfInBounds_toArray, List.set_cons_zero, List.set_cons_succ]
    refine wpAnyH_ready (rs := [39]) (by kernel_rfl) (by simp) ?_
    refine AllReadyH.cons (o := ⟨some 60, _, _, _, _, _⟩) rfl (fun K hK => ?_) AllReadyH.nil
    go_simp
    have hP := hHeld
    with_reducible refine (q7 _).mono ?_
    rintro e39 u39 ⟨rfl, hb⟩
    have hS := st hP hb
    go_wp2_with fail
    clear hP hb
    go_wp2_with fail
    clear hHeld
    refine hK.out _ _ (hS) (fun hHeld => ?_)
    clear hK K
    try simp only [Act.put, List.setIfInBounds_toArray, List.set_cons_zero, List.set_cons_succ]
    refine wpAnyH_take (i := 41) (oi := ⟨some 62, _, _, _, _, _⟩) (v := .bool d) rfl (by kernel_rfl) (by kernel_rfl) (by kernel_rfl) (fun _ _ _ h => h) (Or.inl ⟨by rfl, ?_⟩) hHeld ?_
    · intro w hSw; go_simp
    try simp only [Act.put, List.setIfInBounds_toArray, List.set_cons_zero, List.set_cons_succ]
    refine wpAnyH_take (i := 42) (oi := ⟨some 63, _, _, _, _, _⟩) (v := .bool true) rfl (by kernel_rfl) (by kernel_rfl) (by kernel_rfl) (fun _ _ _ h => h) (Or.inl ⟨by rfl, ?_⟩) hHeld ?_
    · intro w hSw; go_simp; try simp
    try simp only [Act.put, List.setIfInBounds_toArray, List.set_cons_zero, List.set_cons_succ]
    refine wpAnyH_take (i := 43) (oi := ⟨some 64, _, _, _, _, _⟩) (v := ?_) rfl (by kernel_rfl) (by kernel_rfl) (by kernel_rfl) (fun _ _ _ h => h) (Or.inl ⟨by rfl, ?_⟩) hHeld ?_
    rotate_left
    · intro w hSw; go_simp; try with_reducible rfl
    try simp only [Act.put, List.setIfInBounds_toArray, List.set_cons_zero, List.set_cons_succ]
    refine wpAnyH_take (i := 44) (oi := ⟨some 8, _, _, _, _, _⟩) (v := ?_) rfl (by kernel_rfl) (by kernel_rfl) (by kernel_rfl) (fun _ _ _ h => h) (Or.inl ⟨by rfl, ?_⟩) hHeld ?_
    rotate_left
    · intro w hSw; go_simp; try with_reducible rfl
    try simp only [Act.put, List.setIfInBounds_toArray, List.set_cons_zero, List.set_cons_succ]
    refine wpAnyH_done (by kernel_rfl) ?_ _
    go_wp2_with fail
    go_ret
    exact ⟨rfl, hHeld.1⟩
end Go.Proofs.YtogiignhjmhjnaaDoor
