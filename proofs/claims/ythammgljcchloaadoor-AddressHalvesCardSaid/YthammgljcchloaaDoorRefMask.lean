/-
  The reference's Mask.
-/
import Derived.Test.YthammgljcchloaaDoorMaskBit
import Derived.Test.YthammgljcchloaaDoorPfxOnly
import Derived.BigRegion
import Derived.Deep.DeepCutAuto
namespace Go.Proofs.YthammgljcchloaaDoor
open Go.RowKit
set_option linter.unusedSimpArgs false
set_option linter.unusedVariables false

theorem Pk.cell {w : World} {g : Nat} {l : List UInt8} {n : Int} (h : Pk w g l n) (hl : l.length = 16) (j : Nat) (hj : j < 16) : w.cell? ⟨g, j, none⟩ = some (.int .u8 (l.getD j 0).toNat) := by
  rw [cell_of_row w g j _ _ _ h]
  have : (pl l n)[j]? = some (bv (l.getD j 0)) := by
    unfold pl
    rw [List.getElem?_append_left (by simp; omega)]
    simp [List.getD_eq_getElem?_getD, show j < l.length by omega]
  simpa [bv] using this
theorem Pk.frozen {w : World} {g : Nat} {l : List UInt8} {n : Int} (h : Pk w g l n) (j : Nat) : w.frozen? ⟨g, j, none⟩ = false := frozen_of_row w g j _ 35 h
theorem Pk.set {w : World} {g : Nat} {l : List UInt8} {n : Int} (h : Pk w g l n) (hl : l.length = 16) (j : Nat) (hj : j < 16) (x : UInt8) : Pk (w.setCell ⟨g, j, none⟩ (.int .u8 x.toNat)) g (l.set j x) n := by
  have := heap_setCell_same w g j _ 35 (bv x) h
  unfold Pk
  rw [show Value.int .u8 x.toNat = bv x from rfl, this]
  congr 3
  unfold pl
  rw [List.map_set, List.setIfInBounds_toArray, List.set_append_left _ _ (by simp; omega)]
theorem mL_zero (a : List UInt8) (ha : a.length = 16) : mL a 0 = zeros 16 := by
  unfold mL
  rw [show 64 - min 0 64 = 64 from rfl, show 64 - (0 - 64) = 64 from rfl, clr_all _ (hi_lt a ha), clr_all _ (lo_lt a ha)]
  decide

theorem pow_small (b s : Nat) (hb : b < 2) (hs : s ≤ 7) : b * 2 ^ s < 256 := by
  have h2 : 2 ^ s ≤ 2 ^ 7 := Nat.pow_le_pow_right (by decide) hs
  rcases (by omega : b = 0 ∨ b = 1) with rfl | rfl <;> omega
theorem shl_val (k b : Nat) (hb : b < 2) : IntKind.u8.wrap ((b : Int) * 2 ^ min (IntKind.u64.wrap (7 - IntKind.u64.wrap ((k : Int).tmod 8))).toNat 8) = (b : Int) * 2 ^ (7 - k % 8) := by
  have e1 : (k : Int).tmod 8 = ((k % 8 : Nat) : Int) := by rw [Int.tmod_eq_emod_of_nonneg (by omega)]; simp
  have e2 : (IntKind.u64.wrap (7 - IntKind.u64.wrap ((k : Int).tmod 8))).toNat = 7 - k % 8 := by
    rw [e1]; simp [IntKind.wrap, IntKind.bits, IntKind.signed]; omega
  rw [e2, Nat.min_eq_left (by omega)]
  have h := pow_small b (7 - k % 8) hb (by omega)
  have e3 : (b : Int) * 2 ^ (7 - k % 8) = ((b * 2 ^ (7 - k % 8) : Nat) : Int) := by simp
  rw [e3]
  simp only [IntKind.wrap, IntKind.bits, IntKind.signed]
  simp
  omega
theorem or_val (x b k : Nat) (Y : UInt8) (hx : x < 2 ^ 8) (hb : b < 2) (hY : Y = UInt8.ofNat (x ||| b * 2 ^ (7 - k % 8))) : bits .or .u8 (x : Int) ((b : Int) * 2 ^ (7 - k % 8)) = (Y.toNat : Int) := by
  have h := pow_small b (7 - k % 8) hb (by omega)
  have e3 : (b : Int) * 2 ^ (7 - k % 8) = ((b * 2 ^ (7 - k % 8) : Nat) : Int) := by simp
  have hz := Nat.or_lt_two_pow hx (show b * 2 ^ (7 - k % 8) < 2 ^ 8 by simpa using h)
  rw [e3, bits_or_u8_nat _ _ (by simpa using hx) h, hY, UInt8.toNat_ofNat', Nat.mod_eq_of_lt hz]

set_option maxHeartbeats 3200000 in
set_option maxRecDepth 100000 in
theorem rmask_any (a : List UInt8) (ha : a.length = 16) (n : Int) (hn : I64 n) (w : World) :
    Calls Tryd.prog 16 #[iv a, .int .i64 n] w (RetS (pv (mL a (clamp n)) (clamp n)) w) := by
  have hR := (Ik.new w a).ry.below ((Below.refl (w.heap.size + 1) _).alloc (by simp) (.cells #[.int .u8 0, .int .u8 0, .int .u8 0, .int .u8 0, .int .u8 0, .int .u8 0, .int .u8 0, .int .u8 0, .int .u8 0, .int .u8 0, .int .u8 0, .int .u8 0, .int .u8 0, .int .u8 0, .int .u8 0, .int .u8 0, .int .i64 0] 35)) (Nat.lt_succ_self _)
  have hP := Pk.zero (w.alloc (.cells (row a) 23))
  rw [World.size_alloc] at hP
  have hB := two_below w (.cells (row a) 23) (.cells #[.int .u8 0, .int .u8 0, .int .u8 0, .int .u8 0, .int .u8 0, .int .u8 0, .int .u8 0, .int .u8 0, .int .u8 0, .int .u8 0, .int .u8 0, .int .u8 0, .int .u8 0, .int .u8 0, .int .u8 0, .int .u8 0, .int .i64 0] 35)
  rw [iv]
  go_enter Tryd.func16, Tryd.ntmps16
  go_upto_region 1 with (fail)
  generalize (w.alloc _).alloc _ = w2 at hR hP hB ⊢
  go_cut [1] (fun v wc => v = .int .i64 (clamp n) ∧ wc = w2)
  case first =>
    go_wp2_with fail
    all_goals go_meet
    all_goals (refine ⟨?_, rfl⟩; congr 1; unfold clamp; omega)
  case rest =>
    obtain ⟨rfl, rfl⟩ := hcut
    have hc := clamp_le n
    clear hn
    generalize clamp n = c at *
    go_wp2_with fail
    have hK : Pk (wc.alloc (.cells #[.int .u8 0, .int .u8 0, .int .u8 0, .int .u8 0, .int .u8 0, .int .u8 0, .int .u8 0, .int .u8 0, .int .u8 0, .int .u8 0, .int .u8 0, .int .u8 0, .int .u8 0, .int .u8 0, .int .u8 0, .int .u8 0, .int .i64 (c : Int)] 35)) wc.heap.size (mL a 0) c := by rw [mL_zero a ha]; exact heap_alloc_new wc _
    have hx := (Below.refl wc.heap.size wc).alloc (Nat.le_refl _) (.cells #[.int .u8 0, .int .u8 0, .int .u8 0, .int .u8 0, .int .u8 0, .int .u8 0, .int .u8 0, .int .u8 0, .int .u8 0, .int .u8 0, .int .u8 0, .int .u8 0, .int .u8 0, .int .u8 0, .int .u8 0, .int .u8 0, .int .i64 (c : Int)] 35)
    have hP5 := hP.below hx hP.lt
    have hR5 := hR.below hx (hR.lt ha)
    have hB5 := hB.alloc hB.size (.cells #[.int .u8 0, .int .u8 0, .int .u8 0, .int .u8 0, .int .u8 0, .int .u8 0, .int .u8 0, .int .u8 0, .int .u8 0, .int .u8 0, .int .u8 0, .int .u8 0, .int .u8 0, .int .u8 0, .int .u8 0, .int .u8 0, .int .i64 (c : Int)] 35)
    have hg5 : w.heap.size + 1 < wc.heap.size := hP.lt
    clear hx hP hR hB
    generalize wc.heap.size = g5 at *
    generalize wc.alloc _ = w5 at *
    go_loopw [6] (fun i wr => ∃ k : Nat, k ≤ c ∧ i = .int .i64 k ∧ Pk wr g5 (mL a k) c ∧ Pk wr (w.heap.size + 1) (zeros 16) 0 ∧ Ry wr w.heap.size a ∧ Below w.heap.size w wr) (fun i _ => c - (intOf i).toNat)
    case atStart => exact ⟨0, by omega, rfl, hK, hP5, hR5, hB5⟩
    case round =>
      obtain ⟨k, hk, rfl, hPr, hPz, hRr, hBr⟩ := hrel
      by_cases hlt : k < c
      · have hst := mL_step a ha k (by omega)
        have hbit := fun w => rbit_any a ha k (by omega) w
        have hb2 := bitV_lt a k
        have Z : ∀ w', Pk w' g5 (mL a k) c → w'.cell? ⟨g5, k / 8, none⟩ = some (.int .u8 ((mL a k).getD (k / 8) 0).toNat) := fun w' h => h.cell (length_mL a k) (k / 8) (by omega)
        have hx8 := ((mL a k).getD (k / 8) 0).toNat_lt
        generalize ((mL a k).getD (k / 8) 0).toNat = x at Z hst hx8
        generalize bitV a k = b at hbit hst hb2
        obtain ⟨Y, hY⟩ : ∃ Y, Y = UInt8.ofNat (x ||| b * 2 ^ (7 - k % 8)) := ⟨_, rfl⟩
        rw [← hY] at hst
        have HST := hid hst
        have HY := hid hY
        clear hst hY
        have zq : IntKind.i64.wrap ((k : Int) / 8) = (k : Int) / 8 := by simp [IntKind.wrap, IntKind.bits, IntKind.signed]; omega
        have zt : ((k : Int) / 8).toNat = k / 8 := by omega
        have zl : (0 : Int) ≤ (k : Int) / 8 ∧ (k : Int) / 8 < 16 := by omega
        obtain ⟨zl1, zl2⟩ := zl
        go_wp2_with fail
        refine wp_region_held_drew (S := fun w' => Below w.heap.size w w' ∧ Pk w' (w.heap.size + 1) (zeros 16) 0 ∧ Ry w' w.heap.size a) (by kernel_rfl) (⟨below_drewN hBr 1, hPz, hRr.drew⟩) (fun hHeld => ?_)
        have hPk : Pk wr.drew g5 (mL a k) c := hPr
        generalize wr.drew = v0 at hHeld hPk ⊢
        refine wpAnyH_take (i := 0) (oi := ⟨some 17, _, _, _, _, _⟩) (v := ?_) rfl (by kernel_rfl) (by kernel_rfl) (by kernel_rfl) (fun _ _ _ h => h) (Or.inl ⟨by rfl, ?_⟩) hHeld ?_
        rotate_left
        · intro w hSw; go_simp; try with_reducible rfl
        try simp only [Act.put, List.setIfInBounds_toArray, List.set_cons_zero, List.set_cons_succ]
        refine wpAnyH_take (i := 1) (oi := ⟨some 18, _, _, _, _, _⟩) (v := ?_) rfl (by kernel_rfl) (by kernel_rfl) (by kernel_rfl) (fun _ _ _ h => h) (Or.inl ⟨by rfl, ?_⟩) hHeld ?_
        rotate_left
        · intro w hSw; go_simp; try with_reducible rfl
        try simp only [Act.put, List.setIfInBounds_toArray, List.set_cons_zero, List.set_cons_succ]
        refine wpAnyH_take (i := 2) (oi := ⟨some 19, _, _, _, _, _⟩) (v := ?_) rfl (by kernel_rfl) (by kernel_rfl) (by kernel_rfl) (fun _ _ _ h => h) (Or.inl ⟨by rfl, ?_⟩) hHeld ?_
        rotate_left
        · intro w hSw; go_simp; try with_reducible rfl
        try simp only [Act.put, List.setIfInBounds_toArray, List.set_cons_zero, List.set_cons_succ]
        refine wpAnyH_take (i := 3) (oi := ⟨some 20, _, _, _, _, _⟩) (v := ?_) rfl (by kernel_rfl) (by kernel_rfl) (by kernel_rfl) (fun _ _ _ h => h) (Or.inl ⟨by rfl, ?_⟩) hHeld ?_
        rotate_left
        · intro w hSw; go_simp; try with_reducible rfl
        try simp only [Act.put, List.setIfInBounds_toArray, List.set_cons_zero, List.set_cons_succ]
        refine wpAnyH_ip (g := w.heap.size) (l := a) (i := 5) (oi := ⟨some 22, _, _, _, _, _⟩) rfl (by kernel_rfl) (by kernel_rfl) (by kernel_rfl) (fun _ _ _ h => h) (by rfl) (.tmp 2) rfl rfl ha (fun _ h => h.2.2) hHeld ?_
        try simp only [Act.put, List.setIfInBounds_toArray, List.set_cons_zero, List.set_cons_succ]
        refine wpAnyH_take (i := 6) (oi := ⟨some 23, _, _, _, _, _⟩) (v := ?_) rfl (by kernel_rfl) (by kernel_rfl) (by kernel_rfl) (fun _ _ _ h => h) (Or.inl ⟨by rfl, ?_⟩) hHeld ?_
        rotate_left
        · intro w hSw; go_simp; try with_reducible rfl
        try simp only [Act.put, List.setIfInBounds_toArray, List.set_cons_zero, List.set_cons_succ]
        refine wpAnyH_take (i := 8) (oi := ⟨some 25, _, _, _, _, _⟩) (v := ?_) rfl (by kernel_rfl) (by kernel_rfl) (by kernel_rfl) (fun _ _ _ h => h) (Or.inl ⟨by rfl, ?_⟩) hHeld ?_
        rotate_left
        · intro w hSw; go_simp; try with_reducible rfl
        try simp only [Act.put, List.setIfInBounds_toArray, List.set_cons_zero, List.set_cons_succ]
        refine wpAnyH_take (i := 9) (oi := ⟨some 26, _, _, _, _, _⟩) (v := ?_) rfl (by kernel_rfl) (by kernel_rfl) (by kernel_rfl) (fun _ _ _ h => h) (Or.inl ⟨by rfl, ?_⟩) hHeld ?_
        rotate_left
        · intro w hSw; go_simp; try with_reducible rfl
        try simp only [Act.put, List.setIfInBounds_toArray, List.set_cons_zero, List.set_cons_succ]
        refine wpAnyH_take (i := 10) (oi := ⟨some 27, _, _, _, _, _⟩) (v := ?_) rfl (by kernel_rfl) (by kernel_rfl) (by kernel_rfl) (fun _ _ _ h => h) (Or.inl ⟨by rfl, ?_⟩) hHeld ?_
        rotate_left
        · intro w hSw; go_simp; try with_reducible rfl
        try simp only [Act.put, List.setIfInBounds_toArray, List.set_cons_zero, List.set_cons_succ]
        refine wpAnyH_take (i := 11) (oi := ⟨some 28, _, _, _, _, _⟩) (v := ?_) rfl (by kernel_rfl) (by kernel_rfl) (by kernel_rfl) (fun _ _ _ h => h) (Or.inl ⟨by rfl, ?_⟩) hHeld ?_
        rotate_left
        · intro w hSw; go_simp; try with_reducible rfl
        try simp only [Act.put, List.setIfInBounds_toArray, List.set_cons_zero, List.set_cons_succ]
        refine wpAnyH_take (i := 14) (oi := ⟨some 31, _, _, _, _, _⟩) (v := ?_) rfl (by kernel_rfl) (by kernel_rfl) (by kernel_rfl) (fun _ _ _ h => h) (Or.inl ⟨by rfl, ?_⟩) hHeld ?_
        rotate_left
        · intro w hSw; go_simp; try with_reducible rfl
        try simp only [Act.put, List.setIfInBounds_toArray, List.set_cons_zero, List.set_cons_succ]
        refine wpAnyH_ready (rs := [4, 7]) (by kernel_rfl) (by simp) ?_
        refine AllReadyH.cons (o := ⟨some 21, _, _, _, _, _⟩) rfl ?_ (AllReadyH.cons (o := ⟨some 24, _, _, _, _, _⟩) rfl ?_ AllReadyH.nil)
        · intro K hK
          have zz := Z _ hPk
          go_simp
          refine hK.out _ _ hHeld (fun hHeld => ?_)
          clear hK K zz
          try simp only [Act.put, List.setIfInBounds_toArray, List.set_cons_zero, List.set_cons_succ]
          refine wpAnyH_ready (rs := [7]) (by kernel_rfl) (by simp) ?_
          refine AllReadyH.cons (o := ⟨some 24, _, _, _, _, _⟩) rfl (fun K hK => ?_) AllReadyH.nil
          go_simp
          have hP := hHeld
          with_reducible refine (hbit _).mono ?_
          rintro e7 u7 ⟨rfl, hb⟩
          have hS : Below w.heap.size w u7 ∧ Pk u7 (w.heap.size + 1) (zeros 16) 0 ∧ Ry u7 w.heap.size a := ⟨hP.1.trans (hb.mono hP.1.size), hP.2.1.below hb hP.2.1.lt, hP.2.2.below hb (hP.2.2.lt ha)⟩
          have hPk := hPk.below hb hPk.lt
          go_wp2_with fail
          clear hHeld hP hb
          refine hK.out _ _ hS (fun hHeld => ?_)
          clear hK K hS
          try simp only [Act.put, List.setIfInBounds_toArray, List.set_cons_zero, List.set_cons_succ]
          refine wpAnyH_take (i := 12) (oi := ⟨some 29, _, _, _, _, _⟩) (v := .int .u8 ((b * 2 ^ (7 - k % 8) : Nat) : Int)) rfl (by kernel_rfl) (by kernel_rfl) (by kernel_rfl) (fun _ _ _ h => h) (Or.inl ⟨by rfl, ?_⟩) hHeld ?_
          · intro w hSw; go_simp; exact shl_val k b hb2
          try simp only [Act.put, List.setIfInBounds_toArray, List.set_cons_zero, List.set_cons_succ]
          refine wpAnyH_take (i := 13) (oi := ⟨some 30, _, _, _, _, _⟩) (v := .int .u8 Y.toNat) rfl (by kernel_rfl) (by kernel_rfl) (by kernel_rfl) (fun _ _ _ h => h) (Or.inl ⟨by rfl, ?_⟩) hHeld ?_
          · intro w hSw; go_simp; exact or_val x b k Y hx8 hb2 HY.out
          try simp only [Act.put, List.setIfInBounds_toArray, List.set_cons_zero, List.set_cons_succ]
          refine wpAnyH_take (i := 15) (oi := ⟨some 32, _, _, _, _, _⟩) (v := ?_) rfl (by kernel_rfl) (by kernel_rfl) (by kernel_rfl) (fun _ _ _ h => h) (Or.inl ⟨by rfl, ?_⟩) hHeld ?_
          rotate_left
          · intro w hSw; go_simp; try with_reducible rfl
          try simp only [Act.put, List.setIfInBounds_toArray, List.set_cons_zero, List.set_cons_succ]
          refine wpAnyH_ready (rs := [16]) (by kernel_rfl) (by simp) ?_
          refine AllReadyH.cons (o := ⟨none, _, _, _, _, _⟩) rfl (fun K hK => ?_) AllReadyH.nil
          have hP := hHeld
          have hc1 := Z _ hPk
          have hf1 := hPk.frozen (k / 8)
          go_simp
          have hS : Below w.heap.size w (u7.setCell ⟨g5, k / 8, none⟩ (.int .u8 Y.toNat)) ∧ Pk (u7.setCell ⟨g5, k / 8, none⟩ (.int .u8 Y.toNat)) (w.heap.size + 1) (zeros 16) 0 ∧ Ry (u7.setCell ⟨g5, k / 8, none⟩ (.int .u8 Y.toNat)) w.heap.size a := ⟨hP.1.setCell (by simp; omega) _, by unfold Pk; rw [heap_setCell_other _ _ _ _ (by simp; omega)]; exact hP.2.1, hP.2.2.only (Only.set g5 (k / 8) u7 _) (hP.2.2.lt ha) (by omega)⟩
          have hPk2 := hPk.set (length_mL a k) (k / 8) (by omega) Y
          rw [← HST.out] at hPk2
          clear hHeld hP hc1 hf1
          refine hK.out _ _ hS (fun hHeld => ?_)
          clear hK K hS
          try simp only [Act.put, List.setIfInBounds_toArray, List.set_cons_zero, List.set_cons_succ]
          refine wpAnyH_done (by kernel_rfl) ?_ _
          go_wp2_with fail
          go_roundw
          case rel => exact ⟨k + 1, by omega, by go_num, hPk2, hHeld.2.1, hHeld.2.2, hHeld.1⟩
          case measure => simp [intOf]; omega
        · intro K hK
          go_simp
          have hP := hHeld
          with_reducible refine (hbit _).mono ?_
          rintro e7 u7 ⟨rfl, hb⟩
          have hS : Below w.heap.size w u7 ∧ Pk u7 (w.heap.size + 1) (zeros 16) 0 ∧ Ry u7 w.heap.size a := ⟨hP.1.trans (hb.mono hP.1.size), hP.2.1.below hb hP.2.1.lt, hP.2.2.below hb (hP.2.2.lt ha)⟩
          have hPk := hPk.below hb hPk.lt
          go_wp2_with fail
          clear hHeld hP hb
          refine hK.out _ _ hS (fun hHeld => ?_)
          clear hK K hS
          try simp only [Act.put, List.setIfInBounds_toArray, List.set_cons_zero, List.set_cons_succ]
          refine wpAnyH_take (i := 12) (oi := ⟨some 29, _, _, _, _, _⟩) (v := .int .u8 ((b * 2 ^ (7 - k % 8) : Nat) : Int)) rfl (by kernel_rfl) (by kernel_rfl) (by kernel_rfl) (fun _ _ _ h => h) (Or.inl ⟨by rfl, ?_⟩) hHeld ?_
          · intro w hSw; go_simp; exact shl_val k b hb2
          try simp only [Act.put, List.setIfInBounds_toArray, List.set_cons_zero, List.set_cons_succ]
          refine wpAnyH_ready (rs := [4]) (by kernel_rfl) (by simp) ?_
          refine AllReadyH.cons (o := ⟨some 21, _, _, _, _, _⟩) rfl (fun K hK => ?_) AllReadyH.nil
          have zz := Z _ hPk
          go_simp
          refine hK.out _ _ hHeld (fun hHeld => ?_)
          clear hK K zz
          try simp only [Act.put, List.setIfInBounds_toArray, List.set_cons_zero, List.set_cons_succ]
          refine wpAnyH_take (i := 13) (oi := ⟨some 30, _, _, _, _, _⟩) (v := .int .u8 Y.toNat) rfl (by kernel_rfl) (by kernel_rfl) (by kernel_rfl) (fun _ _ _ h => h) (Or.inl ⟨by rfl, ?_⟩) hHeld ?_
          · intro w hSw; go_simp; exact or_val x b k Y hx8 hb2 HY.out
          try simp only [Act.put, List.setIfInBounds_toArray, List.set_cons_zero, List.set_cons_succ]
          refine wpAnyH_take (i := 15) (oi := ⟨some 32, _, _, _, _, _⟩) (v := ?_) rfl (by kernel_rfl) (by kernel_rfl) (by kernel_rfl) (fun _ _ _ h => h) (Or.inl ⟨by rfl, ?_⟩) hHeld ?_
          rotate_left
          · intro w hSw; go_simp; try with_reducible rfl
          try simp only [Act.put, List.setIfInBounds_toArray, List.set_cons_zero, List.set_cons_succ]
          refine wpAnyH_ready (rs := [16]) (by kernel_rfl) (by simp) ?_
          refine AllReadyH.cons (o := ⟨none, _, _, _, _, _⟩) rfl (fun K hK => ?_) AllReadyH.nil
          have hP := hHeld
          have hc1 := Z _ hPk
          have hf1 := hPk.frozen (k / 8)
          go_simp
          have hS : Below w.heap.size w (u7.setCell ⟨g5, k / 8, none⟩ (.int .u8 Y.toNat)) ∧ Pk (u7.setCell ⟨g5, k / 8, none⟩ (.int .u8 Y.toNat)) (w.heap.size + 1) (zeros 16) 0 ∧ Ry (u7.setCell ⟨g5, k / 8, none⟩ (.int .u8 Y.toNat)) w.heap.size a := ⟨hP.1.setCell (by simp; omega) _, by unfold Pk; rw [heap_setCell_other _ _ _ _ (by simp; omega)]; exact hP.2.1, hP.2.2.only (Only.set g5 (k / 8) u7 _) (hP.2.2.lt ha) (by omega)⟩
          have hPk2 := hPk.set (length_mL a k) (k / 8) (by omega) Y
          rw [← HST.out] at hPk2
          clear hHeld hP hc1 hf1
          refine hK.out _ _ hS (fun hHeld => ?_)
          clear hK K hS
          try simp only [Act.put, List.setIfInBounds_toArray, List.set_cons_zero, List.set_cons_succ]
          refine wpAnyH_done (by kernel_rfl) ?_ _
          go_wp2_with fail
          go_roundw
          case rel => exact ⟨k + 1, by omega, by go_num, hPk2, hHeld.2.1, hHeld.2.2, hHeld.1⟩
          case measure => simp [intOf]; omega
      · have : k = c := by omega
        subst this
        have hlm := length_mL a k
        go_wp2_with (first
          | (with_reducible refine wpList_load_pfx (op := ⟨some 33, _, _, _, _, _⟩) rfl (.tmp 5) rfl rfl hPr.pr hlm ?_)
          | (with_reducible refine wpList_store_pfx (op := ⟨none, _, _, _, _, _⟩) rfl (.tmp 4) (.tmp 33) rfl rfl rfl hPz (length_zeros 16) hlm w.heap.size w hBr (by omega) ?_; intro w7 hR7 hB7))
        exact bodyPost_ret (results_pfx rfl rfl hR7.out hlm) rfl ⟨rfl, hB7⟩
end Go.Proofs.YthammgljcchloaaDoor
