/-
  The reference's Common.
-/
import Derived.Test.YthammgljcchloaaDoorRefValid
import Derived.Test.YthammgljcchloaaDoorIpReg
namespace Go.Proofs.YthammgljcchloaaDoor
open Go.RowKit
set_option linter.unusedSimpArgs false
set_option linter.unusedVariables false

theorem com_succ (a b : List UInt8) (ha : a.length = 16) (hb : b.length = 16) (k : Nat) (hk : k < 128) : k + 1 ≤ comV a b ↔ (k ≤ comV a b ∧ bitV a k = bitV b k) := by
  have e1 := mL_eq a b ha hb k (by omega)
  have e2 := mL_eq a b ha hb (k + 1) (by omega)
  have step : ∀ x y s : Nat, clr s x = clr s y ↔ (clr (s + 1) x = clr (s + 1) y ∧ x / 2 ^ s % 2 = y / 2 ^ s % 2) := by
    intro x y s
    rw [clr_eq, clr_eq, Nat.pow_succ, ← Nat.div_div_eq_div_mul, ← Nat.div_div_eq_div_mul]
    omega
  have h1 : ∀ c, c ≤ 128 → (mL a c = mL b c ↔ clr (64 - min c 64) (hiOf a) = clr (64 - min c 64) (hiOf b) ∧ clr (64 - (c - 64)) (loOf a) = clr (64 - (c - 64)) (loOf b)) := by
    intro c _
    constructor
    · intro h
      exact ⟨by rw [← hi_mL a ha, ← hi_mL b hb, h], by rw [← lo_mL a ha, ← lo_mL b hb, h]⟩
    · rintro ⟨g1, g2⟩
      unfold mL; rw [g1, g2]
  rw [← e1, ← e2, h1 k (by omega), h1 (k + 1) (by omega)]
  by_cases h : k < 64
  · rw [bit_hi a ha k h, bit_hi b hb k h, show min (k + 1) 64 = k + 1 by omega, show min k 64 = k by omega, show 64 - (k + 1 - 64) = 64 by omega, show 64 - (k - 64) = 64 by omega]
    have := step (hiOf a) (hiOf b) (63 - k)
    rw [show 63 - k + 1 = 64 - k by omega] at this
    rw [show 64 - (k + 1) = 63 - k by omega, this]
    constructor
    · rintro ⟨⟨p, q⟩, r⟩; exact ⟨⟨p, r⟩, q⟩
    · rintro ⟨⟨p, r⟩, q⟩; exact ⟨⟨p, q⟩, r⟩
  · rw [bit_lo a ha k (by omega) hk, bit_lo b hb k (by omega) hk, show min (k + 1) 64 = 64 by omega, show min k 64 = 64 by omega]
    have := step (loOf a) (loOf b) (127 - k)
    rw [show 127 - k + 1 = 64 - (k - 64) by omega] at this
    rw [show 64 - (k + 1 - 64) = 127 - k by omega, this]
    constructor
    · rintro ⟨p, q, r⟩; exact ⟨⟨p, q⟩, r⟩
    · rintro ⟨⟨p, q⟩, r⟩; exact ⟨p, q, r⟩
theorem com_le (a b : List UInt8) : comV a b ≤ 128 := by unfold comV; split <;> omega

set_option maxHeartbeats 3200000 in
set_option maxRecDepth 100000 in
theorem rcommon_any (a b : List UInt8) (ha : a.length = 16) (hbl : b.length = 16) (w : World) :
    Calls Tryd.prog 33 #[iv a, iv b] w (RetS (.int .i64 (comV a b)) w) := by
  have hRa : Ry ((w.alloc (.cells (row a) 23)).alloc (.cells (row b) 23)) w.heap.size a := (Ik.new w a).ry.below ((Below.refl (w.heap.size + 1) _).alloc (by simp) _) (Nat.lt_succ_self _)
  have hRb : Ry ((w.alloc (.cells (row a) 23)).alloc (.cells (row b) 23)) (w.heap.size + 1) b := by
    have := (Ik.new (w.alloc (.cells (row a) 23)) b).ry
    rwa [World.size_alloc] at this
  have hB := two_below w (.cells (row a) 23) (.cells (row b) 23)
  rw [iv, iv]
  go_enter Tryd.func33, Tryd.ntmps33
  go_wp2_with fail
  generalize (w.alloc _).alloc _ = w2 at hRa hRb hB ⊢
  go_loopw [5] (fun i wr => ∃ k : Nat, k ≤ 128 ∧ i = .int .i64 k ∧ k ≤ comV a b ∧ Below w2.heap.size w2 wr) (fun i _ => 128 - (intOf i).toNat)
  case atStart => exact ⟨0, by omega, rfl, by omega, Below.refl _ _⟩
  case round =>
    obtain ⟨k, hk, rfl, hkc, hbr⟩ := hrel
    have hA := hRa.below hbr (hRa.lt ha)
    have hB2 := hRb.below hbr (hRb.lt hbl)
    have CK := hid hkc
    clear hkc
    by_cases hlt : k < 128
    · have c1 := fun w => rbit_any a ha k hlt w
      have c2 := fun w => rbit_any b hbl k hlt w
      have hsu := com_succ a b ha hbl k hlt
      have SU := hid hsu
      clear hsu
      generalize bitV a k = x at c1 SU
      generalize bitV b k = y at c2 SU
      obtain ⟨q, hq⟩ : ∃ q, q = ((x : Int) == (y : Int)) := ⟨_, rfl⟩
      have HQ := hid hq
      clear hq
      go_wp2_with fail
      refine wp_region_held_drew (S := fun w' => Below w2.heap.size w2 w' ∧ Ry w' w.heap.size a ∧ Ry w' (w.heap.size + 1) b) (by kernel_rfl) (⟨below_drewN hbr 1, hA.drew, hB2.drew⟩) (fun hHeld => ?_)
      refine wpAnyH_take (i := 0) (oi := ⟨some 6, _, _, _, _, _⟩) (v := ?_) rfl (by kernel_rfl) (by kernel_rfl) (by kernel_rfl) (fun _ _ _ h => h) (Or.inl ⟨by rfl, ?_⟩) hHeld ?_
      rotate_left
      · intro w hSw; go_simp; try with_reducible rfl
      try simp only [Act.put, List.setIfInBounds_toArray, List.set_cons_zero, List.set_cons_succ]
      refine wpAnyH_take (i := 1) (oi := ⟨some 7, _, _, _, _, _⟩) (v := .bool true) rfl (by kernel_rfl) (by kernel_rfl) (by kernel_rfl) (fun _ _ _ h => h) (Or.inl ⟨by rfl, ?_⟩) hHeld ?_
      · intro w hSw; go_simp; exact_mod_cast hlt
      try simp only [Act.put, List.setIfInBounds_toArray, List.set_cons_zero, List.set_cons_succ]
      refine wpAnyH_take (i := 2) (oi := ⟨some 8, _, _, _, _, _⟩) (v := ?_) rfl (by kernel_rfl) (by kernel_rfl) (by kernel_rfl) (fun _ _ _ h => h) (Or.inl ⟨by rfl, ?_⟩) hHeld ?_
      rotate_left
      · intro w hSw; go_simp; try with_reducible rfl
      try simp only [Act.put, List.setIfInBounds_toArray, List.set_cons_zero, List.set_cons_succ]
      refine wpAnyH_ip (g := w.heap.size) (l := a) (i := 3) (oi := ⟨some 9, _, _, _, _, _⟩) rfl (by kernel_rfl) (by kernel_rfl) (by kernel_rfl) (fun _ _ _ h => h) (by rfl) (.tmp 2) rfl rfl ha (fun _ h => h.2.1) hHeld ?_
      try simp only [Act.put, List.setIfInBounds_toArray, List.set_cons_zero, List.set_cons_succ]
      refine wpAnyH_take (i := 4) (oi := ⟨some 10, _, _, _, _, _⟩) (v := ?_) rfl (by kernel_rfl) (by kernel_rfl) (by kernel_rfl) (fun _ _ _ h => h) (Or.inl ⟨by rfl, ?_⟩) hHeld ?_
      rotate_left
      · intro w hSw; go_simp; try with_reducible rfl
      try simp only [Act.put, List.setIfInBounds_toArray, List.set_cons_zero, List.set_cons_succ]
      refine wpAnyH_ip (g := w.heap.size + 1) (l := b) (i := 6) (oi := ⟨some 12, _, _, _, _, _⟩) rfl (by kernel_rfl) (by kernel_rfl) (by kernel_rfl) (fun _ _ _ h => h) (by rfl) (.tmp 3) rfl rfl hbl (fun _ h => h.2.2) hHeld ?_
      try simp only [Act.put, List.setIfInBounds_toArray, List.set_cons_zero, List.set_cons_succ]
      refine wpAnyH_take (i := 7) (oi := ⟨some 13, _, _, _, _, _⟩) (v := ?_) rfl (by kernel_rfl) (by kernel_rfl) (by kernel_rfl) (fun _ _ _ h => h) (Or.inl ⟨by rfl, ?_⟩) hHeld ?_
      rotate_left
      · intro w hSw; go_simp; try with_reducible rfl
      try simp only [Act.put, List.setIfInBounds_toArray, List.set_cons_zero, List.set_cons_succ]
      refine wpAnyH_ready (rs := [5]) (by kernel_rfl) (by simp) ?_
      refine AllReadyH.cons (o := ⟨some 11, _, _, _, _, _⟩) rfl (fun K hK => ?_) AllReadyH.nil
      go_simp
      have hP := hHeld
      with_reducible refine (c1 _).mono ?_
      rintro e5 u5 ⟨rfl, hb⟩
      have hS : Below w2.heap.size w2 u5 ∧ Ry u5 w.heap.size a ∧ Ry u5 (w.heap.size + 1) b := ⟨hP.1.trans (hb.mono hP.1.size), hP.2.1.below hb (hP.2.1.lt ha), hP.2.2.below hb (hP.2.2.lt hbl)⟩
      go_wp2_with fail
      clear hP hb
      go_wp2_with fail
      clear hHeld
      refine hK.out _ _ (hS) (fun hHeld => ?_)
      clear hK K
      try simp only [Act.put, List.setIfInBounds_toArray, List.set_cons_zero, List.set_cons_succ]
      refine wpAnyH_ready (rs := [8]) (by kernel_rfl) (by simp) ?_
      refine AllReadyH.cons (o := ⟨some 14, _, _, _, _, _⟩) rfl (fun K hK => ?_) AllReadyH.nil
      go_simp
      have hP := hHeld
      with_reducible refine (c2 _).mono ?_
      rintro e8 u8 ⟨rfl, hb⟩
      have hS : Below w2.heap.size w2 u8 ∧ Ry u8 w.heap.size a ∧ Ry u8 (w.heap.size + 1) b := ⟨hP.1.trans (hb.mono hP.1.size), hP.2.1.below hb (hP.2.1.lt ha), hP.2.2.below hb (hP.2.2.lt hbl)⟩
      go_wp2_with fail
      clear hP hb
      go_wp2_with fail
      clear hHeld
      refine hK.out _ _ (hS) (fun hHeld => ?_)
      clear hK K
      try simp only [Act.put, List.setIfInBounds_toArray, List.set_cons_zero, List.set_cons_succ]
      refine wpAnyH_take (i := 9) (oi := ⟨some 15, _, _, _, _, _⟩) (v := .bool q) rfl (by kernel_rfl) (by kernel_rfl) (by kernel_rfl) (fun _ _ _ h => h) (Or.inl ⟨by rfl, ?_⟩) hHeld ?_
      · intro w hSw; go_simp; exact HQ.out.symm
      try simp only [Act.put, List.setIfInBounds_toArray, List.set_cons_zero, List.set_cons_succ]
      refine wpAnyH_take (i := 10) (oi := ⟨some 16, _, _, _, _, _⟩) (v := ?_) rfl (by kernel_rfl) (by kernel_rfl) (by kernel_rfl) (fun _ _ _ h => h) (Or.inl ⟨by rfl, ?_⟩) hHeld ?_
      rotate_left
      · intro w hSw; go_simp; try with_reducible rfl
      try simp only [Act.put, List.setIfInBounds_toArray, List.set_cons_zero, List.set_cons_succ]
      refine wpAnyH_done (by kernel_rfl) ?_ _
      cases q
      · have hne : ¬ x = y := by intro h; have := HQ.out; simp [h] at this
        have hv : comV a b = k := by
          have h1 : ¬ k + 1 ≤ comV a b := fun h => hne (SU.out.1 h).2
          have := CK.out; omega
        have HV := hid hv
        clear hv
        go_wp2_with fail
        go_ret
        exact ⟨ret_int (by rw [HV.out]), hB.trans (hHeld.1.mono hB.size)⟩
      · have he : x = y := by have := HQ.out; simp at this; omega
        have h1 : k + 1 ≤ comV a b := SU.out.2 ⟨CK.out, he⟩
        go_wp2_with fail
        go_roundw
        case rel => exact ⟨k + 1, by omega, by go_num, h1, hHeld.1⟩
        case measure => simp [intOf]; omega
    · obtain rfl : k = 128 := by omega
      have hv : comV a b = 128 := by have := CK.out; have := com_le a b; omega
      have HV := hid hv
      clear hv
      go_wp2_with fail
      refine wp_region_held_drew (S := fun w' => Below w2.heap.size w2 w' ∧ Ry w' w.heap.size a ∧ Ry w' (w.heap.size + 1) b) (by kernel_rfl) (⟨below_drewN hbr 1, hA.drew, hB2.drew⟩) (fun hHeld => ?_)
      refine wpAnyH_take (i := 0) (oi := ⟨some 6, _, _, _, _, _⟩) (v := ?_) rfl (by kernel_rfl) (by kernel_rfl) (by kernel_rfl) (fun _ _ _ h => h) (Or.inl ⟨by rfl, ?_⟩) hHeld ?_
      rotate_left
      · intro w hSw; go_simp; try with_reducible rfl
      try simp only [Act.put, List.setIfInBounds_toArray, List.set_cons_zero, List.set_cons_succ]
      refine wpAnyH_take (i := 1) (oi := ⟨some 7, _, _, _, _, _⟩) (v := ?_) rfl (by kernel_rfl) (by kernel_rfl) (by kernel_rfl) (fun _ _ _ h => h) (Or.inl ⟨by rfl, ?_⟩) hHeld ?_
      rotate_left
      · intro w hSw; go_simp; try with_reducible rfl
      try simp only [Act.put, List.setIfInBounds_toArray, List.set_cons_zero, List.set_cons_succ]
      refine wpAnyH_take (i := 2) (oi := ⟨some 8, _, _, _, _, _⟩) (v := ?_) rfl (by kernel_rfl) (by kernel_rfl) (by kernel_rfl) (fun _ _ _ h => h) (Or.inl ⟨by rfl, ?_⟩) hHeld ?_
      rotate_left
      · intro w hSw; go_simp; try with_reducible rfl
      try simp only [Act.put, List.setIfInBounds_toArray, List.set_cons_zero, List.set_cons_succ]
      refine wpAnyH_take (i := 3) (oi := ⟨some 9, _, _, _, _, _⟩) (v := undef) rfl (by kernel_rfl) (by kernel_rfl) (by kernel_rfl) (fun _ _ _ h => h) (Or.inr ⟨by rfl, rfl⟩) hHeld ?_
      try simp only [Act.put, List.setIfInBounds_toArray, List.set_cons_zero, List.set_cons_succ]
      refine wpAnyH_take (i := 4) (oi := ⟨some 10, _, _, _, _, _⟩) (v := undef) rfl (by kernel_rfl) (by kernel_rfl) (by kernel_rfl) (fun _ _ _ h => h) (Or.inr ⟨by rfl, rfl⟩) hHeld ?_
      try simp only [Act.put, List.setIfInBounds_toArray, List.set_cons_zero, List.set_cons_succ]
      refine wpAnyH_take (i := 6) (oi := ⟨some 12, _, _, _, _, _⟩) (v := undef) rfl (by kernel_rfl) (by kernel_rfl) (by kernel_rfl) (fun _ _ _ h => h) (Or.inr ⟨by rfl, rfl⟩) hHeld ?_
      try simp only [Act.put, List.setIfInBounds_toArray, List.set_cons_zero, List.set_cons_succ]
      refine wpAnyH_take (i := 7) (oi := ⟨some 13, _, _, _, _, _⟩) (v := undef) rfl (by kernel_rfl) (by kernel_rfl) (by kernel_rfl) (fun _ _ _ h => h) (Or.inr ⟨by rfl, rfl⟩) hHeld ?_
      try simp only [Act.put, List.setIfInBounds_toArray, List.set_cons_zero, List.set_cons_succ]
      refine wpAnyH_take (i := 5) (oi := ⟨some 11, _, _, _, _, _⟩) (v := undef) rfl (by kernel_rfl) (by kernel_rfl) (by kernel_rfl) (fun _ _ _ h => h) (Or.inr ⟨by rfl, rfl⟩) hHeld ?_
      try simp only [Act.put, List.setIfInBounds_toArray, List.set_cons_zero, List.set_cons_succ]
      refine wpAnyH_take (i := 8) (oi := ⟨some 14, _, _, _, _, _⟩) (v := undef) rfl (by kernel_rfl) (by kernel_rfl) (by kernel_rfl) (fun _ _ _ h => h) (Or.inr ⟨by rfl, rfl⟩) hHeld ?_
      try simp only [Act.put, List.setIfInBounds_toArray, List.set_cons_zero, List.set_cons_succ]
      refine wpAnyH_take (i := 9) (oi := ⟨some 15, _, _, _, _, _⟩) (v := undef) rfl (by kernel_rfl) (by kernel_rfl) (by kernel_rfl) (fun _ _ _ h => h) (Or.inr ⟨by rfl, rfl⟩) hHeld ?_
      try simp only [Act.put, List.setIfInBounds_toArray, List.set_cons_zero, List.set_cons_succ]
      refine wpAnyH_take (i := 10) (oi := ⟨some 16, _, _, _, _, _⟩) (v := ?_) rfl (by kernel_rfl) (by kernel_rfl) (by kernel_rfl) (fun _ _ _ h => h) (Or.inl ⟨by rfl, ?_⟩) hHeld ?_
      rotate_left
      · intro w hSw; go_simp; try with_reducible rfl
      try simp only [Act.put, List.setIfInBounds_toArray, List.set_cons_zero, List.set_cons_succ]
      refine wpAnyH_done (by kernel_rfl) ?_ _
      go_wp2_with fail
      go_ret
      exact ⟨ret_int (by rw [HV.out]), hB.trans (hHeld.1.mono hB.size)⟩
end Go.Proofs.YthammgljcchloaaDoor
