/-
  The reference's Derive.
-/
import Derived.Test.YtjlogmbgapnceaaDerive
namespace Go.Proofs.Ytjlogmbgapnceaa
open Go.RowKit

theorem Ky.set {w : World} {g : Nat} {l : List UInt8} (h : Ky w g l) (j : Nat) (v : Value) (x : UInt8) (hv : v = bv x) : Ky (w.setCell ⟨g, j, none⟩ v) g (l.set j x) := by
  subst hv
  have := heap_setCell_same w g j _ 23 (bv x) h
  unfold Ky
  rw [this]
  simp [List.map_set, row]

theorem Gr.base {w : World} {B B' : Nat} {v : Value} {l : List UInt8} (h : Gr w B v l) (hb : B' ≤ B) : Gr w B' v l := by
  refine ⟨h.1, ?_⟩
  rcases h.2 with h0 | ⟨g, cap, cur, hv, hB, hr⟩
  · exact .inl h0
  · exact .inr ⟨g, cap, cur, hv, Nat.le_trans hb hB, hr⟩

/-- the key while it is made, byte by byte -/
def outP (k s : List UInt8) (n m : Nat) : List UInt8 := (derL k s n).take m ++ zeros (16 - m)
theorem length_outP (k s : List UInt8) (n m : Nat) (h : m ≤ 16) : (outP k s n m).length = 16 := by
  simp [outP, length_derL, length_zeros]; omega
theorem outK_outP (k s : List UInt8) (n j : Nat) : outK k s n j = outP k s n (8 * j) := rfl

theorem halves_getD (a b : List UInt8) (ha : a.length = 8) (j m : Nat) (hj : j < 2) (hm : m < 8) : (a ++ b).getD (8 * j + m) 0 = if j = 0 then a.getD m 0 else b.getD m 0 := by
  rcases (by omega : j = 0 ∨ j = 1) with rfl | rfl
  · simp [List.getD_eq_getElem?_getD, List.getElem?_append_left (show m < a.length by omega)]
  · rw [List.getD_eq_getElem?_getD, List.getElem?_append_right (by omega), ha]
    simp [List.getD_eq_getElem?_getD]

theorem derL_getD (k s : List UInt8) (n j m : Nat) (hj : j < 2) (hm : m < 8) : (derL k s n).getD (8 * j + m) 0 = leByte (sip k (txt s n ++ beBytes j 1)) m := by
  unfold derL
  rw [halves_getD _ _ (length_half k s n 0) j m hj hm]
  unfold half
  rcases (by omega : j = 0 ∨ j = 1) with rfl | rfl
  · rw [if_pos rfl, leB_getD _ _ _ hm]
  · rw [if_neg (by decide), leB_getD _ _ _ hm]

theorem outP_step (k s : List UInt8) (n j m : Nat) (hj : j < 2) (hm : m < 8) :
    (outP k s n (8 * j + m)).set (8 * j + m) (leByte (sip k (txt s n ++ beBytes j 1)) m) = outP k s n (8 * j + (m + 1)) := by
  rw [← derL_getD k s n j m hj hm]
  have h := set_fill [] (derL k s n) 16 (8 * j + m) (length_derL _ _ _) (by omega)
  simp only [List.nil_append, List.length_nil, Nat.zero_add] at h
  rw [show 8 * j + (m + 1) = 8 * j + m + 1 from by omega]
  exact h

theorem refApp8 (a : Option Addr) (len cap : Nat) (l : List UInt8) (v : UInt64) (w : World) (hb : IsB w a len cap l) (hroom : len + 8 ≤ 140737488355328) :
    Calls Try.prog 30 #[.slice a len cap, .int .u64 (v.toNat : Int), .int .i64 8] w (RetG (l ++ beBytes v.toNat 8) w) :=
  refApp_any a len cap l v.toNat 8 w hb hroom (w_lt v) (by omega)

set_option maxRecDepth 100000 in
set_option maxHeartbeats 4000000 in
theorem refDerive_any (k : List UInt8) (s : ByteArray) (v : UInt64) (w : World) (hk : k.length = 16) (hs : s.size ≤ 140737488351232) :
    Calls Try.prog 18 #[kv k, .string s, .int .u64 v.toNat] w (RetS (kv (derL k s.data.toList v.toNat)) w) := by
  have hl : s.data.toList.length = s.size := by rw [Array.length_toList]; rfl
  have HL := hid hl
  clear hl
  have HT : Hid ((txt s.data.toList v.toNat).length = s.size + 9) := hid (by rw [length_txt, HL.out])
  have hkB := (Ky.new w k).below ((Below.refl _ _).alloc (Nat.le_refl _) (.cells (row (zeros 16)) 23)) (Ky.new w k).lt
  have hrB := Ky.zero (w.alloc (.cells (row k) 23))
  rw [show (w.alloc (.cells (row k) 23)).heap.size = w.heap.size + 1 from by simp] at hrB
  have hBB := two_below w (.cells (row k) 23) (.cells (row (zeros 16)) 23)
  rw [kv]
  go_enter Try.func18, Try.ntmps18
  go_upto_region 1 with (fail)
  rw [zeros16]
  generalize (w.alloc (.cells (row k) 23)).alloc (.cells (row (zeros 16)) 23) = wB at *
  have hO0 := Ky.zero wB
  have hb0 := (Below.refl wB.heap.size wB).alloc (Nat.le_refl _) (.cells (row (zeros 16)) 23)
  go_wp2_with fail
  rw [zeros16]
  generalize wB.alloc (.cells (row (zeros 16)) 23) = w1 at *
  have HO0 := hid hO0
  clear hO0
  go_loopw [8] (fun i wr => ∃ j : Nat, j ≤ 2 ∧ i = .int .i64 j ∧ Hid (Ky wr wB.heap.size (outK k s.data.toList v.toNat j)) ∧ Below wB.heap.size wB wr) (fun i _ => 2 - (intOf i).toNat)
  case atStart => exact ⟨0, by omega, rfl, hid (by rw [outK_zero]; exact HO0.out), hb0⟩
  case round =>
    obtain ⟨j, hj, rfl, HOr, hBr⟩ := hrel
    clear HO0 hb0
    by_cases hlt : j < 2
    · have J0 : ∀ (c : Nat) (W : World), Hid (IsB (W.alloc (.cells #[.int .u8 0] 5)) (some ⟨W.heap.size, 0, none⟩) 1 1 [0]) := fun _ W => hid ((Own.new W [0]).isB (by simp))
      have HJ0 := hid J0
      clear J0
      go_wp2_with (first
        | (with_reducible refine wpList_str_room (o := ⟨some 17, _, _, _, _, _⟩) rfl (.tmp 16) rfl s rfl (by omega) wr.heap.size wr (Below.refl _ _) (Nat.le_refl _) ?_; intro c0 w2 hS2 hb2)
        | (refine wpList_append_room1 (o := ⟨some 19, _, _, _, _, _⟩) rfl (.tmp 17) (.tmp 18) rfl wr.heap.size s.size c0 rfl ⟨w2.heap.size, 0, none⟩ 1 rfl s.data.toList 0 HL.out (hS2.out.below ((Below.refl _ _).alloc (Nat.le_refl _) _) hS2.out.1.1) (HJ0.out c0 w2).out (by rw [HL.out]; omega) wr.heap.size wr (hb2.alloc hb2.size _) (Nat.le_trans hb2.size (by simp)) (Nat.le_refl _) ?_; intro p3 c3 w3 J3 hb3))
      have hb3w := hBr.trans (hb3.mono hBr.size)
      with_reducible refine (refApp8 p3 (s.size + 1) c3 _ v _ J3 (by omega)).mono ?_
      rintro e w5 ⟨v5, rfl, hG5, hb5⟩
      have hB5 := hb3w.trans (hb5.mono hb3w.size)
      have hk5 := hkB.below hB5 hkB.lt
      have HO5 := hid (((HOr.out.below hb3 HOr.out.lt)).below hb5 (Nat.lt_of_lt_of_le HOr.out.lt hb3.size))
      have hge : wB.heap.size < w3.heap.size := Nat.lt_of_lt_of_le HOr.out.lt hb3.size
      have hne : some wB.heap.size ≠ v5.ownBlock := by
        intro e; have := (hG5.own _ e.symm).1; omega
      have G5 : Hid (Gr w5 wB.heap.size v5 (txt s.data.toList v.toNat)) := hid (hG5.base (by omega))
      have LL5 : Hid ((txt s.data.toList v.toNat).length + 1 ≤ 140737488355328) := hid (by rw [HT.out]; omega)
      clear hG5 hb5 hb3 hb3w J3 HJ0 hge hBr hS2 hb2
      have Hne := hid hne
      clear hne
      go_wp2_with fail
      rcases (by omega : j = 0 ∨ j = 1) with rfl | rfl
      · have z0 : IntKind.u8.wrap 0 = 0 := by decide
        have JJ5 : Hid (IsB (w5.drew.alloc (.cells #[.int .u8 0] 5)) (some ⟨w5.heap.size, 0, none⟩) 1 1 (beBytes 0 1)) := hid ((Own.new w5.drew (beBytes 0 1)).isB (by rw [length_beBytes]; omega))
        have BB5 := hid ((below_drewN hB5 1).alloc hB5.size (.cells #[.int .u8 0] 5))
        have GG5 := hid (G5.out.below (w' := w5.drew.alloc (.cells #[.int .u8 0] 5)) ((below_drewN (Below.refl _ _) 1).alloc (Nat.le_refl _) _))
        have SS5 := hid BB5.out.size
        refine wp_region_held_drew (S := fun w' => Below wB.heap.size wB w' ∧ w'.rangeAt w.heap.size 0 (k.map bv)) (by kernel_rfl) (⟨below_drewN hB5 1, hk5.drew.range⟩) (fun hHeld => ?_)
        refine wpAnyH_key (i := 0) (oi := ⟨some 22, _, _, _, _, _⟩) rfl (by kernel_rfl) (by kernel_rfl) (by kernel_rfl) (fun _ _ _ h => h) (by rfl) (.tmp 3) rfl rfl hk (fun _ h => h.2) hHeld ?_
        try simp only [Act.put, List.setIfInBounds_toArray, List.set_cons_zero, List.set_cons_succ]
        refine wpAnyH_take (i := 1) (oi := ⟨some 23, _, _, _, _, _⟩) (v := ?_) rfl (by kernel_rfl) (by kernel_rfl) (by kernel_rfl) (fun _ _ _ h => h) (Or.inl ⟨by rfl, ?_⟩) hHeld ?_
        rotate_left
        · intro w hSw; go_simp; try with_reducible rfl
        try simp only [Act.put, List.setIfInBounds_toArray, List.set_cons_zero, List.set_cons_succ]
        refine wpAnyH_take (i := 2) (oi := ⟨some 24, _, _, _, _, _⟩) (v := ?_) rfl (by kernel_rfl) (by kernel_rfl) (by kernel_rfl) (fun _ _ _ h => h) (Or.inl ⟨by rfl, ?_⟩) hHeld ?_
        rotate_left
        · intro w hSw; go_simp; try with_reducible rfl
        try simp only [Act.put, List.setIfInBounds_toArray, List.set_cons_zero, List.set_cons_succ]
        refine wpAnyH_take (i := 3) (oi := ⟨some 25, _, _, _, _, _⟩) (v := ?_) rfl (by kernel_rfl) (by kernel_rfl) (by kernel_rfl) (fun _ _ _ h => h) (Or.inl ⟨by rfl, ?_⟩) hHeld ?_
        rotate_left
        · intro w hSw; go_simp; try with_reducible rfl
        try simp only [Act.put, List.setIfInBounds_toArray, List.set_cons_zero, List.set_cons_succ]
        refine wpAnyH_ready (rs := [4]) (by kernel_rfl) (by simp) ?_
        refine AllReadyH.cons (o := ⟨some 26, _, _, _, _, _⟩) rfl (fun K hK => ?_) AllReadyH.nil
        go_simp
        clear hHeld
        refine hK.out _ _ (⟨(below_drewN hB5 1).alloc hB5.size _, (hk5.drew.below ((Below.refl _ _).alloc (Nat.le_refl _) _) hk5.drew.lt).range⟩) (fun hHeld => ?_)
        clear hK K
        try simp only [Act.put, List.setIfInBounds_toArray, List.set_cons_zero, List.set_cons_succ]
        refine wpAnyH_ready (rs := [5]) (by kernel_rfl) (by simp) ?_
        refine AllReadyH.cons (o := ⟨some 27, _, _, _, _, _⟩) rfl (fun K hK => ?_) AllReadyH.nil
        refine step_append_bytes rfl (.tmp 23) (.tmp 26) rfl v5 (by simp [Act.eval]) (some ⟨w5.heap.size, 0, none⟩) 1 1 (by simp [Act.eval]) wB.heap.size (txt s.data.toList v.toNat) (beBytes 0 1) GG5.out JJ5.out LL5.out wB BB5.out SS5.out ?_
        intro v6 w6 hG6 hB6 hS6
        have hk6 := hkB.below hB6 hkB.lt
        have HO6 : Hid (Ky w6 wB.heap.size (outK k s.data.toList v.toNat 0)) := hid (by
        have := HO5.out
        unfold Ky at this ⊢
        rw [hS6.out _ (Nat.le_refl _) (by simp; exact Nat.lt_of_lt_of_le HO5.out.lt (Nat.le_succ _)) Hne.out]
        rw [← this]
        exact ((Below.refl w5.heap.size w5).alloc (Nat.le_refl _) _).block _ HO5.out.lt)
        clear hHeld
        refine hK.out _ _ (⟨hB6, hk6.range⟩) (fun hHeld => ?_)
        clear hK K
        try simp only [Act.put, List.setIfInBounds_toArray, List.set_cons_zero, List.set_cons_succ]
        refine wpAnyH_ready (rs := [6]) (by kernel_rfl) (by simp) ?_
        refine AllReadyH.cons (o := ⟨some 28, _, _, _, _, _⟩) rfl (fun K hK => ?_) AllReadyH.nil
        go_simp
        obtain ⟨pa, ca, rfl, J6⟩ := hG6.out.isB (by rw [List.length_append, HT.out, length_beBytes]; omega)
        have HL6 : Hid ((txt s.data.toList v.toNat ++ beBytes 0 1).length = s.size + 10) := hid (by rw [List.length_append, HT.out, length_beBytes])
        rw [HL6.out] at J6 ⊢
        with_reducible refine (refSum_any k _ _ _ _ _ hk J6).mono ?_
        rintro e w7 ⟨rfl, hb7⟩
        have hB7 := hB6.trans (hb7.mono hB6.size)
        have hk7 := hk6.below hb7 hk6.lt
        have HO7 := hid (HO6.out.below hb7 HO6.out.lt)
        clear hb7 HO6 hB6
        go_wp2_with fail
        clear hHeld
        refine hK.out _ _ (⟨hB7, hk7.range⟩) (fun hHeld => ?_)
        clear hK K
        try simp only [Act.put, List.setIfInBounds_toArray, List.set_cons_zero, List.set_cons_succ]
        refine wpAnyH_take (i := 7) (oi := ⟨some 10, _, _, _, _, _⟩) (v := ?_) rfl (by kernel_rfl) (by kernel_rfl) (by kernel_rfl) (fun _ _ _ h => h) (Or.inl ⟨by rfl, ?_⟩) hHeld ?_
        rotate_left
        · intro w hSw; go_simp; try with_reducible rfl
        try simp only [Act.put, List.setIfInBounds_toArray, List.set_cons_zero, List.set_cons_succ]
        refine wpAnyH_done (by kernel_rfl) ?_ _
        go_wp2_with fail
        clear hHeld
        go_loopw [11] (fun i wr => ∃ m : Nat, m ≤ 8 ∧ i = .int .i64 m ∧ Hid (Ky wr wB.heap.size (outP k s.data.toList v.toNat (m))) ∧ Below wB.heap.size wB wr) (fun i _ => 8 - (intOf i).toNat)
        case atStart => exact ⟨0, by omega, rfl, hid (by have := HO7.out; rwa [outK_outP] at this), hB7⟩
        case round =>
          obtain ⟨m, hm, rfl, HOq, hBq⟩ := hrel
          clear HO7 hB7
          by_cases hmt : m < 8
          · have e1 := HOq.out.cell (m) (by rw [length_outP _ _ _ _ (by omega)]; omega)
            have e2 := frozen_of_row wr wB.heap.size (m) _ _ HOq.out
            have HS2 := hid (outP_step k s.data.toList v.toNat 0 m (by omega) hmt)
            rw [Nat.mul_zero, Nat.zero_add, Nat.zero_add] at HS2
            have HV2 := hid (le_value (sip k (txt s.data.toList v.toNat ++ beBytes 0 1)) m)
            have HB2 := hid (hBq.setCell (p := ⟨wB.heap.size, m, none⟩) (Nat.le_refl _) (bv (leByte (sip k (txt s.data.toList v.toNat ++ beBytes 0 1)) m)))
            have HK2 := hid (HOq.out.set (m) _ _ (rfl : bv (leByte (sip k (txt s.data.toList v.toNat ++ beBytes 0 1)) m) = _))
            rw [HS2.out] at HK2
            generalize sip k (txt s.data.toList v.toNat ++ beBytes 0 1) = z at *
            go_wp2_with fail
            go_roundw
            case rel => exact ⟨m + 1, by omega, by go_num, by rw [HV2.out]; exact HK2, by rw [HV2.out]; exact HB2.out⟩
            case measure => simp [intOf]; omega
          · obtain rfl : m = 8 := by omega
            go_wp2_with fail
            go_roundw
            case rel => exact ⟨1, by omega, rfl, HOq, hBq⟩
            case measure => simp [intOf]
      · have z0 : IntKind.u8.wrap 1 = 1 := by decide
        have JJ5 : Hid (IsB (w5.drew.alloc (.cells #[.int .u8 1] 5)) (some ⟨w5.heap.size, 0, none⟩) 1 1 (beBytes 1 1)) := hid ((Own.new w5.drew (beBytes 1 1)).isB (by rw [length_beBytes]; omega))
        have BB5 := hid ((below_drewN hB5 1).alloc hB5.size (.cells #[.int .u8 1] 5))
        have GG5 := hid (G5.out.below (w' := w5.drew.alloc (.cells #[.int .u8 1] 5)) ((below_drewN (Below.refl _ _) 1).alloc (Nat.le_refl _) _))
        have SS5 := hid BB5.out.size
        refine wp_region_held_drew (S := fun w' => Below wB.heap.size wB w' ∧ w'.rangeAt w.heap.size 0 (k.map bv)) (by kernel_rfl) (⟨below_drewN hB5 1, hk5.drew.range⟩) (fun hHeld => ?_)
        refine wpAnyH_key (i := 0) (oi := ⟨some 22, _, _, _, _, _⟩) rfl (by kernel_rfl) (by kernel_rfl) (by kernel_rfl) (fun _ _ _ h => h) (by rfl) (.tmp 3) rfl rfl hk (fun _ h => h.2) hHeld ?_
        try simp only [Act.put, List.setIfInBounds_toArray, List.set_cons_zero, List.set_cons_succ]
        refine wpAnyH_take (i := 1) (oi := ⟨some 23, _, _, _, _, _⟩) (v := ?_) rfl (by kernel_rfl) (by kernel_rfl) (by kernel_rfl) (fun _ _ _ h => h) (Or.inl ⟨by rfl, ?_⟩) hHeld ?_
        rotate_left
        · intro w hSw; go_simp; try with_reducible rfl
        try simp only [Act.put, List.setIfInBounds_toArray, List.set_cons_zero, List.set_cons_succ]
        refine wpAnyH_take (i := 2) (oi := ⟨some 24, _, _, _, _, _⟩) (v := ?_) rfl (by kernel_rfl) (by kernel_rfl) (by kernel_rfl) (fun _ _ _ h => h) (Or.inl ⟨by rfl, ?_⟩) hHeld ?_
        rotate_left
        · intro w hSw; go_simp; try with_reducible rfl
        try simp only [Act.put, List.setIfInBounds_toArray, List.set_cons_zero, List.set_cons_succ]
        refine wpAnyH_take (i := 3) (oi := ⟨some 25, _, _, _, _, _⟩) (v := ?_) rfl (by kernel_rfl) (by kernel_rfl) (by kernel_rfl) (fun _ _ _ h => h) (Or.inl ⟨by rfl, ?_⟩) hHeld ?_
        rotate_left
        · intro w hSw; go_simp; try with_reducible rfl
        try simp only [Act.put, List.setIfInBounds_toArray, List.set_cons_zero, List.set_cons_succ]
        refine wpAnyH_ready (rs := [4]) (by kernel_rfl) (by simp) ?_
        refine AllReadyH.cons (o := ⟨some 26, _, _, _, _, _⟩) rfl (fun K hK => ?_) AllReadyH.nil
        go_simp
        clear hHeld
        refine hK.out _ _ (⟨(below_drewN hB5 1).alloc hB5.size _, (hk5.drew.below ((Below.refl _ _).alloc (Nat.le_refl _) _) hk5.drew.lt).range⟩) (fun hHeld => ?_)
        clear hK K
        try simp only [Act.put, List.setIfInBounds_toArray, List.set_cons_zero, List.set_cons_succ]
        refine wpAnyH_ready (rs := [5]) (by kernel_rfl) (by simp) ?_
        refine AllReadyH.cons (o := ⟨some 27, _, _, _, _, _⟩) rfl (fun K hK => ?_) AllReadyH.nil
        refine step_append_bytes rfl (.tmp 23) (.tmp 26) rfl v5 (by simp [Act.eval]) (some ⟨w5.heap.size, 0, none⟩) 1 1 (by simp [Act.eval]) wB.heap.size (txt s.data.toList v.toNat) (beBytes 1 1) GG5.out JJ5.out LL5.out wB BB5.out SS5.out ?_
        intro v6 w6 hG6 hB6 hS6
        have hk6 := hkB.below hB6 hkB.lt
        have HO6 : Hid (Ky w6 wB.heap.size (outK k s.data.toList v.toNat 1)) := hid (by
        have := HO5.out
        unfold Ky at this ⊢
        rw [hS6.out _ (Nat.le_refl _) (by simp; exact Nat.lt_of_lt_of_le HO5.out.lt (Nat.le_succ _)) Hne.out]
        rw [← this]
        exact ((Below.refl w5.heap.size w5).alloc (Nat.le_refl _) _).block _ HO5.out.lt)
        clear hHeld
        refine hK.out _ _ (⟨hB6, hk6.range⟩) (fun hHeld => ?_)
        clear hK K
        try simp only [Act.put, List.setIfInBounds_toArray, List.set_cons_zero, List.set_cons_succ]
        refine wpAnyH_ready (rs := [6]) (by kernel_rfl) (by simp) ?_
        refine AllReadyH.cons (o := ⟨some 28, _, _, _, _, _⟩) rfl (fun K hK => ?_) AllReadyH.nil
        go_simp
        obtain ⟨pa, ca, rfl, J6⟩ := hG6.out.isB (by rw [List.length_append, HT.out, length_beBytes]; omega)
        have HL6 : Hid ((txt s.data.toList v.toNat ++ beBytes 1 1).length = s.size + 10) := hid (by rw [List.length_append, HT.out, length_beBytes])
        rw [HL6.out] at J6 ⊢
        with_reducible refine (refSum_any k _ _ _ _ _ hk J6).mono ?_
        rintro e w7 ⟨rfl, hb7⟩
        have hB7 := hB6.trans (hb7.mono hB6.size)
        have hk7 := hk6.below hb7 hk6.lt
        have HO7 := hid (HO6.out.below hb7 HO6.out.lt)
        clear hb7 HO6 hB6
        go_wp2_with fail
        clear hHeld
        refine hK.out _ _ (⟨hB7, hk7.range⟩) (fun hHeld => ?_)
        clear hK K
        try simp only [Act.put, List.setIfInBounds_toArray, List.set_cons_zero, List.set_cons_succ]
        refine wpAnyH_take (i := 7) (oi := ⟨some 10, _, _, _, _, _⟩) (v := ?_) rfl (by kernel_rfl) (by kernel_rfl) (by kernel_rfl) (fun _ _ _ h => h) (Or.inl ⟨by rfl, ?_⟩) hHeld ?_
        rotate_left
        · intro w hSw; go_simp; try with_reducible rfl
        try simp only [Act.put, List.setIfInBounds_toArray, List.set_cons_zero, List.set_cons_succ]
        refine wpAnyH_done (by kernel_rfl) ?_ _
        go_wp2_with fail
        clear hHeld
        go_loopw [11] (fun i wr => ∃ m : Nat, m ≤ 8 ∧ i = .int .i64 m ∧ Hid (Ky wr wB.heap.size (outP k s.data.toList v.toNat (8 + m))) ∧ Below wB.heap.size wB wr) (fun i _ => 8 - (intOf i).toNat)
        case atStart => exact ⟨0, by omega, rfl, hid (by have := HO7.out; rwa [outK_outP] at this), hB7⟩
        case round =>
          obtain ⟨m, hm, rfl, HOq, hBq⟩ := hrel
          clear HO7 hB7
          by_cases hmt : m < 8
          · have e1 := HOq.out.cell (8 + m) (by rw [length_outP _ _ _ _ (by omega)]; omega)
            have e2 := frozen_of_row wr wB.heap.size (8 + m) _ _ HOq.out
            have HS2 := hid (outP_step k s.data.toList v.toNat 1 m (by omega) hmt)
            rw [Nat.mul_one] at HS2
            have HV2 := hid (le_value (sip k (txt s.data.toList v.toNat ++ beBytes 1 1)) m)
            have HB2 := hid (hBq.setCell (p := ⟨wB.heap.size, 8 + m, none⟩) (Nat.le_refl _) (bv (leByte (sip k (txt s.data.toList v.toNat ++ beBytes 1 1)) m)))
            have HK2 := hid (HOq.out.set (8 + m) _ _ (rfl : bv (leByte (sip k (txt s.data.toList v.toNat ++ beBytes 1 1)) m) = _))
            rw [HS2.out] at HK2
            generalize sip k (txt s.data.toList v.toNat ++ beBytes 1 1) = z at *
            go_wp2_with fail
            go_roundw
            case rel => exact ⟨m + 1, by omega, by go_num, by rw [HV2.out]; exact HK2, by rw [HV2.out]; exact HB2.out⟩
            case measure => simp [intOf]; omega
          · obtain rfl : m = 8 := by omega
            go_wp2_with fail
            go_roundw
            case rel => exact ⟨2, by omega, rfl, HOq, hBq⟩
            case measure => simp [intOf]
    · obtain rfl : j = 2 := by omega
      rw [outK_two] at HOr
      have hrr := hrB.below hBr hrB.lt
      have hBw := hBB.trans (hBr.mono hBB.size)
      go_wp2_with (first | (with_reducible refine wpList_load_key (op := ⟨some 44, _, _, _, _, _⟩) rfl (.tmp 7) rfl rfl HOr.out (length_derL _ _ _) ?_) | (refine wpList_store_key (op := ⟨none, _, _, _, _, _⟩) rfl (.tmp 6) (.tmp 44) rfl rfl rfl hrr (length_zeros 16) (length_derL _ _ _) w.heap.size w hBw (Nat.le_succ _) ?_; intro w7 hR7 hB7))
      exact bodyPost_ret (results_key rfl rfl hR7.out (length_derL _ _ _)) rfl ⟨rfl, hB7⟩
end Go.Proofs.Ytjlogmbgapnceaa
