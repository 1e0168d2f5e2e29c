/-
  The reference's address out of two words, and its address on the link.
-/
import Derived.Test.YthammgljcchloaaDoorIpReg
import Derived.Test.YthammgljcchloaaDoorHiLo
import Derived.BigRegion
import Derived.Deep.DeepCutAuto
namespace Go.Proofs.YthammgljcchloaaDoor
open Go.RowKit
set_option linter.unusedSimpArgs false
set_option linter.unusedVariables false

theorem Ik.set {w : World} {g : Nat} {l : List UInt8} (h : Ik w g l) (j : Nat) (v : Value) (x : UInt8) (hv : v = bv x) : Ik (w.setCell ⟨g, j, none⟩ v) g (l.set j x) := by
  subst hv
  have := heap_setCell_same w g j _ 23 (bv x) h
  unfold Ik
  rw [this]
  simp [List.map_set, row]
theorem Ik.frozen {w : World} {g : Nat} {l : List UInt8} (h : Ik w g l) (j : Nat) : w.frozen? ⟨g, j, none⟩ = false := frozen_of_row w g j _ 23 h

theorem two_set (l : List UInt8) (k : Nat) (a b : UInt8) (j : Nat) (h8 : k < 8) (hl : l.length = 16) :
    ((l.set k a).set (8 + k) b).getD j 0 = if j = 8 + k then b else if j = k then a else l.getD j 0 := by
  simp only [List.getD_eq_getElem?_getD, List.getElem?_set, List.length_set, hl]
  by_cases h1 : j = 8 + k
  · subst h1; simp; rw [if_pos (by omega)]; rfl
  · rw [if_neg (by omega), if_neg h1]
    by_cases h2 : j = k
    · subst h2; simp; rw [if_pos (by omega)]; rfl
    · rw [if_neg (by omega), if_neg h2]

theorem of_full (l : List UInt8) (x y : Nat) (hl : l.length = 16) (h : ∀ i, i < 8 → l.getD i 0 = beByte x 8 i ∧ l.getD (8 + i) 0 = beByte y 8 i) : l = beBytes x 8 ++ beBytes y 8 := by
  apply List.ext_getElem
  · rw [List.length_append, length_beBytes, length_beBytes, hl]
  · intro i h1 h2
    have hg : ∀ (m : List UInt8) (hi : i < m.length), m[i] = m.getD i 0 := by
      intro m hi; simp [List.getD_eq_getElem?_getD, hi]
    by_cases h8 : i < 8
    · rw [hg l h1, (h i h8).1, List.getElem_append_left (by rw [length_beBytes]; omega)]
      rw [← beBytes_getD x 8 i h8]
      simp [List.getD_eq_getElem?_getD, length_beBytes, h8]
    · obtain ⟨j, rfl⟩ : ∃ j, i = 8 + j := ⟨i - 8, by omega⟩
      rw [hg l h1, (h j (by omega)).2, List.getElem_append_right (by rw [length_beBytes]; omega)]
      rw [← beBytes_getD y 8 j (by omega)]
      simp [List.getD_eq_getElem?_getD, length_beBytes, show j < 8 by omega]

set_option maxHeartbeats 4000000 in
set_option maxRecDepth 100000 in
theorem of_any (x y : Nat) (hx : x < 18446744073709551616) (hy : y < 18446744073709551616) (w : World) :
    Calls Tryd.prog 48 #[.int .u64 x, .int .u64 y] w (RetS (iv (beBytes x 8 ++ beBytes y 8)) w) := by
  have hI2 := (Ik.lit w).below ((Below.refl (w.heap.size + 1) _).alloc (by simp) (.cells #[.int .u8 0, .int .u8 0, .int .u8 0, .int .u8 0, .int .u8 0, .int .u8 0, .int .u8 0, .int .u8 0, .int .u8 0, .int .u8 0, .int .u8 0, .int .u8 0, .int .u8 0, .int .u8 0, .int .u8 0, .int .u8 0] 23)) (Nat.lt_succ_self _)
  have hJ2 := Ik.lit (w.alloc (.cells #[.int .u8 0, .int .u8 0, .int .u8 0, .int .u8 0, .int .u8 0, .int .u8 0, .int .u8 0, .int .u8 0, .int .u8 0, .int .u8 0, .int .u8 0, .int .u8 0, .int .u8 0, .int .u8 0, .int .u8 0, .int .u8 0] 23))
  rw [World.size_alloc] at hJ2
  have hB2 := two_below w (.cells #[.int .u8 0, .int .u8 0, .int .u8 0, .int .u8 0, .int .u8 0, .int .u8 0, .int .u8 0, .int .u8 0, .int .u8 0, .int .u8 0, .int .u8 0, .int .u8 0, .int .u8 0, .int .u8 0, .int .u8 0, .int .u8 0] 23) (.cells #[.int .u8 0, .int .u8 0, .int .u8 0, .int .u8 0, .int .u8 0, .int .u8 0, .int .u8 0, .int .u8 0, .int .u8 0, .int .u8 0, .int .u8 0, .int .u8 0, .int .u8 0, .int .u8 0, .int .u8 0, .int .u8 0] 23)
  go_enter Tryd.func48, Tryd.ntmps48
  go_wp2_with fail
  generalize (w.alloc _).alloc _ = w2 at hI2 hJ2 hB2 ⊢
  go_loopw [6] (fun i wr => ∃ k : Nat, k ≤ 8 ∧ i = .int .i64 k ∧ (∃ l, Ik wr (w.heap.size + 1) l ∧ l.length = 16 ∧ ∀ i, i < k → l.getD i 0 = beByte x 8 i ∧ l.getD (8 + i) 0 = beByte y 8 i) ∧ Ik wr w.heap.size (zeros 16) ∧ Below w.heap.size w wr) (fun i _ => 8 - (intOf i).toNat)
  case atStart => exact ⟨0, by omega, rfl, ⟨zeros 16, hJ2, length_zeros 16, fun i hi => absurd hi (by omega)⟩, hI2, hB2⟩
  case round =>
    obtain ⟨k, hk, rfl, ⟨l, hJ, hl, hbs⟩, hI, hB⟩ := hrel
    by_cases hlt : k < 8
    · have hf1 := hJ.frozen k
      have hf2 := hJ.frozen (8 + k)
      have hc1 := hJ.cell k (by omega)
      have hc2 := hJ.cell (8 + k) (by omega)
      go_wp2_with fail
      go_roundw
      case rel =>
        refine ⟨k + 1, by omega, by go_num, ⟨(l.set k (beByte x 8 k)).set (8 + k) (beByte y 8 k), ?_, by simp [hl], ?_⟩, ?_, (hB.setCell (by simp) _).setCell (by simp) _⟩
        · refine (hJ.set k _ _ ?_).set (8 + k) _ _ ?_
          · have := be_value (x : Int) (by omega) 8 k
            rw [show 8 * (8 - 1 - k) = 56 - 8 * k by omega] at this
            simpa using this
          · have := be_value (y : Int) (by omega) 8 k
            rw [show 8 * (8 - 1 - k) = 56 - 8 * k by omega] at this
            simpa using this
        · intro i hi
          rw [two_set l k _ _ i hlt hl, two_set l k _ _ (8 + i) hlt hl]
          by_cases hik : i = k
          · subst hik
            rw [if_neg (by omega), if_pos rfl, if_pos rfl]; exact ⟨rfl, rfl⟩
          · rw [if_neg (by omega), if_neg hik, if_neg (by omega), if_neg (by omega)]
            exact hbs i (by omega)
        · unfold Ik; rw [heap_setCell_other _ _ _ _ (by simp), heap_setCell_other _ _ _ _ (by simp)]; exact hI
      case measure => simp [intOf]; omega
    · obtain rfl : k = 8 := by omega
      have hfull := of_full l x y hl hbs
      subst hfull
      go_wp2_with (first
        | (with_reducible refine wpList_load_ip (op := ⟨some 30, _, _, _, _, _⟩) rfl (.tmp 5) rfl rfl hJ hl ?_)
        | (with_reducible refine wpList_store_ip (op := ⟨none, _, _, _, _, _⟩) rfl (.tmp 4) (.tmp 30) rfl rfl rfl hI (length_zeros 16) hl w.heap.size w hB (Nat.le_refl _) ?_; intro w7 hR7 hB7))
      exact bodyPost_ret (results_ip rfl rfl hR7.out hl) rfl ⟨rfl, hB7⟩
end Go.Proofs.YthammgljcchloaaDoor
