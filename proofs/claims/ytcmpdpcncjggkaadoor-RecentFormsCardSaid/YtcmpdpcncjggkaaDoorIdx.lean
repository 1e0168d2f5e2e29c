/-
  The first entry that a closure takes: slices.IndexFunc, slices.ContainsFunc, has.
-/
import Derived.Test.YtcmpdpcncjggkaaDoorRc
namespace Go.Proofs.YtcmpdpcncjggkaaDoor
open Go.RowKit
set_option linter.unusedSimpArgs false
set_option linter.unusedVariables false

/-- the index of the first entry of the kind P, or -1 -/
def idxF (P : Ent → Bool) (l : List Ent) : Int := match l.findIdx? P with
  | some i => i
  | none => -1
theorem idxF_some (P : Ent → Bool) (l : List Ent) (i : Nat) (hi : i < l.length) (h1 : ∀ j, j < i → P (l.getD j dE) = false) (h2 : P (l.getD i dE) = true) : idxF P l = i := by
  have h : l.findIdx? P = some i := by
    rw [List.findIdx?_eq_some_iff_getElem]
    refine ⟨hi, by rw [List.getD_eq_getElem?_getD, List.getElem?_eq_getElem hi] at h2; exact h2, fun j hj => ?_⟩
    have := h1 j hj
    rw [List.getD_eq_getElem?_getD, List.getElem?_eq_getElem (by omega)] at this
    simpa using this
  simp [idxF, h]
theorem idxF_none (P : Ent → Bool) (l : List Ent) (h1 : ∀ j, j < l.length → P (l.getD j dE) = false) : idxF P l = -1 := by
  have h : l.findIdx? P = none := by
    rw [List.findIdx?_eq_none_iff]
    intro x hx
    obtain ⟨j, hj, rfl⟩ := List.getElem_of_mem hx
    have := h1 j hj
    rw [List.getD_eq_getElem?_getD, List.getElem?_eq_getElem hj] at this
    exact this
  simp [idxF, h]
theorem idxF_any (P : Ent → Bool) (l : List Ent) : decide (0 ≤ idxF P l) = l.any P := by
  cases h : l.findIdx? P with
  | none =>
    have h2 : idxF P l = -1 := by simp [idxF, h]
    rw [h2]
    rw [List.findIdx?_eq_none_iff] at h
    have : l.any P = false := by rw [List.any_eq_false]; intro x hx; simp [h x hx]
    rw [this]; rfl
  | some i =>
    have h2 : idxF P l = i := by simp [idxF, h]
    rw [h2]
    rw [List.findIdx?_eq_some_iff_getElem] at h
    obtain ⟨hi, hp, _⟩ := h
    have : l.any P = true := by rw [List.any_eq_true]; exact ⟨_, List.getElem_mem hi, hp⟩
    rw [this]; simp

set_option maxHeartbeats 1600000 in
set_option maxRecDepth 100000 in
theorem index_has (a : Option Addr) (len cap : Nat) (l : List Ent) (p r : Nat) (m s e q : Int) (w : World) (hI : IsE w a len cap l) (hp : Ar w p m s e) (hr : w.cell? ⟨r, 0, none⟩ = some (.int .u8 q)) (hpl : p < w.heap.size) (hrl : r < w.heap.size) :
    Calls Tryd.prog 42 #[.slice a len cap, .func (.func 40) #[] #[.pointer (some ⟨p, 0, none⟩), .pointer (some ⟨r, 0, none⟩)]] w (RetS (.int .i64 (idxF (sameF m s e q) l)) w) := by
  have hle := hI.le
  have hmx := hI.max
  have hl := hI.length
  go_enter Tryd.func42, Tryd.ntmps42
  go_wp2
  go_loopw [8] (fun t wr => ∃ i : Nat, i ≤ len ∧ t = .int .i64 i ∧ Hid (∀ j, j < i → sameF m s e q (l.getD j dE) = false) ∧ Below w.heap.size w wr) (fun t _ => len - (intOf t).toNat)
  case atStart => exact ⟨0, Nat.zero_le _, rfl, hid (fun j hj => absurd hj (by omega)), Below.refl _ _⟩
  case round =>
    obtain ⟨i, hi, rfl, hf, hB⟩ := hrel
    by_cases hlt : i < len
    · obtain ⟨b, off, rfl, hb, hc⟩ := hI.some (by omega)
      have hK := rangeAt_below (hc i hlt) hB hb
      generalize hx : l.getD i dE = x at hK
      have HX := hid hx
      clear hx hc
      obtain ⟨k0, k1, k2, k3, k4⟩ := el_cells hK
      have hs := same_any x p r m s e q wr (hp.below hB hpl) ((hB.cell (p := ⟨r, 0, none⟩) hrl).trans hr) (Nat.lt_of_lt_of_le hpl hB.size)
      simp only [ev] at hs
      generalize hP : sameF m s e q x = P at hs
      have HP := hid hP
      clear hP
      go_wp2_with fail
      with_reducible refine hs.mono ?_
      rintro e' w2 ⟨rfl, hb2⟩
      have hB2 := seq hB hb2
      clear hs hb2 k0 k1 k2 k3 k4
      cases P
      · go_wp2
        go_roundw
        case rel => exact ⟨i + 1, by omega, by go_num, hid (fun j hj => by
          rcases Nat.lt_or_ge j i with h | h
          · exact hf.out j h
          · obtain rfl : j = i := by omega
            rw [HX.out]; exact HP.out), hB2⟩
        case measure => simp [intOf]; omega
      · go_wp2
        go_ret
        exact ⟨ret_int (idxF_some _ _ i (by omega) hf.out (by rw [HX.out]; exact HP.out)).symm, hB2⟩
    · obtain rfl : i = len := by omega
      go_wp2
      go_ret
      exact ⟨ret_int (idxF_none _ _ (by rw [hl]; exact hf.out)).symm, hB⟩
end Go.Proofs.YtcmpdpcncjggkaaDoor
