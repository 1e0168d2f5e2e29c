/-
  The first cells of a block hold bytes, and may be written.
-/
import Derived.Test.YtmbiophckeiehaaLib
import Derived.Test.YtmbiophckeiehaaGrowMore
namespace Go.Proofs.Ytmbiophckeiehaa
open Go.RowKit

/-- the first cells of block g hold the bytes l, and may be written -/
def FB (w : World) (g : Nat) (l : List UInt8) : Prop :=
  g < w.heap.size ∧ ∀ j, j < l.length → w.cell? ⟨g, j, none⟩ = some (.int .u8 (l.getD j 0).toNat) ∧ w.frozen? ⟨g, j, none⟩ = false

theorem FB.isB {w : World} {g : Nat} {l : List UInt8} (h : FB w g l) (len cap : Nat) (hl : l.length = len) (hc : len ≤ cap) (hm : len ≤ 281474976710656) (hcm : cap ≤ 9223372036854775807) : IsB w (some ⟨g, 0, none⟩) len cap l := by
  refine ⟨hl, hc, hm, hcm, by simp, fun x hx => ?_⟩
  simp at hx; subst hx
  exact ⟨fun _ => ⟨rfl, h.1⟩, fun j hj => by simpa using (h.2 j (by omega)).1⟩

theorem FB.below {w w' : World} {g B : Nat} {l : List UInt8} (h : FB w g l) (hb : Below B w w') (hg : g < B) : FB w' g l :=
  ⟨Nat.lt_of_lt_of_le h.1 hb.size, fun j hj => ⟨by rw [hb.cell (p := ⟨g, j, none⟩) hg]; exact (h.2 j hj).1, by rw [hb.frozen (p := ⟨g, j, none⟩) hg]; exact (h.2 j hj).2⟩⟩

theorem FB.set {w : World} {g : Nat} {l : List UInt8} (h : FB w g l) (j : Nat) (x : UInt8) (v : Value) (hv : v = bv x) (hj : j < l.length) : FB (w.setCell ⟨g, j, none⟩ v) g (l.set j x) := by
  subst hv
  refine ⟨by simp [World.setCell]; exact h.1, fun i hi => ?_⟩
  rw [List.length_set] at hi
  obtain ⟨h1, h2⟩ := h.2 i hi
  obtain ⟨h3, h4⟩ := h.2 j hj
  have hrow : ∃ cs e fr, w.heap[g]? = some (.cells cs e fr) := by
    simp only [World.cell?] at h3
    split at h3
    · rename_i c e f hh; exact ⟨c, e, f, hh⟩
    · simp at h3
  obtain ⟨cs, e, fr, hr⟩ := hrow
  have hnew : (w.setCell ⟨g, j, none⟩ (bv x)).heap[g]? = some (.cells (cs.setIfInBounds j (bv x)) e fr) := by
    simp [World.setCell, Array.getElem?_modify, hr]
  have hcs : cs[i]? = some (.int .u8 (l.getD i 0).toNat) := by rw [← h1, cell_of_row w g i cs e fr hr]
  have hcj : j < cs.size := by
    have : cs[j]? = some (.int .u8 (l.getD j 0).toNat) := by rw [← h3, cell_of_row w g j cs e fr hr]
    exact (Array.getElem?_eq_some_iff.1 this).1
  constructor
  · rw [cell_of_row _ g i _ e fr hnew]
    by_cases hij : i = j
    · subst hij
      rw [Array.getElem?_setIfInBounds_self_of_lt hcj, List.getD_eq_getElem?_getD, List.getElem?_set_self hj]
      rfl
    · rw [Array.getElem?_setIfInBounds_ne (by omega), hcs, List.getD_eq_getElem?_getD, List.getD_eq_getElem?_getD, List.getElem?_set_ne (by omega)]
  · have e2 : w.frozen? ⟨g, i, none⟩ = (w.setCell ⟨g, j, none⟩ (bv x)).frozen? ⟨g, i, none⟩ := by
      simp only [World.frozen?, hr, hnew]
    rw [← e2]; exact h2

theorem Gr.fb {w : World} {B : Nat} {v : Value} {l : List UInt8} (h : Gr w B v l) (hp : 0 < l.length) :
    ∃ g cap, v = .slice (some ⟨g, 0, none⟩) l.length cap ∧ B ≤ g ∧ FB w g l ∧ l.length ≤ cap ∧ cap ≤ 9223372036854775807 := by
  rcases h.2 with ⟨_, h0⟩ | ⟨g, cap, cur, rfl, hB, hh, h1, h2, h3, h4⟩
  · omega
  · refine ⟨g, cap, rfl, hB, ⟨(Array.getElem?_eq_some_iff.1 hh).1, fun j hj => ⟨?_, frozen_of_row w g j _ _ hh⟩⟩, h1, by simpa [maxLen] using h2⟩
    rw [cell_of_row w g j cur _ (0, 0) hh]
    have e : cur[j]? = (cur.toList.take (l.length * 1))[j]? := by
      rw [List.getElem?_take, if_pos (by omega)]; simp
    rw [e, h4]
    simp [hj, bv, List.getD_eq_getElem?_getD]
end Go.Proofs.Ytmbiophckeiehaa
