/-
  Bytes of blocks that a loop may overwrite, and what such a loop leaves.
-/
import Derived.Test.YtoboflcdiladpaaCanon
import Derived.Test.YtoboflcdiladpaaSame5
namespace Go.Proofs.Ytoboflcdiladpaa
open Go.RowKit
set_option linter.unusedSimpArgs false
set_option linter.unusedVariables false

/-- the first n cells of block g hold some bytes, and may be written -/
def FS (w : World) (g n : Nat) : Prop := n = 0 ∨ ∃ l : List UInt8, l.length = n ∧ FB w g l

theorem FB.set_far {w : World} {g : Nat} {l : List UInt8} (h : FB w g l) (j : Nat) (v : Value) (hj : l.length ≤ j) : FB (w.setCell ⟨g, j, none⟩ v) g l := by
  refine ⟨by simp [World.setCell]; exact h.1, fun i hi => ?_⟩
  obtain ⟨h1, h2⟩ := h.2 i hi
  have hrow : ∃ cs e fr, w.heap[g]? = some (.cells cs e fr) := by
    simp only [World.cell?] at h1
    split at h1
    · rename_i c e f hh; exact ⟨c, e, f, hh⟩
    · simp at h1
  obtain ⟨cs, e, fr, hr⟩ := hrow
  have hnew : (w.setCell ⟨g, j, none⟩ v).heap[g]? = some (.cells (cs.setIfInBounds j v) e fr) := by
    simp [World.setCell, Array.getElem?_modify, hr]
  constructor
  · rw [cell_of_row _ g i _ e fr hnew, Array.getElem?_setIfInBounds_ne (by omega), ← cell_of_row w g i cs e fr hr]
    exact h1
  · have e2 : w.frozen? ⟨g, i, none⟩ = (w.setCell ⟨g, j, none⟩ v).frozen? ⟨g, i, none⟩ := by
      simp only [World.frozen?, hr, hnew]
    rw [← e2]; exact h2

theorem FB.only {w w' : World} {g k : Nat} {l : List UInt8} (h : FB w g l) (hO : Only k w w') (hk : g ≠ k) : FB w' g l :=
  ⟨Nat.lt_of_lt_of_le h.1 hO.size, fun j hj => by
    have hb := hO.block g h.1 hk
    refine ⟨?_, ?_⟩
    · rw [World.cell?_of_block (w := w) (a := ⟨g, j, none⟩) hb]; exact (h.2 j hj).1
    · have := (h.2 j hj).2
      simp only [World.frozen?] at this ⊢
      rw [hb]; exact this⟩

theorem FS.set {w : World} {g n : Nat} (h : FS w g n) (k j : Nat) (x : UInt8) : FS (w.setCell ⟨k, j, none⟩ (bv x)) g n := by
  rcases h with h | ⟨l, hl, hf⟩
  · exact .inl h
  · by_cases hk : g = k
    · subst hk
      by_cases hj : j < l.length
      · exact .inr ⟨l.set j x, by rw [List.length_set]; exact hl, hf.set j x _ rfl hj⟩
      · exact .inr ⟨l, hl, hf.set_far j _ (by omega)⟩
    · exact .inr ⟨l, hl, hf.only (Only.set k j w _) hk⟩

theorem FS.below {w w' : World} {g n B : Nat} (h : FS w g n) (hb : Below B w w') (hg : 0 < n → g < B) : FS w' g n := by
  rcases h with h | ⟨l, hl, hf⟩
  · exact .inl h
  · by_cases hn : n = 0
    · exact .inl hn
    · exact .inr ⟨l, hl, hf.below hb (hg (by omega))⟩

/-- a slice of the call's own: its block, where it has one -/
theorem Gr.pick {w : World} {B : Nat} {v : Value} {l : List UInt8} (h : Gr w B v l) :
    ∃ k a cap, v = .slice a l.length cap ∧ l.length ≤ cap ∧ (0 < l.length → a = some ⟨k, 0, none⟩ ∧ B ≤ k ∧ k < w.heap.size) ∧ FS w k l.length := by
  by_cases hp : 0 < l.length
  · obtain ⟨k, cap, hv, hB, hF, hc, _⟩ := h.fb hp
    exact ⟨k, _, cap, hv, hc, fun _ => ⟨rfl, hB, hF.1⟩, .inr ⟨l, rfl, hF⟩⟩
  · rcases h.2 with ⟨hv, h0⟩ | ⟨g, cap, cur, hv, hB, hh, h1, _⟩
    · exact ⟨0, none, 0, by rw [hv, h0], by omega, fun h => absurd h hp, .inl (by omega)⟩
    · exact ⟨g, _, cap, hv, h1, fun h => absurd h hp, .inl (by omega)⟩

/-- what the loops over a frame's copies leave -/
def FInv (A g2 k3 b9 k1 kp km n1 np nm : Nat) (L : List UInt8) (h : Hd) (p m : Value) (w0 w : World) : Prop :=
  FS w k1 n1 ∧ FS w kp np ∧ FS w km nm ∧ Own w g2 L ∧ FB w k3 L ∧ Fr w b9 h p m ∧ Below A w0 w

theorem FInv.set {A g2 k3 b9 k1 kp km n1 np nm : Nat} {L : List UInt8} {h : Hd} {p m : Value} {w0 w : World} (hI : FInv A g2 k3 b9 k1 kp km n1 np nm L h p m w0 w) (k j : Nat) (x : UInt8)
    (hA : A ≤ k) (h0 : A ≤ w0.heap.size) (h2 : k ≠ g2) (h3 : k ≠ k3) (h9 : k ≠ b9) : FInv A g2 k3 b9 k1 kp km n1 np nm L h p m w0 (w.setCell ⟨k, j, none⟩ (bv x)) := by
  obtain ⟨i1, i2, i3, i4, i5, i6, i7⟩ := hI
  have hO := Only.set k j w (bv x)
  exact ⟨i1.set k j x, i2.set k j x, i3.set k j x, i4.only hO (by omega), i5.only hO (by omega), i6.only hO i6.lt (by omega), i7.trans (hO.below hA (Nat.le_trans h0 i7.size))⟩
end Go.Proofs.Ytoboflcdiladpaa
