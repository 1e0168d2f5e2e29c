import Derived.Test.YtakandlbphjflaaRefBits
import Derived.Test.YtakandlbphjflaaGrow
import Derived.Test.YtakandlbphjflaaTape
import Derived.RegionTactic
import Derived.ChangeAlike
import Derived.Deep.RegionLaw
import Derived.Deep.DeepCutAuto
namespace Go.Proofs.Ytakandlbphjflaa
open Go.RowKit

/-- the reference's bytes behind c rounds -/
def refTo (l : List UInt8) (n v k : Nat) : Nat → List UInt8
  | 0 => l
  | c + 1 => orBit (if (n + c) % 8 = 0 then refTo l n v k c ++ [0] else refTo l n v k c) (n + c) (v / 2 ^ (k - 1 - c) % 2)

theorem length_refTo (l : List UInt8) (n v k : Nat) (h : l.length = (n + 7) / 8) : ∀ c, (refTo l n v k c).length = (n + c + 7) / 8
  | 0 => by simpa [refTo] using h
  | c + 1 => by
    rw [refTo, length_orBit]
    split
    · rw [List.length_append, length_refTo l n v k h c]; simp; omega
    · rw [length_refTo l n v k h c]; omega

theorem bitN_snoc0 (l : List UInt8) (j : Nat) : bitN (l ++ [0]) j = bitN l j := by
  have := bitN_append_zeros l 1 j
  simpa [zeros] using this

theorem bitN_refTo (l : List UInt8) (n v k : Nat) (hv : validB l n = true) : ∀ c, c ≤ k → ∀ j, bitN (refTo l n v k c) j = if j < n then bitN l j else if j < n + c then v / 2 ^ (k - 1 - (j - n)) % 2 else 0
  | 0, _, j => by
    rw [refTo]
    split
    · rfl
    · rw [if_neg (by omega)]
      exact ((validB_iff l n).1 hv).2.2 j (by simp; omega)
  | c + 1, hc, j => by
    have hl : l.length = (n + 7) / 8 := by have := ((validB_iff l n).1 hv).2.1; omega
    have hlen := length_refTo l n v k hl c
    have e : ∀ j, bitN (if (n + c) % 8 = 0 then refTo l n v k c ++ [0] else refTo l n v k c) j = bitN (refTo l n v k c) j := by
      intro j; split
      · exact bitN_snoc0 _ _
      · rfl
    have hin : (n + c) / 8 < (if (n + c) % 8 = 0 then refTo l n v k c ++ [0] else refTo l n v k c).length := by
      split
      · rw [List.length_append, hlen]; simp; omega
      · rw [hlen]; omega
    rw [refTo, bitN_orBit _ _ _ _ hin (Nat.mod_lt _ (by decide)), e, bitN_refTo l n v k hv c (by omega) j]
    by_cases hj : j = n + c
    · subst hj
      rw [if_pos rfl, if_neg (by omega), if_neg (by omega), if_neg (by omega), if_pos (by omega), show n + c - n = c from by omega]
      omega
    · rw [if_neg hj]
      split
      · rfl
      · by_cases h2 : j < n + c
        · rw [if_pos h2, if_pos (by omega)]
        · rw [if_neg h2, if_neg (by omega)]

theorem refTo_eq (l : List UInt8) (n v k : Nat) (hv : validB l n = true) : refTo l n v k k = appTo l n v k k := by
  have hl : l.length = (n + 7) / 8 := by have := ((validB_iff l n).1 hv).2.1; omega
  apply bitN_ext
  · rw [length_refTo l n v k hl, length_appTo l n v k (by omega)]
  · intro i _
    rw [bitN_refTo l n v k hv k (Nat.le_refl _), bitN_appTo l n v k hv k (Nat.le_refl _)]

/-- a bit string in block g, its bytes the slice v -/
def BoxV (w : World) (g : Nat) (v : Value) (n : Int) : Prop := w.heap[g]? = some (.cells #[v, .int .i64 n] 24 (0, 0))
theorem BoxV.lt {w : World} {g : Nat} {v : Value} {n : Int} (h : BoxV w g v n) : g < w.heap.size := (Array.getElem?_eq_some_iff.1 h).1
theorem BoxV.c0 {w : World} {g : Nat} {v : Value} {n : Int} (h : BoxV w g v n) : w.cell? ⟨g, 0, none⟩ = some v := by rw [cell_of_row w g 0 _ _ (0, 0) h]; rfl
theorem BoxV.c1 {w : World} {g : Nat} {v : Value} {n : Int} (h : BoxV w g v n) : w.cell? ⟨g, 1, none⟩ = some (.int .i64 n) := by rw [cell_of_row w g 1 _ _ (0, 0) h]; rfl
theorem BoxV.frozen {w : World} {g : Nat} {v : Value} {n : Int} (h : BoxV w g v n) (j : Nat) : w.frozen? ⟨g, j, none⟩ = false := frozen_of_row w g j _ _ h
theorem BoxV.set0 {w : World} {g : Nat} {v : Value} {n : Int} (h : BoxV w g v n) (v' : Value) : BoxV (w.setCell ⟨g, 0, none⟩ v') g v' n := by
  unfold BoxV; rw [heap_setCell_same w g 0 _ _ v' h]; rfl
theorem BoxV.set1 {w : World} {g : Nat} {v : Value} {n : Int} (h : BoxV w g v n) (n' : Int) : BoxV (w.setCell ⟨g, 1, none⟩ (.int .i64 n')) g v n' := by
  unfold BoxV; rw [heap_setCell_same w g 1 _ _ (.int .i64 n') h]; rfl
theorem BoxV.set_other {w : World} {g : Nat} {v : Value} {n : Int} (h : BoxV w g v n) (p : Addr) (u : Value) (hp : g ≠ p.block) : BoxV (w.setCell p u) g v n := by
  unfold BoxV; rw [heap_setCell_other _ _ _ _ hp]; exact h
theorem BoxV.below {w w' : World} {g B : Nat} {v : Value} {n : Int} (h : BoxV w g v n) (hb : Below B w w') (hg : g < B) : BoxV w' g v n := by
  unfold BoxV; rw [hb.block g hg]; exact h

/-- an owned row is no bit string's block -/
theorem Gr.ne_box {w : World} {B X : Nat} {v u : Value} {l : List UInt8} {n : Int} (h : Gr w B v l) (hx : BoxV w X u n) : some X ≠ v.ownBlock := by
  rcases h.2 with ⟨rfl, _⟩ | ⟨g, cap, cur, rfl, _, hh, _⟩
  · simp [Value.ownBlock]
  · intro e
    simp [Value.ownBlock] at e
    subst e
    unfold BoxV at hx
    rw [hh] at hx
    simp at hx

theorem Gr.set_box {w : World} {B X j : Nat} {v u z : Value} {l : List UInt8} {n : Int} (h : Gr w B v l) (hx : BoxV w X u n) : Gr (w.setCell ⟨X, j, none⟩ z) B v l := by
  have hne := h.ne_box hx
  refine ⟨h.1, ?_⟩
  rcases h.2 with h0 | ⟨g, cap, cur, hv, hB, hh, hr⟩
  · exact .inl h0
  · refine .inr ⟨g, cap, cur, hv, hB, ?_, hr⟩
    have hg : g ≠ X := by
      intro e; apply hne; rw [hv, e]; rfl
    rw [heap_setCell_other _ _ _ _ hg]; exact hh

/-- an owned row that is not empty, opened -/
theorem Gr.row {w : World} {B : Nat} {v : Value} {l : List UInt8} (h : Gr w B v l) (hp : 0 < l.length) :
    ∃ g cap, v = .slice (some ⟨g, 0, none⟩) l.length cap ∧ B ≤ g ∧ (∀ j, j < l.length → w.cell? ⟨g, j, none⟩ = some (.int .u8 (l.getD j 0).toNat)) ∧ (∀ j, w.frozen? ⟨g, j, none⟩ = false) ∧
      (∀ j x z, z = bv x → Gr (w.setCell ⟨g, j, none⟩ z) B v (l.set j x)) := by
  rcases h.2 with ⟨_, h0⟩ | ⟨g, cap, cur, rfl, hB, hh, h1, h2, h3, h4⟩
  · omega
  · refine ⟨g, cap, rfl, hB, fun j hj => ?_, fun j => frozen_of_row w g j cur _ hh, fun j x z hz => ?_⟩
    · rw [cell_of_row w g j cur _ (0, 0) hh]
      have e : cur[j]? = (cur.toList.take (l.length * 1))[j]? := by
        rw [List.getElem?_take, if_pos (by omega)]; simp
      rw [e, h4]
      simp [hj, bv, List.getD_eq_getElem?_getD]
    · subst hz
      have := (World.ownsRow.stored h j (bv x)).1
      unfold Gr
      rw [List.length_set, List.map_set]
      exact this

theorem Gr.only_box {w w' : World} {B X : Nat} {v u : Value} {n : Int} (hx : BoxV w X u n) (hB : B ≤ X) (hne : some X ≠ v.ownBlock)
    (h : ∀ k, B ≤ k → k < w.heap.size → some k ≠ v.ownBlock → w'.heap[k]? = w.heap[k]?) : BoxV w' X u n := by
  unfold BoxV; rw [h X hB hx.lt hne]; exact hx

theorem Gr.shape {w : World} {B : Nat} {v : Value} {l : List UInt8} (h : Gr w B v l) : ∃ a cap, v = .slice a l.length cap := by
  rcases h.2 with ⟨rfl, h0⟩ | ⟨g, cap, cur, rfl, _⟩
  · exact ⟨none, 0, by rw [h0]⟩
  · exact ⟨_, cap, rfl⟩

/-- a slice of no byte, at the head of a new block -/
theorem gr_empty (w : World) (B : Nat) (hB : B ≤ w.heap.size) : Gr (w.alloc (.cells #[] 5)) B (.slice (some ⟨w.heap.size, 0, none⟩) 0 0) [] :=
  ⟨rfl, .inr ⟨w.heap.size, 0, #[], rfl, hB, heap_alloc_new w _, Nat.le_refl _, by unfold maxLen; omega, rfl, rfl⟩⟩

theorem orBit_zero (l : List UInt8) (i : Nat) (h : i / 8 < l.length) : orBit l i 0 = l := by
  unfold orBit
  apply List.ext_getElem (by simp)
  intro j h1 h2
  by_cases hj : i / 8 = j
  · subst hj
    rw [List.getElem_set_self, List.getD_eq_getElem?_getD, List.getElem?_eq_getElem h, Option.getD_some]
    apply UInt8.toNat_inj.1
    simp
  · rw [List.getElem_set_ne hj]

/-- 'x += 1<<s' where the bit is not set -/
theorem add_bit (x : UInt8) (s : Nat) (hs : s ≤ 7) (hb : x.toNat / 2 ^ s % 2 = 0) : (x.toNat + 2 ^ s) = x.toNat ||| 1 * 2 ^ s := by
  have h1 : x.toNat = x.toNat / 2 ^ (s + 1) * 2 ^ (s + 1) + x.toNat % 2 ^ s := by
    have e := Nat.div_add_mod x.toNat (2 ^ s)
    have e2 := Nat.div_add_mod (x.toNat / 2 ^ s) 2
    rw [hb] at e2
    have e3 : x.toNat / 2 ^ (s + 1) = x.toNat / 2 ^ s / 2 := by rw [Nat.pow_succ, Nat.div_div_eq_div_mul]
    rw [e3, Nat.pow_succ, Nat.mul_comm (2 ^ s) 2, ← Nat.mul_assoc, Nat.mul_comm _ 2]
    have e4 : 2 * (x.toNat / 2 ^ s / 2) = x.toNat / 2 ^ s := by omega
    rw [e4, Nat.mul_comm]
    omega
  have hlt : x.toNat % 2 ^ s < 2 ^ s := Nat.mod_lt _ (Nat.two_pow_pos s)
  apply Nat.eq_of_testBit_eq
  intro t
  rw [Nat.testBit_or, Nat.one_mul, Nat.testBit_two_pow]
  rw [h1]
  generalize x.toNat / 2 ^ (s + 1) = p
  generalize x.toNat % 2 ^ s = q at *
  have e1 : p * 2 ^ (s + 1) + q + 2 ^ s = 2 ^ (s + 1) * p + (2 ^ s * 1 + q) := by rw [Nat.mul_comm p]; omega
  have e2 : p * 2 ^ (s + 1) + q = 2 ^ (s + 1) * p + q := by rw [Nat.mul_comm p]
  rw [e1, e2]
  have b1 : 2 ^ s * 1 + q < 2 ^ (s + 1) := by rw [Nat.pow_succ]; omega
  have b2 : q < 2 ^ (s + 1) := by rw [Nat.pow_succ]; omega
  rw [Nat.testBit_two_pow_mul_add _ b1, Nat.testBit_two_pow_mul_add _ b2, Nat.testBit_two_pow_mul_add _ hlt]
  by_cases ht : t < s + 1
  · rw [if_pos ht, if_pos ht]
    by_cases hts : t < s
    · rw [if_pos hts]; simp; omega
    · have : t = s := by omega
      subst this
      rw [if_neg (by omega)]
      simp
  · rw [if_neg ht, if_neg ht]
    have : ¬ s = t := by omega
    simp [this]
end Go.Proofs.Ytakandlbphjflaa
