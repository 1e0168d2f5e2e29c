/-
  b[:k], b[i:], b[i:k] of a slice of bytes, whatever it points to: the new slice's pointer behind a variable.
-/
import Derived.Test.YthammgljcchloaaDoorLib
namespace Go.Proofs.YthammgljcchloaaDoor
open Go.RowKit

theorem IsB.take {w : World} {a : Option Addr} {len cap : Nat} {l : List UInt8} (h : IsB w a len cap l) (n : Nat) (hn : n ≤ len) : IsB w a n cap (l.take n) := by
  refine ⟨by rw [List.length_take, h.length]; omega, by have := h.le; omega, by have := h.max; omega, h.capmax, fun ha => ?_, fun x hx => ?_⟩
  · have := h.nil ha; omega
  · obtain ⟨h1, h2⟩ := h.cells x hx
    refine ⟨h1, fun j hj => ?_⟩
    rw [h2 j (by omega)]
    congr 3
    rw [List.getD_eq_getElem?_getD, List.getD_eq_getElem?_getD, List.getElem?_take, if_pos hj]

theorem IsB.drop {w : World} {a : Option Addr} {len cap : Nat} {l : List UInt8} (h : IsB w a len cap l) (k : Nat) (hk : k ≤ len) :
    IsB w (if cap = k then a else a.map (·.add (k * 1))) (len - k) (cap - k) (l.drop k) := by
  have hle := h.le
  have hmax := h.max
  have hcm := h.capmax
  refine ⟨by rw [List.length_drop, h.length], by omega, by omega, by omega, fun ha => ?_, fun x hx => ?_⟩
  · have e : a = none := by
      split at ha
      · exact ha
      · simpa using ha
    have := h.nil e; omega
  · by_cases hc : cap = k
    · rw [if_pos hc] at hx
      obtain ⟨h1, h2⟩ := h.cells x hx
      exact ⟨fun h0 => absurd h0 (by omega), fun j hj => absurd hj (by omega)⟩
    · rw [if_neg hc] at hx
      cases ha : a with
      | none => rw [ha] at hx; simp at hx
      | some y =>
        rw [ha] at hx
        simp at hx
        obtain ⟨h1, h2⟩ := h.cells y ha
        obtain ⟨h3, h4⟩ := h1 (by omega)
        obtain ⟨b, off, spot⟩ := y
        simp at h3 h4 h2
        subst h3
        subst hx
        refine ⟨fun _ => by by_cases hk0 : k = 0 <;> simp [Addr.add, hk0] <;> exact h4, fun j hj => ?_⟩
        have e : ({ block := (Addr.add ⟨b, off, none⟩ k).block, off := (Addr.add ⟨b, off, none⟩ k).off + j, spot := none } : Addr) = ⟨b, off + (k + j), none⟩ := by
          by_cases hk0 : k = 0 <;> simp [Addr.add, hk0, Nat.add_assoc]
        rw [e, h2 (k + j) (by omega)]
        congr 4
        rw [List.getD_eq_getElem?_getD, List.getElem?_drop]

theorem run_size_bytes (W : World) : (sizeOf (Tryd.prog.elem 26)).run Tryd.prog W = .ok 1 W := by
  obtain ⟨i0, hi, hz0, hz1, hz2⟩ := info_parts info5
  have e : Tryd.prog.elem 26 = 5 := by kernel_rfl
  rw [e]
  simp [sizeOf, typeInfo, hi, hz1]

theorem slice_head {w : World} {a : Option Addr} {len cap : Nat} {l : List UInt8} (h : IsB w a len cap l) (k : Nat) (hk : k ≤ len) :
    ∃ p, (∀ W, (Instr.slice 26 (.slice a len cap) none (some (.int .i64 (k : Int))) none).run Tryd.prog W = .ok (.slice p k cap) W) ∧ IsB w p k cap (l.take k) := by
  have hle := h.le
  refine ⟨if cap = 0 then a else a.map (·.add (0 * 1)), fun W => ?_, ?_⟩
  · rw [run_slice_h (P := Tryd.prog) (w := W) 26 a len cap (by kernel_rfl) .i64 (k : Int) (by omega) (by omega), run_size_bytes]
    simp [Result.andThen, sliced]
  · have := (h.drop 0 (by omega)).take k (by omega)
    simpa using this

theorem slice_tail {w : World} {a : Option Addr} {len cap : Nat} {l : List UInt8} (h : IsB w a len cap l) (k : Nat) (hk : k ≤ len) :
    ∃ p, (∀ W, (Instr.slice 26 (.slice a len cap) (some (.int .i64 (k : Int))) none none).run Tryd.prog W = .ok (.slice p (len - k) (cap - k)) W) ∧ IsB w p (len - k) (cap - k) (l.drop k) := by
  have hle := h.le
  refine ⟨if cap = k then a else a.map (·.add (k * 1)), fun W => ?_, h.drop k hk⟩
  rw [run_slice_l (P := Tryd.prog) (w := W) 26 a len cap (by kernel_rfl) .i64 (k : Int) (by omega) (by omega), run_size_bytes]
  simp [Result.andThen, sliced]

theorem slice_mid {w : World} {a : Option Addr} {len cap : Nat} {l : List UInt8} (h : IsB w a len cap l) (i k : Nat) (hi : i ≤ k) (hk : k ≤ len) :
    ∃ p, (∀ W, (Instr.slice 26 (.slice a len cap) (some (.int .i64 (i : Int))) (some (.int .i64 (k : Int))) none).run Tryd.prog W = .ok (.slice p (k - i) (cap - i)) W) ∧ IsB w p (k - i) (cap - i) ((l.drop i).take (k - i)) := by
  have hle := h.le
  refine ⟨if cap = i then a else a.map (·.add (i * 1)), fun W => ?_, (h.drop i (by omega)).take (k - i) (by omega)⟩
  rw [run_slice_lh (P := Tryd.prog) (w := W) 26 a len cap (by kernel_rfl) .i64 .i64 (i : Int) (k : Int) (by omega) (by omega) (by omega), run_size_bytes]
  simp [Result.andThen, sliced]
end Go.Proofs.YthammgljcchloaaDoor
