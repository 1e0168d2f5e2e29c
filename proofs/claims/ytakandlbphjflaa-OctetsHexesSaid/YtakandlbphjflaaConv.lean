import Derived.Test.YtakandlbphjflaaLib
namespace Go.Proofs.Ytakandlbphjflaa
open Go.RowKit

/-- the first cells of block g hold the bytes l, and may be written -/
def FB (w : World) (g : Nat) (l : List UInt8) : Prop :=
  g < w.heap.size ∧ ∀ j, j < l.length → w.cell? ⟨g, j, none⟩ = some (.int .u8 (l.getD j 0).toNat) ∧ w.frozen? ⟨g, j, none⟩ = false

theorem FB.isB {w : World} {g : Nat} {l : List UInt8} (h : FB w g l) (len cap : Nat) (hl : l.length = len) (hc : len ≤ cap) (hm : len ≤ 281474976710656) (hcm : cap ≤ 9223372036854775807) : IsB w (some ⟨g, 0, none⟩) len cap l := by
  refine ⟨hl, hc, hm, hcm, by simp, fun x hx => ?_⟩
  simp at hx; subst hx
  exact ⟨fun _ => ⟨rfl, h.1⟩, fun j hj => by simpa using (h.2 j (by omega)).1⟩

theorem FB.below {w w' : World} {g B : Nat} {l : List UInt8} (h : FB w g l) (hb : Below B w w') (hg : g < B) : FB w' g l :=
  ⟨Nat.lt_of_lt_of_le h.1 hb.size, fun j hj => ⟨by rw [hb.cell (p := ⟨g, j, none⟩) hg]; exact (h.2 j hj).1, by rw [hb.frozen (p := ⟨g, j, none⟩) hg]; exact (h.2 j hj).2⟩⟩

/-- '[]byte(s)' -/
theorem wpList_str_bytes {w : World} {ops : Array Oper} {rest : List Oper} {o : Oper} {a : Act} {Q : Exit → Act → World → Prop} (hgd : o.guard = none) (x : Operand) (ho : o.op = .convert 9 22 x)
    (s : ByteArray) (hx : a.eval x = .string s) (hs : s.size ≤ 281474976710656) (B : Nat) (w0 : World) (hb0 : Below B w0 w) (hBw : B ≤ w.heap.size)
    (h : ∀ cap w', Hid (FB w' w.heap.size s.data.toList) → s.size ≤ cap → cap ≤ 9223372036854775807 → Below B w0 w' → wpList Try.prog ops Q rest (a.put o.dst (.slice (some ⟨w.heap.size, 0, none⟩) s.size cap)) w') :
    wpList Try.prog ops Q (o :: rest) a w := by
  have hrun := run_bytes_of_string (P := Try.prog) w 9 22 5 s Try.underlying9 Try.underlying22 Try.underlying5
  have hl : s.data.toList.length = s.size := by rw [Array.length_toList]; rfl
  have hcap : s.size ≤ grownCap w s.size 0 5 := by
    have := grownCap_ge w s.size 0 5
    exact this
  have hcm : grownCap w s.size 0 5 ≤ 9223372036854775807 := by
    have := grownCap_le_maxLen w s.size 0 5 (by unfold maxLen; omega)
    simpa [maxLen] using this
  refine wpList_plain hgd fun K hK => ?_
  unfold Oper.wp
  simp [execOp, ho, hx, hrun, Result.andThen]
  refine hK _ _ (h _ _ (hid ?_) hcap hcm ((hb0.drew).alloc hBw _))
  have hrow : (w.drew.alloc (.cells (bytesRow s (grownCap w s.size 0 5)) 5 ((bytesRow s (grownCap w s.size 0 5)).size, (bytesRow s (grownCap w s.size 0 5)).size + 1))).heap[w.heap.size]? = some (.cells (bytesRow s (grownCap w s.size 0 5)) 5 ((bytesRow s (grownCap w s.size 0 5)).size, (bytesRow s (grownCap w s.size 0 5)).size + 1)) := heap_alloc_new w.drew _
  refine ⟨(Array.getElem?_eq_some_iff.1 hrow).1, fun j hj => ?_⟩
  have hjs : j < s.size := by rw [← hl]; exact hj
  constructor
  · rw [cell_of_row _ _ j _ _ _ hrow, bytesRow, Array.getElem?_append_left (by simpa using hjs)]
    rw [List.getD_eq_getElem?_getD, List.getElem?_eq_getElem hj, Option.getD_some]
    simp [hjs]
  · have hsz : (bytesRow s (grownCap w s.size 0 5)).size = grownCap w s.size 0 5 := by
      simp [bytesRow]; show s.size + _ = _; omega
    simp only [World.frozen?, hrow]
    rw [Bool.and_eq_false_iff]
    left
    rw [hsz]
    simp
    omega

theorem FB.set {w : World} {g : Nat} {l : List UInt8} (h : FB w g l) (j : Nat) (x : UInt8) (v : Value) (hv : v = bv x) (hj : j < l.length) : FB (w.setCell ⟨g, j, none⟩ v) g (l.set j x) := by
  subst hv
  refine ⟨by simp [World.setCell]; exact h.1, fun i hi => ?_⟩
  rw [List.length_set] at hi
  obtain ⟨h1, h2⟩ := h.2 i hi
  obtain ⟨h3, h4⟩ := h.2 j hj
  have hrow : ∃ cs e fr, w.heap[g]? = some (.cells cs e fr) := by
    simp only [World.cell?] at h3
    split at h3
    · rename_i c e f hh; exact ⟨c, e, f, hh⟩
    · simp at h3
  obtain ⟨cs, e, fr, hr⟩ := hrow
  have hnew : (w.setCell ⟨g, j, none⟩ (bv x)).heap[g]? = some (.cells (cs.setIfInBounds j (bv x)) e fr) := by
    simp [World.setCell, Array.getElem?_modify, hr]
  have hcs : cs[i]? = some (.int .u8 (l.getD i 0).toNat) := by rw [← h1, cell_of_row w g i cs e fr hr]
  have hcj : j < cs.size := by
    have : cs[j]? = some (.int .u8 (l.getD j 0).toNat) := by rw [← h3, cell_of_row w g j cs e fr hr]
    exact (Array.getElem?_eq_some_iff.1 this).1
  constructor
  · rw [cell_of_row _ g i _ e fr hnew]
    by_cases hij : i = j
    · subst hij
      rw [Array.getElem?_setIfInBounds_self_of_lt hcj, List.getD_eq_getElem?_getD, List.getElem?_set_self hj]
      rfl
    · rw [Array.getElem?_setIfInBounds_ne (by omega), hcs, List.getD_eq_getElem?_getD, List.getD_eq_getElem?_getD, List.getElem?_set_ne (by omega)]
  · have e2 : w.frozen? ⟨g, i, none⟩ = (w.setCell ⟨g, j, none⟩ (bv x)).frozen? ⟨g, i, none⟩ := by
      simp only [World.frozen?, hr, hnew]
    rw [← e2]; exact h2

/-- 'string(b)' of such bytes -/
theorem run_string_fb {w : World} {g : Nat} {l : List UInt8} (h : FB w g l) (len cap : Nat) (hl : l.length = len) :
    (convert 22 9 (.slice (some ⟨g, 0, none⟩) len cap)).run Try.prog w = .ok (.string ⟨l.toArray⟩) w := by
  subst hl
  refine run_convert_bytes_back w 22 9 5 ⟨g, 0, none⟩ cap l Try.underlying22 Try.underlying5 Try.underlying9 fun j hj => ?_
  have := (h.2 j hj).1
  rw [List.getD_eq_getElem?_getD, List.getElem?_eq_getElem hj, Option.getD_some] at this
  by_cases h0 : j = 0
  · subst h0; simpa [Addr.add] using this
  · simpa [Addr.add, h0] using this
end Go.Proofs.Ytakandlbphjflaa
