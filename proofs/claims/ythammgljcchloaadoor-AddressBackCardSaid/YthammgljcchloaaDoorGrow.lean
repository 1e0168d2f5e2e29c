/-
  append, of bytes: within the capacity of a row of the call's own; and to a slice that may grow.
-/
import Derived.Test.YthammgljcchloaaDoorLib
import Derived.Laws.AppendOwnNone
import Derived.Deep.RegionLaw
namespace Go.Proofs.YthammgljcchloaaDoor
open Go.RowKit

theorem newsB {w : World} {ad : Addr} {m c : Nat} {l : List UInt8} (h : IsB w (some ad) m c l) : ∀ j u, (l.map bv)[j]? = some u → w.cell? (ad.add j) = some u := by
  intro j u hj
  have hjl : j < l.length := by
    by_cases hq : j < l.length
    · exact hq
    · simp [hq] at hj
  have hm := h.length
  obtain ⟨b, off, e, _, hc⟩ := h.some (by omega)
  simp at e; subst e
  have hx := hc j (by omega)
  simp [hjl, bv] at hj
  subst hj
  simp only [List.getD_eq_getElem?_getD, hjl, List.getElem?_eq_getElem, Option.getD_some] at hx
  by_cases h0 : j = 0
  · subst h0; simpa [Addr.add] using hx
  · simpa [Addr.add, h0] using hx

theorem bv_one (l : List UInt8) : ∀ u ∈ l.map bv, u.oneCell' = true := by
  intro v hv; simp at hv; obtain ⟨x, _, rfl⟩ := hv; rfl

/-- 'append(s, x...)' within the capacity, s at the head of a row of the call's own -/
theorem wp_append_room {w : World} {o : Oper} {a : Act} {K : Act → World → Prop} {Q : Exit → Act → World → Prop} (s x : Operand)
    (ho : o.op = .call { callee := .builtin .append, args := #[s, x], argTypes := #[26, 26] })
    (g sLen sCap : Nat) (hs : a.eval s = .slice (some ⟨g, 0, none⟩) sLen sCap) (sp : Option Addr) (m c : Nat) (hx : a.eval x = .slice sp m c)
    (cur l : List UInt8) (hg : Own w g cur) (hb : IsB w sp m c l) (hroom : sLen + m ≤ sCap) (hlen : sLen + m ≤ cur.length) (B : Nat) (w0 : World) (hb0 : Below B w0 w) (hBg : B ≤ g)
    (h : ∀ w', Hid (Own w' g (cur.take sLen ++ l ++ cur.drop (sLen + m))) → Below B w0 w' → K (a.put o.dst (.slice (some ⟨g, 0, none⟩) (sLen + m) sCap)) w') :
    o.wp Tryd.prog a w K Q := by
  obtain ⟨i0, hi, hz0, hz1, hz2⟩ := info_parts info5
  cases sp with
  | none =>
    obtain ⟨rfl, rfl⟩ := hb.nil rfl
    have hl : l = [] := List.eq_nil_of_length_eq_zero (by rw [hb.length])
    subst hl
    have hrun : (Builtin.append_ #[26, 26] o.type #[.slice (some ⟨g, 0, none⟩) sLen sCap, .slice none 0 0]).run Tryd.prog w = .ok (.slice (some ⟨g, 0, none⟩) sLen sCap) w := by
      simp [Builtin.append_, run_underlying Tryd.underlying26, sizeOf, typeInfo, hi, Builtin.lenOf, Builtin.firstCells, show sLen ≤ sCap from by omega, storeCells]
    unfold Oper.wp
    simp [execOp, ho, resolve, invoke, builtin, hs, hx, hrun, Result.andThen]
    exact h w (hid (by simpa using hg)) hb0
  | some ad =>
    have hml := hb.length
    have hrun := run_append_room (P := Tryd.prog) w 26 o.type 5 i0 Tryd.underlying26 hi g sLen sCap (row cur) hg ad m c (l.map bv) (by rw [hz1]; simp [hml]) (newsB hb) (bv_one l) hroom (by rw [hz1, size_row]; simp [hml]; omega)
    unfold Oper.wp
    simp [execOp, ho, resolve, invoke, builtin, hs, hx, hrun, Result.andThen]
    refine h _ (hid ?_) ?_
    · have hh := setRow_heap w g (row cur) ((row cur).toList.take (sLen * i0.size) ++ l.map bv ++ (row cur).toList.drop (sLen * i0.size + (l.map bv).length)).toArray 5 (0, 0) hg
      unfold Own
      rw [hz1] at hh
      simpa [row, hml, hz1] using hh
    · exact below_setRow hb0 hBg _

theorem wpList_append_room {w : World} {ops : Array Oper} {rest : List Oper} {o : Oper} {a : Act} {Q : Exit → Act → World → Prop} (hgd : o.guard = none) (s x : Operand)
    (ho : o.op = .call { callee := .builtin .append, args := #[s, x], argTypes := #[26, 26] })
    (g sLen sCap : Nat) (hs : a.eval s = .slice (some ⟨g, 0, none⟩) sLen sCap) (sp : Option Addr) (m c : Nat) (hx : a.eval x = .slice sp m c)
    (cur l : List UInt8) (hg : Own w g cur) (hb : IsB w sp m c l) (hroom : sLen + m ≤ sCap) (hlen : sLen + m ≤ cur.length) (B : Nat) (w0 : World) (hb0 : Below B w0 w) (hBg : B ≤ g)
    (h : ∀ w', Hid (Own w' g (cur.take sLen ++ l ++ cur.drop (sLen + m))) → Below B w0 w' → wpList Tryd.prog ops Q rest (a.put o.dst (.slice (some ⟨g, 0, none⟩) (sLen + m) sCap)) w') :
    wpList Tryd.prog ops Q (o :: rest) a w :=
  wpList_plain hgd fun _ hK => wp_append_room s x ho g sLen sCap hs sp m c hx cur l hg hb hroom hlen B w0 hb0 hBg fun w' h1 h2 => hK _ _ (h w' h1 h2)

/-- the same inside a region that draws its order -/
theorem step_append_roomB {w : World} {ops : Array Oper} {o : Oper} {a : Act} {K : Act → World → Prop} {Q : Exit → Act → World → Prop} {E : Prop} (hgd : o.guard = none) (s x : Operand)
    (ho : o.op = .call { callee := .builtin .append, args := #[s, x], argTypes := #[26, 26] })
    (g sLen sCap : Nat) (hs : a.eval s = .slice (some ⟨g, 0, none⟩) sLen sCap) (sp : Option Addr) (m c : Nat) (hx : a.eval x = .slice sp m c)
    (cur l : List UInt8) (hg : Own w g cur) (hb : IsB w sp m c l) (hroom : sLen + m ≤ sCap) (hlen : sLen + m ≤ cur.length) (B : Nat) (w0 : World) (hb0 : Below B w0 w) (hBg : B ≤ g)
    (h : ∀ w', Hid (Own w' g (cur.take sLen ++ l ++ cur.drop (sLen + m))) → Below B w0 w' → K (a.put o.dst (.slice (some ⟨g, 0, none⟩) (sLen + m) sCap)) w') :
    if Region.wanted o (yielded ops a.tmps) = true then Oper.wp Tryd.prog o a w K Q else E := by
  rw [if_pos (by simp [Region.wanted, hgd])]
  exact wp_append_room s x ho g sLen sCap hs sp m c hx cur l hg hb hroom hlen B w0 hb0 hBg h

/-- the slice v holds the bytes l; it is nil and empty, or begins at the head of a row of the call's own (from block B on) -/
def Gr (w : World) (B : Nat) (v : Value) (l : List UInt8) : Prop := w.ownsRow B 5 1 v l.length (l.map bv)

theorem Gr.nil (w : World) (B : Nat) : Gr w B (.slice none 0 0) [] := World.ownsRow_nil w B _ _

theorem Gr.isB {w : World} {B : Nat} {v : Value} {l : List UInt8} (h : Gr w B v l) (hm : l.length ≤ 281474976710656) : ∃ a cap, v = .slice a l.length cap ∧ IsB w a l.length cap l := by
  rcases h.2 with ⟨rfl, h0⟩ | ⟨g, cap, cur, rfl, _, hh, h1, h2, h3, h4⟩
  · have hl : l = [] := List.eq_nil_of_length_eq_zero h0
    subst hl
    exact ⟨none, 0, rfl, rfl, Nat.le_refl _, by simp, by omega, fun _ => ⟨rfl, rfl⟩, by simp⟩
  · refine ⟨some ⟨g, 0, none⟩, cap, rfl, rfl, h1, hm, by simpa [maxLen] using h2, by simp, fun x hx => ?_⟩
    simp at hx; subst hx
    refine ⟨fun _ => ⟨rfl, (Array.getElem?_eq_some_iff.1 hh).1⟩, fun j hj => ?_⟩
    show w.cell? ⟨g, 0 + j, none⟩ = _
    rw [Nat.zero_add, cell_of_row w g j cur _ (0, 0) hh]
    have e : cur[j]? = (cur.toList.take (l.length * 1))[j]? := by
      rw [List.getElem?_take, if_pos (by omega)]; simp
    rw [e, h4]
    simp [hj, bv, List.getD_eq_getElem?_getD]

theorem Gr.below {w w' : World} {B : Nat} {v : Value} {l : List UInt8} (h : Gr w B v l) (hb : Below w.heap.size w w') : Gr w' B v l := by
  refine ⟨h.1, ?_⟩
  rcases h.2 with h0 | ⟨g, cap, cur, hv, hB, hh, hr⟩
  · exact .inl h0
  · exact .inr ⟨g, cap, cur, hv, hB, by rw [hb.block g (Array.getElem?_eq_some_iff.1 hh).1]; exact hh, hr⟩

/-- 'append(s, x...)', s the call's own: it may grow -/
theorem wp_append_bytes {w : World} {o : Oper} {a : Act} {K : Act → World → Prop} {Q : Exit → Act → World → Prop} (s x : Operand)
    (ho : o.op = .call { callee := .builtin .append, args := #[s, x], argTypes := #[26, 26] })
    (v : Value) (hs : a.eval s = v) (sp : Option Addr) (m c : Nat) (hx : a.eval x = .slice sp m c)
    (B : Nat) (l n : List UInt8) (hg : Gr w B v l) (hb : IsB w sp m c n) (hlen : l.length + m ≤ 140737488355328) (w0 : World) (hb0 : Below B w0 w) (hBw : B ≤ w.heap.size)
    (h : ∀ v' w', Hid (Gr w' B v' (l ++ n)) → Below B w0 w' → Hid (∀ k, B ≤ k → k < w.heap.size → some k ≠ v.ownBlock → w'.heap[k]? = w.heap[k]?) → K (a.put o.dst v') w') :
    o.wp Tryd.prog a w K Q := by
  obtain ⟨i0, hi, hz0, hz1, hz2⟩ := info_parts info5
  have hml := hb.length
  cases sp with
  | none =>
    obtain ⟨rfl, rfl⟩ := hb.nil rfl
    have hl : n = [] := List.eq_nil_of_length_eq_zero (by rw [hml])
    subst hl
    have hrun := run_append_owned_none (P := Tryd.prog) (w := w) B 26 o.type 5 i0 1 Tryd.underlying26 hi v l.length (l.map bv) hg
    unfold Oper.wp
    simp [execOp, ho, resolve, invoke, builtin, hs, hx, hrun, Result.andThen]
    exact h v w (hid (by simpa using hg)) hb0 (hid fun _ _ _ _ => rfl)
  | some ad =>
    refine wp_append_own w s x 26 ho B 5 i0 (.int .u8 0) 1 1 Tryd.underlying26 hi hz0 hz1 hz2 rfl (by decide) v l.length (l.map bv) hs hg ad m c (n.map bv) hx (by simp [hml]) (newsB hb) (bv_one n) (by unfold maxLen; omega) (by omega) hBw ?_
    intro v' w' h1 h2 _
    refine h v' w' (hid ?_) (hb0.grown h2 hBw (fun k hk => (hg.lt k hk).1)) (hid fun k hk1 hk2 hk3 => h2.block k hk2 hk3)
    have e : l.length + m = (l ++ n).length := by simp [hml]
    rw [e, ← List.map_append] at h1
    exact h1

theorem wpList_append_bytes {w : World} {ops : Array Oper} {rest : List Oper} {o : Oper} {a : Act} {Q : Exit → Act → World → Prop} (hgd : o.guard = none) (s x : Operand)
    (ho : o.op = .call { callee := .builtin .append, args := #[s, x], argTypes := #[26, 26] })
    (v : Value) (hs : a.eval s = v) (sp : Option Addr) (m c : Nat) (hx : a.eval x = .slice sp m c)
    (B : Nat) (l n : List UInt8) (hg : Gr w B v l) (hb : IsB w sp m c n) (hlen : l.length + m ≤ 140737488355328) (w0 : World) (hb0 : Below B w0 w) (hBw : B ≤ w.heap.size)
    (h : ∀ v' w', Hid (Gr w' B v' (l ++ n)) → Below B w0 w' → Hid (∀ k, B ≤ k → k < w.heap.size → some k ≠ v.ownBlock → w'.heap[k]? = w.heap[k]?) → wpList Tryd.prog ops Q rest (a.put o.dst v') w') :
    wpList Tryd.prog ops Q (o :: rest) a w :=
  wpList_plain hgd fun _ hK => wp_append_bytes s x ho v hs sp m c hx B l n hg hb hlen w0 hb0 hBw fun v' w' h1 h2 h3 => hK _ _ (h v' w' h1 h2 h3)

theorem step_append_bytes {w : World} {ops : Array Oper} {o : Oper} {a : Act} {K : Act → World → Prop} {Q : Exit → Act → World → Prop} {E : Prop} (hgd : o.guard = none) (s x : Operand)
    (ho : o.op = .call { callee := .builtin .append, args := #[s, x], argTypes := #[26, 26] })
    (v : Value) (hs : a.eval s = v) (sp : Option Addr) (m c : Nat) (hx : a.eval x = .slice sp m c)
    (B : Nat) (l n : List UInt8) (hg : Gr w B v l) (hb : IsB w sp m c n) (hlen : l.length + m ≤ 140737488355328) (w0 : World) (hb0 : Below B w0 w) (hBw : B ≤ w.heap.size)
    (h : ∀ v' w', Hid (Gr w' B v' (l ++ n)) → Below B w0 w' → Hid (∀ k, B ≤ k → k < w.heap.size → some k ≠ v.ownBlock → w'.heap[k]? = w.heap[k]?) → K (a.put o.dst v') w') :
    if Region.wanted o (yielded ops a.tmps) = true then Oper.wp Tryd.prog o a w K Q else E := by
  rw [if_pos (by simp [Region.wanted, hgd])]
  exact wp_append_bytes s x ho v hs sp m c hx B l n hg hb hlen w0 hb0 hBw h

theorem Gr.own {w : World} {B : Nat} {v : Value} {l : List UInt8} (h : Gr w B v l) : ∀ k, v.ownBlock = some k → B ≤ k ∧ k < w.heap.size := fun k hk => World.ownsRow.lt h k hk
end Go.Proofs.YthammgljcchloaaDoor
