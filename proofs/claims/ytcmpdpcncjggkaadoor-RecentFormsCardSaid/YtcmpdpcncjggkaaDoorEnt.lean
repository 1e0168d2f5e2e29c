/-
  Lists of received frames: slices of structs of five cells.
-/
import Derived.Test.YtcmpdpcncjggkaaDoorAdReg
import Derived.Test.YtcmpdpcncjggkaaDoorNum
import Derived.Laws.AppendOwn
import Derived.ArgAppend
import Derived.Laws.OwnMore
import Derived.Great.BuildSlice
namespace Go.Proofs.YtcmpdpcncjggkaaDoor
open Go.RowKit
set_option linter.unusedSimpArgs false
set_option linter.unusedVariables false

/-- a received frame: its sender's link address (mode, short, long), its number, until when it is known -/
structure Ent where
  m : Int
  s : Int
  e : Int
  q : Int
  u : Int

def dE : Ent := ⟨0, 0, 0, 0, 0⟩
/-- its five cells -/
def el (x : Ent) : List Value := [.int .i64 x.m, .int .u16 x.s, .int .u64 x.e, .int .u8 x.q, .int .i64 x.u]
def ev (x : Ent) : Value := .agg #[.int .i64 x.m, .int .u16 x.s, .int .u64 x.e, .int .u8 x.q, .int .i64 x.u]
def fl (l : List Ent) : List Value := l.flatMap el
theorem ev_el (x : Ent) : Value.agg (el x).toArray = ev x := rfl
theorem length_el (x : Ent) : (el x).length = 5 := rfl
theorem el_one (x : Ent) : ∀ v ∈ el x, v.oneCell' = true := by
  intro v hv; simp [el] at hv; rcases hv with rfl | rfl | rfl | rfl | rfl <;> rfl
theorem length_fl (l : List Ent) : (fl l).length = l.length * 5 := by
  induction l with
  | nil => rfl
  | cons x r ih => rw [fl, List.flatMap_cons, List.length_append, ← fl, ih, length_el, List.length_cons]; omega
theorem fl_one (l : List Ent) : ∀ v ∈ fl l, v.oneCell' = true := by
  intro v hv; simp only [fl, List.mem_flatMap] at hv; obtain ⟨x, _, hx⟩ := hv; exact el_one x v hx
theorem fl_append (l k : List Ent) : fl (l ++ k) = fl l ++ fl k := by simp [fl]
theorem getD_cons_succ (x : Ent) (r : List Ent) (j : Nat) : (x :: r).getD (j + 1) dE = r.getD j dE := by simp [List.getD_eq_getElem?_getD]
theorem fl_get (l : List Ent) : ∀ (j : Nat), j < l.length → ∀ i, i < 5 → (fl l)[j * 5 + i]? = (el (l.getD j dE))[i]? := by
  induction l with
  | nil => intro j hj; simp at hj
  | cons x r ih =>
    intro j hj i hi
    rw [fl, List.flatMap_cons, ← fl]
    cases j with
    | zero => rw [List.getElem?_append_left (by rw [length_el]; omega)]; simp
    | succ j =>
      rw [List.getElem?_append_right (by rw [length_el]; omega), length_el, show (j + 1) * 5 + i - 5 = j * 5 + i from by omega, ih j (by simpa using hj) i hi, getD_cons_succ]
theorem fl_take (l : List Ent) (n : Nat) : fl (l.take n) = (fl l).take (n * 5) := by
  induction l generalizing n with
  | nil => simp [fl]
  | cons x r ih =>
    cases n with
    | zero => simp [fl]
    | succ n =>
      have e1 : fl (x :: r.take n) = el x ++ fl (r.take n) := by simp [fl]
      have e2 : fl (x :: r) = el x ++ fl r := by simp [fl]
      rw [List.take_succ_cons, e1, e2, ih, List.take_append, length_el, List.take_of_length_le (l := el x) (by rw [length_el]; omega), show (n + 1) * 5 - 5 = n * 5 from by omega]

theorem ent_info : (Tryd.prog.info? 36).map (·.size) = some 5 := by kernel_rfl
theorem ent_info3 : (Tryd.prog.info? 36).map (fun i => (i.zero, i.size, i.bytes)) = some (some (ev dE), 5, 40) := by kernel_rfl

/-- A slice of received frames: address a, its length, its capacity, its elements l. -/
structure IsE (w : World) (a : Option Addr) (len cap : Nat) (l : List Ent) : Prop where
  length : l.length = len
  le : len ≤ cap
  max : len ≤ 281474976710656
  capmax : cap ≤ 9223372036854775807
  nil : a = none → len = 0 ∧ cap = 0
  cells : ∀ x, a = some x → (0 < cap → x.spot = none ∧ x.block < w.heap.size) ∧ ∀ j, j < len → w.rangeAt x.block (x.off + j * 5) (el (l.getD j dE))

theorem IsE.zero (w : World) : IsE w none 0 0 [] := ⟨rfl, Nat.le_refl _, by omega, by omega, fun _ => ⟨rfl, rfl⟩, fun x hx => by cases hx⟩

theorem IsE.some {w : World} {a : Option Addr} {len cap : Nat} {l : List Ent} (h : IsE w a len cap l) (hp : 0 < len) :
    ∃ b off, a = some ⟨b, off, none⟩ ∧ b < w.heap.size ∧ ∀ j, j < len → w.rangeAt b (off + j * 5) (el (l.getD j dE)) := by
  cases ha : a with
  | none => have := h.nil ha; omega
  | some x =>
    obtain ⟨h1, h2⟩ := h.cells x ha
    obtain ⟨h3, h4⟩ := h1 (by have := h.le; omega)
    obtain ⟨b, off, spot⟩ := x
    simp at h3 h4 h2
    subst h3
    exact ⟨b, off, rfl, h4, h2⟩

theorem rangeAt_below {w w' : World} {g o B : Nat} {cs : List Value} (h : w.rangeAt g o cs) (hb : Below B w w') (hg : g < B) : w'.rangeAt g o cs := by
  intro j v hj
  rw [hb.cell (p := ⟨g, o + j, none⟩) hg]; exact h j v hj
theorem rangeAt_only {w w' : World} {g o k : Nat} {cs : List Value} (h : w.rangeAt g o cs) (hO : Only k w w') (hg : g < w.heap.size) (hk : g ≠ k) : w'.rangeAt g o cs := by
  intro j v hj
  rw [World.cell?_of_block (w := w) (a := ⟨g, o + j, none⟩) (hO.block g hg hk)]; exact h j v hj

theorem IsE.below {w w' : World} {a : Option Addr} {len cap : Nat} {l : List Ent} (h : IsE w a len cap l) (hb : Below w.heap.size w w') : IsE w' a len cap l := by
  refine ⟨h.length, h.le, h.max, h.capmax, h.nil, fun x hx => ?_⟩
  obtain ⟨h1, h2⟩ := h.cells x hx
  refine ⟨fun hc => ⟨(h1 hc).1, Nat.lt_of_lt_of_le (h1 hc).2 hb.size⟩, fun j hj => ?_⟩
  exact rangeAt_below (h2 j hj) hb (h1 (by have := h.le; omega)).2

/-- the parts of an entry's cells -/
theorem el_addr {w : World} {g o : Nat} {x : Ent} (h : w.rangeAt g o (el x)) : w.rangeAt g o (avl x.m x.s x.e) := by
  intro j v hj
  refine h j v ?_
  match j, hj with
  | 0, hj => simpa [avl, el] using hj
  | 1, hj => simpa [avl, el] using hj
  | 2, hj => simpa [avl, el] using hj
  | (j + 3), hj => simp [avl] at hj
theorem el_cells {w : World} {g o : Nat} {x : Ent} (h : w.rangeAt g o (el x)) : w.cell? ⟨g, o, Option.none⟩ = .some (.int .i64 x.m) ∧ w.cell? ⟨g, o + 1, Option.none⟩ = .some (.int .u16 x.s) ∧ w.cell? ⟨g, o + 2, Option.none⟩ = .some (.int .u64 x.e) ∧ w.cell? ⟨g, o + 3, Option.none⟩ = .some (.int .u8 x.q) ∧ w.cell? ⟨g, o + 4, Option.none⟩ = .some (.int .i64 x.u) :=
  ⟨h 0 _ rfl, h 1 _ rfl, h 2 _ rfl, h 3 _ rfl, h 4 _ rfl⟩
theorem el_seq {w : World} {g o : Nat} {x : Ent} (h : w.rangeAt g o (el x)) : w.cell? ⟨g, o + 3, Option.none⟩ = .some (.int .u8 x.q) := h 3 _ rfl
theorem el_until {w : World} {g o : Nat} {x : Ent} (h : w.rangeAt g o (el x)) : w.cell? ⟨g, o + 4, Option.none⟩ = .some (.int .i64 x.u) := h 4 _ rfl
theorem el_heap {w : World} {g : Nat} {x : Ent} {fr : Nat × Nat} (h : w.heap[g]? = some (.cells #[.int .i64 x.m, .int .u16 x.s, .int .u64 x.e, .int .u8 x.q, .int .i64 x.u] 36 fr)) : w.rangeAt g 0 (el x) := by
  intro j v hj
  rw [cell_of_row w g (0 + j) _ 36 _ h]
  simpa [el] using hj

theorem wpList_load_ent {ops : Array Oper} {rest : List Oper} {op : Oper} {a : Act} {w : World} {Q : Exit → Act → World → Prop} {x : Ent} (hgd : op.guard = none) (y : Operand) (ho : op.op = .load 36 y) (g o : Nat)
    (hx : a.eval y = .pointer (some ⟨g, o, none⟩)) (hK : w.rangeAt g o (el x))
    (h : wpList Tryd.prog ops Q rest (a.put op.dst (ev x)) w) : wpList Tryd.prog ops Q (op :: rest) a w :=
  wpList_load_mid hgd 36 y ho g o hx (el x) _ hK Tryd.underlying36 rfl ent_info h

theorem wpList_load_addr_at {ops : Array Oper} {rest : List Oper} {op : Oper} {a : Act} {w : World} {Q : Exit → Act → World → Prop} {m s e : Int} (hgd : op.guard = none) (x : Operand) (ho : op.op = .load 28 x) (g o : Nat)
    (hx : a.eval x = .pointer (some ⟨g, o, none⟩)) (hK : w.rangeAt g o (avl m s e))
    (h : wpList Tryd.prog ops Q rest (a.put op.dst (av m s e)) w) : wpList Tryd.prog ops Q (op :: rest) a w :=
  wpList_load_mid hgd 28 x ho g o hx (avl m s e) _ hK Tryd.underlying28 rfl addr_info h

theorem wpAnyH_ent {ops : Array Oper} {Q : Exit → Act → World → Prop} {S : World → Prop} {i : Nat} {oi : Oper} {fuel : Nat} {listed : Array Bool} {a : Act} {w : World} {g o : Nat} {x : Ent} (hi : ops[i]? = some oi)
    (hs : Region.noSelect ops = true) (hf : Region.free .any ops listed i = true) (hr : (Region.ready .any ops listed).contains i = true)
    (hQ : ∀ c a w, Q (.panic c) (a.put oi.dst (ev x)) w → Q (.panic c) a w) (hw : Region.wanted oi (yielded ops a.tmps) = true) (y : Operand) (ho : oi.op = .load 36 y) (hx : a.eval y = .pointer (some ⟨g, o, none⟩))
    (hR : ∀ w, S w → w.rangeAt g o (el x)) (hS : S w)
    (h : wpAnyH Tryd.prog .any ops Q S fuel (listed.setIfInBounds i true) (a.put oi.dst (ev x)) w) : wpAnyH Tryd.prog .any ops Q S (fuel + 1) listed a w :=
  wpAnyH_take hi hs hf hr hQ (yieldsIf_load_mid hw 36 y ho g o hx (el x) _ hR Tryd.underlying36 rfl ent_info) hS h

/-- the slice v holds the entries l; it is nil and empty, or begins at the head of a row of the call's own (from block B on) -/
def GrE (w : World) (B : Nat) (v : Value) (l : List Ent) : Prop := w.ownsRow B 36 5 v l.length (fl l)

theorem GrE.nil (w : World) (B : Nat) : GrE w B (.slice none 0 0) [] := World.ownsRow_nil w B _ _

/-- the first cells of block g hold the entries l, and may be written -/
def EB (w : World) (g : Nat) (l : List Ent) : Prop :=
  g < w.heap.size ∧ ∀ j, j < l.length → w.rangeAt g (j * 5) (el (l.getD j dE)) ∧ w.there g (j * 5) 5

theorem EB.isE {w : World} {g : Nat} {l : List Ent} (h : EB w g l) (len cap : Nat) (hl : l.length = len) (hc : len ≤ cap) (hm : len ≤ 281474976710656) (hcm : cap ≤ 9223372036854775807) : IsE w (some ⟨g, 0, none⟩) len cap l := by
  refine ⟨hl, hc, hm, hcm, by simp, fun x hx => ?_⟩
  simp at hx; subst hx
  exact ⟨fun _ => ⟨rfl, h.1⟩, fun j hj => by simpa using (h.2 j (by omega)).1⟩

theorem EB.below {w w' : World} {g B : Nat} {l : List Ent} (h : EB w g l) (hb : Below B w w') (hg : g < B) : EB w' g l :=
  ⟨Nat.lt_of_lt_of_le h.1 hb.size, fun j hj => ⟨rangeAt_below (h.2 j hj).1 hb hg, fun i hi => by
    rw [hb.cell (p := ⟨g, j * 5 + i, none⟩) hg, hb.frozen (p := ⟨g, j * 5 + i, none⟩) hg]; exact (h.2 j hj).2 i hi⟩⟩

theorem EB.take {w : World} {g : Nat} {l : List Ent} (h : EB w g l) (n : Nat) : EB w g (l.take n) := by
  refine ⟨h.1, fun j hj => ?_⟩
  rw [List.length_take] at hj
  have e : (l.take n).getD j dE = l.getD j dE := by rw [List.getD_eq_getElem?_getD, List.getD_eq_getElem?_getD, List.getElem?_take, if_pos (by omega)]
  rw [e]; exact h.2 j (by omega)

theorem EB.set {w : World} {g : Nat} {l : List Ent} (h : EB w g l) (i : Nat) (x : Ent) (hi : i < l.length) : EB (w.setCells g (i * 5) (el x)) g (l.set i x) := by
  refine ⟨?_, fun j hj => ?_⟩
  · exact Nat.lt_of_lt_of_le h.1 (only_cells (el x) (i * 5) w w (Only.refl g w)).size
  · rw [List.length_set] at hj
    refine ⟨?_, World.there_setCells (h.2 j hj).2 _ _ _⟩
    by_cases hij : j = i
    · subst hij
      rw [List.getD_eq_getElem?_getD, List.getElem?_set_self hi]
      exact World.rangeAt_setCells_same w g (j * 5) (el x) (h.2 j hj).2
    · rw [List.getD_eq_getElem?_getD, List.getElem?_set_ne (by omega), ← List.getD_eq_getElem?_getD]
      exact World.rangeAt_setCells_apart (h.2 j hj).1 g (i * 5) (el x) (by rw [length_el, length_el]; omega)

theorem GrE.eb {w : World} {B : Nat} {v : Value} {l : List Ent} (h : GrE w B v l) :
    v = .slice none 0 0 ∧ l = [] ∨ ∃ g cap, v = .slice (some ⟨g, 0, none⟩) l.length cap ∧ B ≤ g ∧ EB w g l ∧ l.length ≤ cap ∧ cap ≤ 9223372036854775807 := by
  rcases h.2 with ⟨hv, h0⟩ | ⟨g, cap, cur, rfl, hB, hh, h1, h2, h3, h4⟩
  · exact .inl ⟨hv, List.eq_nil_of_length_eq_zero h0⟩
  · refine .inr ⟨g, cap, rfl, hB, ⟨(Array.getElem?_eq_some_iff.1 hh).1, fun j hj => ⟨fun i v hi => ?_, fun i hi => ⟨?_, frozen_of_row w g _ _ _ hh⟩⟩⟩, h1, by simpa [maxLen] using h2⟩
    · have hi5 : i < 5 := by have := (List.getElem?_eq_some_iff.1 hi).1; simpa [length_el] using this
      rw [cell_of_row w g (j * 5 + i) cur _ (0, 0) hh]
      have e : cur[j * 5 + i]? = (cur.toList.take (l.length * 5))[j * 5 + i]? := by
        rw [List.getElem?_take, if_pos (by omega)]; simp
      rw [e, h4, fl_get l j hj i hi5]; exact hi
    · rw [cell_of_row w g (j * 5 + i) cur _ (0, 0) hh]
      have : j * 5 + i < cur.size := by rw [h3]; omega
      rw [Array.getElem?_eq_getElem this]; rfl

theorem GrE.isE {w : World} {B : Nat} {v : Value} {l : List Ent} (h : GrE w B v l) (hm : l.length ≤ 281474976710656) : ∃ a cap, v = .slice a l.length cap ∧ IsE w a l.length cap l := by
  rcases h.eb with ⟨rfl, rfl⟩ | ⟨g, cap, rfl, _, hE, h1, h2⟩
  · exact ⟨none, 0, rfl, IsE.zero w⟩
  · exact ⟨_, cap, rfl, hE.isE _ cap rfl h1 hm h2⟩

theorem GrE.below {w w' : World} {B : Nat} {v : Value} {l : List Ent} (h : GrE w B v l) (hb : Below w.heap.size w w') : GrE w' B v l := by
  refine ⟨h.1, ?_⟩
  rcases h.2 with h0 | ⟨g, cap, cur, hv, hB, hh, hr⟩
  · exact .inl h0
  · exact .inr ⟨g, cap, cur, hv, hB, by rw [hb.block g (Array.getElem?_eq_some_iff.1 hh).1]; exact hh, hr⟩

theorem GrE.form {w : World} {B : Nat} {v : Value} {l : List Ent} (h : GrE w B v l) : ∃ a cap, v = .slice a l.length cap := by
  rcases h.eb with ⟨rfl, rfl⟩ | ⟨g, cap, rfl, _⟩
  · exact ⟨_, _, rfl⟩
  · exact ⟨_, _, rfl⟩

theorem newsE {w : World} {ad : Addr} {m c : Nat} {l : List Ent} (h : IsE w (some ad) m c l) : ∀ j u, (fl l)[j]? = some u → w.cell? (ad.add j) = some u := by
  intro j u hj
  have hjl : j < l.length * 5 := by rw [← length_fl]; exact (List.getElem?_eq_some_iff.1 hj).1
  have hm := h.length
  obtain ⟨b, off, e, _, hc⟩ := h.some (by omega)
  simp at e; subst e
  have hx := hc (j / 5) (by omega) (j % 5) u (by rw [← fl_get l (j / 5) (by omega) (j % 5) (by omega), show j / 5 * 5 + j % 5 = j from by omega]; exact hj)
  rw [Addr.add_mid]
  rw [← hx]; congr 2; omega

/-- 'append(s, x...)', s the call's own: it may grow -/
theorem wp_append_ents {w : World} {o : Oper} {a : Act} {K : Act → World → Prop} {Q : Exit → Act → World → Prop} (s x : Operand)
    (ho : o.op = .call { callee := .builtin .append, args := #[s, x], argTypes := #[22, 22] })
    (v : Value) (hs : a.eval s = v) (sp : Option Addr) (m c : Nat) (hx : a.eval x = .slice sp m c)
    (B : Nat) (l n : List Ent) (hg : GrE w B v l) (hb : IsE w sp m c n) (hlen : l.length + m ≤ 1000000) (w0 : World) (hb0 : Below B w0 w) (hBw : B ≤ w.heap.size)
    (h : ∀ v' w', Hid (GrE w' B v' (l ++ n)) → Below B w0 w' → Hid (∀ k, B ≤ k → k < w.heap.size → some k ≠ v.ownBlock → w'.heap[k]? = w.heap[k]?) → K (a.put o.dst v') w') :
    o.wp Tryd.prog a w K Q := by
  obtain ⟨i0, hi, hz0, hz1, hz2⟩ := info_parts ent_info3
  have hml := hb.length
  cases sp with
  | none =>
    obtain ⟨rfl, rfl⟩ := hb.nil rfl
    have hl : n = [] := List.eq_nil_of_length_eq_zero (by rw [hml])
    subst hl
    have hrun := run_append_owned_none (P := Tryd.prog) (w := w) B 22 o.type 36 i0 5 Tryd.underlying22 hi v l.length (fl l) hg
    unfold Oper.wp
    simp [execOp, ho, resolve, invoke, builtin, hs, hx, hrun, Result.andThen]
    exact h v w (hid (by simpa using hg)) hb0 (hid fun _ _ _ _ => rfl)
  | some ad =>
    refine wp_append_own w s x 22 ho B 36 i0 (ev dE) 5 40 Tryd.underlying22 hi hz0 hz1 hz2 rfl (by decide) v l.length (fl l) hs hg ad m c (fl n) hx (by rw [length_fl, hml]) (newsE hb) (fl_one n) (by unfold maxLen; omega) (by omega) hBw ?_
    intro v' w' h1 h2 _
    refine h v' w' (hid ?_) (hb0.grown h2 hBw (fun k hk => (World.ownsRow.lt hg k hk).1)) (hid fun k hk1 hk2 hk3 => h2.block k hk2 hk3)
    have e : l.length + m = (l ++ n).length := by simp [hml]
    rw [e, ← fl_append] at h1
    exact h1

theorem wpList_append_ents {w : World} {ops : Array Oper} {rest : List Oper} {o : Oper} {a : Act} {Q : Exit → Act → World → Prop} (hgd : o.guard = none) (s x : Operand)
    (ho : o.op = .call { callee := .builtin .append, args := #[s, x], argTypes := #[22, 22] })
    (v : Value) (hs : a.eval s = v) (sp : Option Addr) (m c : Nat) (hx : a.eval x = .slice sp m c)
    (B : Nat) (l n : List Ent) (hg : GrE w B v l) (hb : IsE w sp m c n) (hlen : l.length + m ≤ 1000000) (w0 : World) (hb0 : Below B w0 w) (hBw : B ≤ w.heap.size)
    (h : ∀ v' w', Hid (GrE w' B v' (l ++ n)) → Below B w0 w' → Hid (∀ k, B ≤ k → k < w.heap.size → some k ≠ v.ownBlock → w'.heap[k]? = w.heap[k]?) → wpList Tryd.prog ops Q rest (a.put o.dst v') w') :
    wpList Tryd.prog ops Q (o :: rest) a w :=
  wpList_plain hgd fun _ hK => wp_append_ents s x ho v hs sp m c hx B l n hg hb hlen w0 hb0 hBw fun v' w' h1 h2 h3 => hK _ _ (h v' w' h1 h2 h3)

theorem step_append_ents {w : World} {ops : Array Oper} {o : Oper} {a : Act} {K : Act → World → Prop} {Q : Exit → Act → World → Prop} {E : Prop} (hgd : o.guard = none) (s x : Operand)
    (ho : o.op = .call { callee := .builtin .append, args := #[s, x], argTypes := #[22, 22] })
    (v : Value) (hs : a.eval s = v) (sp : Option Addr) (m c : Nat) (hx : a.eval x = .slice sp m c)
    (B : Nat) (l n : List Ent) (hg : GrE w B v l) (hb : IsE w sp m c n) (hlen : l.length + m ≤ 1000000) (w0 : World) (hb0 : Below B w0 w) (hBw : B ≤ w.heap.size)
    (h : ∀ v' w', Hid (GrE w' B v' (l ++ n)) → Below B w0 w' → Hid (∀ k, B ≤ k → k < w.heap.size → some k ≠ v.ownBlock → w'.heap[k]? = w.heap[k]?) → K (a.put o.dst v') w') :
    if Region.wanted o (yielded ops a.tmps) = true then Oper.wp Tryd.prog o a w K Q else E := by
  rw [if_pos (by simp [Region.wanted, hgd])]
  exact wp_append_ents s x ho v hs sp m c hx B l n hg hb hlen w0 hb0 hBw h

/-- '[]api.Seen{}' -/
theorem grE_new (w : World) (B : Nat) (hB : B ≤ w.heap.size) : GrE (w.alloc (.cells #[] 36)) B (.slice (some ⟨w.heap.size, 0, none⟩) 0 0) [] :=
  ⟨rfl, .inr ⟨w.heap.size, 0, #[], rfl, hB, heap_alloc_new w _, Nat.le_refl _, by unfold maxLen; omega, rfl, rfl⟩⟩

/-- '[]api.Seen{x}' -/
theorem isE_one (w : World) (x : Ent) : IsE (w.alloc (.cells (el x).toArray 36)) (some ⟨w.heap.size, 0, none⟩) 1 1 [x] := by
  refine ⟨rfl, Nat.le_refl _, by omega, by omega, by simp, fun y hy => ?_⟩
  simp at hy; subst hy
  refine ⟨fun _ => ⟨rfl, by simp⟩, fun j hj => ?_⟩
  obtain rfl : j = 0 := by omega
  exact el_heap (heap_alloc_new w _)

theorem fill_one (f : Nat → Value) (x : Ent) : Instr.fill (fun i => some (i * 5, 5)) ((Array.range (1 * 5)).map f) [(0, ev x)] = some (el x).toArray := by
  have c1 : (ev x).cells = (el x).toArray := rfl
  have h := Great.fill_whole (s := 5) (by decide) [ev x] ((Array.range (1 * 5)).map f) (by
    intro v hv
    rcases List.mem_cons.1 hv with rfl | hv
    · rw [c1]; simp [length_el]
    · cases hv) (by simp)
  simpa [c1] using h

theorem wp_build_one {o : Oper} {a : Act} {w : World} {K : Act → World → Prop} {Q : Exit → Act → World → Prop} (y : Operand) (ho : o.op = .buildSlice 22 1 #[(0, y)]) (x : Ent) (hx : a.eval y = ev x)
    (h : K (a.put o.dst (.slice (some ⟨w.heap.size, 0, none⟩) 1 1)) (w.alloc (.cells (el x).toArray 36))) : o.wp Tryd.prog a w K Q := by
  obtain ⟨i0, hi, hz0, hz1, hz2⟩ := info_parts ent_info3
  refine wp_buildSlice 22 36 1 #[(0, y)] ho _ i0 (ev dE) Tryd.underlying22 hi hz0 (by rw [hz1]; decide) (by rw [hz1]; decide) ?_ h
  rw [hz1]
  simp only [List.map_toArray, List.map_cons, List.map_nil, hx]
  exact fill_one _ x
theorem wpList_build_one {ops : Array Oper} {rest : List Oper} {o : Oper} {a : Act} {w : World} {Q : Exit → Act → World → Prop} (hgd : o.guard = none) (y : Operand) (ho : o.op = .buildSlice 22 1 #[(0, y)]) (x : Ent) (hx : a.eval y = ev x)
    (h : wpList Tryd.prog ops Q rest (a.put o.dst (.slice (some ⟨w.heap.size, 0, none⟩) 1 1)) (w.alloc (.cells (el x).toArray 36))) : wpList Tryd.prog ops Q (o :: rest) a w :=
  wpList_plain hgd fun _ hK => wp_build_one y ho x hx (hK _ _ h)
theorem step_build_one {ops : Array Oper} {o : Oper} {a : Act} {w : World} {K : Act → World → Prop} {Q : Exit → Act → World → Prop} {E : Prop} (hgd : o.guard = none) (y : Operand) (ho : o.op = .buildSlice 22 1 #[(0, y)]) (x : Ent) (hx : a.eval y = ev x)
    (h : K (a.put o.dst (.slice (some ⟨w.heap.size, 0, none⟩) 1 1)) (w.alloc (.cells (el x).toArray 36))) :
    if Region.wanted o (yielded ops a.tmps) = true then Oper.wp Tryd.prog o a w K Q else E := by
  rw [if_pos (by simp [Region.wanted, hgd])]
  exact wp_build_one y ho x hx h

/-! ### b[:k], b[i:] -/
theorem IsE.take {w : World} {a : Option Addr} {len cap : Nat} {l : List Ent} (h : IsE w a len cap l) (n : Nat) (hn : n ≤ len) : IsE w a n cap (l.take n) := by
  refine ⟨by rw [List.length_take, h.length]; omega, by have := h.le; omega, by have := h.max; omega, h.capmax, fun ha => ?_, fun x hx => ?_⟩
  · have := h.nil ha; omega
  · obtain ⟨h1, h2⟩ := h.cells x hx
    refine ⟨h1, fun j hj => ?_⟩
    have e : (l.take n).getD j dE = l.getD j dE := by rw [List.getD_eq_getElem?_getD, List.getD_eq_getElem?_getD, List.getElem?_take, if_pos hj]
    rw [e]; exact h2 j (by omega)
/-- a smaller capacity -/
theorem IsE.cap {w : World} {a : Option Addr} {len cap : Nat} {l : List Ent} (h : IsE w a len cap l) (c : Nat) (hc : len ≤ c) (hc2 : c ≤ cap) : IsE w a len c l := by
  refine ⟨h.length, hc, h.max, by have := h.capmax; omega, fun ha => ?_, fun x hx => ?_⟩
  · have := h.nil ha; omega
  · obtain ⟨h1, h2⟩ := h.cells x hx
    exact ⟨fun h0 => h1 (by omega), h2⟩

theorem IsE.drop {w : World} {a : Option Addr} {len cap : Nat} {l : List Ent} (h : IsE w a len cap l) (k : Nat) (hk : k ≤ len) :
    IsE w (if cap = k then a else a.map (·.add (k * 5))) (len - k) (cap - k) (l.drop k) := by
  have hle := h.le
  have hmax := h.max
  have hcm := h.capmax
  refine ⟨by rw [List.length_drop, h.length], by omega, by omega, by omega, fun ha => ?_, fun x hx => ?_⟩
  · have e : a = Option.none := by
      split at ha
      · exact ha
      · simpa using ha
    have := h.nil e; omega
  · by_cases hc : cap = k
    · rw [if_pos hc] at hx
      obtain ⟨h1, h2⟩ := h.cells x hx
      exact ⟨fun h0 => absurd h0 (by omega), fun j hj => absurd hj (by omega)⟩
    · rw [if_neg hc] at hx
      cases ha : a with
      | none => rw [ha] at hx; simp at hx
      | some y =>
        rw [ha] at hx
        simp at hx
        obtain ⟨h1, h2⟩ := h.cells y ha
        obtain ⟨h3, h4⟩ := h1 (by omega)
        obtain ⟨b, off, spot⟩ := y
        simp at h3 h4 h2
        subst h3
        rw [Addr.add_mid] at hx
        subst hx
        refine ⟨fun _ => ⟨rfl, h4⟩, fun j hj => ?_⟩
        have hh := h2 (k + j) (by omega)
        have e : (l.drop k).getD j dE = l.getD (k + j) dE := by rw [List.getD_eq_getElem?_getD, List.getD_eq_getElem?_getD, List.getElem?_drop]
        rw [e]
        have e2 : off + k * 5 + j * 5 = off + (k + j) * 5 := by omega
        simpa [e2] using hh

theorem run_size_ents (W : World) : (sizeOf (Tryd.prog.elem 22)).run Tryd.prog W = .ok 5 W := by
  obtain ⟨i0, hi, hz0, hz1, hz2⟩ := info_parts ent_info3
  have e : Tryd.prog.elem 22 = 36 := by kernel_rfl
  rw [e]
  simp [sizeOf, typeInfo, hi, hz1]

theorem slice_headE {w : World} {a : Option Addr} {len cap : Nat} {l : List Ent} (h : IsE w a len cap l) (k : Nat) (hk : k ≤ len) :
    ∃ p, (∀ W, (Instr.slice 22 (.slice a len cap) none (some (.int .i64 (k : Int))) none).run Tryd.prog W = .ok (.slice p k cap) W) ∧ IsE w p k cap (l.take k) ∧ p = (if cap = 0 then a else a.map (·.add (0 * 5))) := by
  have hle := h.le
  refine ⟨if cap = 0 then a else a.map (·.add (0 * 5)), fun W => ?_, ?_, rfl⟩
  · rw [run_slice_h (P := Tryd.prog) (w := W) 22 a len cap (by kernel_rfl) .i64 (k : Int) (by omega) (by omega), run_size_ents]
    simp [Result.andThen, sliced]
  · have := (h.drop 0 (by omega)).take k (by omega)
    simpa using this

theorem slice_tailE {w : World} {a : Option Addr} {len cap : Nat} {l : List Ent} (h : IsE w a len cap l) (k : Nat) (hk : k ≤ len) :
    ∃ p, (∀ W, (Instr.slice 22 (.slice a len cap) (some (.int .i64 (k : Int))) none none).run Tryd.prog W = .ok (.slice p (len - k) (cap - k)) W) ∧ IsE w p (len - k) (cap - k) (l.drop k) ∧ p = (if cap = k then a else a.map (·.add (k * 5))) := by
  have hle := h.le
  refine ⟨if cap = k then a else a.map (·.add (k * 5)), fun W => ?_, h.drop k hk, rfl⟩
  rw [run_slice_l (P := Tryd.prog) (w := W) 22 a len cap (by kernel_rfl) .i64 (k : Int) (by omega) (by omega), run_size_ents]
  simp [Result.andThen, sliced]
end Go.Proofs.YtcmpdpcncjggkaaDoor
