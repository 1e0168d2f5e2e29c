/-
  slices.DeleteFunc with the closure of Prune, on a slice of the call's own.
-/
import Derived.Test.YtcmpdpcncjggkaaDoorDel
namespace Go.Proofs.YtcmpdpcncjggkaaDoor
open Go.RowKit
set_option linter.unusedSimpArgs false
set_option linter.unusedVariables false

/-- block g is a row of room for cap entries -/
def Sh (w : World) (g cap : Nat) : Prop := ∃ cur, w.heap[g]? = some (.cells cur 36 (0, 0)) ∧ cur.size = cap * 5

theorem Sh.setCells {g cap : Nat} : ∀ (vs : List Value) (j : Nat) (w : World), Sh w g cap → Sh (w.setCells g j vs) g cap
  | [], _, _, h => h
  | v :: r, j, w, h => by
    rw [World.setCells]
    refine Sh.setCells r (j + 1) _ ?_
    obtain ⟨cur, h1, h2⟩ := h
    exact ⟨cur.setIfInBounds j v, by simp [World.setCell, Array.getElem?_modify, h1], by simpa using h2⟩
theorem Sh.below {w w' : World} {g cap B : Nat} (h : Sh w g cap) (hb : Below B w w') (hg : g < B) : Sh w' g cap := by
  obtain ⟨cur, h1, h2⟩ := h
  exact ⟨cur, by rw [hb.block g hg]; exact h1, h2⟩
theorem Sh.there {w : World} {g cap : Nat} (h : Sh w g cap) (o n : Nat) (ho : o + n ≤ cap * 5) : w.there g o n := by
  obtain ⟨cur, h1, h2⟩ := h
  intro j hj
  refine ⟨?_, frozen_of_row w g _ _ _ h1⟩
  rw [cell_of_row w g (o + j) cur _ (0, 0) h1, Array.getElem?_eq_getElem (by omega)]; rfl

theorem grE_of {w : World} {g cap B : Nat} {l : List Ent} (hS : Sh w g cap) (hE : EB w g l) (hc : l.length ≤ cap) (hm : cap ≤ 9223372036854775807) (hB : B ≤ g) : GrE w B (.slice (some ⟨g, 0, none⟩) l.length cap) l := by
  obtain ⟨cur, h1, h2⟩ := hS
  refine ⟨length_fl l, .inr ⟨g, cap, cur, rfl, hB, h1, hc, by unfold maxLen; omega, h2, ?_⟩⟩
  apply List.ext_getElem?
  intro k
  by_cases hk : k < l.length * 5
  · rw [List.getElem?_take, if_pos hk]
    have hr := (hE.2 (k / 5) (by omega)).1
    have hg := fl_get l (k / 5) (by omega) (k % 5) (by omega)
    rw [show k / 5 * 5 + k % 5 = k from by omega] at hg
    rw [hg]
    have hlt : k % 5 < (el (l.getD (k / 5) dE)).length := by rw [length_el]; omega
    have hx := hr (k % 5) _ (List.getElem?_eq_getElem hlt)
    rw [show k / 5 * 5 + k % 5 = k from by omega, cell_of_row w g k cur _ (0, 0) h1] at hx
    rw [List.getElem?_eq_getElem hlt]
    simpa using hx
  · rw [List.getElem?_eq_none (by rw [List.length_take]; omega), List.getElem?_eq_none (by rw [length_fl]; omega)]

theorem GrE.sh {w : World} {B : Nat} {v : Value} {l : List Ent} (h : GrE w B v l) :
    v = .slice none 0 0 ∧ l = [] ∨ ∃ g cap, v = .slice (some ⟨g, 0, none⟩) l.length cap ∧ B ≤ g ∧ EB w g l ∧ Sh w g cap ∧ l.length ≤ cap ∧ cap ≤ 9223372036854775807 := by
  rcases h.eb with h0 | ⟨g, cap, rfl, hB, hE, h1, h2⟩
  · exact .inl h0
  · rcases h.2 with ⟨hv, _⟩ | ⟨g2, cap2, cur, hv, _, hh, _, _, h3, _⟩
    · cases hv
    · injection hv with e1 e2 e3
      injection e1 with e1
      injection e1 with e1
      subst e1 e3
      exact .inr ⟨g, cap, rfl, hB, hE, ⟨cur, hh, h3⟩, h1, h2⟩

theorem below_setCellsE {B : Nat} {g : Nat} (hg : B ≤ g) : ∀ (vs : List Value) (w0 w : World) (j : Nat), Below B w0 w → Below B w0 (w.setCells g j vs)
  | [], _, _, _, h => h
  | v :: r, w0, w, j, h => by
    rw [World.setCells]
    exact below_setCellsE hg r w0 _ (j + 1) (h.setCell (p := ⟨g, j, none⟩) hg v)

theorem wpList_store_ent {ops : Array Oper} {rest : List Oper} {op : Oper} {a : Act} {w : World} {Q : Exit → Act → World → Prop} {x : Ent} (hgd : op.guard = none) (y z : Operand) (ho : op.op = .store 36 y z) (g o : Nat)
    (hx : a.eval y = .pointer (some ⟨g, o, none⟩)) (hy : a.eval z = .agg #[.int .i64 x.m, .int .u16 x.s, .int .u64 x.e, .int .u8 x.q, .int .i64 x.u]) (hth : w.there g o 5)
    (h : wpList Tryd.prog ops Q rest (a.put op.dst undef) (w.setCells g o (el x))) : wpList Tryd.prog ops Q (op :: rest) a w :=
  wpList_store_mid hgd 36 y z ho g o #[.int .i64 x.m, .int .u16 x.s, .int .u64 x.e, .int .u8 x.q, .int .i64 x.u] hx hy hth ent_info (by simp [Value.oneCell']) h

theorem zeros_five (k : Nat) : ((Builtin.zeroCells (ev dE).cells k).toList).length = k * 5 := by
  simp [Builtin.zeroCells, ev, Value.cells]
theorem zeros_one (k : Nat) : ∀ v ∈ (Builtin.zeroCells (ev dE).cells k).toList, v.oneCell' = true := by
  intro v hv
  have hc : (ev dE).cells = (el dE).toArray := rfl
  simp only [Builtin.zeroCells, hc, List.size_toArray, length_el] at hv
  rw [Array.toList_map] at hv
  obtain ⟨i, _, rfl⟩ := List.mem_map.1 hv
  have hi : i % 5 < 5 := Nat.mod_lt _ (by omega)
  generalize i % 5 = r at hi ⊢
  match r, hi with
  | 0, _ => rfl
  | 1, _ => rfl
  | 2, _ => rfl
  | 3, _ => rfl
  | 4, _ => rfl

/-- 'clear(s)' -/
theorem run_clear_ents (w : World) (ty : TypeId) (g off n c : Nat) (hn : 0 < n) (hth : w.there g off (n * 5)) :
    (Builtin.clear_ #[22] ty #[.slice (some ⟨g, off, none⟩) n c]).run Tryd.prog w = .ok (.tuple #[]) (w.setCells g off (Builtin.zeroCells (ev dE).cells n).toList) := by
  obtain ⟨i0, hi, hz0, hz1, hz2⟩ := info_parts ent_info3
  have hst := run_storeCells_cells (P := Tryd.prog) g off (Builtin.zeroCells (ev dE).cells n).toList 0 w (fun j hj => (hth j (by rwa [zeros_five] at hj)).1) (fun j hj => (hth j (by rwa [zeros_five] at hj)).2) (zeros_one n)
  simp only [Nat.add_zero] at hst
  have hzv : ∀ w, (zeroValue 36).run Tryd.prog w = .ok (ev dE) w := fun w => by simp [zeroValue, typeInfo, hi, hz0]
  obtain ⟨k, rfl⟩ : ∃ k, n = k + 1 := ⟨n - 1, by omega⟩
  simp [Builtin.clear_, run_underlying Tryd.underlying22, hzv, hst]

/-! ### the entries that are left -/
theorem pruneL_succ (l : List Ent) (now : Int) (j : Nat) (hj : j < l.length) : pruneL (l.take (j + 1)) now = pruneL (l.take j) now ++ (if overF now (l.getD j dE) then [] else [l.getD j dE]) := by
  rw [List.take_add_one, List.getD_eq_getElem?_getD, List.getElem?_eq_getElem hj]
  simp only [pruneL, List.filter_append, Option.toList_some, Option.getD_some, overF]
  congr 1
  by_cases h : l[j].u ≤ now <;> simp [h]
theorem pruneL_none (l : List Ent) (now : Int) (h : idxF (overF now) l = -1) : pruneL l now = l := by
  unfold pruneL
  rw [List.filter_eq_self]
  intro x hx
  cases hf : l.findIdx? (overF now) with
  | none =>
    rw [List.findIdx?_eq_none_iff] at hf
    have := hf x hx
    simpa [overF] using this
  | some i => simp [idxF, hf] at h
theorem idxF_cases (P : Ent → Bool) (l : List Ent) : idxF P l = -1 ∨ ∃ i : Nat, idxF P l = i ∧ i < l.length ∧ (∀ j, j < i → P (l.getD j dE) = false) ∧ P (l.getD i dE) = true := by
  cases h : l.findIdx? P with
  | none => left; simp [idxF, h]
  | some i =>
    right
    refine ⟨i, by simp [idxF, h], ?_⟩
    rw [List.findIdx?_eq_some_iff_getElem] at h
    obtain ⟨hi, hp, hn⟩ := h
    refine ⟨hi, fun j hj => ?_, by rw [List.getD_eq_getElem?_getD, List.getElem?_eq_getElem hi]; exact hp⟩
    have := hn j hj
    rw [List.getD_eq_getElem?_getD, List.getElem?_eq_getElem (by omega)]
    simpa using this
theorem pruneL_first (l : List Ent) (now : Int) : ∀ (i : Nat), i < l.length → (∀ j, j < i → overF now (l.getD j dE) = false) → pruneL (l.take i) now = l.take i := by
  intro i
  induction i with
  | zero => intros; rfl
  | succ i ih =>
    intro hi hn
    rw [pruneL_succ l now i (by omega), ih (by omega) (fun j hj => hn j (by omega)), hn i (by omega)]
    rw [List.take_add_one, List.getD_eq_getElem?_getD, List.getElem?_eq_getElem (by omega)]
    rfl

/-- where DeleteFunc's loop stands: j entries are looked at, i are kept -/
structure DS (w wr : World) (B g cap n : Nat) (l : List Ent) (now : Int) (i j : Nat) : Prop where
  ex : ∃ L, L.length = n ∧ EB wr g L ∧ L.take i = pruneL (l.take j) now ∧ L.drop j = l.drop j
  lt : i < j
  le : j ≤ n
  num : (pruneL (l.take j) now).length = i
  sh : Sh wr g cap
  b : Below B w wr

theorem DS.at {w wr : World} {B g cap n : Nat} {l : List Ent} {now : Int} {i j : Nat} (h : DS w wr B g cap n l now i j) (hj : j < n) : wr.rangeAt g (j * 5) (el (l.getD j dE)) := by
  obtain ⟨L, h1, h2, h3, h4⟩ := h.ex
  have hx := (h2.2 j (by omega)).1
  have e : L.getD j dE = l.getD j dE := by
    have a1 : (L.drop j)[0]? = (l.drop j)[0]? := by rw [h4]
    rw [List.getElem?_drop, List.getElem?_drop, Nat.add_zero] at a1
    rw [List.getD_eq_getElem?_getD, List.getD_eq_getElem?_getD, a1]
  rw [← e]; exact hx

theorem DS.below {w wr wk : World} {B g cap n : Nat} {l : List Ent} {now : Int} {i j : Nat} (h : DS w wr B g cap n l now i j) (hb : Below wr.heap.size wr wk) (hg : g < wr.heap.size) (hB : B ≤ wr.heap.size) : DS w wk B g cap n l now i j := by
  obtain ⟨L, h1, h2, h3, h4⟩ := h.ex
  exact ⟨⟨L, h1, h2.below hb hg, h3, h4⟩, h.lt, h.le, h.num, h.sh.below hb hg, h.b.trans (hb.mono hB)⟩

theorem DS.skip {w wr : World} {B g cap n : Nat} {l : List Ent} {now : Int} {i j : Nat} (h : DS w wr B g cap n l now i j) (hl : l.length = n) (hj : j < n) (ho : overF now (l.getD j dE) = true) : DS w wr B g cap n l now i (j + 1) := by
  obtain ⟨L, h1, h2, h3, h4⟩ := h.ex
  have e := pruneL_succ l now j (by omega)
  rw [ho, if_pos rfl, List.append_nil] at e
  refine ⟨⟨L, h1, h2, by rw [e]; exact h3, ?_⟩, by have := h.lt; omega, hj, by rw [e]; exact h.num, h.sh, h.b⟩
  rw [← List.drop_drop, h4, List.drop_drop]

theorem DS.keep {w wr : World} {B g cap n : Nat} {l : List Ent} {now : Int} {i j : Nat} (h : DS w wr B g cap n l now i j) (hl : l.length = n) (hj : j < n) (hBg : B ≤ g) (ho : overF now (l.getD j dE) = false) : DS w (wr.setCells g (i * 5) (el (l.getD j dE))) B g cap n l now (i + 1) (j + 1) := by
  obtain ⟨L, h1, h2, h3, h4⟩ := h.ex
  have hlt := h.lt
  have e := pruneL_succ l now j (by omega)
  rw [ho, if_neg (by simp)] at e
  refine ⟨⟨L.set i (l.getD j dE), by simpa using h1, h2.set i _ (by omega), ?_, ?_⟩, by omega, hj, by rw [e, List.length_append, h.num]; rfl, h.sh.setCells _ _ _, below_setCellsE hBg _ _ _ _ h.b⟩
  · rw [e, ← h3]
    apply List.ext_getElem?
    intro k
    rcases Nat.lt_trichotomy k i with hk | hk | hk
    · rw [List.getElem?_take, if_pos (by omega), List.getElem?_set_ne (by omega), List.getElem?_append_left (by rw [List.length_take]; omega), List.getElem?_take, if_pos hk]
    · subst hk
      rw [List.getElem?_take, if_pos (by omega), List.getElem?_set_self (by omega), List.getElem?_append_right (by rw [List.length_take]; omega), List.length_take, show k - min k L.length = 0 from by omega]
      rfl
    · rw [List.getElem?_eq_none (by rw [List.length_take, List.length_set]; omega), List.getElem?_eq_none (by rw [List.length_append, List.length_take]; simp; omega)]
  · rw [List.drop_set, if_pos (by omega), ← List.drop_drop, h4, List.drop_drop]

theorem DS.start {w wr : World} {B g cap n : Nat} {l : List Ent} {now : Int} (hl : l.length = n) (i : Nat) (hi : i < n) (hE : EB wr g l) (hS : Sh wr g cap) (hb : Below B w wr) (hn : ∀ j, j < i → overF now (l.getD j dE) = false) (ho : overF now (l.getD i dE) = true) : DS w wr B g cap n l now i (i + 1) := by
  have e := pruneL_succ l now i (by omega)
  rw [ho, if_pos rfl, List.append_nil, pruneL_first l now i (by omega) hn] at e
  exact ⟨⟨l, hl, hE, by rw [e], rfl⟩, by omega, hi, by rw [e, List.length_take]; omega, hS, hb⟩

/-- behind the loop: the rest is cleared -/
theorem DS.done {w wr : World} {B g cap n : Nat} {l : List Ent} {now : Int} {i : Nat} (h : DS w wr B g cap n l now i n) (hl : l.length = n) (hn : n ≤ cap) (hm : cap ≤ 9223372036854775807) (hBg : B ≤ g) (vs : List Value) :
    GrE (wr.setCells g (i * 5) vs) B (.slice (some ⟨g, 0, none⟩) i cap) (pruneL l now) ∧ Below B w (wr.setCells g (i * 5) vs) := by
  obtain ⟨L, h1, h2, h3, h4⟩ := h.ex
  have hnum := h.num
  have ht : l.take n = l := List.take_of_length_le (by omega)
  rw [ht] at h3 hnum
  have hlt := h.lt
  refine ⟨?_, below_setCellsE hBg _ _ _ _ h.b⟩
  have hE : EB (wr.setCells g (i * 5) vs) g (pruneL l now) := by
    rw [← h3]
    have h5 := h2.take i
    refine ⟨Nat.lt_of_lt_of_le h5.1 (only_cells vs (i * 5) wr wr (Only.refl g wr)).size, fun j hj => ⟨World.rangeAt_setCells_apart (h5.2 j hj).1 g (i * 5) vs (by rw [length_el]; rw [List.length_take] at hj; omega), World.there_setCells (h5.2 j hj).2 _ _ _⟩⟩
  have := grE_of (h.sh.setCells vs (i * 5) wr) hE (by omega) hm hBg
  rw [hnum] at this
  exact this
end Go.Proofs.YtcmpdpcncjggkaaDoor
