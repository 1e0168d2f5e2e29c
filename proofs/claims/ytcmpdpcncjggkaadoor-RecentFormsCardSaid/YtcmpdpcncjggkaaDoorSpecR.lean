/-
  Lists of received frames: what holds of what the functions say.
-/
import Derived.Test.YtcmpdpcncjggkaaDoorRecd
namespace Go.Proofs.YtcmpdpcncjggkaaDoor
open Go.RowKit
set_option linter.unusedSimpArgs false
set_option linter.unusedVariables false

def okE (x : Ent) : Bool := senderB x.m x.s x.e && timeB x.u
def Apart (x y : Ent) : Prop := sameF y.m y.s y.e y.q x = false
structure VL (l : List Ent) : Prop where
  len : l.length ≤ 32
  ok : ∀ x ∈ l, okE x = true
  pw : l.Pairwise Apart

theorem hasF_iff (l : List Ent) (m s e q : Int) : hasF l m s e q = true ↔ ∃ x ∈ l, sameF m s e q x = true := by
  simp [hasF]
theorem okAt_iff (l : List Ent) (j : Nat) (hj : j < l.length) : okAt l j = true ↔ okE l[j] = true ∧ ∀ i (hi : i < j), Apart l[i] l[j] := by
  have e : l.getD j dE = l[j] := by rw [List.getD_eq_getElem?_getD, List.getElem?_eq_getElem hj]; rfl
  unfold okAt okE
  rw [e]
  simp only [Bool.and_eq_true, Bool.not_eq_true']
  constructor
  · rintro ⟨h1, h2, h3⟩
    refine ⟨⟨h1, h2⟩, fun i hi => ?_⟩
    unfold hasF at h3
    rw [List.any_eq_false] at h3
    have := h3 l[i] (List.mem_iff_getElem.2 ⟨i, by rw [List.length_take]; omega, by simp⟩)
    simpa [Apart] using this
  · rintro ⟨⟨h1, h2⟩, h3⟩
    refine ⟨h1, h2, ?_⟩
    unfold hasF
    rw [List.any_eq_false]
    intro x hx
    obtain ⟨i, hi, rfl⟩ := List.mem_iff_getElem.1 hx
    rw [List.length_take] at hi
    have := h3 i (by omega)
    simpa [Apart] using this
theorem validL_iff (l : List Ent) : validL l = true ↔ VL l := by
  unfold validL okTo
  simp only [Bool.and_eq_true, decide_eq_true_eq, List.all_eq_true, List.mem_range]
  constructor
  · rintro ⟨h1, h2⟩
    refine ⟨h1, fun x hx => ?_, ?_⟩
    · obtain ⟨j, hj, rfl⟩ := List.mem_iff_getElem.1 hx
      exact ((okAt_iff l j hj).1 (h2 j hj)).1
    · rw [List.pairwise_iff_getElem]
      intro i j hi hj hij
      exact ((okAt_iff l j hj).1 (h2 j hj)).2 i hij
  · rintro ⟨h1, h2, h3⟩
    refine ⟨h1, fun j hj => (okAt_iff l j hj).2 ⟨h2 _ (List.getElem_mem hj), fun i hi => ?_⟩⟩
    exact (List.pairwise_iff_getElem.1 h3) i j (by omega) hj hi

theorem VL.sub {l k : List Ent} (h : VL l) (hs : k.Sublist l) : VL k :=
  ⟨Nat.le_trans hs.length_le h.len, fun x hx => h.ok x (hs.subset hx), h.pw.sublist hs⟩
theorem VL.prune {l : List Ent} (h : VL l) (now : Int) : VL (pruneL l now) := h.sub List.filter_sublist
theorem evict_sub (p : List Ent) : (evict p).Sublist p := by
  unfold evict
  split
  · generalize leastTo p 32 = k
    have h1 : (p.drop (k + 1)).Sublist (p.drop k) := by
      rw [← List.drop_drop]; exact List.drop_sublist _ _
    have := List.Sublist.append (List.Sublist.refl (p.take k)) h1
    rwa [List.take_append_drop] at this
  · exact List.Sublist.refl _
theorem VL.add {l : List Ent} (h : VL l) (hl : l.length < 32) (x : Ent) (hx : okE x = true) (hn : hasF l x.m x.s x.e x.q = false) : VL (l ++ [x]) := by
  refine ⟨by simp; omega, fun y hy => ?_, ?_⟩
  · rcases List.mem_append.1 hy with hy | hy
    · exact h.ok y hy
    · simp at hy; subst hy; exact hx
  · rw [List.pairwise_append]
    refine ⟨h.pw, by simp, fun y hy z hz => ?_⟩
    simp at hz; subst hz
    unfold hasF at hn
    rw [List.any_eq_false] at hn
    have h5 := hn y hy
    unfold Apart
    simpa using h5
theorem hasF_sub {l k : List Ent} (hs : k.Sublist l) {m s e q : Int} (h : hasF l m s e q = false) : hasF k m s e q = false := by
  cases hk : hasF k m s e q with
  | false => rfl
  | true =>
    obtain ⟨x, hx, hh⟩ := (hasF_iff _ _ _ _ _).1 hk
    have := (hasF_iff l m s e q).2 ⟨x, hs.subset hx, hh⟩
    rw [h] at this; cases this
theorem pruneR_ok {l : List Ent} (h : VL l) {now : Int} (ht : timeB now = true) : pruneR l now = (pruneL l now, 0) := by
  unfold pruneR; rw [if_pos ((validL_iff l).2 h), if_pos ht]
theorem mem_pruneL {l : List Ent} {now : Int} {x : Ent} : x ∈ pruneL l now ↔ x ∈ l ∧ now < x.u := by
  unfold pruneL; rw [List.mem_filter]; simp
theorem pruneL_pruneL (l : List Ent) {a b : Int} (h : a ≤ b) : pruneL (pruneL l a) b = pruneL l b := by
  unfold pruneL
  rw [List.filter_filter]
  congr 1; funext x
  by_cases h1 : x.u ≤ a
  · simp [h1, Int.le_trans h1 h]
  · simp [h1]
theorem sameF_self (x : Ent) : sameF x.m x.s x.e x.q x = true := by simp [sameF]
theorem okE_new {m s e q now : Int} (hs : senderB m s e = true) (ht : timeB now = true) : okE ⟨m, s, e, q, min (now + 16) 1099511627776⟩ = true := by
  simp [okE, hs]; simp [timeB] at ht ⊢; omega

/-- what Record says of a valid list -/
theorem recR_has {l : List Ent} (h : VL l) {m s e q now : Int} (hs : senderB m s e = true) (ht : timeB now = true) (hh : hasF (pruneL l now) m s e q = true) : recR l m s e q now = (pruneL l now, false, 0) := by
  unfold recR; rw [if_pos hs, pruneR_ok h ht]; simp [hh]
theorem recR_new {l : List Ent} (h : VL l) {m s e q now : Int} (hs : senderB m s e = true) (ht : timeB now = true) (hh : hasF (pruneL l now) m s e q = false) :
    recR l m s e q now = (evict (pruneL l now) ++ [⟨m, s, e, q, min (now + 16) 1099511627776⟩], true, 0) := by
  unfold recR; rw [if_pos hs, pruneR_ok h ht]; simp [hh]
theorem recR_err {l : List Ent} (h : VL l) {m s e q now : Int} (hs : senderB m s e = true) (ht : timeB now = true) : (recR l m s e q now).2.2 = 0 := by
  cases hh : hasF (pruneL l now) m s e q with
  | true => rw [recR_has h hs ht hh]
  | false => rw [recR_new h hs ht hh]
theorem evict_lt {p : List Ent} (h : p.length ≤ 32) : (evict p).length < 32 := by
  rcases evict_len p h with h1 | h1 <;> omega
theorem recR_valid {l : List Ent} (h : VL l) {m s e q now : Int} (hs : senderB m s e = true) (ht : timeB now = true) : VL (recR l m s e q now).1 := by
  cases hh : hasF (pruneL l now) m s e q with
  | true => rw [recR_has h hs ht hh]; exact h.prune now
  | false =>
    rw [recR_new h hs ht hh]
    exact VL.add ((h.prune now).sub (evict_sub _)) (evict_lt (h.prune now).len) _ (okE_new hs ht) (hasF_sub (evict_sub _) hh)
theorem evict_id {p : List Ent} (h : p.length < 32) : evict p = p := by unfold evict; rw [if_neg (by omega)]
theorem recR_len {l : List Ent} (h : VL l) (hl : l.length < 32) {m s e q now : Int} (hs : senderB m s e = true) (ht : timeB now = true) : (recR l m s e q now).1.length ≤ l.length + 1 := by
  have hp := pruneL_len l now
  cases hh : hasF (pruneL l now) m s e q with
  | true => rw [recR_has h hs ht hh]; simp only; omega
  | false => rw [recR_new h hs ht hh, evict_id (by omega)]; simp; omega
theorem recR_mem {l : List Ent} (h : VL l) (hl : l.length < 32) {m s e q now : Int} (hs : senderB m s e = true) (ht : timeB now = true) {x : Ent} (hx : x ∈ l) (hu : now < x.u) : x ∈ (recR l m s e q now).1 := by
  have hp := pruneL_len l now
  cases hh : hasF (pruneL l now) m s e q with
  | true => rw [recR_has h hs ht hh]; exact mem_pruneL.2 ⟨hx, hu⟩
  | false => rw [recR_new h hs ht hh, evict_id (by omega)]; exact List.mem_append_left _ (mem_pruneL.2 ⟨hx, hu⟩)
theorem known_mem {l : List Ent} (h : VL l) {m s e q now : Int} (ht : timeB now = true) {x : Ent} (hx : x ∈ l) (hk : sameF m s e q x = true) (hu : now < x.u) : knownL l m s e q now = true := by
  unfold knownL; rw [pruneR_ok h ht]
  simp only [decide_true, Bool.true_and]
  exact (hasF_iff _ _ _ _ _).2 ⟨x, mem_pruneL.2 ⟨hx, hu⟩, hk⟩
/-- the entry of a frame is the only one -/
theorem VL.one {l : List Ent} (h : VL l) {m s e q : Int} {x y : Ent} (hx : x ∈ l) (hy : y ∈ l) (h1 : sameF m s e q x = true) (h2 : sameF m s e q y = true) : x = y := by
  obtain ⟨i, hi, rfl⟩ := List.mem_iff_getElem.1 hx
  obtain ⟨j, hj, rfl⟩ := List.mem_iff_getElem.1 hy
  have hp := List.pairwise_iff_getElem.1 h.pw
  simp only [sameF, decide_eq_true_eq] at h1 h2
  rcases Nat.lt_trichotomy i j with hij | hij | hij
  · have := hp i j hi hj hij
    simp [Apart, sameF] at this; omega
  · subst hij; rfl
  · have := hp j i hj hi hij
    simp [Apart, sameF] at this; omega
theorem has_over {l : List Ent} (h : VL l) {m s e q now : Int} {x : Ent} (hx : x ∈ l) (hk : sameF m s e q x = true) (hu : x.u ≤ now) : hasF (pruneL l now) m s e q = false := by
  cases hh : hasF (pruneL l now) m s e q with
  | false => rfl
  | true =>
    obtain ⟨y, hy, hyk⟩ := (hasF_iff _ _ _ _ _).1 hh
    obtain ⟨hy1, hy2⟩ := mem_pruneL.1 hy
    have := h.one hx hy1 hk hyk
    subst this; omega
end Go.Proofs.YtcmpdpcncjggkaaDoor
