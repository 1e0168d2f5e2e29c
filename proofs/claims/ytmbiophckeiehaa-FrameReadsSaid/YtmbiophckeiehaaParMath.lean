/-
  What the reference's parse of a frame's bytes reads, against what the program reads.
-/
import Derived.Test.YtmbiophckeiehaaDecMath
namespace Go.Proofs.Ytmbiophckeiehaa
open Go.RowKit
set_option linter.unusedSimpArgs false
set_option linter.unusedVariables false

theorem numR_ok (l : List UInt8) (n : Nat) (h : numOk l n = true) : numR l n = l.drop n := by unfold numR; rw [if_pos h]
theorem numOk_iff (l : List UInt8) (n : Nat) : numOk l n = true ↔ 1 ≤ n ∧ n ≤ 8 ∧ n ≤ l.length := by unfold numOk; exact decide_eq_true_iff
theorem numV_one (l : List UInt8) (j : Nat) (h : j < l.length) : numV (l.drop j) 1 = (l.getD j 0).toNat := by
  unfold numV
  rw [if_pos ((numOk_iff _ _).2 (by rw [List.length_drop]; omega))]
  rw [List.drop_eq_getElem_cons h, List.take_succ_cons, List.take_zero, uintOf_one, List.getD_eq_getElem?_getD, List.getElem?_eq_getElem h]
  rfl
/-- an address can be read there -/
def okA (l : List UInt8) (at' m : Nat) : Bool := if m = 0 then true else if m = 1 then false else numOk (l.drop at') (asz (m : Int))
/-- where the bytes behind the addresses begin -/
def p7 (l : List UInt8) : Nat := if kindN l = 2 then 3 else 5 + asz (dmOf (modesN l) : Nat) + asz (smOf (modesN l) : Nat)
def aok (l : List UInt8) : Bool := decide (kindN l = 2) || (numOk (l.drop 3) 2 && okA l 5 (dmOf (modesN l)) && okA l (5 + asz (dmOf (modesN l) : Nat)) (smOf (modesN l)))
def sok (l : List UInt8) : Bool := !secB l || (numOk (l.drop (p7 l)) 4 && numOk (l.drop (p7 l + 4)) 1 && decide (p7 l + 9 ≤ l.length))
/-- parse succeeds -/
def pok (l : List UInt8) : Bool := aok l && sok l

theorem par_start (l : List UInt8) (h : 3 ≤ l.length) : r1 l = l.drop 1 ∧ r2 l = l.drop 2 ∧ r3 l = l.drop 3 ∧ firstN l = (l.getD 0 0).toNat ∧ modesN l = (l.getD 1 0).toNat ∧ seqN l = (l.getD 2 0).toNat := by
  have e1 : r1 l = l.drop 1 := numR_ok l 1 ((numOk_iff _ _).2 (by omega))
  have e2 : r2 l = l.drop 2 := by
    show numR (r1 l) 1 = _
    rw [e1, numR_ok _ _ ((numOk_iff _ _).2 (by rw [List.length_drop]; omega)), List.drop_drop]
  have e3 : r3 l = l.drop 3 := by
    show numR (r2 l) 1 = _
    rw [e2, numR_ok _ _ ((numOk_iff _ _).2 (by rw [List.length_drop]; omega)), List.drop_drop]
  refine ⟨e1, e2, e3, ?_, ?_, ?_⟩
  · have := numV_one l 0 (by omega)
    rwa [List.drop_zero] at this
  · show numV (r1 l) 1 = _
    rw [e1]; exact numV_one l 1 (by omega)
  · show numV (r2 l) 1 = _
    rw [e2]; exact numV_one l 2 (by omega)

theorem numR_asz (l : List UInt8) (a m : Nat) (hm : m < 4) (h : okA l a m = true) (ha : a ≤ l.length) : numR (l.drop a) (asz (m : Int)) = l.drop (a + asz (m : Int)) ∧ a + asz (m : Int) ≤ l.length := by
  unfold okA at h
  rcases (by omega : m = 0 ∨ m = 1 ∨ m = 2 ∨ m = 3) with rfl | rfl | rfl | rfl
  · exact ⟨numR_zero _, ha⟩
  · exact absurd h (by simp)
  · rw [if_neg (by decide), if_neg (by decide)] at h
    have h2 := ((numOk_iff _ _).1 h).2.2
    rw [List.length_drop] at h2
    rw [numR_ok _ _ h, List.drop_drop]
    exact ⟨rfl, by omega⟩
  · rw [if_neg (by decide), if_neg (by decide)] at h
    have h2 := ((numOk_iff _ _).1 h).2.2
    have h8 : asz ((3 : Nat) : Int) = 8 := rfl
    rw [List.length_drop] at h2
    rw [numR_ok _ _ h, List.drop_drop]
    exact ⟨rfl, by omega⟩

theorem dm_lt (m : Nat) : dmOf m < 4 := by unfold dmOf; omega
theorem sm_lt (m : Nat) : smOf m < 4 := by unfold smOf; omega

theorem par_addrs (l : List UInt8) (h : 3 ≤ l.length) (hk : ¬kindN l = 2) (ha : aok l = true) :
    r4 l = l.drop 5 ∧ r5 l = l.drop (5 + asz (dmOf (modesN l) : Nat)) ∧ r6 l = l.drop (p7 l) ∧ p7 l ≤ l.length := by
  obtain ⟨_, _, e3, _⟩ := par_start l h
  unfold aok at ha
  rw [decide_eq_false hk, Bool.false_or, Bool.and_eq_true, Bool.and_eq_true] at ha
  obtain ⟨⟨h1, h2⟩, h3⟩ := ha
  have hl := ((numOk_iff _ _).1 h1).2.2
  rw [List.length_drop] at hl
  have e4 : r4 l = l.drop 5 := by
    show numR (r3 l) 2 = _
    rw [e3, numR_ok _ _ h1, List.drop_drop]
  obtain ⟨q5, l5⟩ := numR_asz l 5 _ (dm_lt _) h2 (by omega)
  have e5 : r5 l = l.drop (5 + asz (dmOf (modesN l) : Nat)) := by
    show numR (r4 l) _ = _
    rw [e4]; exact q5
  obtain ⟨q6, l6⟩ := numR_asz l _ _ (sm_lt _) h3 l5
  have e7 : p7 l = 5 + asz (dmOf (modesN l) : Nat) + asz (smOf (modesN l) : Nat) := by unfold p7; rw [if_neg hk]
  refine ⟨e4, e5, ?_, by rw [e7]; exact l6⟩
  show numR (r5 l) _ = _
  rw [e5, q6, e7]

theorem par_rest (l : List UInt8) (h : 3 ≤ l.length) (ha : aok l = true) : r7 l = l.drop (p7 l) ∧ p7 l ≤ l.length := by
  by_cases hk : kindN l = 2
  · obtain ⟨_, _, e3, _⟩ := par_start l h
    have e7 : p7 l = 3 := by unfold p7; rw [if_pos hk]
    rw [e7]
    unfold r7; rw [if_pos hk]; exact ⟨e3, h⟩
  · obtain ⟨_, _, e6, h7⟩ := par_addrs l h hk ha
    unfold r7; rw [if_neg hk]; exact ⟨e6, h7⟩

theorem par_secure (l : List UInt8) (h : 3 ≤ l.length) (ha : aok l = true) (hs : secB l = true) (h2 : sok l = true) :
    numV (r7 l) 4 = numV (l.drop (p7 l)) 4 ∧ numV (r8 l) 1 = numV (l.drop (p7 l + 4)) 1 ∧ readP l = (l.drop (p7 l + 5)).take (l.length - 4 - (p7 l + 5)) ∧ readM l = l.drop (l.length - 4) ∧ p7 l + 9 ≤ l.length := by
  obtain ⟨e7, _⟩ := par_rest l h ha
  unfold sok at h2
  rw [hs, Bool.not_true, Bool.false_or, Bool.and_eq_true, Bool.and_eq_true] at h2
  obtain ⟨⟨h3, h4⟩, h5⟩ := h2
  have h5 := of_decide_eq_true h5
  have e8 : r8 l = l.drop (p7 l + 4) := by
    show numR (r7 l) 4 = _
    rw [e7, numR_ok _ _ h3, List.drop_drop]
  have e9 : r9 l = l.drop (p7 l + 5) := by
    show numR (r8 l) 1 = _
    rw [e8, numR_ok _ _ h4, List.drop_drop]
  refine ⟨by rw [e7], by rw [e8], ?_, ?_, h5⟩
  · unfold readP; rw [if_pos hs]; unfold lastR
    rw [e9, List.length_drop]
    congr 1; omega
  · unfold readM; rw [if_pos hs]; unfold lastV
    rw [e9, List.length_drop, List.drop_drop]
    congr 1; omega

theorem par_open (l : List UInt8) (h : 3 ≤ l.length) (ha : aok l = true) (hs : secB l = false) : readP l = l.drop (p7 l) ∧ readM l = [] := by
  obtain ⟨e7, _⟩ := par_rest l h ha
  constructor
  · unfold readP; rw [if_neg (by rw [hs]; decide), e7]
  · unfold readM; rw [if_neg (by rw [hs]; decide)]

/-- the bytes of a valid frame can be parsed -/
theorem good_pok (l : List UInt8) (h3 : 3 ≤ l.length) (hv : validF (readH l) (readP l).length (readM l).length = true) (hb : bodyL (readH l) (readP l) (readM l) = l) : pok l = true := by
  have hlen : l.length = (preL (readH l)).length + (readP l).length + (readM l).length := by
    have := congrArg List.length hb
    unfold bodyL headL at this
    rw [List.length_append, List.length_append] at this
    omega
  rw [length_preL] at hlen
  have hM : secB l = true → (readM l).length = 4 := by
    intro hs
    unfold validF at hv
    have hse : (readH l).se = true := hs
    by_cases hk : (readH l).k = 2
    · rw [if_pos hk] at hv
      have := (of_decide_eq_true hv).2.1
      rw [hse] at this; exact absurd this (by decide)
    · rw [if_neg hk] at hv
      split at hv
      · have := (of_decide_eq_true hv).2.1
        unfold secF at this
        rw [if_pos hse] at this
        exact of_decide_eq_true this
      · exact absurd hv (by decide)
  have hm : ¬kindN l = 2 → (dmOf (modesN l) = 2 ∨ dmOf (modesN l) = 3) ∧ (smOf (modesN l) = 2 ∨ smOf (modesN l) = 3) := by
    intro hk
    have hk' : ¬(readH l).k = 2 := by show ¬((kindN l : Nat) : Int) = 2; omega
    unfold validF at hv
    rw [if_neg hk'] at hv
    split at hv
    · have := (of_decide_eq_true hv).1
      unfold adrF at this
      obtain ⟨_, ⟨d0, dv⟩, ⟨s0, sv⟩, _⟩ := of_decide_eq_true this
      have ed : (readH l).dm = (dmOf (modesN l) : Int) := by show (if kindN l = 2 then (0 : Int) else _) = _; rw [if_neg hk]
      have es : (readH l).sm = (smOf (modesN l) : Int) := by show (if kindN l = 2 then (0 : Int) else _) = _; rw [if_neg hk]
      rw [ed] at d0 dv
      rw [es] at s0 sv
      have := dm_lt (modesN l)
      have := sm_lt (modesN l)
      have n1 : ∀ (m s x : Int), m = 1 → validA m s x = true → False := by
        intro m s x hm hva; subst hm; unfold validA at hva; simp at hva
      constructor
      · rcases (by omega : dmOf (modesN l) = 0 ∨ dmOf (modesN l) = 1 ∨ dmOf (modesN l) = 2 ∨ dmOf (modesN l) = 3) with e | e | e | e
        · rw [e] at d0; exact absurd rfl d0
        · exact (n1 _ _ _ (by rw [e]; rfl) dv).elim
        · exact Or.inl e
        · exact Or.inr e
      · rcases (by omega : smOf (modesN l) = 0 ∨ smOf (modesN l) = 1 ∨ smOf (modesN l) = 2 ∨ smOf (modesN l) = 3) with e | e | e | e
        · rw [e] at s0; exact absurd rfl s0
        · exact (n1 _ _ _ (by rw [e]; rfl) sv).elim
        · exact Or.inl e
        · exact Or.inr e
    · exact absurd hv (by decide)
  have a2 : asz ((2 : Nat) : Int) = 2 := rfl
  have a3 : asz ((3 : Nat) : Int) = 8 := rfl
  have hse : (if (readH l).se = true then 5 else 0) = (if secB l = true then 5 else 0 : Nat) := rfl
  rw [hse] at hlen
  have hka : (if (readH l).k = 2 then 0 else 2 + asz (readH l).dm + asz (readH l).sm) = p7 l - 3 := by
    unfold p7
    by_cases hk : kindN l = 2
    · rw [if_pos (show (readH l).k = 2 by show ((kindN l : Nat) : Int) = 2; omega), if_pos hk]
    · have ed : (readH l).dm = (dmOf (modesN l) : Int) := by show (if kindN l = 2 then (0 : Int) else _) = _; rw [if_neg hk]
      have es : (readH l).sm = (smOf (modesN l) : Int) := by show (if kindN l = 2 then (0 : Int) else _) = _; rw [if_neg hk]
      rw [if_neg (show ¬(readH l).k = 2 by show ¬((kindN l : Nat) : Int) = 2; omega), if_neg hk, ed, es]
      omega
  have h73 : 3 ≤ p7 l := by unfold p7; split <;> omega
  rw [hka] at hlen
  unfold pok
  rw [Bool.and_eq_true]
  constructor
  · unfold aok
    by_cases hk : kindN l = 2
    · rw [decide_eq_true hk, Bool.true_or]
    · rw [decide_eq_false hk, Bool.false_or, Bool.and_eq_true, Bool.and_eq_true]
      have e7 : p7 l = 5 + asz (dmOf (modesN l) : Nat) + asz (smOf (modesN l) : Nat) := by unfold p7; rw [if_neg hk]
      obtain ⟨hd, hs⟩ := hm hk
      refine ⟨⟨?_, ?_⟩, ?_⟩
      · rw [numOk_iff, List.length_drop]; omega
      · unfold okA
        rcases hd with e | e <;> (rw [e] at e7 ⊢; rw [if_neg (by decide), if_neg (by decide), numOk_iff, List.length_drop]; omega)
      · unfold okA
        rcases hs with e | e <;> (rw [e] at e7 ⊢; rw [if_neg (by decide), if_neg (by decide), numOk_iff, List.length_drop]; omega)
  · unfold sok
    cases hs : secB l
    · rfl
    · have := hM hs
      rw [hs, if_pos rfl] at hlen
      rw [Bool.not_true, Bool.false_or, Bool.and_eq_true, Bool.and_eq_true]
      refine ⟨⟨?_, ?_⟩, decide_eq_true ?_⟩
      · rw [numOk_iff, List.length_drop]; omega
      · rw [numOk_iff, List.length_drop]; omega
      · omega
end Go.Proofs.Ytmbiophckeiehaa
