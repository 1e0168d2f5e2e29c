/-
  The bytes of a valid frame are read as that frame.
-/
import Derived.Test.YtmbiophckeiehaaRdr
namespace Go.Proofs.Ytmbiophckeiehaa
open Go.RowKit
set_option linter.unusedSimpArgs false
set_option linter.unusedVariables false

theorem uintOf_be (v : Nat) : ∀ n, v < 256 ^ n → uintOf (beBytes v n) = v := by
  intro n h
  have key : ∀ k, k ≤ n → uintOf ((beBytes v n).take k) = v / 256 ^ (n - k) := by
    intro k
    induction k with
    | zero => intro _; rw [List.take_zero, Nat.sub_zero, Nat.div_eq_of_lt h]; rfl
    | succ k ih =>
      intro hk
      rw [uintOf_take _ _ (by rw [length_beBytes]; omega), ih (by omega), beBytes_getD _ _ _ (by omega)]
      unfold beByte
      rw [UInt8.toNat_ofNat', show 8 * (n - 1 - k) = 8 * (n - (k + 1)) from by omega, Nat.pow_mul, show (2 : Nat) ^ 8 = 256 from rfl]
      obtain ⟨j, hj⟩ : ∃ j, n - k = j + 1 := ⟨n - k - 1, by omega⟩
      rw [show n - (k + 1) = j from by omega, hj, Nat.pow_succ, ← Nat.div_div_eq_div_mul]
      omega
  have := key n (Nat.le_refl _)
  rw [List.take_of_length_le (by rw [length_beBytes]; exact Nat.le_refl _), Nat.sub_self] at this
  simpa using this

theorem uintOf_one (x : UInt8) : uintOf [x] = x.toNat := by simp [uintOf]
theorem ofNat_val (n : Nat) (h : n < 256) : (UInt8.ofNat n).toNat = n := by rw [UInt8.toNat_ofNat', Nat.mod_eq_of_lt h]

theorem numV_be (v n : Nat) (r : List UInt8) (h1 : 1 ≤ n) (h8 : n ≤ 8) (hv : v < 256 ^ n) : numV (beBytes v n ++ r) n = v := by
  rw [numV_at _ _ _ h1 h8 (length_beBytes _ _), uintOf_be v n hv]
theorem numR_be (v n : Nat) (r : List UInt8) (h1 : 1 ≤ n) (h8 : n ≤ 8) : numR (beBytes v n ++ r) n = r := numR_at _ _ _ h1 h8 (length_beBytes _ _)

/-- an address is read back -/
theorem adr_back (m s x : Int) (r : List UInt8) (hm : m = 0 ∨ m = 2 ∨ m = 3) (hv : validA m s x = true) (h3 : Ad3 m s x) :
    adS m.toNat (numV (adL m s x ++ r) (asz m)) = s ∧ adX m.toNat (numV (adL m s x ++ r) (asz m)) = x ∧ numR (adL m s x ++ r) (asz m) = r := by
  obtain ⟨_, h4, h5⟩ := h3
  unfold U64 at h5
  have hva := of_decide_eq_true (show decide (m = 0 ∧ s = 0 ∧ x = 0 ∨ m = 2 ∧ x = 0 ∨ m = 3 ∧ s = 0) = true from hv)
  rcases hm with rfl | rfl | rfl
  · have e1 : adL 0 s x = [] := rfl
    have e2 : asz 0 = 0 := rfl
    rw [e1, e2, numV_zero, numR_zero]
    refine ⟨?_, ?_, rfl⟩
    · show (0 : Int) = s; omega
    · show ((0 : Nat) : Int) = x; omega
  · have e1 : adL 2 s x = beBytes s.toNat 2 := rfl
    have e2 : asz 2 = 2 := rfl
    rw [e1, e2, numV_be _ _ _ (by omega) (by omega) (by have : (256 : Nat) ^ 2 = 65536 := rfl; omega), numR_be _ _ _ (by omega) (by omega)]
    refine ⟨?_, ?_, rfl⟩
    · show ((s.toNat : Nat) : Int) = s; omega
    · show (0 : Int) = x; omega
  · have e1 : adL 3 s x = beBytes x.toNat 8 := rfl
    have e2 : asz 3 = 8 := rfl
    rw [e1, e2, numV_be _ _ _ (by omega) (by omega) (by have : (256 : Nat) ^ 8 = 18446744073709551616 := rfl; omega), numR_be _ _ _ (by omega) (by omega)]
    refine ⟨?_, ?_, rfl⟩
    · show (0 : Int) = s; omega
    · show ((x.toNat : Nat) : Int) = x; omega

theorem first_parts (q a b c : Nat) (hq : q < 4) (ha : a < 2) (hb : b < 2) (hc : c < 2) (f : Nat) (hf : f = 64 * q + 32 * a + 16 * b + 8 * c) : f < 256 ∧ f / 64 = q ∧ f / 32 % 2 = a ∧ f / 16 % 2 = b ∧ f / 8 % 2 = c := by
  subst hf
  refine ⟨?_, ?_, ?_, ?_, ?_⟩ <;> omega

def bn (b : Bool) : Nat := if b then 1 else 0
theorem bn_lt (b : Bool) : bn b < 2 := by cases b <;> decide
theorem bn_dec (b : Bool) : decide (bn b = 1) = b := by cases b <;> rfl

/-- a frame whose numbers fit its bytes -/
structure HRead (h : Hd) (P M : List UInt8) : Prop where
  v : HVal h
  d : h.k ≠ 2 → (h.dm = 0 ∨ h.dm = 2 ∨ h.dm = 3) ∧ validA h.dm h.ds h.dx = true
  s : h.k ≠ 2 → (h.sm = 0 ∨ h.sm = 2 ∨ h.sm = 3) ∧ validA h.sm h.ss h.sx = true
  ack : h.k = 2 → h.pn = 0 ∧ (h.dm = 0 ∧ h.ds = 0 ∧ h.dx = 0) ∧ (h.sm = 0 ∧ h.ss = 0 ∧ h.sx = 0)
  sec : h.se = true → M.length = 4
  plain : h.se = false → h.ct = 0 ∧ h.ky = 0 ∧ M = []

theorem hread_of (h : Hd) (P M : List UInt8) (ho : HOk h) (hv : validF h P.length M.length = true) : HRead h P M := by
  have hV := hval_of h _ _ ho hv
  have hsec : secF h M.length = true := by
    unfold validF at hv
    split at hv
    · exact (of_decide_eq_true hv).2.2.1
    · split at hv
      · exact (of_decide_eq_true hv).2.1
      · cases hv
  refine ⟨hV, fun h2 => ?_, fun h2 => ?_, fun h2 => ?_, fun hs => ?_, fun hs => ?_⟩
  · unfold validF at hv
    rw [if_neg h2] at hv
    split at hv
    · have h1 := (of_decide_eq_true hv).1
      have h2 := (of_decide_eq_true h1).2.1.2
      refine ⟨?_, h2⟩
      have := of_decide_eq_true h2
      omega
    · cases hv
  · unfold validF at hv
    rw [if_neg h2] at hv
    split at hv
    · have h1 := (of_decide_eq_true hv).1
      have h2 := (of_decide_eq_true h1).2.2.1.2
      refine ⟨?_, h2⟩
      have := of_decide_eq_true h2
      omega
    · cases hv
  · unfold validF at hv
    rw [if_pos h2] at hv
    obtain ⟨_, _, _, h3, h4, h5, _⟩ := of_decide_eq_true hv
    exact ⟨h3, h4, h5⟩
  · unfold secF at hsec
    rw [if_pos hs] at hsec
    exact of_decide_eq_true hsec
  · unfold secF at hsec
    rw [if_neg (by rw [hs]; decide)] at hsec
    obtain ⟨h1, h2, h3⟩ := of_decide_eq_true hsec
    exact ⟨h1, h2, List.eq_nil_of_length_eq_zero h3⟩

theorem lastV_back (P M : List UInt8) : lastV (P ++ M) M.length = M := by
  unfold lastV; rw [List.length_append, Nat.add_sub_cancel, List.drop_left]
theorem lastR_back (P M : List UInt8) : lastR (P ++ M) M.length = P := by
  unfold lastR; rw [List.length_append, Nat.add_sub_cancel, List.take_left]

theorem read_back (h : Hd) (P M : List UInt8) (hr : HRead h P M) : readH (bodyL h P M) = h ∧ readP (bodyL h P M) = P ∧ readM (bodyL h P M) = M := by
  obtain ⟨hv, hd, hs, ha, h4, h0⟩ := hr
  obtain ⟨q, hq⟩ := Int.eq_ofNat_of_zero_le hv.k.1
  obtain ⟨d, hdn⟩ := Int.eq_ofNat_of_zero_le hv.dm.1
  obtain ⟨s, hsn⟩ := Int.eq_ofNat_of_zero_le hv.sm.1
  have hk4 := hv.k.2
  have hd4 := hv.dm.2
  have hs4 := hv.sm.2
  obtain ⟨f1, f2, f3, f4, f5⟩ := first_parts q (bn h.ar) (bn h.pe) (bn h.se) (by omega) (bn_lt _) (bn_lt _) (bn_lt _) _ rfl
  have hfb : (firstB h).toNat = 64 * q + 32 * bn h.ar + 16 * bn h.pe + 8 * bn h.se := by
    unfold firstB
    have e : 64 * h.k.toNat + b2i h.ar 32 + b2i h.pe 16 + b2i h.se 8 = 64 * q + 32 * bn h.ar + 16 * bn h.pe + 8 * bn h.se := by
      rw [hq]; unfold b2i bn; cases h.ar <;> cases h.pe <;> cases h.se <;> simp
    rw [e, ofNat_val _ f1]
  have hmb : (modesB h).toNat = 64 * d + 16 * s := by
    unfold modesB
    rw [hdn, hsn, ofNat_val _ (by omega)]; rfl
  have hsq : (UInt8.ofNat h.sq.toNat).toNat = h.sq.toNat := ofNat_val _ (by have := hv.ok.sq; omega)
  obtain ⟨T, hT⟩ : ∃ T, T = (if h.k = 2 then [] else beBytes h.pn.toNat 2 ++ (adL h.dm h.ds h.dx ++ adL h.sm h.ss h.sx)) ++ ((if h.se then beBytes h.ct.toNat 4 ++ beBytes h.ky.toNat 1 else []) ++ (P ++ M)) := ⟨_, rfl⟩
  have hb : bodyL h P M = firstB h :: modesB h :: UInt8.ofNat h.sq.toNat :: T := by
    rw [hT]; unfold bodyL headL preL; simp [List.append_assoc]
  generalize bodyL h P M = l at hb ⊢
  have e1 : r1 l = modesB h :: UInt8.ofNat h.sq.toNat :: T := by rw [hb]; exact numR_at [firstB h] _ 1 (by omega) (by omega) rfl
  have e2 : r2 l = UInt8.ofNat h.sq.toNat :: T := by unfold r2; rw [e1]; exact numR_at [modesB h] _ 1 (by omega) (by omega) rfl
  have e3 : r3 l = T := by unfold r3; rw [e2]; exact numR_at [_] _ 1 (by omega) (by omega) rfl
  have n1 : firstN l = 64 * q + 32 * bn h.ar + 16 * bn h.pe + 8 * bn h.se := by
    unfold firstN; rw [hb]
    rw [show firstB h :: modesB h :: UInt8.ofNat h.sq.toNat :: T = [firstB h] ++ (modesB h :: UInt8.ofNat h.sq.toNat :: T) from rfl, numV_at [firstB h] _ 1 (by omega) (by omega) rfl, uintOf_one, hfb]
  have n2 : modesN l = 64 * d + 16 * s := by
    unfold modesN; rw [e1]
    rw [show modesB h :: UInt8.ofNat h.sq.toNat :: T = [modesB h] ++ (UInt8.ofNat h.sq.toNat :: T) from rfl, numV_at [modesB h] _ 1 (by omega) (by omega) rfl, uintOf_one, hmb]
  have n3 : seqN l = h.sq.toNat := by
    unfold seqN; rw [e2]
    rw [show UInt8.ofNat h.sq.toNat :: T = [UInt8.ofNat h.sq.toNat] ++ T from rfl, numV_at [_] _ 1 (by omega) (by omega) rfl, uintOf_one, hsq]
  have nk : kindN l = q := by unfold kindN; rw [n1]; exact f2
  have nd : dmOf (modesN l) = d := by unfold dmOf; rw [n2]; omega
  have ns : smOf (modesN l) = s := by unfold smOf; rw [n2]; omega
  have nse : secB l = h.se := by unfold secB; rw [n1, f5]; exact bn_dec _
  have hk2 : (q = 2) ↔ (h.k = 2) := by rw [hq]; omega
  obtain ⟨U, hU⟩ : ∃ U, U = (if h.se then beBytes h.ct.toNat 4 ++ beBytes h.ky.toNat 1 else []) ++ (P ++ M) := ⟨_, rfl⟩
  rw [← hU] at hT
  -- the addresses
  have main : r7 l = U ∧ (h.k ≠ 2 → (numV (r3 l) 2 : Int) = h.pn ∧ adS d (numV (r4 l) (asz (d : Nat))) = h.ds ∧ adX d (numV (r4 l) (asz (d : Nat))) = h.dx ∧ adS s (numV (r5 l) (asz (s : Nat))) = h.ss ∧ adX s (numV (r5 l) (asz (s : Nat))) = h.sx) := by
    by_cases h2 : h.k = 2
    · refine ⟨?_, fun h => absurd h2 h⟩
      unfold r7; rw [nk, if_pos (hk2.2 h2), e3, hT, if_pos h2]; rfl
    · obtain ⟨dm3, dv⟩ := hd h2
      obtain ⟨sm3, sv⟩ := hs h2
      rw [if_neg h2, List.append_assoc, List.append_assoc] at hT
      have hp := hv.ok.pn
      have b1 := adr_back h.dm h.ds h.dx (adL h.sm h.ss h.sx ++ U) dm3 dv hv.ok.d
      have b2 := adr_back h.sm h.ss h.sx U sm3 sv hv.ok.s
      rw [show h.dm.toNat = d from by omega] at b1
      rw [show h.sm.toNat = s from by omega] at b2
      have e4 : r4 l = adL h.dm h.ds h.dx ++ (adL h.sm h.ss h.sx ++ U) := by unfold r4; rw [e3, hT, numR_be _ _ _ (by omega) (by omega)]
      have e5 : r5 l = adL h.sm h.ss h.sx ++ U := by unfold r5; rw [e4, nd, ← hdn]; exact b1.2.2
      have e6 : r6 l = U := by unfold r6; rw [e5, ns, ← hsn]; exact b2.2.2
      refine ⟨?_, fun _ => ⟨?_, ?_, ?_, ?_, ?_⟩⟩
      · unfold r7; rw [nk, if_neg (fun h => h2 (hk2.1 h)), e6]
      · rw [e3, hT, numV_be _ _ _ (by omega) (by omega) (by have : (256 : Nat) ^ 2 = 65536 := rfl; omega)]; omega
      · rw [e4, ← hdn]; exact b1.1
      · rw [e4, ← hdn]; exact b1.2.1
      · rw [e5, ← hsn]; exact b2.1
      · rw [e5, ← hsn]; exact b2.2.1
  obtain ⟨e7, hm⟩ := main
  have hct := hv.ok.ct
  have hky := hv.ok.ky
  have sec : (if secB l then (numV (r7 l) 4 : Int) else 0) = h.ct ∧ (if secB l then (numV (r8 l) 1 : Int) else 0) = h.ky ∧ readP l = P ∧ readM l = M := by
    rw [nse]
    unfold readP readM r9 r8
    rw [nse, e7, hU]
    cases hse : h.se
    · obtain ⟨z1, z2, z3⟩ := h0 hse
      simp only [Bool.false_eq_true, if_false]
      rw [z1, z2, z3]
      exact ⟨rfl, rfl, by simp, rfl⟩
    · simp only [if_true]
      rw [List.append_assoc, numV_be _ _ _ (by omega) (by omega) (by have : (256 : Nat) ^ 4 = 4294967296 := rfl; omega), numR_be _ _ _ (by omega) (by omega), numV_be _ _ _ (by omega) (by omega) (by omega), numR_be _ _ _ (by omega) (by omega)]
      have hm4 := h4 hse
      have l1 := lastV_back P M
      have l2 := lastR_back P M
      rw [hm4] at l1 l2
      exact ⟨by omega, by omega, l2, l1⟩
  obtain ⟨s1, s2, s3, s4⟩ := sec
  refine ⟨?_, s3, s4⟩
  obtain ⟨hk, ar, pe, se, sq, pn, dm, ds, dx, sm, ss, sx, ct, ky⟩ := h
  unfold readH
  dsimp only at *
  rw [s1, s2, nk, n1, f3, f4, bn_dec, bn_dec, nse, n3, nd, ns]
  by_cases h2 : hk = 2
  · obtain ⟨a1, ⟨a2, a3, a4⟩, a5, a6, a7⟩ := ha h2
    have q2 := hk2.2 h2
    have hsq := hv.ok.sq
    dsimp only at hsq
    simp only [if_pos q2]
    congr 1 <;> omega
  · obtain ⟨a1, a2, a3, a4, a5⟩ := hm h2
    have q2 : ¬q = 2 := fun h => h2 (hk2.1 h)
    have hsq := hv.ok.sq
    dsimp only at hsq
    simp only [if_neg q2]
    rw [a1, a2, a3, a4, a5]
    congr 1 <;> omega
end Go.Proofs.Ytmbiophckeiehaa
