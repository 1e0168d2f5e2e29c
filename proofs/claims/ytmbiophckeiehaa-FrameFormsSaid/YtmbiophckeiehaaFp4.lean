/-
  The encoding of a frame: header, body, Encode.
-/
import Derived.Test.YtmbiophckeiehaaFp3
import Derived.Test.YtmbiophckeiehaaRefApp
namespace Go.Proofs.Ytmbiophckeiehaa
open Go.RowKit
set_option linter.unusedSimpArgs false
set_option linter.unusedVariables false

/-- the numbers of a frame that is written -/
structure HVal (h : Hd) : Prop where
  ok : HOk h
  k : 0 ≤ h.k ∧ h.k < 4
  dm : 0 ≤ h.dm ∧ h.dm < 4
  sm : 0 ≤ h.sm ∧ h.sm < 4

theorem hval_of (h : Hd) (n k : Nat) (ho : HOk h) (hv : validF h n k = true) : HVal h := by
  unfold validF at hv
  split at hv
  · rename_i h2
    have := (of_decide_eq_true hv).2.2.2.2
    exact ⟨ho, by omega, by omega, by omega⟩
  · split at hv
    · rename_i h13
      have := (of_decide_eq_true hv).1
      unfold adrF at this
      obtain ⟨_, ⟨_, h3⟩, ⟨_, h4⟩, _⟩ := of_decide_eq_true this
      unfold validA at h3 h4
      have h5 := of_decide_eq_true h3
      have h6 := of_decide_eq_true h4
      exact ⟨ho, by omega, by omega, by omega⟩
    · cases hv

theorem u8_ofNat (z : Int) (n : Nat) (h : z = n) : Value.int .u8 (IntKind.u8.wrap z) = bv (UInt8.ofNat n) := by
  subst h
  simp only [bv, UInt8.toNat_ofNat', IntKind.wrap_u8]
  congr 1

set_option maxHeartbeats 2000000 in
set_option maxRecDepth 100000 in
theorem first_any (h : Hd) (p m : Value) (w : World) (hk0 : 0 ≤ h.k) (hk4 : h.k < 4) :
    Calls Try.prog 66 #[fv h p m] w (RetS (.int .u8 ((firstB h).toNat : Int)) w) := by
  obtain ⟨q, hq⟩ := Int.eq_ofNat_of_zero_le hk0
  have HE : Hid (((firstB h).toNat : Int) = ((64 * q + b2i h.ar 32 + b2i h.pe 16 + b2i h.se 8 : Nat) : Int) % 256) := hid (by
    unfold firstB
    rw [hq, UInt8.toNat_ofNat']; rfl)
  generalize firstB h = fb at HE ⊢
  obtain ⟨hk, ar, pe, se, sq, pn, dm, ds, dx, sm, ss, sx, ct, ky⟩ := h
  dsimp only at hk0 hk4 hq HE
  subst hq
  simp only [fv, fvl]
  cases ar <;> cases pe <;> cases se
  all_goals go_enter Try.func66, Try.ntmps66
  all_goals go_wp2
  all_goals go_ret
  all_goals refine ⟨ret_int ?_, (Below.refl _ _).alloc (Nat.le_refl _) _⟩
  all_goals (rw [HE.out]; simp [b2i]; try omega)

set_option maxHeartbeats 2000000 in
set_option maxRecDepth 100000 in
theorem modes_any (h : Hd) (p m : Value) (w : World) (hd0 : 0 ≤ h.dm) (hd4 : h.dm < 4) (hs0 : 0 ≤ h.sm) (hs4 : h.sm < 4) :
    Calls Try.prog 67 #[fv h p m] w (RetS (.int .u8 ((modesB h).toNat : Int)) w) := by
  obtain ⟨x, hx⟩ := Int.eq_ofNat_of_zero_le hd0
  obtain ⟨y, hy⟩ := Int.eq_ofNat_of_zero_le hs0
  have HE : Hid (((modesB h).toNat : Int) = ((64 * x + 16 * y : Nat) : Int) % 256) := hid (by
    unfold modesB
    rw [hx, hy, UInt8.toNat_ofNat']; rfl)
  generalize modesB h = fb at HE ⊢
  obtain ⟨hk, ar, pe, se, sq, pn, dm, ds, dx, sm, ss, sx, ct, ky⟩ := h
  dsimp only at hd0 hd4 hs0 hs4 hx hy HE
  subst hx hy
  simp only [fv, fvl]
  go_enter Try.func67, Try.ntmps67
  go_wp2
  go_ret
  refine ⟨ret_int ?_, (Below.refl _ _).alloc (Nat.le_refl _) _⟩
  (rw [HE.out]; simp; try omega)

set_option maxHeartbeats 2000000 in
set_option maxRecDepth 100000 in
theorem appAddr_any (a : Option Addr) (len cap : Nat) (l : List UInt8) (m s x : Int) (w : World) (hb : IsB w a len cap l) (hroom : len + 8 ≤ 281474976710656) (h3 : Ad3 m s x) :
    Calls Try.prog 69 #[.slice a len cap, av m s x] w (RetB (l ++ adL m s x) w) := by
  obtain ⟨_, h5, h6⟩ := h3
  have z1 := asz_any m
  have l1 := asz_le m
  have HL : Hid (∀ v : Int, (m = 2 → v = s) → (m ≠ 2 → v = x) → beBytes v.toNat (asz m) = adL m s x) := hid (fun v e1 e2 => by
    unfold asz adL
    by_cases h2 : m = 2
    · rw [if_pos h2, if_pos h2, e1 h2]
    · rw [if_neg h2, if_neg h2, e2 h2]
      by_cases h3 : m = 3
      · rw [if_pos h3, if_pos h3]
      · rw [if_neg h3, if_neg h3]; rfl)
  generalize adL m s x = L at HL ⊢
  generalize asz m = z at *
  have hB := (Below.refl w.heap.size w).alloc (Nat.le_refl _) (.cells #[.int .i64 m, .int .u16 s, .int .u64 x] 27)
  have J := hb.below hB
  have us : U64 s := by unfold U64; omega
  simp only [av]
  by_cases h2 : m = 2
  · have e := HL.out s (fun _ => rfl) (fun h => absurd h2 h)
    have hw : IntKind.u64.wrap s = s := by rw [IntKind.wrap_u64]; omega
    subst h2
    go_enter Try.func69, Try.ntmps69
    go_wp2_with fail
    generalize w.alloc _ = w1 at *
    with_reducible refine (z1 _).mono ?_
    rintro e1 w2 ⟨rfl, rfl⟩
    go_wp2_with fail
    with_reducible refine (append_any a len cap l _ _ z _ J (by omega) us (by unfold I64; omega) (Or.inl ⟨by omega, by omega, rfl⟩)).mono ?_
    rintro e2 w3 ⟨g, rfl, hg, hO, hb3⟩
    rw [e] at hO ⊢
    go_wp2_with fail
    go_ret
    exact ⟨g, by rw [List.length_append]; rfl, Nat.le_trans hB.size hg, hO, hB.trans (hb3.mono hB.size)⟩
  · have e := HL.out x (fun h => absurd h h2) (fun _ => rfl)
    go_enter Try.func69, Try.ntmps69
    go_wp2_with fail
    generalize w.alloc _ = w1 at *
    with_reducible refine (z1 _).mono ?_
    rintro e1 w2 ⟨rfl, rfl⟩
    go_wp2_with fail
    with_reducible refine (append_any a len cap l _ _ z _ J (by omega) h6 (by unfold I64; omega) (Or.inl ⟨by omega, by omega, rfl⟩)).mono ?_
    rintro e2 w3 ⟨g, rfl, hg, hO, hb3⟩
    rw [e] at hO ⊢
    go_wp2_with fail
    go_ret
    exact ⟨g, by rw [List.length_append]; rfl, Nat.le_trans hB.size hg, hO, hB.trans (hb3.mono hB.size)⟩

theorem Own.gr {w : World} {g B : Nat} {l : List UInt8} (h : Own w g l) (hB : B ≤ g) (hm : l.length ≤ 281474976710656) : Gr w B (.slice (some ⟨g, 0, none⟩) l.length l.length) l :=
  ⟨by simp, .inr ⟨g, l.length, row l, rfl, hB, h, Nat.le_refl _, by unfold maxLen; omega, by simp [size_row], by rw [Nat.mul_one, row, ← List.length_map (f := bv)]; simp only [List.take_length]⟩⟩

end Go.Proofs.Ytmbiophckeiehaa
