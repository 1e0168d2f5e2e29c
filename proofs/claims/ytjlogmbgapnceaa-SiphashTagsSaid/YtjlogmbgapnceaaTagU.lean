/-
  Tag of both in one form.
-/
import Derived.Test.YtjlogmbgapnceaaNumbers
import Derived.Test.YtjlogmbgapnceaaFb
namespace Go.Proofs.Ytjlogmbgapnceaa
open Go.RowKit

def okN (n : Int) : Bool := decide (1 ≤ n ∧ n ≤ 8)
/-- the tag of n bytes, no bytes where there is none -/
def tagL (k l : List UInt8) (n : Int) : List UInt8 := if 1 ≤ n ∧ n ≤ 8 then leB (sip k l) n.toNat else []
theorem length_tagL (k l : List UInt8) (n : Int) : (tagL k l n).length ≤ 8 := by
  unfold tagL; split
  · rw [length_leB]; omega
  · simp
theorem tagL_pos {k l : List UInt8} {n : Int} (h : okN n = true) : 1 ≤ (tagL k l n).length := by
  unfold okN at h; have h := of_decide_eq_true h
  unfold tagL; rw [if_pos h, length_leB]; omega
theorem tagL_no {k l : List UInt8} {n : Int} (h : okN n = false) : tagL k l n = [] := by
  unfold okN at h; have h := of_decide_eq_false h
  unfold tagL; rw [if_neg h]
theorem verB_tagL (k l : List UInt8) (n : Int) : verB k l (tagL k l n) = okN n := by
  unfold okN tagL
  by_cases h : 1 ≤ n ∧ n ≤ 8
  · rw [if_pos h, decide_eq_true h]; exact verB_tag k l _ (by omega) (by omega)
  · rw [if_neg h, decide_eq_false h]; exact verB_none k l

theorem tagU (k : List UInt8) (a : Option Addr) (len cap : Nat) (l : List UInt8) (n : Int) (w : World) (hk : k.length = 16) (hb : IsB w a len cap l) (hn : I64 n) :
    Calls Try.prog 13 #[kv k, .slice a len cap, .int .i64 n] w fun e w' => ∃ p m c, e = .returned (.tuple #[.slice p m c, .bool (okN n)]) ∧ IsB w' p m c (tagL k l n) ∧ Below w.heap.size w w' :=
  (tag_any k a len cap l n w hk hb hn).mono fun e w' h => by
    rcases h with ⟨h1, g, he, hg, hO, hB⟩ | ⟨h0, he, hB⟩
    · refine ⟨some ⟨g, 0, none⟩, n.toNat, n.toNat, ?_, ?_, hB⟩
      · rw [he, okN, decide_eq_true h1]
      · have := hO.isB (by rw [length_leB]; omega)
        rw [length_leB] at this
        rw [tagL, if_pos h1]; exact this
    · refine ⟨none, 0, 0, ?_, ?_, hB⟩
      · rw [he, okN, decide_eq_false h0]
      · rw [tagL, if_neg h0]; exact isB_nil w'

/-- a slice of the call's own that may be written, where there is one -/
def Wr (w : World) (B : Nat) (ok : Bool) (p : Option Addr) (m c : Nat) (l : List UInt8) : Prop :=
  IsB w p m c l ∧ (ok = true → ∃ g, p = some ⟨g, 0, none⟩ ∧ B ≤ g ∧ FB w g l ∧ 1 ≤ m)

theorem Wr.below {w w' : World} {B : Nat} {ok : Bool} {p : Option Addr} {m c : Nat} {l : List UInt8} (h : Wr w B ok p m c l) (hb : Below w.heap.size w w') : Wr w' B ok p m c l :=
  ⟨h.1.below hb, fun hk => by obtain ⟨g, hp, hg, hF, h1⟩ := h.2 hk; exact ⟨g, hp, hg, hF.below hb hF.1, h1⟩⟩
theorem Wr.isB {w : World} {B : Nat} {ok : Bool} {p : Option Addr} {m c : Nat} {l : List UInt8} (h : Wr w B ok p m c l) : IsB w p m c l := h.1
theorem Wr.drew {w : World} {B : Nat} {ok : Bool} {p : Option Addr} {m c : Nat} {l : List UInt8} (h : Wr w B ok p m c l) : Wr w.drew B ok p m c l := h.below (below_drewN (Below.refl _ _) 1)

theorem refTagU (k : List UInt8) (a : Option Addr) (len cap : Nat) (l : List UInt8) (n : Int) (w : World) (hk : k.length = 16) (hb : IsB w a len cap l) (hn : I64 n) :
    Calls Try.prog 11 #[kv k, .slice a len cap, .int .i64 n] w fun e w' => ∃ p m c, e = .returned (.tuple #[.slice p m c, .bool (okN n)]) ∧ Wr w' w.heap.size (okN n) p m c (tagL k l n) ∧ Below w.heap.size w w' :=
  (refTag_any k a len cap l n w hk hb hn).mono fun e w' h => by
    rcases h with ⟨h1, v, he, hG, hB⟩ | ⟨h0, he, hB⟩
    · obtain ⟨g, cap', rfl, hg, hF, h3, h4⟩ := hG.fb (by rw [length_leB]; omega)
      refine ⟨some ⟨g, 0, none⟩, _, cap', by rw [he, okN, decide_eq_true h1], ⟨?_, fun _ => ⟨g, rfl, hg, ?_, ?_⟩⟩, hB⟩
      · rw [tagL, if_pos h1]; exact hF.isB _ _ rfl h3 (by rw [length_leB]; omega) h4
      · rw [tagL, if_pos h1]; exact hF
      · rw [length_leB]; omega
    · refine ⟨none, 0, 0, ?_, ⟨?_, ?_⟩, hB⟩
      · rw [he, okN, decide_eq_false h0]
      · rw [tagL, if_neg h0]; exact isB_nil w'
      · intro h; rw [okN, decide_eq_false h0] at h; cases h

theorem same_self (l : List UInt8) : (l == l) = true := by simp

theorem bits_xor_u8 (x y : UInt8) : bits .xor .u8 (x.toNat : Int) (y.toNat : Int) = ((x ^^^ y).toNat : Int) := by
  have hx : x.toNat ^^^ y.toNat < 2 ^ 8 := Nat.xor_lt_two_pow x.toNat_lt y.toNat_lt
  have h1 : (BitVec.ofInt 8 (x.toNat : Int)).toNat = x.toNat := by
    rw [BitVec.ofInt_natCast, BitVec.toNat_ofNat]; exact Nat.mod_eq_of_lt x.toNat_lt
  have h2 : (BitVec.ofInt 8 (y.toNat : Int)).toNat = y.toNat := by
    rw [BitVec.ofInt_natCast, BitVec.toNat_ofNat]; exact Nat.mod_eq_of_lt y.toNat_lt
  show IntKind.u8.wrap ((BitVec.ofInt 8 (x.toNat : Int) ^^^ BitVec.ofInt 8 (y.toNat : Int)).toNat : Int) = _
  rw [BitVec.toNat_xor, h1, h2, IntKind.wrap_u8, UInt8.toNat_xor]
  omega

theorem xor_same {x y : UInt8} : x ^^^ y = x ↔ y = 0 := by
  constructor
  · intro h
    have : x ^^^ (x ^^^ y) = x ^^^ x := by rw [h]
    rwa [← UInt8.xor_assoc, UInt8.xor_self, UInt8.zero_xor] at this
  · rintro rfl; exact UInt8.xor_zero

/-- the tag with a byte changed -/
theorem verB_changed (k l : List UInt8) (n : Int) (i : Nat) (y : UInt8) (h : okN n = true) (hi : i < (tagL k l n).length) :
    verB k l ((tagL k l n).set i ((tagL k l n).getD i 0 ^^^ y)) = (y == 0) := by
  have h1 : 1 ≤ n ∧ n ≤ 8 := of_decide_eq_true h
  have hl : (tagL k l n).length = n.toNat := by rw [tagL, if_pos h1, length_leB]
  have he : leB (sip k l) n.toNat = tagL k l n := by rw [tagL, if_pos h1]
  unfold verB
  rw [List.length_set, hl, decide_eq_true (⟨by omega, by omega⟩ : 1 ≤ n.toNat ∧ n.toNat ≤ 8), Bool.true_and, he]
  generalize tagL k l n = t at *
  rw [Bool.eq_iff_iff, beq_iff_eq, beq_iff_eq]
  constructor
  · intro e
    have := congrArg (fun l => l.getD i 0) e
    simp only [List.getD_eq_getElem?_getD, List.getElem?_set_self hi, Option.getD_some] at this
    exact xor_same.1 this
  · rintro rfl
    rw [UInt8.xor_zero]
    apply List.ext_getElem?
    intro j
    by_cases hj : j = i
    · subst hj; rw [List.getElem?_set_self hi, List.getD_eq_getElem?_getD, List.getElem?_eq_getElem hi]; rfl
    · rw [List.getElem?_set_ne (by omega)]
end Go.Proofs.Ytjlogmbgapnceaa
