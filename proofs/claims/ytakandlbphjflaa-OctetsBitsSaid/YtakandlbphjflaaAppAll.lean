import Derived.Test.YtakandlbphjflaaRefAppendNo
import Derived.Test.YtakandlbphjflaaRefAppendWalk
namespace Go.Proofs.Ytakandlbphjflaa
open Go.RowKit

/-- AppendBits appends -/
def appOk (l : List UInt8) (n k : Int) : Bool := validB l n && decide (0 ≤ k ∧ k ≤ 64)
/-- the bytes that AppendBits returns -/
def appL (l : List UInt8) (n v k : Int) : List UInt8 := if appOk l n k = true then appTo l n.toNat v.toNat k.toNat k.toNat else []
def appN (l : List UInt8) (n k : Int) : Int := if appOk l n k = true then n + k else 0

/-- the post: 'a bit string of the bytes L and the length N, and ok' -/
def RetApp (L : List UInt8) (N : Int) (ok : Bool) (w : World) (e : Ending) (w' : World) : Prop :=
  ∃ a cap, e = .returned (.tuple #[.agg #[.slice a L.length cap, .int .i64 N], .bool ok]) ∧ IsB w' a L.length cap L ∧ Below w.heap.size w w'

theorem isB_nil (w : World) : IsB w none 0 0 [] := ⟨rfl, Nat.le_refl _, by omega, by omega, fun _ => ⟨rfl, rfl⟩, by simp⟩

theorem appOk_no {l : List UInt8} {n k : Int} (h : appOk l n k = false) : validB l n = false ∨ k < 0 ∨ 64 < k := by
  cases hv : validB l n
  · exact .inl rfl
  · simp [appOk, hv] at h; omega

theorem appL_length (l : List UInt8) (n v k : Int) (h : l.length ≤ 140737488355300) (hn : appOk l n k = true) : (appL l n v k).length ≤ 140737488355320 := by
  unfold appL
  rw [if_pos hn]
  simp [appOk] at hn
  obtain ⟨hv, h1, h2⟩ := hn
  have h0 : 0 ≤ n := by simp [validB] at hv; omega
  obtain ⟨n, rfl⟩ := Int.eq_ofNat_of_zero_le h0
  obtain ⟨k, rfl⟩ := Int.eq_ofNat_of_zero_le h1
  have hl := ((validB_iff l n).1 hv).2.1
  rw [Int.toNat_natCast, Int.toNat_natCast, length_appTo _ _ _ _ (by omega)]
  omega

theorem appendBits_all (a : Option Addr) (len cap : Nat) (l : List UInt8) (n v k : Int) (w : World) (hb : IsB w a len cap l) (hn : I64 n) (hroom : len ≤ 140737488355300) (hu : U64 v) :
    Calls Try.prog 12 #[.agg #[.slice a len cap, .int .i64 n], .int .u64 v, .int .i64 k] w (RetApp (appL l n v k) (appN l n k) (appOk l n k) w) := by
  cases ho : appOk l n k
  · refine (appendBits_no a len cap l n v k w hb hn (appOk_no ho)).mono ?_
    rintro e w1 ⟨rfl, hB⟩
    simp only [appL, appN, ho, if_neg Bool.false_ne_true]
    exact ⟨none, 0, rfl, isB_nil _, hB⟩
  · have hle := appL_length l n v k (by rw [hb.length]; exact hroom) ho
    have h := ho
    simp [appOk] at h
    obtain ⟨hv, h1, h2⟩ := h
    refine (appendBits_yes a len cap l n v k w hb hv hn (by omega) h1 h2 hu).mono ?_
    rintro e w1 ⟨g, rfl, hg, hO, hB⟩
    simp only [appL, appN, ho, if_true] at hle ⊢
    exact ⟨some ⟨g, 0, none⟩, _, rfl, hO.isB (by omega), hB⟩

theorem refappend_all (a : Option Addr) (len cap : Nat) (l : List UInt8) (n v k : Int) (w : World) (hb : IsB w a len cap l) (hn : I64 n) (hroom : len ≤ 140737488355300) (hu : U64 v) :
    Calls Try.prog 13 #[.agg #[.slice a len cap, .int .i64 n], .int .u64 v, .int .i64 k] w (RetApp (appL l n v k) (appN l n k) (appOk l n k) w) := by
  cases ho : appOk l n k
  · refine (refappend_no a len cap l n v k w hb hn (appOk_no ho)).mono ?_
    rintro e w1 ⟨rfl, hB⟩
    simp only [appL, appN, ho, if_neg Bool.false_ne_true]
    exact ⟨none, 0, rfl, isB_nil _, hB⟩
  · have h := ho
    simp [appOk] at h
    obtain ⟨hv, h1, h2⟩ := h
    refine (refappend_yes a len cap l n v k w hb hv hn hroom h1 h2 hu).mono ?_
    rintro e w1 ⟨a', c', rfl, hI, hB⟩
    simp only [appL, appN, ho, if_true]
    exact ⟨a', c', rfl, hI, hB⟩
end Go.Proofs.Ytakandlbphjflaa
