/-
  The sum of the words of parts, byte by byte; a slice of slices of bytes.
-/
import Derived.Test.YtgacmiobfopoeaaFold
namespace Go.Proofs.Ytgacmiobfopoeaa
open Go.RowKit

/-- the sum of the words of bytes that begin at place p -/
def bsum : Nat → List UInt8 → Nat
  | _, [] => 0
  | p, x :: r => x.toNat * 256 ^ ((p + 1) % 2) + bsum (p + 1) r

theorem bsum_append (l m : List UInt8) : ∀ p, bsum p (l ++ m) = bsum p l + bsum (p + l.length) m := by
  induction l with
  | nil => intro p; simp [bsum]
  | cons x l ih =>
    intro p
    simp only [List.cons_append, bsum, List.length_cons]
    rw [ih (p + 1), show p + 1 + l.length = p + (l.length + 1) from by omega, Nat.add_assoc]

theorem bsum_parity (l : List UInt8) : ∀ p q, p % 2 = q % 2 → bsum p l = bsum q l := by
  induction l with
  | nil => intro p q h; rfl
  | cons x l ih =>
    intro p q h
    simp only [bsum]
    rw [ih (p + 1) (q + 1) (by omega), show (p + 1) % 2 = (q + 1) % 2 from by omega]

theorem bsum_le (l : List UInt8) : ∀ p, bsum p l ≤ 65280 * l.length := by
  induction l with
  | nil => intro p; simp [bsum]
  | cons x l ih =>
    intro p
    have h1 := ih (p + 1)
    have hx := x.toNat_lt
    simp only [bsum, List.length_cons]
    rcases (by omega : (p + 1) % 2 = 0 ∨ (p + 1) % 2 = 1) with h | h <;> rw [h] <;> simp <;> omega

theorem bsum_take (l : List UInt8) (p k : Nat) (hk : k < l.length) : bsum p (l.take (k + 1)) = bsum p (l.take k) + (l.getD k 0).toNat * 256 ^ ((p + k + 1) % 2) := by
  rw [take_snoc l 0 k hk, bsum_append, List.length_take, Nat.min_eq_left (by omega)]
  simp [bsum]

/-- a slice of slices of bytes -/
structure IsBB (w : World) (a : Option Addr) (len cap : Nat) (L : List (List UInt8)) : Prop where
  length : L.length = len
  le : len ≤ cap
  max : len ≤ 281474976710656
  nil : a = none → len = 0
  cells : ∀ x, a = some x → x.spot = none ∧ ∀ j, j < len → ∃ c m k, w.cell? ⟨x.block, x.off + j, none⟩ = some (.slice c m k) ∧ IsB w c m k (L.getD j [])

theorem IsBB.some {w : World} {a : Option Addr} {len cap : Nat} {L : List (List UInt8)} (h : IsBB w a len cap L) (hp : 0 < len) :
    ∃ b off, a = some ⟨b, off, none⟩ ∧ ∀ j, j < len → ∃ c m k, w.cell? ⟨b, off + j, none⟩ = some (.slice c m k) ∧ IsB w c m k (L.getD j []) := by
  cases ha : a with
  | none => have := h.nil ha; omega
  | some x =>
    obtain ⟨h1, h2⟩ := h.cells x ha
    obtain ⟨b, off, spot⟩ := x
    simp at h1 h2
    subst h1
    exact ⟨b, off, rfl, h2⟩

/-- how far the next byte is shifted behind n bytes -/
def sh (n : Nat) : Int := 8 * (((n + 1) % 2 : Nat) : Int)
theorem sh_even {n : Nat} (h : n % 2 = 0) : sh n = 8 := by unfold sh; omega
theorem sh_odd {n : Nat} (h : n % 2 = 1) : sh n = 0 := by unfold sh; omega

theorem take_flat (L : List (List UInt8)) (i : Nat) (h : i < L.length) : (L.take (i + 1)).flatten = (L.take i).flatten ++ L.getD i [] := by
  rw [take_snoc L [] i h]; simp

theorem u64_of_nat (n : Nat) (h : n < 18446744073709551616) : Value.int .u64 (IntKind.u64.wrap (n : Int)) = .int .u64 (n : Int) := by
  rw [u64_wrap_nat, Nat.mod_eq_of_lt h]

theorem wrap_lo (s : Nat) (x : UInt8) : IntKind.u64.wrap ((s : Int) + IntKind.u64.wrap (IntKind.u64.wrap (x.toNat : Int))) = IntKind.u64.wrap ((s + x.toNat : Nat) : Int) := by
  have hx := x.toNat_lt
  rw [u64_wrap_nat x.toNat, Nat.mod_eq_of_lt (by omega), u64_wrap_nat x.toNat, Nat.mod_eq_of_lt (by omega), Int.natCast_add]

theorem wrap_hi (s : Nat) (x : UInt8) : IntKind.u64.wrap ((s : Int) + IntKind.u64.wrap (IntKind.u64.wrap (x.toNat : Int) * 256)) = IntKind.u64.wrap ((s + x.toNat * 256 : Nat) : Int) := by
  have hx := x.toNat_lt
  rw [u64_wrap_nat x.toNat, Nat.mod_eq_of_lt (by omega), show (x.toNat : Int) * 256 = ((x.toNat * 256 : Nat) : Int) from by omega, u64_wrap_nat, Nat.mod_eq_of_lt (by omega), ← Int.natCast_add]

set_option maxHeartbeats 1000000 in
theorem total_any (a : Option Addr) (len cap : Nat) (L : List (List UInt8)) (w : World) (hb : IsBB w a len cap L) (hlen : L.flatten.length ≤ 281474976710656) :
    Calls Try.prog 29 #[.slice a len cap] w (Ret (.int .u64 ((bsum 0 L.flatten : Nat) : Int)) w) := by
  have hle := hb.le
  have hmax := hb.max
  have hl := hid hb.length
  go_enter Try.func29, Try.ntmps29
  go_wp2
  go_loop [3, 4, 11] (fun s t v => ∃ i : Nat, i ≤ len ∧ v = .int .i64 (i : Int) ∧ t = .int .i64 (sh (L.take i).flatten.length) ∧ s = .int .u64 ((bsum 0 (L.take i).flatten : Nat) : Int)) (fun _ _ v => len - (intOf v).toNat)
  case atStart => exact ⟨0, Nat.zero_le _, rfl, by simp [sh], by simp [bsum]⟩
  case round =>
    obtain ⟨i, hi, rfl, rfl, rfl⟩ := hrel
    by_cases hlt : i < len
    · obtain ⟨b, off, rfl, hc⟩ := hb.some (by omega)
      obtain ⟨pa, pl, pc, hc, hp⟩ := hc i hlt
      have hT : Hid ((L.take (i + 1)).flatten = (L.take i).flatten ++ L.getD i []) := hid (take_flat L i (by rw [hl.out]; exact hlt))
      have hT2 : Hid ((L.take i).flatten.length + pl ≤ 281474976710656) := hid (by
        have h1 : (L.take (i + 1)).flatten.length ≤ L.flatten.length := by
          have h2 := congrArg List.flatten (List.take_append_drop (i + 1) L)
          rw [List.flatten_append] at h2
          have h3 := congrArg List.length h2
          rw [List.length_append] at h3
          omega
        rw [hT.out, List.length_append, hp.length] at h1
        omega)
      generalize (L.take i).flatten = D at *
      generalize L.getD i [] = P at *
      have hpl := hid hp.length
      have hple := hp.le
      have hpmax := hp.max
      go_wp2
      go_loop [3, 4, 17] (fun s t v => ∃ k : Nat, k ≤ pl ∧ v = .int .i64 (k : Int) ∧ t = .int .i64 (sh (D.length + k)) ∧ s = .int .u64 ((bsum 0 (D ++ P.take k) : Nat) : Int)) (fun _ _ v => pl - (intOf v).toNat)
      case atStart => exact ⟨0, Nat.zero_le _, rfl, rfl, by simp⟩
      case round =>
        obtain ⟨k, hk, rfl, rfl, rfl⟩ := hrel
        by_cases hltk : k < pl
        · obtain ⟨pb, po, rfl, _, hpc⟩ := hp.some (by omega)
          have c1 := hpc k hltk
          clear hpc
          have hS : Hid (bsum 0 (D ++ P.take (k + 1)) = bsum 0 (D ++ P.take k) + (P.getD k 0).toNat * 256 ^ ((D.length + k + 1) % 2)) := hid (by
            rw [bsum_append, bsum_append, bsum_take _ _ _ (by rw [hpl.out]; exact hltk), Nat.zero_add, Nat.add_assoc, Nat.add_assoc])
          have hS2 : Hid (bsum 0 (D ++ P.take (k + 1)) < 18446744073709551616) := hid (by
            have h1 := bsum_le (D ++ P.take (k + 1)) 0
            have h2 := hT2.out
            have h3 := hpl.out
            rw [List.length_append, List.length_take] at h1
            omega)
          generalize bsum 0 (D ++ P.take k) = s at *
          generalize P.getD k 0 = x at *
          rcases (by omega : (D.length + k) % 2 = 0 ∨ (D.length + k) % 2 = 1) with hpar | hpar
          · rw [sh_even hpar]
            have hsh : Hid (sh (D.length + (k + 1)) = 0) := hid (sh_odd (by omega))
            have hS3 : Hid (bsum 0 (D ++ P.take (k + 1)) = s + x.toNat * 256) := hid (by rw [hS.out, show (D.length + k + 1) % 2 = 1 from by omega])
            clear hpar
            go_wp2
            go_round
            case rel => exact ⟨k + 1, by omega, by go_num, by rw [hsh.out], by rw [wrap_hi, ← hS3.out]; exact u64_of_nat _ hS2.out⟩
            case measure => simp [intOf]; omega
          · rw [sh_odd hpar]
            have hsh : Hid (sh (D.length + (k + 1)) = 8) := hid (sh_even (by omega))
            have hS3 : Hid (bsum 0 (D ++ P.take (k + 1)) = s + x.toNat) := hid (by rw [hS.out, show (D.length + k + 1) % 2 = 0 from by omega]; omega)
            clear hpar
            go_wp2
            go_round
            case rel => exact ⟨k + 1, by omega, by go_num, by rw [hsh.out], by rw [wrap_lo, ← hS3.out]; exact u64_of_nat _ hS2.out⟩
            case measure => simp [intOf]; omega
        · obtain rfl : k = pl := by omega
          have hE : Hid (D ++ P.take k = (L.take (i + 1)).flatten) := hid (by rw [List.take_of_length_le (by rw [hpl.out]; omega), hT.out])
          have hE2 : Hid (D.length + k = (L.take (i + 1)).flatten.length) := hid (by rw [hT.out, List.length_append, hpl.out])
          go_wp2
          go_round
          case rel => exact ⟨i + 1, by omega, by go_num, by rw [hE2.out], by rw [hE.out]⟩
          case measure => simp [intOf]; omega
    · obtain rfl : i = len := by omega
      go_wp2
      go_ret
      refine ⟨ret_int ?_, rfl⟩
      rw [List.take_of_length_le (by rw [hl.out]; omega)]
end Go.Proofs.Ytgacmiobfopoeaa
