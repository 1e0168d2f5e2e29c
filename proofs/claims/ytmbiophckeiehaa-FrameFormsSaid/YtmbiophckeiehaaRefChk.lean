/-
  The references of Append and Check; the sanity check.
-/
import Derived.Test.YtmbiophckeiehaaCheck
import Derived.Test.YtmbiophckeiehaaGrowMore
namespace Go.Proofs.Ytmbiophckeiehaa
open Go.RowKit
set_option linter.unusedSimpArgs false
set_option linter.unusedVariables false

theorem check_bytes (c : Nat) (hc : c < 65536) (x y : UInt8) : (c == x.toNat + 256 * y.toNat) = (((x.toNat : Int) == (c : Int) % 256) && ((y.toNat : Int) == (c : Int) / 256)) := by
  have hx := x.toNat_lt
  have hy := y.toNat_lt
  rw [Bool.eq_iff_iff, Bool.and_eq_true, beq_iff_eq, beq_iff_eq, beq_iff_eq]
  omega

set_option maxHeartbeats 1000000 in
theorem refCheck_any (a : Option Addr) (len cap : Nat) (l : List UInt8) (w : World) (hb : IsB w a len cap l) :
    Calls Try.prog 55 #[.slice a len cap] w (RetS (.bool (checkB l)) w) := by
  have hle := hb.le
  have hmax := hb.max
  have hl := hid hb.length
  by_cases h2 : 2 ≤ len
  · obtain ⟨n, rfl⟩ : ∃ n, len = n + 2 := ⟨len - 2, by omega⟩
    obtain ⟨b, off, rfl, _, hc⟩ := hb.some (by omega)
    have c1 := hc n (by omega)
    have c2 := hc (n + 1) (by omega)
    have ht := hb.take n (by omega)
    have hc16 := crcL_lt (show 0 < 65536 by decide) (l.take n)
    have HC : Hid (checkB l = (((l.getD n 0).toNat : Int) == ((crcL 0 (l.take n) : Nat) : Int) % 256 && (((l.getD (n + 1) 0).toNat : Int) == ((crcL 0 (l.take n) : Nat) : Int) / 256))) := hid (by
      rw [← check_bytes _ hc16]
      simp only [checkB, hl.out, Nat.add_sub_cancel, show n + 2 - 1 = n + 1 from rfl]
      simp)
    generalize l.getD n 0 = x at *
    generalize l.getD (n + 1) 0 = y at *
    clear hc
    go_enter Try.func55, Try.ntmps55
    go_wp2_with fail
    refine (refCrc_any _ _ _ (l.take n) _ ht).mono ?_
    rintro e w' ⟨rfl, rfl⟩
    generalize crcL 0 (l.take n) = cc at *
    by_cases hg : ((x.toNat : Int) == (cc : Int) % 256) = true
    · rw [hg, Bool.true_and] at HC
      go_wp2
      go_ret
      exact ⟨ret_bool (by rw [HC.out]), Below.refl _ _⟩
    · have hg2 : ((x.toNat : Int) == (cc : Int) % 256) = false := by simpa using hg
      rw [hg2, Bool.false_and] at HC
      clear hg
      go_wp2
      go_ret
      exact ⟨ret_bool (by rw [HC.out]), Below.refl _ _⟩
  · rcases (by omega : len = 0 ∨ len = 1) with rfl | rfl
    all_goals
      go_enter Try.func55, Try.ntmps55
      go_wp2
      go_ret
      exact ⟨ret_bool (by simp [checkB, hl.out]), Below.refl _ _⟩

set_option maxHeartbeats 1000000 in
theorem refAppendCrc_any (a : Option Addr) (len cap : Nat) (l : List UInt8) (w : World) (hb : IsB w a len cap l) (hroom : len + 2 ≤ 140737488355328) :
    Calls Try.prog 14 #[.slice a len cap] w (fun e w' => ∃ v, e = .returned v ∧ Gr w' w.heap.size v (appL l) ∧ Below w.heap.size w w') := by
  have hle := hb.le
  have hl := hid hb.length
  go_enter Try.func14, Try.ntmps14
  go_wp2_with fail
  refine (refCrc_any _ _ _ l _ hb).mono ?_
  rintro e w' ⟨rfl, rfl⟩
  have HJ : Hid (∀ u : World, IsB (u.alloc (.cells #[.int .u8 ((crcL 0 l : Nat) % 256 : Int), .int .u8 ((crcL 0 l : Nat) / 256 % 256 : Int)] 5)) (some ⟨u.heap.size, 0, none⟩) 2 2 [crcLo l, crcHi l]) := hid fun u => by
    have h := (Own.new u [crcLo l, crcHi l]).isB (by simp)
    have e : row [crcLo l, crcHi l] = #[.int .u8 ((crcL 0 l : Nat) % 256 : Int), .int .u8 ((crcL 0 l : Nat) / 256 % 256 : Int)] := by
      simp only [row, List.map_cons, List.map_nil, ← u8_lo, ← u8_hi, IntKind.wrap_u8]
    rw [e] at h
    exact h
  have HS : Hid (([] ++ l).length + 2 ≤ 140737488355328) := hid (by simp; have := hl.out; omega)
  go_wp2_with (first | (with_reducible refine wpList_append_bytes (o := ⟨some 8, _, _, _, _, _⟩) rfl (.tmp 6) (.tmp 7) rfl (.slice (some ⟨w.heap.size, 0, none⟩) 0 0) rfl a len cap rfl w.heap.size [] l (gr_new w _ (Nat.le_refl _)) (hb.below ((Below.refl _ _).alloc (Nat.le_refl _) _)) (by simp; omega) w ((Below.refl _ _).alloc (Nat.le_refl _) _) (by simp) ?_; intro v2 w2 hG2 hB2 _) | (with_reducible refine wpList_append_bytes (o := ⟨some 15, _, _, _, _, _⟩) rfl (.tmp 8) (.tmp 14) rfl v2 rfl (some ⟨w2.heap.size, 0, none⟩) 2 2 rfl w.heap.size ([] ++ l) [crcLo l, crcHi l] (hG2.out.below ((Below.refl _ _).alloc (Nat.le_refl _) _)) (HJ.out _) HS.out w (hB2.alloc hB2.size _) (by have := hB2.size; simp; omega) ?_; intro v3 w3 hG3 hB3 _))
  go_ret
  exact ⟨v3, rfl, hG3.out, hB3⟩
end Go.Proofs.Ytmbiophckeiehaa
