import Derived.Test.YtakandlbphjflaaRefAppend
namespace Go.Proofs.Ytakandlbphjflaa
open Go.RowKit

set_option maxHeartbeats 1000000 in
theorem refappend_no (a : Option Addr) (len cap : Nat) (l : List UInt8) (n v k : Int) (w : World) (hb : IsB w a len cap l) (hn : I64 n) (ho : validB l n = false ∨ k < 0 ∨ 64 < k) :
    Calls Try.prog 13 #[.agg #[.slice a len cap, .int .i64 n], .int .u64 v, .int .i64 k] w (RetS (.tuple #[.agg #[.slice none 0 0, .int .i64 0], .bool false]) w) := by
  have hcase : validR l n = false ∨ (validR l n = true ∧ k < 0) ∨ (validR l n = true ∧ 0 ≤ k ∧ 64 < k) := by
    rw [validR_eq]
    cases hv : validB l n
    · exact .inl rfl
    · rcases ho with h | h | h
      · rw [hv] at h; cases h
      · exact .inr (.inl ⟨rfl, h⟩)
      · exact .inr (.inr ⟨rfl, by omega, h⟩)
  clear ho
  have hbb := hb.below (two_below w (.cells #[.slice a len cap, .int .i64 n] 24) (.cells #[.slice none 0 0, .int .i64 0] 24))
  have HC := hid hcase
  clear hcase
  go_enter Try.func13, Try.ntmps13
  go_wp2_with fail
  refine (refvalid_any a len cap l n _ hbb hn).mono ?_
  rintro e w1 ⟨rfl, hB1⟩
  have hY := (Box.new (w.alloc (.cells #[.slice a len cap, .int .i64 n] 24)) none 0 0 0).below hB1 (by simp)
  have hB := (two_below w (.cells #[.slice a len cap, .int .i64 n] 24) (.cells #[.slice none 0 0, .int .i64 0] 24)).trans (hB1.mono (B' := w.heap.size) (by simp; omega))
  simp only [World.size_alloc] at hY
  have r0 := hY.c0
  have r1 := hY.c1
  have rf := hY.frozen
  have e0 := (hY.store0 none 0 0).c0
  have e1 := (hY.store none 0 0 0).c1
  clear hbb hB1 hY
  rcases HC.out with h | ⟨h, h1⟩ | ⟨h, h1, h2⟩
  all_goals rw [h]
  all_goals clear h HC
  all_goals go_wp2
  all_goals exact bodyPost_ret (v := .tuple #[.agg #[.slice none 0 0, .int .i64 0], .bool false]) (by simp [results, Try.results13, go_sem, e0, e1]) rfl ⟨rfl, (hB.setCell (by simp) _).setCell (by simp) _⟩
end Go.Proofs.Ytakandlbphjflaa
