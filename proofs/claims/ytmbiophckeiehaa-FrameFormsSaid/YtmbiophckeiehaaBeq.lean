/-
  bytes.Equal.
-/
import Derived.Test.YtmbiophckeiehaaFv
namespace Go.Proofs.Ytmbiophckeiehaa
open Go.RowKit
set_option linter.unusedSimpArgs false
set_option linter.unusedVariables false

theorem run_string_isB {w : World} {a : Option Addr} {len cap : Nat} {l : List UInt8} (h : IsB w a len cap l) :
    (convert 29 9 (.slice a len cap)).run Try.prog w = .ok (.string ⟨l.toArray⟩) w := by
  obtain rfl := h.length
  cases a with
  | none =>
    obtain ⟨h0, rfl⟩ := h.nil rfl
    obtain rfl : l = [] := List.eq_nil_of_length_eq_zero h0
    simp [convert, run_underlying Try.underlying29, run_underlying Try.underlying5, run_underlying Try.underlying9, Conv.bytesToString, Builtin.firstCells]
    rfl
  | some ad =>
    refine run_convert_bytes_back w 29 9 5 ad cap l Try.underlying29 Try.underlying5 Try.underlying9 fun j hj => ?_
    obtain ⟨b, off, e, _, hc⟩ := h.some (by omega)
    cases e
    have := hc j hj
    rw [List.getD_eq_getElem?_getD, List.getElem?_eq_getElem hj, Option.getD_some] at this
    by_cases h0 : j = 0
    · subst h0; simpa [Addr.add] using this
    · simpa [Addr.add, h0] using this

set_option maxHeartbeats 1000000 in
theorem bytes_equal (a : Option Addr) (n c : Nat) (l : List UInt8) (b : Option Addr) (k d : Nat) (m : List UInt8) (w : World) (h1 : IsB w a n c l) (h2 : IsB w b k d m) :
    Calls Try.prog 43 #[.slice a n c, .slice b k d] w (Ret (.bool (l == m)) w) := by
  have r1 := run_string_isB h1
  have r2 := run_string_isB h2
  go_enter Try.func43, Try.ntmps43
  go_wp2_with fail
  go_ret
  exact ⟨ret_bool rfl, rfl⟩
end Go.Proofs.Ytmbiophckeiehaa
