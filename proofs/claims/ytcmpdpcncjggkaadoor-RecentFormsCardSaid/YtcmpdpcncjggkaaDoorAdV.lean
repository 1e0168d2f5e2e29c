/-
  Link addresses: valid ones, for the program and the reference.
-/
import Derived.Test.YtcmpdpcncjggkaaDoorLib
namespace Go.Proofs.YtcmpdpcncjggkaaDoor
open Go.RowKit
set_option linter.unusedSimpArgs false
set_option linter.unusedVariables false

/-- a link address by value -/
def av (m s e : Int) : Value := .agg #[.int .i64 m, .int .u16 s, .int .u64 e]
def validA (m s e : Int) : Bool := decide (m = 0 ∧ s = 0 ∧ e = 0 ∨ m = 2 ∧ e = 0 ∨ m = 3 ∧ s = 0)
def bcA (m s e : Int) : Bool := decide (m = 2 ∧ s = 65535 ∧ e = 0)

set_option maxHeartbeats 1600000 in
set_option maxRecDepth 100000 in
theorem valid_any (m s e : Int) (w : World) :
    Calls Tryd.prog 38 #[av m s e] w (RetS (.bool (validA m s e)) w) := by
  rw [av]
  go_enter Tryd.func38, Tryd.ntmps38
  go_wp2
  all_goals go_ret
  all_goals refine ⟨ret_bool ?_, (Below.refl _ _).alloc (Nat.le_refl _) _⟩
  all_goals (rw [Bool.eq_iff_iff]; simp [validA]; simp only [beq_iff_eq, beq_eq_false_iff_ne, ne_eq] at *; omega)

set_option maxHeartbeats 1600000 in
set_option maxRecDepth 100000 in
theorem rvalid_any (m s e : Int) (w : World) :
    Calls Tryd.prog 41 #[av m s e] w (RetS (.bool (validA m s e)) w) := by
  rw [av]
  go_enter Tryd.func41, Tryd.ntmps41
  go_wp2
  all_goals go_ret
  all_goals refine ⟨ret_bool ?_, (Below.refl _ _).alloc (Nat.le_refl _) _⟩
  all_goals (rw [Bool.eq_iff_iff]; simp [validA]; simp only [beq_iff_eq, beq_eq_false_iff_ne, ne_eq] at *; omega)

set_option maxHeartbeats 1600000 in
set_option maxRecDepth 100000 in
theorem rsome_any (m s e : Int) (w : World) :
    Calls Tryd.prog 31 #[av m s e] w (RetS (.bool (validA m s e && !decide (m = 0))) w) := by
  have hv := rvalid_any m s e
  generalize hval : validA m s e = b at hv
  clear hval
  simp only [av] at hv ⊢
  go_enter Tryd.func31, Tryd.ntmps31
  go_wp2_with fail
  have hB := (Below.refl w.heap.size w).alloc (Nat.le_refl _) (.cells #[.int .i64 m, .int .u16 s, .int .u64 e] 28)
  with_reducible refine (hv _).mono ?_
  rintro e' w2 ⟨rfl, hb2⟩
  have c0 : w2.cell? ⟨w.heap.size, 0, none⟩ = some (.int .i64 m) := (hb2.cell (p := ⟨w.heap.size, 0, none⟩) (by simp)).trans (by simp)
  have hB2 := hB.trans (hb2.mono hB.size)
  clear hb2 hB hv
  cases b
  all_goals go_wp2
  all_goals go_ret
  all_goals refine ⟨ret_bool ?_, hB2⟩
  all_goals simp
  all_goals rw [Bool.eq_iff_iff]; simp; done

end Go.Proofs.YtcmpdpcncjggkaaDoor
