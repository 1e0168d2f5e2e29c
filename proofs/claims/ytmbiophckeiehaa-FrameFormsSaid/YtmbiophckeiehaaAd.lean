/-
  Link addresses: valid ones and the broadcast address, for the program and the reference.
-/
import Derived.Test.YtmbiophckeiehaaLib
namespace Go.Proofs.Ytmbiophckeiehaa
open Go.RowKit
set_option linter.unusedSimpArgs false
set_option linter.unusedVariables false

/-- a link address by value -/
def av (m s e : Int) : Value := .agg #[.int .i64 m, .int .u16 s, .int .u64 e]
def validA (m s e : Int) : Bool := decide (m = 0 ∧ s = 0 ∧ e = 0 ∨ m = 2 ∧ e = 0 ∨ m = 3 ∧ s = 0)
def bcA (m s e : Int) : Bool := decide (m = 2 ∧ s = 65535 ∧ e = 0)

set_option maxHeartbeats 1600000 in
set_option maxRecDepth 100000 in
theorem valid_any (m s e : Int) (w : World) :
    Calls Try.prog 75 #[av m s e] w (RetS (.bool (validA m s e)) w) := by
  rw [av]
  go_enter Try.func75, Try.ntmps75
  go_wp2
  all_goals go_ret
  all_goals refine ⟨ret_bool ?_, (Below.refl _ _).alloc (Nat.le_refl _) _⟩
  all_goals (rw [Bool.eq_iff_iff]; simp [validA]; simp only [beq_iff_eq, beq_eq_false_iff_ne, ne_eq] at *; omega)

set_option maxHeartbeats 1600000 in
set_option maxRecDepth 100000 in
theorem rvalid_any (m s e : Int) (w : World) :
    Calls Try.prog 65 #[av m s e] w (RetS (.bool (validA m s e)) w) := by
  rw [av]
  go_enter Try.func65, Try.ntmps65
  go_wp2
  all_goals go_ret
  all_goals refine ⟨ret_bool ?_, (Below.refl _ _).alloc (Nat.le_refl _) _⟩
  all_goals (rw [Bool.eq_iff_iff]; simp [validA]; simp only [beq_iff_eq, beq_eq_false_iff_ne, ne_eq] at *; omega)

set_option maxHeartbeats 1600000 in
set_option maxRecDepth 100000 in
theorem rsome_any (m s e : Int) (w : World) :
    Calls Try.prog 48 #[av m s e] w (RetS (.bool (validA m s e && !decide (m = 0))) w) := by
  have hv := rvalid_any m s e
  generalize hval : validA m s e = b at hv
  clear hval
  simp only [av] at hv ⊢
  go_enter Try.func48, Try.ntmps48
  go_wp2_with fail
  have hB := (Below.refl w.heap.size w).alloc (Nat.le_refl _) (.cells #[.int .i64 m, .int .u16 s, .int .u64 e] 27)
  with_reducible refine (hv _).mono ?_
  rintro e' w2 ⟨rfl, hb2⟩
  have c0 : w2.cell? ⟨w.heap.size, 0, none⟩ = some (.int .i64 m) := (hb2.cell (p := ⟨w.heap.size, 0, none⟩) (by simp)).trans (by simp)
  have hB2 := hB.trans (hb2.mono hB.size)
  clear hb2 hB hv
  cases b
  all_goals go_wp2
  all_goals go_ret
  all_goals refine ⟨ret_bool ?_, hB2⟩
  all_goals simp
  all_goals rw [Bool.eq_iff_iff]; simp; done

set_option maxHeartbeats 1600000 in
set_option maxRecDepth 100000 in
theorem bcast_any (m s e : Int) (w : World) :
    Calls Try.prog 62 #[av m s e] w (RetS (.bool (bcA m s e)) w) := by
  rw [av]
  go_enter Try.func62, Try.ntmps62
  go_wp2
  all_goals go_ret
  all_goals refine ⟨ret_bool ?_, (Below.refl _ _).alloc (Nat.le_refl _) _⟩
  all_goals (rw [Bool.eq_iff_iff]; simp [bcA]; (try simp only [beq_iff_eq, beq_eq_false_iff_ne, ne_eq] at *); omega)

set_option maxHeartbeats 1600000 in
set_option maxRecDepth 100000 in
theorem rbcast_any (m s e : Int) (w : World) :
    Calls Try.prog 50 #[av m s e] w (RetS (.bool (bcA m s e)) w) := by
  have hv := rvalid_any m s e
  generalize hval : validA m s e = b at hv
  have HV := hid hval
  clear hval
  simp only [av] at hv ⊢
  go_enter Try.func50, Try.ntmps50
  go_wp2_with fail
  have hB := (Below.refl w.heap.size w).alloc (Nat.le_refl _) (.cells #[.int .i64 m, .int .u16 s, .int .u64 e] 27)
  with_reducible refine (hv _).mono ?_
  rintro e' w2 ⟨rfl, hb2⟩
  have c0 : w2.cell? ⟨w.heap.size, 0, none⟩ = some (.int .i64 m) := (hb2.cell (p := ⟨w.heap.size, 0, none⟩) (by simp)).trans (by simp)
  have c1 : w2.cell? ⟨w.heap.size, 1, none⟩ = some (.int .u16 s) := (hb2.cell (p := ⟨w.heap.size, 1, none⟩) (by simp)).trans (by simp)
  have hB2 := hB.trans (hb2.mono hB.size)
  clear hb2 hB hv
  cases b
  all_goals by_cases hm : m = 2
  all_goals go_wp2
  all_goals go_ret
  all_goals refine ⟨ret_bool ?_, hB2⟩
  all_goals have hval := HV.out
  all_goals clear HV c0 c1 hB2
  all_goals (unfold validA at hval; unfold bcA; rw [Bool.eq_iff_iff]; simp at hval ⊢; omega)

end Go.Proofs.Ytmbiophckeiehaa
