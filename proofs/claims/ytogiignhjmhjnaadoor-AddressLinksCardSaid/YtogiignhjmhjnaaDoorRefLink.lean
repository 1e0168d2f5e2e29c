/-
  Link addresses as the reference reads them: Valid, Some, IsBroadcast, IID.
-/
import Derived.Test.YtogiignhjmhjnaaDoorLink
namespace Go.Proofs.YtogiignhjmhjnaaDoor
open Go.RowKit

def bcA (m s e : Int) : Bool := decide (m = 2 ∧ s = 65535 ∧ e = 0)

set_option maxHeartbeats 1600000 in
set_option maxRecDepth 100000 in
theorem rvalid_any (m s e : Int) (w : World) :
    Calls Tryd.prog 38 #[av m s e] w (RetS (.bool (validA m s e)) w) := by
  rw [av]
  go_enter Tryd.func38, Tryd.ntmps38
  go_wp2
  all_goals go_ret
  all_goals refine ⟨ret_bool ?_, (Below.refl _ _).alloc (Nat.le_refl _) _⟩
  all_goals (rw [Bool.eq_iff_iff]; simp [validA]; simp only [beq_iff_eq, beq_eq_false_iff_ne, ne_eq] at *; omega)

set_option maxHeartbeats 1600000 in
set_option maxRecDepth 100000 in
theorem rsome_any (m s e : Int) (w : World) :
    Calls Tryd.prog 71 #[av m s e] w (RetS (.bool (validA m s e && !decide (m = 0))) w) := by
  have hv := rvalid_any m s e
  generalize hval : validA m s e = b at hv
  clear hval
  simp only [av] at hv ⊢
  go_enter Tryd.func71, Tryd.ntmps71
  go_wp2_with fail
  have hB := (Below.refl w.heap.size w).alloc (Nat.le_refl _) (.cells #[.int .i64 m, .int .u16 s, .int .u64 e] 53)
  with_reducible refine (hv _).mono ?_
  rintro e' w2 ⟨rfl, hb2⟩
  have c0 : w2.cell? ⟨w.heap.size, 0, none⟩ = some (.int .i64 m) := (hb2.cell (p := ⟨w.heap.size, 0, none⟩) (by simp)).trans (by simp)
  have hB2 := hB.trans (hb2.mono hB.size)
  clear hb2 hB hv
  cases b
  all_goals go_wp2
  all_goals go_ret
  all_goals refine ⟨ret_bool ?_, hB2⟩
  all_goals simp
  all_goals rw [Bool.eq_iff_iff]; simp; done

set_option maxHeartbeats 1600000 in
set_option maxRecDepth 100000 in
theorem bcast_any (m s e : Int) (w : World) :
    Calls Tryd.prog 39 #[av m s e] w (RetS (.bool (bcA m s e)) w) := by
  rw [av]
  go_enter Tryd.func39, Tryd.ntmps39
  go_wp2
  all_goals go_ret
  all_goals refine ⟨ret_bool ?_, (Below.refl _ _).alloc (Nat.le_refl _) _⟩
  all_goals (rw [Bool.eq_iff_iff]; simp [bcA]; (try simp only [beq_iff_eq, beq_eq_false_iff_ne, ne_eq] at *); omega)

set_option maxHeartbeats 1600000 in
set_option maxRecDepth 100000 in
theorem rbcast_any (m s e : Int) (w : World) :
    Calls Tryd.prog 40 #[av m s e] w (RetS (.bool (bcA m s e)) w) := by
  have hv := rvalid_any m s e
  generalize hval : validA m s e = b at hv
  have HV := hid hval
  clear hval
  simp only [av] at hv ⊢
  go_enter Tryd.func40, Tryd.ntmps40
  go_wp2_with fail
  have hB := (Below.refl w.heap.size w).alloc (Nat.le_refl _) (.cells #[.int .i64 m, .int .u16 s, .int .u64 e] 53)
  with_reducible refine (hv _).mono ?_
  rintro e' w2 ⟨rfl, hb2⟩
  have c0 : w2.cell? ⟨w.heap.size, 0, none⟩ = some (.int .i64 m) := (hb2.cell (p := ⟨w.heap.size, 0, none⟩) (by simp)).trans (by simp)
  have c1 : w2.cell? ⟨w.heap.size, 1, none⟩ = some (.int .u16 s) := (hb2.cell (p := ⟨w.heap.size, 1, none⟩) (by simp)).trans (by simp)
  have hB2 := hB.trans (hb2.mono hB.size)
  clear hb2 hB hv
  cases b
  all_goals by_cases hm : m = 2
  all_goals go_wp2
  all_goals go_ret
  all_goals refine ⟨ret_bool ?_, hB2⟩
  all_goals have hval := HV.out
  all_goals clear HV c0 c1 hB2
  all_goals (unfold validA at hval; unfold bcA; rw [Bool.eq_iff_iff]; simp at hval ⊢; omega)

set_option maxHeartbeats 1600000 in
set_option maxRecDepth 100000 in
theorem riid_any (m s e : Int) (w : World) (hs : 0 ≤ s) (hs2 : s < 65536) :
    Calls Tryd.prog 34 #[av m s e] w (RetS (.tuple #[.int .u64 (iidA m s e).1, .bool (iidA m s e).2]) w) := by
  have hv := rsome_any m s e
  generalize hval : validA m s e = b at hv
  have hdef : iidA m s e = if b = false ∨ m = 0 then (0, false) else if m = 2 then (1099478073344 + s, true) else (bits .xor .u64 e 144115188075855872, true) := by rw [← hval]; rfl
  have hm3 : b = true → m = 0 ∨ m = 2 ∨ m = 3 := by
    intro hb; rw [hb] at hval; unfold validA at hval; simp at hval; omega
  have HD := hid hdef
  clear hdef hval
  simp only [av] at hv ⊢
  go_enter Tryd.func34, Tryd.ntmps34
  go_wp2_with fail
  have hB := (Below.refl w.heap.size w).alloc (Nat.le_refl _) (.cells #[.int .i64 m, .int .u16 s, .int .u64 e] 53)
  with_reducible refine (hv _).mono ?_
  rintro e' w2 ⟨rfl, hb2⟩
  have c0 : w2.cell? ⟨w.heap.size, 0, none⟩ = some (.int .i64 m) := (hb2.cell (p := ⟨w.heap.size, 0, none⟩) (by simp)).trans (by simp)
  have c1 : w2.cell? ⟨w.heap.size, 1, none⟩ = some (.int .u16 s) := (hb2.cell (p := ⟨w.heap.size, 1, none⟩) (by simp)).trans (by simp)
  have c2 : w2.cell? ⟨w.heap.size, 2, none⟩ = some (.int .u64 e) := (hb2.cell (p := ⟨w.heap.size, 2, none⟩) (by simp)).trans (by simp)
  have hB2 := hB.trans (hb2.mono hB.size)
  clear hb2 hB hv
  obtain ⟨q, hq⟩ : ∃ q, q = (b && !decide (m = 0)) := ⟨_, rfl⟩
  rw [← hq]
  by_cases h0 : b = false ∨ m = 0
  · have hi : iidA m s e = (0, false) := by rw [HD.out, if_pos h0]
    have hq0 : q = false := by rw [hq]; rcases h0 with rfl | rfl <;> simp
    have HI := hid hi
    clear hi hq
    clear HD hm3
    subst hq0
    go_wp2
    go_ret2
    exact ⟨by rw [HI.out]; rfl, hB2⟩
  · have hb : b = true := by cases b <;> simp at h0 ⊢
    have hm0 : m ≠ 0 := fun h => h0 (Or.inr h)
    have hq0 : q = true := by rw [hq, hb]; simp [hm0]
    have hm4 := hm3 hb
    subst hb
    clear hq hm3
    subst hq0
    by_cases h2 : m = 2
    · have hi : iidA m s e = (1099478073344 + s, true) := by rw [HD.out, if_neg h0, if_pos h2]
      have HI := hid hi
      clear HD hi h0 hm4
      subst h2
      go_wp2
      go_ret2
      exact ⟨by rw [HI.out]; rfl, hB2⟩
    · have hi : iidA m s e = (bits .xor .u64 e 144115188075855872, true) := by rw [HD.out, if_neg h0, if_neg h2]
      have HI := hid hi
      have hm5 : m = 3 := by omega
      clear HD hi h0 hm4 hm0 h2
      subst hm5
      go_wp2
      go_ret2
      exact ⟨by rw [HI.out]; rfl, hB2⟩
end Go.Proofs.YtogiignhjmhjnaaDoor
