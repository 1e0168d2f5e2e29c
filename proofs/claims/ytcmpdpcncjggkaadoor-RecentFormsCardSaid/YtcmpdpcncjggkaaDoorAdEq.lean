/-
  == of link addresses and of received frames.
-/
import Derived.Test.YtcmpdpcncjggkaaDoorEnt
namespace Go.Proofs.YtcmpdpcncjggkaaDoor
open Go.RowKit
set_option linter.unusedSimpArgs false
set_option linter.unusedVariables false

theorem ad_part0 (m s e : Int) (r : List Value) (w : World) : (part 3 (avl m s e ++ r).toArray 0).run Tryd.prog w = .ok (.int .i64 m) w := by
  simp [part, isAgg, run_underlying Tryd.underlying3, avl]
theorem ad_part1 (m s e : Int) (r : List Value) (w : World) : (part 24 (avl m s e ++ r).toArray 1).run Tryd.prog w = .ok (.int .u16 s) w := by
  simp [part, isAgg, run_underlying Tryd.underlying24, avl]
theorem ad_part2 (m s e : Int) (r : List Value) (w : World) : (part 26 (avl m s e ++ r).toArray 2).run Tryd.prog w = .ok (.int .u64 e) w := by
  simp [part, isAgg, run_underlying Tryd.underlying26, avl]

def sameA (m s e a b c : Int) : Bool := decide (m = a ∧ s = b ∧ e = c)

set_option maxRecDepth 100000 in
theorem ad_equal (d : Nat) (m s e a b c : Int) (w : World) :
    (Op.equalIn (d + 2) 28 (av m s e) (av a b c)).run Tryd.prog w = .ok (sameA m s e a b c) w := by
  rw [av, av, run_equalIn_struct w (d + 1) 28 _ _ (by unfold Program.fieldsOf; simp only [Tryd.underlying28]) (by kernel_rfl)]
  unfold Program.fieldsOf
  simp only [Tryd.underlying28]
  have h0 := run_equalIn_int w d 3 .i64 _ m a Tryd.underlying3
  have h1 := run_equalIn_int w d 24 .u16 _ s b Tryd.underlying24
  have h2 := run_equalIn_int w d 26 .u64 _ e c Tryd.underlying26
  have p0 := fun m s e => ad_part0 m s e [] w
  have p1 := fun m s e => ad_part1 m s e [] w
  have p2 := fun m s e => ad_part2 m s e [] w
  simp only [avl, List.append_nil] at p0 p1 p2
  simp only [Op.eqFields]
  rw [if_pos (by decide)]
  rw [Sem.run_bind, p0, Result.andThen_ok, Sem.run_bind, p0, Result.andThen_ok, Sem.run_bind, h0, Result.andThen_ok]
  cases hq : (m == a)
  · rw [if_pos (by decide)]
    have : sameA m s e a b c = false := by simp [sameA]; intro h; simp [h] at hq
    rw [this]; rfl
  · rw [if_neg (by decide), if_pos (by decide)]
    rw [Sem.run_bind, p1, Result.andThen_ok, Sem.run_bind, p1, Result.andThen_ok, Sem.run_bind, h1, Result.andThen_ok]
    cases hr : (s == b)
    · rw [if_pos (by decide)]
      have : sameA m s e a b c = false := by simp [sameA]; intro _ h; simp [h] at hr
      rw [this]; rfl
    · rw [if_neg (by decide), if_pos (by decide)]
      rw [Sem.run_bind, p2, Result.andThen_ok, Sem.run_bind, p2, Result.andThen_ok, Sem.run_bind, h2, Result.andThen_ok]
      cases hs : (e == c)
      · rw [if_pos (by decide)]
        have : sameA m s e a b c = false := by simp [sameA]; intro _ _ h; simp [h] at hs
        rw [this]; rfl
      · rw [if_neg (by decide)]
        have : sameA m s e a b c = true := by simp [sameA]; simp at hq hr hs; exact ⟨hq, hr, hs⟩
        rw [this]; rfl
theorem ad_eql (m s e a b c : Int) (w : World) : (binOp .eql 28 (.agg #[.int .i64 m, .int .u16 s, .int .u64 e]) (.agg #[.int .i64 a, .int .u16 b, .int .u64 c])).run Tryd.prog w = .ok (.bool (sameA m s e a b c)) w := by
  have h := ad_equal 9998 m s e a b c w
  unfold av at h
  rw [run_eql_struct, h]; rfl
theorem ad_neq (m s e a b c : Int) (w : World) : (binOp .neq 28 (.agg #[.int .i64 m, .int .u16 s, .int .u64 e]) (.agg #[.int .i64 a, .int .u16 b, .int .u64 c])).run Tryd.prog w = .ok (.bool (!sameA m s e a b c)) w := by
  have h := ad_equal 9998 m s e a b c w
  unfold av at h
  rw [run_neq_struct, h]; rfl
end Go.Proofs.YtcmpdpcncjggkaaDoor
