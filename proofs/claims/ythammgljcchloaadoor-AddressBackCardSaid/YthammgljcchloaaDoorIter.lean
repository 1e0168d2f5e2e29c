/-
  groups: the iterator over the groups of a slice of bytes.
-/
import Derived.RangeFuncNested
import Derived.RangeFuncBound
import Derived.RangeFuncCalls
import Derived.RangeFuncLeaves
import Derived.RangeFuncWrites
import Derived.Shelf.Abstract
import Derived.Shelf.RegionOpen
import Derived.WalkKit
import Derived.OwnWalkIn
import Derived.TacticsInMore
import Derived.LoopNIn
import Derived.LoopIn
import Derived.Test.YthammgljcchloaaDoorUint
import Derived.Test.YthammgljcchloaaDoorGl
namespace Go.Proofs.YthammgljcchloaaDoor
open Go.RowKit Go.Shelf
set_option linter.unusedSimpArgs false
set_option linter.unusedVariables false
attribute [local go_sem] Oper.semAt_some

/-- an index and a group -/
abbrev GV := { x : Nat × Nat // x.2 < 65536 ∧ x.1 ≤ 8 }
def gval (zs : List UInt8) (j : Nat) : Nat := uintOf ((zs.drop (2 * j)).take 2)
theorem gval_lt (zs : List UInt8) (j : Nat) : gval zs j < 65536 := by
  have h := uintOf_lt ((zs.drop (2 * j)).take 2)
  have hl : ((zs.drop (2 * j)).take 2).length ≤ 2 := by simp; omega
  have h2 : (256 : Nat) ^ ((zs.drop (2 * j)).take 2).length ≤ 256 ^ 2 := Nat.pow_le_pow_right (by decide) hl
  unfold gval; omega
def grp (zs : List UInt8) (j : Nat) : GV := ⟨(min j 8, gval zs j), gval_lt zs j, by simp; omega⟩
def upto {α : Type} (f : Nat → α) (k : Nat) : List α := (List.range k).map f
theorem upto_succ {α : Type} (f : Nat → α) (k : Nat) : upto f (k + 1) = upto f k ++ [f k] := by simp [upto, List.range_succ]
theorem upto_length {α : Type} (f : Nat → α) (k : Nat) : (upto f k).length = k := by simp [upto]
def gencs (x : GV) : Array Value := #[.int .i64 (x.1.1 : Int), .int .u64 (x.1.2 : Int)]
/-- what a round keeps: what lay below n, and the box Bs -/
def Kg (n Bs : Nat) (W W' : World) : Prop := Below n W W' ∧ W'.heap[Bs]? = W.heap[Bs]?
theorem Kg.refl (n Bs : Nat) (W : World) : Kg n Bs W W := ⟨Below.refl _ _, rfl⟩
theorem Kg.trans {n Bs : Nat} {A B C : World} (h : Kg n Bs A B) (k : Kg n Bs B C) : Kg n Bs A C := ⟨h.1.trans k.1, k.2.trans h.2⟩

set_option maxRecDepth 100000 in
set_option maxHeartbeats 2000000 in
theorem groups1_in (n : Nat) (hn : 3 ≤ n) (l Bs m : Nat) (a : Option Addr) (len cap : Nat) (zs : List UInt8) (hlen : len ≤ 16) (J Jx : List GV → World → Prop)
    (hY : ∀ pre x W, J pre W → pre.length < len / 2 → YieldAt Fence.wide (n - 1) Tryd.prog l (gencs x) W fun e W' =>
      (e = .returned (.bool true) ∧ J (pre ++ [x]) W' ∧ Kg m Bs W W') ∨ (e = .returned (.bool false) ∧ Jx (pre ++ [x]) W'))
    (W : World) (hBs : W.cell? ⟨Bs, 0, none⟩ = some (.slice a len cap)) (hI : ∀ W', Below m W W' → IsB W' a len cap zs) (h0 : J [] W) :
    CallsIn Fence.wide n Tryd.prog 76 #[.func (.yield l) #[] #[], .pointer (some ⟨Bs, 0, none⟩)] W fun e W' => (∃ v, e = .returned v) ∧
      ((∃ ys, ys = upto (grp zs) (len / 2) ∧ J ys W') ∨ (∃ pre, (∃ k, k ≤ len / 2 ∧ pre = upto (grp zs) k) ∧ Jx pre W')) := by
  refine callsIn_of_wp Tryd.func76 rfl trivial ?_ rfl
  simp only [Tryd.ntmps76, List.size_toArray, List.length_cons, List.length_nil, Nat.reduceAdd, Nat.reduceSub, Array.replicate_succ, Array.replicate_zero, List.push_toArray, List.append_toArray, List.nil_append, List.cons_append]
  gi_wp2
  gi_loopw [9] (fun i wr => ∃ k : Nat, k ≤ len / 2 ∧ i = .int .i64 k ∧ J (upto (grp zs) k) wr ∧ Kg m Bs W wr)
    (fun i _ => len / 2 - (intOf i).toNat)
  case atStart => exact ⟨0, Nat.zero_le _, rfl, h0, Kg.refl _ _ _⟩
  case round =>
    obtain ⟨k, hk, rfl, hJs, hnx⟩ := hrel
    have hBx : wr.cell? ⟨Bs, 0, none⟩ = some (.slice a len cap) := (World.cell?_of_block (w := W) hnx.2).trans hBs
    by_cases hlt : k < len / 2
    · obtain ⟨fn, tmps, assign, body, hy, hR⟩ := hY _ (grp zs k) wr hJs (by rw [upto_length]; exact hlt)
      have hmin : min k 8 = k := by omega
      simp only [gencs, grp, hmin] at hy
      have hu := uint_yes a len cap zs (2 * (k : Int)) 2 wr (hI wr hnx.1) (by omega) (by omega) (by omega) (by omega)
      have hv : (uintOf ((zs.drop (2 * (k : Int)).toNat).take (2 : Int).toNat) : Int) = (gval zs k : Int) := by
        unfold gval
        rw [show (2 * (k : Int)).toNat = 2 * k from by omega]; rfl
      rw [hv] at hu
      gi_wp2_with (refine ⟨trivial, fun _ => by omega, ?_⟩; refine (callsIn_wide.2 hu).mono ?_; rintro e w' ⟨rfl, rfl⟩)
      refine ⟨fun _ => by omega, hR.mono ?_⟩
      rintro e W3 (⟨rfl, hJ3, hk3⟩ | ⟨rfl, hJx3⟩)
      · gi_wp2
        go_roundw
        case rel => exact ⟨k + 1, by omega, by simp, by rw [upto_succ]; exact hJ3, hnx.trans hk3⟩
        case measure => simp [intOf]; omega
      · gi_wp2
        refine bodyPost_ret (results_none rfl _ _ _) rfl ?_
        exact ⟨⟨_, rfl⟩, .inr ⟨_, ⟨k + 1, by omega, (upto_succ _ _).symm⟩, hJx3⟩⟩
    · obtain rfl : k = len / 2 := by omega
      gi_wp2
      go_end0
      exact ⟨⟨_, rfl⟩, .inl ⟨_, rfl, hJs⟩⟩

set_option maxHeartbeats 1000000 in
theorem groups_in (n : Nat) (a : Option Addr) (len cap : Nat) (w : World) :
    CallsIn Fence.wide n Tryd.prog 65 #[.slice a len cap] w fun e w' => e = .returned (.func (.func 76) #[] #[.pointer (some ⟨w.heap.size, 0, none⟩)]) ∧ w' = w.alloc (.cells #[.slice a len cap] 26) := by
  refine callsIn_of_wp Tryd.func65 rfl trivial ?_ rfl
  simp only [Tryd.ntmps65, List.size_toArray, List.length_cons, List.length_nil, Nat.reduceAdd, Nat.reduceSub, Array.replicate_succ, Array.replicate_zero, List.push_toArray, List.append_toArray, List.nil_append, List.cons_append]
  gi_wp2
  go_ret
  exact ⟨rfl, rfl⟩

theorem groups_stops (n : Nat) (hn : 3 ≤ n) (Bs m : Nat) (a : Option Addr) (len cap : Nat) (zs : List UInt8) (hlen : len ≤ 16) (w : World) (hBs : Bs < w.heap.size) (hm : m ≤ w.heap.size)
    (hc : w.cell? ⟨Bs, 0, none⟩ = some (.slice a len cap)) (hI : ∀ W', Below m w W' → IsB W' a len cap zs) :
    SeqStopsK Fence.wide n Tryd.prog 76 #[.pointer (some ⟨Bs, 0, none⟩)] gencs (Kg m Bs) (fun ys => ys = upto (grp zs) (len / 2)) (fun pre => ∃ k, k ≤ len / 2 ∧ pre = upto (grp zs) k) (len / 2) w :=
  fun l J Jx W hW _ _ hY h0 =>
    groups1_in n hn l Bs m a len cap zs hlen J Jx hY W ((hW.cell (p := ⟨Bs, 0, none⟩) hBs).trans hc) (fun W' hb => hI W' ((hW.mono hm).trans hb)) h0
end Go.Proofs.YthammgljcchloaaDoor
