import Derived.Test.YtakandlbphjflaaLib
namespace Go.Proofs.Ytakandlbphjflaa
open Go.RowKit

/-- block g holds a bit string -/
def Box (w : World) (g : Nat) (a : Option Addr) (len cap : Nat) (n : Int) : Prop :=
  w.heap[g]? = some (.cells #[.slice a len cap, .int .i64 n] 24 (0, 0))

theorem Box.new (w : World) (a : Option Addr) (len cap : Nat) (n : Int) : Box (w.alloc (.cells #[.slice a len cap, .int .i64 n] 24)) w.heap.size a len cap n := heap_alloc_new w _

theorem Box.below {w w' : World} {g B : Nat} {a : Option Addr} {len cap : Nat} {n : Int} (h : Box w g a len cap n) (hb : Below B w w') (hg : g < B) : Box w' g a len cap n := by
  unfold Box; rw [hb.block g hg]; exact h

theorem Box.c0 {w : World} {g : Nat} {a : Option Addr} {len cap : Nat} {n : Int} (h : Box w g a len cap n) : w.cell? ⟨g, 0, none⟩ = some (.slice a len cap) := by
  rw [cell_of_row w g 0 _ _ (0, 0) h]; rfl

theorem Box.c1 {w : World} {g : Nat} {a : Option Addr} {len cap : Nat} {n : Int} (h : Box w g a len cap n) : w.cell? ⟨g, 1, none⟩ = some (.int .i64 n) := by
  rw [cell_of_row w g 1 _ _ (0, 0) h]; rfl

theorem Box.lt {w : World} {g : Nat} {a : Option Addr} {len cap : Nat} {n : Int} (h : Box w g a len cap n) : g < w.heap.size := (Array.getElem?_eq_some_iff.1 h).1

theorem Box.frozen {w : World} {g : Nat} {a : Option Addr} {len cap : Nat} {n : Int} (h : Box w g a len cap n) (j : Nat) : w.frozen? ⟨g, j, none⟩ = false := frozen_of_row w g j _ _ h

theorem Box.alloc {w : World} {g : Nat} {a : Option Addr} {len cap : Nat} {n : Int} (h : Box w g a len cap n) (o : Obj) : Box (w.alloc o) g a len cap n := by
  unfold Box; rw [heap_alloc_old _ _ h.lt]; exact h

theorem Box.set_other {w : World} {g : Nat} {a : Option Addr} {len cap : Nat} {n : Int} (h : Box w g a len cap n) (p : Addr) (v : Value) (hp : g ≠ p.block) : Box (w.setCell p v) g a len cap n := by
  unfold Box; rw [heap_setCell_other _ _ _ _ hp]; exact h

theorem Box.drewN {w : World} {g : Nat} {a : Option Addr} {len cap : Nat} {n : Int} (h : Box w g a len cap n) (m : Nat) : Box (w.drewN m) g a len cap n := h

theorem Box.store0 {w : World} {g : Nat} {a : Option Addr} {len cap : Nat} {n : Int} (h : Box w g a len cap n) (a' : Option Addr) (len' cap' : Nat) :
    Box (w.setCell ⟨g, 0, none⟩ (.slice a' len' cap')) g a' len' cap' n := by
  unfold Box
  rw [heap_setCell_same w g 0 _ _ (.slice a' len' cap') h]
  rfl

/-- both fields of a bit string are stored -/
theorem Box.store {w : World} {g : Nat} {a : Option Addr} {len cap : Nat} {n : Int} (h : Box w g a len cap n) (a' : Option Addr) (len' cap' : Nat) (n' : Int) :
    Box ((w.setCell ⟨g, 0, none⟩ (.slice a' len' cap')).setCell ⟨g, 1, none⟩ (.int .i64 n')) g a' len' cap' n' := by
  unfold Box
  have h1 := heap_setCell_same w g 0 _ _ (.slice a' len' cap') h
  rw [heap_setCell_same _ g 1 _ _ (.int .i64 n') h1]
  rfl

/-- the i-th bit of the bytes l, the most significant one of each first -/
def bitN (l : List UInt8) (i : Nat) : Nat := (l.getD (i / 8) 0).toNat / 2 ^ (7 - i % 8) % 2

theorem bitN_lt (l : List UInt8) (i : Nat) : bitN l i < 2 := Nat.mod_lt _ (by decide)

/-- the number of the k bits of l from i on -/
def bitsNum (l : List UInt8) (i : Nat) : Nat → Nat
  | 0 => 0
  | k + 1 => bitsNum l i k * 2 + bitN l (i + k)

theorem bitsNum_lt (l : List UInt8) (i : Nat) : ∀ k, bitsNum l i k < 2 ^ k
  | 0 => by simp [bitsNum]
  | k + 1 => by
    have h := bitsNum_lt l i k
    have := bitN_lt l (i + k)
    rw [bitsNum, Nat.pow_succ]
    omega
/-- the post: 'it returns a new bit string of the bytes l and the length n, and true' -/
def RetBits (l : List UInt8) (n : Int) (w : World) (e : Ending) (w' : World) : Prop :=
  ∃ g, e = .returned (.tuple #[.agg #[.slice (some ⟨g, 0, none⟩) l.length l.length, .int .i64 n], .bool true]) ∧ w.heap.size ≤ g ∧ Own w' g l ∧ Below w.heap.size w w'
end Go.Proofs.Ytakandlbphjflaa
