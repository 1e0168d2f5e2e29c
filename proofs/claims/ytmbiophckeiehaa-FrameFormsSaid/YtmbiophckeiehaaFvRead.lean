/-
  What a frame's bytes are read as, and that the bytes of a valid frame are read as that frame.
-/
import Derived.Test.YtmbiophckeiehaaFv
import Derived.Test.YtmbiophckeiehaaUint
namespace Go.Proofs.Ytmbiophckeiehaa
open Go.RowKit
set_option linter.unusedSimpArgs false
set_option linter.unusedVariables false

/-- the first n bytes are there -/
def numOk (l : List UInt8) (n : Nat) : Bool := decide (1 ≤ n ∧ n ≤ 8 ∧ n ≤ l.length)
def numV (l : List UInt8) (n : Nat) : Nat := if numOk l n then uintOf (l.take n) else 0
def numR (l : List UInt8) (n : Nat) : List UInt8 := if numOk l n then l.drop n else l
/-- the last n bytes, or all -/
def lastV (l : List UInt8) (n : Nat) : List UInt8 := l.drop (l.length - n)
def lastR (l : List UInt8) (n : Nat) : List UInt8 := l.take (l.length - n)

theorem numV_at (l r : List UInt8) (n : Nat) (h1 : 1 ≤ n) (h8 : n ≤ 8) (hl : l.length = n) : numV (l ++ r) n = uintOf l := by
  unfold numV
  rw [if_pos (by simp [numOk]; omega), List.take_append_of_le_length (by omega), List.take_of_length_le (by omega)]
theorem numR_at (l r : List UInt8) (n : Nat) (h1 : 1 ≤ n) (h8 : n ≤ 8) (hl : l.length = n) : numR (l ++ r) n = r := by
  unfold numR
  rw [if_pos (by simp [numOk]; omega), List.drop_append_of_le_length (by omega), List.drop_of_length_le (by omega)]
  rfl
theorem numR_zero (l : List UInt8) : numR l 0 = l := by unfold numR; rw [if_neg (by simp [numOk])]
theorem numV_zero (l : List UInt8) : numV l 0 = 0 := by unfold numV; rw [if_neg (by simp [numOk])]
theorem numV_lt (l : List UInt8) (n : Nat) : numV l n < 256 ^ n := by
  unfold numV
  split
  · rename_i h
    simp [numOk] at h
    have := uintOf_lt (l.take n)
    rwa [List.length_take, Nat.min_eq_left h.2.2] at this
  · exact Nat.pow_pos (by decide)
theorem numV_u64 (l : List UInt8) (n : Nat) : numV l n < 18446744073709551616 := by
  by_cases h : n ≤ 8
  · have h1 := numV_lt l n
    have h2 : (256 : Nat) ^ n ≤ 256 ^ 8 := Nat.pow_le_pow_right (by decide) h
    omega
  · unfold numV; rw [if_neg (by simp [numOk]; omega)]; decide
theorem numR_le (l : List UInt8) (n : Nat) : (numR l n).length ≤ l.length := by
  unfold numR; split
  · simp
  · exact Nat.le_refl _

/-- the number of bytes of an address of the mode -/
structure Rd where
  k : Nat
  first : Nat
  modes : Nat
  sq : Nat
  pn : Nat
  d : Nat
  s : Nat
  ct : Nat
  ky : Nat
  P : List UInt8
  M : List UInt8

def dmOf (modes : Nat) : Nat := modes / 64 % 4
def smOf (modes : Nat) : Nat := modes / 16 % 4
def r1 (l : List UInt8) : List UInt8 := numR l 1
def r2 (l : List UInt8) : List UInt8 := numR (r1 l) 1
def r3 (l : List UInt8) : List UInt8 := numR (r2 l) 1
def firstN (l : List UInt8) : Nat := numV l 1
def modesN (l : List UInt8) : Nat := numV (r1 l) 1
def seqN (l : List UInt8) : Nat := numV (r2 l) 1
def kindN (l : List UInt8) : Nat := firstN l / 64
def r4 (l : List UInt8) : List UInt8 := numR (r3 l) 2
def r5 (l : List UInt8) : List UInt8 := numR (r4 l) (asz (dmOf (modesN l) : Nat))
def r6 (l : List UInt8) : List UInt8 := numR (r5 l) (asz (smOf (modesN l) : Nat))
/-- what is left behind the addresses -/
def r7 (l : List UInt8) : List UInt8 := if kindN l = 2 then r3 l else r6 l
def secB (l : List UInt8) : Bool := decide (firstN l / 8 % 2 = 1)
def r8 (l : List UInt8) : List UInt8 := numR (r7 l) 4
def r9 (l : List UInt8) : List UInt8 := numR (r8 l) 1
/-- an address that is read -/
def adM (modes v : Nat) : Int := (modes : Int)
def adS (m v : Nat) : Int := if m = 2 then (v : Int) else 0
def adX (m v : Nat) : Int := if m = 2 then 0 else (v : Int)
/-- the frame that is read -/
def readH (l : List UInt8) : Hd where
  k := (kindN l : Int)
  ar := decide (firstN l / 32 % 2 = 1)
  pe := decide (firstN l / 16 % 2 = 1)
  se := secB l
  sq := (seqN l : Int)
  pn := if kindN l = 2 then 0 else (numV (r3 l) 2 : Int)
  dm := if kindN l = 2 then 0 else (dmOf (modesN l) : Int)
  ds := if kindN l = 2 then 0 else adS (dmOf (modesN l)) (numV (r4 l) (asz (dmOf (modesN l) : Nat)))
  dx := if kindN l = 2 then 0 else adX (dmOf (modesN l)) (numV (r4 l) (asz (dmOf (modesN l) : Nat)))
  sm := if kindN l = 2 then 0 else (smOf (modesN l) : Int)
  ss := if kindN l = 2 then 0 else adS (smOf (modesN l)) (numV (r5 l) (asz (smOf (modesN l) : Nat)))
  sx := if kindN l = 2 then 0 else adX (smOf (modesN l)) (numV (r5 l) (asz (smOf (modesN l) : Nat)))
  ct := if secB l then (numV (r7 l) 4 : Int) else 0
  ky := if secB l then (numV (r8 l) 1 : Int) else 0
def readM (l : List UInt8) : List UInt8 := if secB l then lastV (r9 l) 4 else []
def readP (l : List UInt8) : List UInt8 := if secB l then lastR (r9 l) 4 else r7 l
end Go.Proofs.Ytmbiophckeiehaa
