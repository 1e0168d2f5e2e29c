/-
  A range over a string, its iterator in whatever block.
-/
import Derived.Test.YtakandlbphjflaaTape
import Derived.Laws.RangeString
namespace Go.Proofs.Ytakandlbphjflaa
open Go.RowKit

def IterAt (w : World) (g : Nat) (s : ByteArray) (pos : Nat) : Prop := w.heap[g]? = some (.stringIter s pos)

theorem IterAt.lt {w : World} {g : Nat} {s : ByteArray} {pos : Nat} (h : IterAt w g s pos) : g < w.heap.size := (Array.getElem?_eq_some_iff.1 h).1

theorem IterAt.new (w : World) (s : ByteArray) : IterAt (w.iter s 0) w.heap.size s 0 := World.iter_heap w s 0

theorem IterAt.only {w w' : World} {g k : Nat} {s : ByteArray} {pos : Nat} (h : IterAt w g s pos) (ho : Only k w w') (hk : g ≠ k) : IterAt w' g s pos := by
  unfold IterAt; rw [ho.block g h.lt hk]; exact h

theorem setObj_only (w : World) (g : Nat) (o : Obj) : Only g w { w with heap := w.heap.setIfInBounds g o } :=
  ⟨rfl, rfl, rfl, by simp, fun k _ hn => by simp [Array.getElem?_setIfInBounds, Ne.symm hn]⟩

theorem wpList_next {w : World} {ops : Array Oper} {rest : List Oper} {o : Oper} {a : Act} {Q : Exit → Act → World → Prop} (hgd : o.guard = none) (x : Operand) (ho : o.op = .next x true)
    (g : Nat) (hx : a.eval x = .pointer (some ⟨g, 0, none⟩)) (s : ByteArray) (pos : Nat) (h : IterAt w g s pos) (hp : pos < s.size) (r n : Nat) (hd : Utf8.decode s pos = (r, n))
    (hk : ∀ w', Hid (IterAt w' g s (pos + n)) → Only g w w' → wpList Try.prog ops Q rest (a.put o.dst (.tuple #[.bool true, .int .i64 pos, .int .i32 (r : Int)])) w') :
    wpList Try.prog ops Q (o :: rest) a w := by
  have hg := h.lt
  have hrun : (Instr.next (.pointer (some ⟨g, 0, none⟩)) true o.type).run Try.prog w =
      .ok (.tuple #[.bool true, .int .i64 pos, .int .i32 ((Utf8.decode s pos).1 : Int)]) { w with heap := w.heap.setIfInBounds g (.stringIter s (pos + (Utf8.decode s pos).2)) } := by
    unfold IterAt at h
    simp only [Instr.next, getObj, setObj, Sem.run_bind, Sem.run, h, Result.andThen, hp, if_true]
    simp [goInt, Sem.run, h]
  refine wpList_plain hgd fun K hK => ?_
  unfold Oper.wp
  simp [execOp, ho, hx, hrun, Result.andThen]
  rw [hd]
  refine hK _ _ (hk _ (hid ?_) (setObj_only w g _))
  unfold IterAt
  simp [hg]

def posOf (w : World) (g : Nat) : Nat := match w.heap[g]? with | some (.stringIter _ p) => p | _ => 0
theorem posOf_at {w : World} {g : Nat} {s : ByteArray} {pos : Nat} (h : IterAt w g s pos) : posOf w g = pos := by
  unfold IterAt at h; simp [posOf, h]
theorem IterAt.set_other {w : World} {g : Nat} {s : ByteArray} {pos : Nat} (h : IterAt w g s pos) (p : Addr) (v : Value) (hp : g ≠ p.block) : IterAt (w.setCell p v) g s pos := by
  unfold IterAt; rw [heap_setCell_other _ _ _ _ hp]; exact h

theorem wpList_next_end {w : World} {ops : Array Oper} {rest : List Oper} {o : Oper} {a : Act} {Q : Exit → Act → World → Prop} (hgd : o.guard = none) (x : Operand) (ho : o.op = .next x true)
    (g : Nat) (hx : a.eval x = .pointer (some ⟨g, 0, none⟩)) (s : ByteArray) (pos : Nat) (h : IterAt w g s pos) (hp : ¬ pos < s.size)
    (hk : wpList Try.prog ops Q rest (a.put o.dst (.tuple #[.bool false])) w) :
    wpList Try.prog ops Q (o :: rest) a w := by
  have hrun : (Instr.next (.pointer (some ⟨g, 0, none⟩)) true o.type).run Try.prog w = .ok (.tuple #[.bool false]) w := by
    unfold IterAt at h
    simp only [Instr.next, getObj, Sem.run_bind, Sem.run, h, Result.andThen, hp, if_false]
    rfl
  refine wpList_plain hgd fun K hK => ?_
  unfold Oper.wp
  simp [execOp, ho, hx, hrun, Result.andThen]
  exact hK _ _ hk

/-- a byte from 128 on begins no rune below 128 -/
theorem decode_big (s : ByteArray) (pos : Nat) (h : pos < s.size) (ha : 128 ≤ (s[pos]'h).toNat) : 128 ≤ (Utf8.decode s pos).1 ∧ (Utf8.decode s pos).1 < 2097152 := by
  have e : s.get! (pos + 0) = s[pos]'h := by
    show s.get! pos = _
    simp [ByteArray.get!, getElem!_pos, h]
    rfl
  have h1 := (s[pos]'h).toNat_lt
  simp only [Utf8.decode, e, Utf8.runeError]
  rw [if_neg (by omega)]
  repeat' split
  all_goals simp_all
  all_goals omega

theorem decode_low (s : ByteArray) (pos : Nat) (h : pos < s.size) (ha : (s[pos]'h).toNat < 128) : Utf8.decode s pos = ((s[pos]'h).toNat, 1) := decode_ascii s pos h ha
end Go.Proofs.Ytakandlbphjflaa
