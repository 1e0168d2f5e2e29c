/-
  Received frames: what the functions say (as lists), and the small functions.
-/
import Derived.Test.YtcmpdpcncjggkaaDoorEnt
import Derived.Test.YtcmpdpcncjggkaaDoorAdV
namespace Go.Proofs.YtcmpdpcncjggkaaDoor
open Go.RowKit
set_option linter.unusedSimpArgs false
set_option linter.unusedVariables false

def senderB (m s e : Int) : Bool := validA m s e && !decide (m = 0)
def timeB (t : Int) : Bool := decide (0 ≤ t ∧ t ≤ 1099511627776)
/-- the entry is of this frame -/
def sameF (m s e q : Int) (x : Ent) : Bool := decide (x.m = m ∧ x.s = s ∧ x.e = e ∧ x.q = q)
def hasF (l : List Ent) (m s e q : Int) : Bool := l.any (sameF m s e q)
def okAt (l : List Ent) (j : Nat) : Bool := senderB (l.getD j dE).m (l.getD j dE).s (l.getD j dE).e && (timeB (l.getD j dE).u && !hasF (l.take j) (l.getD j dE).m (l.getD j dE).s (l.getD j dE).e (l.getD j dE).q)
def okTo (l : List Ent) (n : Nat) : Bool := (List.range n).all (okAt l)
def validL (l : List Ent) : Bool := decide (l.length ≤ 32) && okTo l l.length
def pruneL (l : List Ent) (now : Int) : List Ent := l.filter (fun x => !decide (x.u ≤ now))
theorem okTo_succ (l : List Ent) (n : Nat) : okTo l (n + 1) = (okTo l n && okAt l n) := by
  simp [okTo, List.range_succ]

set_option maxHeartbeats 1600000 in
set_option maxRecDepth 100000 in
theorem isTime_any (t : Int) (w : World) : Calls Tryd.prog 33 #[.int .i64 t] w (RetS (.bool (timeB t)) w) := by
  go_enter Tryd.func33, Tryd.ntmps33
  go_wp2
  all_goals go_ret
  all_goals refine ⟨ret_bool ?_, Below.refl _ _⟩
  all_goals (rw [Bool.eq_iff_iff]; simp [timeB]; (try simp only [beq_iff_eq, beq_eq_false_iff_ne, ne_eq] at *); omega)

set_option maxHeartbeats 1600000 in
set_option maxRecDepth 100000 in
theorem isSender_any (m s e : Int) (w : World) :
    Calls Tryd.prog 27 #[av m s e] w (RetS (.bool (senderB m s e)) w) := by
  have hv := valid_any m s e
  have hd : senderB m s e = (validA m s e && !decide (m = 0)) := rfl
  generalize hS : senderB m s e = S at hd ⊢
  clear hS
  generalize hval : validA m s e = b at hv hd
  clear hval
  subst hd
  simp only [av] at hv ⊢
  have hB := (Below.refl w.heap.size w).alloc (Nat.le_refl _) (.cells #[.int .i64 m, .int .u16 s, .int .u64 e] 28)
  by_cases hm : m = 0
  · subst hm
    go_enter Tryd.func27, Tryd.ntmps27
    go_wp2
    go_ret
    exact ⟨ret_bool (by simp), hB⟩
  · go_enter Tryd.func27, Tryd.ntmps27
    go_wp2_with fail
    with_reducible refine (hv _).mono ?_
    rintro e' w2 ⟨rfl, hb2⟩
    have hB2 := hB.trans (hb2.mono hB.size)
    clear hb2 hB hv
    go_wp2
    go_ret
    exact ⟨ret_bool (by simp [hm]), hB2⟩

set_option maxHeartbeats 1600000 in
set_option maxRecDepth 100000 in
/-- the closure of Prune: the entry is over -/
theorem over_any (x : Ent) (p : Nat) (now : Int) (w : World) (hp : w.cell? ⟨p, 0, none⟩ = some (.int .i64 now)) :
    Calls Tryd.prog 36 #[ev x, .pointer (some ⟨p, 0, none⟩)] w (RetS (.bool (decide (x.u ≤ now))) w) := by
  have hlt : p < w.heap.size := by
    rcases Nat.lt_or_ge p w.heap.size with h' | h'
    · exact h'
    · simp [World.cell?, Array.getElem?_eq_none h'] at hp
  have hp2 : (w.alloc (.cells #[.int .i64 x.m, .int .u16 x.s, .int .u64 x.e, .int .u8 x.q, .int .i64 x.u] 36)).cell? ⟨p, 0, none⟩ = some (.int .i64 now) := by
    rw [World.cell?_alloc_past _ _ _ hlt]; exact hp
  simp only [ev]
  go_enter Tryd.func36, Tryd.ntmps36
  go_wp2
  go_ret
  exact ⟨ret_bool (by simp), (Below.refl _ _).alloc (Nat.le_refl _) _⟩

set_option maxHeartbeats 1600000 in
set_option maxRecDepth 100000 in
/-- the closure of has: the entry is of the frame -/
theorem same_any (x : Ent) (p r : Nat) (m s e q : Int) (w : World) (hp : Ar w p m s e) (hr : w.cell? ⟨r, 0, none⟩ = some (.int .u8 q)) (hpl : p < w.heap.size) :
    Calls Tryd.prog 40 #[ev x, .pointer (some ⟨p, 0, none⟩), .pointer (some ⟨r, 0, none⟩)] w (RetS (.bool (sameF m s e q x)) w) := by
  have hlt : r < w.heap.size := by
    rcases Nat.lt_or_ge r w.heap.size with h' | h'
    · exact h'
    · simp [World.cell?, Array.getElem?_eq_none h'] at hr
  obtain ⟨c0, c1, c2⟩ := hp.cells
  clear hp
  simp only [ev]
  go_enter Tryd.func40, Tryd.ntmps40
  go_wp2
  all_goals go_ret
  all_goals refine ⟨ret_bool ?_, (Below.refl _ _).alloc (Nat.le_refl _) _⟩
  all_goals (unfold sameF; rw [Bool.eq_iff_iff]; simp; (try simp only [beq_iff_eq, beq_eq_false_iff_ne, ne_eq] at *); (try omega))
end Go.Proofs.YtcmpdpcncjggkaaDoor
