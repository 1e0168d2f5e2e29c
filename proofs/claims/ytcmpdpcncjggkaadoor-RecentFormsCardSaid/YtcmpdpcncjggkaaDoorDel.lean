/-
  has; slices.IndexFunc with the closure of Prune; slices.Clone.
-/
import Derived.Test.YtcmpdpcncjggkaaDoorIdx
import Derived.Lib.SliceRun
namespace Go.Proofs.YtcmpdpcncjggkaaDoor
open Go.RowKit
set_option linter.unusedSimpArgs false
set_option linter.unusedVariables false

/-- the entry is over -/
def overF (now : Int) (x : Ent) : Bool := decide (x.u ≤ now)

set_option maxHeartbeats 1600000 in
set_option maxRecDepth 100000 in
theorem index_over (a : Option Addr) (len cap : Nat) (l : List Ent) (p : Nat) (now : Int) (w : World) (hI : IsE w a len cap l) (hp : w.cell? ⟨p, 0, none⟩ = some (.int .i64 now)) (hpl : p < w.heap.size) :
    Calls Tryd.prog 42 #[.slice a len cap, .func (.func 36) #[] #[.pointer (some ⟨p, 0, none⟩)]] w (RetS (.int .i64 (idxF (overF now) l)) w) := by
  have hle := hI.le
  have hmx := hI.max
  have hl := hI.length
  go_enter Tryd.func42, Tryd.ntmps42
  go_wp2
  go_loopw [8] (fun t wr => ∃ i : Nat, i ≤ len ∧ t = .int .i64 i ∧ Hid (∀ j, j < i → overF now (l.getD j dE) = false) ∧ Below w.heap.size w wr) (fun t _ => len - (intOf t).toNat)
  case atStart => exact ⟨0, Nat.zero_le _, rfl, hid (fun j hj => absurd hj (by omega)), Below.refl _ _⟩
  case round =>
    obtain ⟨i, hi, rfl, hf, hB⟩ := hrel
    by_cases hlt : i < len
    · obtain ⟨b, off, rfl, hb, hc⟩ := hI.some (by omega)
      have hK := rangeAt_below (hc i hlt) hB hb
      generalize hx : l.getD i dE = x at hK
      have HX := hid hx
      clear hx hc
      obtain ⟨k0, k1, k2, k3, k4⟩ := el_cells hK
      have hs : Calls _ _ _ _ (RetS (.bool (overF now x)) wr) := over_any x p now wr ((hB.cell (p := ⟨p, 0, none⟩) hpl).trans hp)
      simp only [ev] at hs
      generalize hP : overF now x = P at hs
      have HP := hid hP
      clear hP
      go_wp2_with fail
      with_reducible refine hs.mono ?_
      rintro e' w2 ⟨rfl, hb2⟩
      have hB2 := seq hB hb2
      clear hs hb2 k0 k1 k2 k3 k4
      cases P
      · go_wp2
        go_roundw
        case rel => exact ⟨i + 1, by omega, by go_num, hid (fun j hj => by
          rcases Nat.lt_or_ge j i with h | h
          · exact hf.out j h
          · obtain rfl : j = i := by omega
            rw [HX.out]; exact HP.out), hB2⟩
        case measure => simp [intOf]; omega
      · go_wp2
        go_ret
        exact ⟨ret_int (idxF_some _ _ i (by omega) hf.out (by rw [HX.out]; exact HP.out)).symm, hB2⟩
    · obtain rfl : i = len := by omega
      go_wp2
      go_ret
      exact ⟨ret_int (idxF_none _ _ (by rw [hl]; exact hf.out)).symm, hB⟩

set_option maxHeartbeats 1600000 in
set_option maxRecDepth 100000 in
theorem contains_has (a : Option Addr) (len cap : Nat) (l : List Ent) (p r : Nat) (m s e q : Int) (w : World) (hI : IsE w a len cap l) (hp : Ar w p m s e) (hr : w.cell? ⟨r, 0, none⟩ = some (.int .u8 q)) (hpl : p < w.heap.size) (hrl : r < w.heap.size) :
    Calls Tryd.prog 39 #[.slice a len cap, .func (.func 40) #[] #[.pointer (some ⟨p, 0, none⟩), .pointer (some ⟨r, 0, none⟩)]] w (RetS (.bool (hasF l m s e q)) w) := by
  have hs := index_has a len cap l p r m s e q w hI hp hr hpl hrl
  have hx := idxF_any (sameF m s e q) l
  rw [show l.any (sameF m s e q) = hasF l m s e q from rfl] at hx
  generalize idxF (sameF m s e q) l = X at hs hx
  generalize hasF l m s e q = Y at hx ⊢
  go_enter Tryd.func39, Tryd.ntmps39
  go_wp2_with fail
  with_reducible refine hs.mono ?_
  rintro e' w2 ⟨rfl, hb2⟩
  go_wp2
  all_goals go_ret
  all_goals refine ⟨ret_bool ?_, hb2⟩
  all_goals first | (rw [← hx]; done) | (rw [← hx]; simp; done) | (rw [← hx]; simp; omega)

set_option maxHeartbeats 1600000 in
set_option maxRecDepth 100000 in
theorem has_any (a : Option Addr) (len cap : Nat) (l : List Ent) (m s e q : Int) (w : World) (hI : IsE w a len cap l) :
    Calls Tryd.prog 28 #[.slice a len cap, av m s e, .int .u8 q] w (RetS (.bool (hasF l m s e q)) w) := by
  have hmf : ∀ (fn : Fn) (first cap : Array Value) (w : World), (Instr.makeFunc fn first cap).run Tryd.prog w = .ok (.func fn first cap) w := fun _ _ _ _ => rfl
  have hB := ((Below.refl w.heap.size w).alloc (Nat.le_refl _) (.cells #[.int .i64 m, .int .u16 s, .int .u64 e] 28)).alloc (by simp) (.cells #[.int .u8 q] 5)
  have hA : Ar ((w.alloc (.cells #[.int .i64 m, .int .u16 s, .int .u64 e] 28)).alloc (.cells #[.int .u8 q] 5)) w.heap.size m s e := Ar.of_heap (heap_alloc2_old w _ _)
  have hr : ((w.alloc (.cells #[.int .i64 m, .int .u16 s, .int .u64 e] 28)).alloc (.cells #[.int .u8 q] 5)).cell? ⟨w.heap.size + 1, 0, none⟩ = some (.int .u8 q) := by
    rw [World.cell?_alloc_at _ _ _ _ (by simp)]; rfl
  have hs := contains_has a len cap l w.heap.size (w.heap.size + 1) m s e q _ (hI.below hB) hA hr (by simp; omega) (by simp)
  clear hA hr hI
  simp only [av]
  go_enter Tryd.func28, Tryd.ntmps28
  go_wp2_with fail
  with_reducible refine hs.mono ?_
  rintro e' w2 ⟨rfl, hb2⟩
  have hB2 := hB.trans (hb2.mono hB.size)
  clear hs hb2 hB
  go_wp2
  go_ret
  exact ⟨ret_bool rfl, hB2⟩

set_option maxHeartbeats 1600000 in
set_option maxRecDepth 100000 in
theorem clone_any (a : Option Addr) (len cap : Nat) (l : List Ent) (w : World) (hI : IsE w a len cap l) (hlen : len ≤ 1000000) :
    Calls Tryd.prog 35 #[.slice a len cap] w (fun e w' => ∃ v, e = .returned v ∧ GrE w' w.heap.size v l ∧ Below w.heap.size w w') := by
  have hl := hI.length
  have hnil := hI.nil
  have hq : ∀ W, (binOp .eql 22 (.slice a len cap) (.slice none 0 0)).run Tryd.prog W = .ok (.bool a.isNone) W := fun W => Go.Lib.run_eql_slice_nil W 22 36 a len cap 0 0 Tryd.underlying22
  cases a with
  | none =>
    obtain ⟨rfl, rfl⟩ := hnil rfl
    obtain rfl := List.eq_nil_of_length_eq_zero hl
    go_enter Tryd.func35, Tryd.ntmps35
    go_wp2
    go_ret
    exact ⟨_, rfl, GrE.nil _ _, Below.refl _ _⟩
  | some x =>
    have hB := (Below.refl w.heap.size w).alloc (Nat.le_refl _) (.cells #[] 36)
    have hI2 := hI.below hB
    have hG := grE_new w w.heap.size (Nat.le_refl _)
    go_enter Tryd.func35, Tryd.ntmps35
    go_wp2_with (with_reducible refine wpList_append_ents (o := ⟨some 7, _, _, _, _, _⟩) rfl (.tmp 5) (.tmp 6) rfl (.slice (some ⟨w.heap.size, 0, none⟩) 0 0) rfl (some x) len cap rfl w.heap.size [] l hG hI2 (by simpa using hlen) w hB (by simp) ?_; intro v' w' hG2 hB2 _)
    go_ret
    exact ⟨_, rfl, by simpa using hG2.out, hB2⟩
end Go.Proofs.YtcmpdpcncjggkaaDoor
