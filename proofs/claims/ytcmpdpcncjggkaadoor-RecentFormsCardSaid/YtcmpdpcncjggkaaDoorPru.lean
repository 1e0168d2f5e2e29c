/-
  Prune and Known.
-/
import Derived.Test.YtcmpdpcncjggkaaDoorVal7
import Derived.Test.YtcmpdpcncjggkaaDoorDl3
namespace Go.Proofs.YtcmpdpcncjggkaaDoor
open Go.RowKit
set_option linter.unusedSimpArgs false
set_option linter.unusedVariables false

/-- what Prune says: the entries that are left, and the error -/
def pruneR (l : List Ent) (now : Int) : List Ent × Int := if validL l then (if timeB now then (pruneL l now, 0) else ([], 2)) else ([], 1)
def knownL (l : List Ent) (m s e q now : Int) : Bool := decide ((pruneR l now).2 = 0) && hasF (pruneR l now).1 m s e q

theorem validL_len {l : List Ent} (h : validL l = true) : l.length ≤ 32 := by
  unfold validL at h; simp at h; exact h.1
theorem pruneL_len (l : List Ent) (now : Int) : (pruneL l now).length ≤ l.length := List.length_filter_le _ _
theorem pruneR_len (l : List Ent) (now : Int) : (pruneR l now).1.length ≤ 32 := by
  unfold pruneR
  split
  · rename_i h
    split
    · exact Nat.le_trans (pruneL_len l now) (validL_len h)
    · exact Nat.zero_le _
  · exact Nat.zero_le _

theorem GrE.mono {w : World} {B C : Nat} {v : Value} {l : List Ent} (h : GrE w B v l) (hc : C ≤ B) : GrE w C v l := by
  refine ⟨h.1, ?_⟩
  rcases h.2 with h0 | ⟨g, cap, cur, hv, hB, hr⟩
  · exact .inl h0
  · exact .inr ⟨g, cap, cur, hv, by omega, hr⟩

/-- the post of Prune -/
def RetPr (r : List Ent × Int) (w : World) (e : Ending) (w' : World) : Prop := ∃ v, e = .returned (.tuple #[v, .int .i64 r.2]) ∧ GrE w' w.heap.size v r.1 ∧ Below w.heap.size w w'

set_option maxHeartbeats 4000000 in
set_option maxRecDepth 100000 in
theorem prune_any (a : Option Addr) (len cap : Nat) (l : List Ent) (now : Int) (w : World) (hI : IsE w a len cap l) :
    Calls Tryd.prog 22 #[.slice a len cap, .int .i64 now] w (RetPr (pruneR l now) w) := by
  have hmf : ∀ (fn : Fn) (first cap : Array Value) (w : World), (Instr.makeFunc fn first cap).run Tryd.prog w = .ok (.func fn first cap) w := fun _ _ _ _ => rfl
  have hB0 := (Below.refl w.heap.size w).alloc (Nat.le_refl _) (.cells #[.int .i64 now] 3)
  have c0 : (w.alloc (.cells #[.int .i64 now] 3)).cell? ⟨w.heap.size, 0, none⟩ = some (.int .i64 now) := by
    rw [World.cell?_alloc_at _ _ _ _ rfl]; rfl
  have hsz : (w.alloc (.cells #[.int .i64 now] 3)).heap.size = w.heap.size + 1 := by simp
  have hI1 := hI.below hB0
  have hv := valid7_any a len cap l _ hI1
  have hl := hI.length
  have HR : Hid (pruneR l now = if validL l then (if timeB now then (pruneL l now, 0) else ([], 2)) else ([], 1)) := hid rfl
  have HL : Hid (validL l = true → len ≤ 32) := hid (fun h => by have := validL_len h; omega)
  generalize pruneR l now = R at HR ⊢
  generalize validL l = V at hv HR HL
  have ht := isTime_any now
  generalize timeB now = T at ht HR
  go_enter Tryd.func22, Tryd.ntmps22
  go_wp2_with fail
  generalize w.alloc (.cells #[.int .i64 now] 3) = w1 at *
  with_reducible refine hv.mono ?_
  rintro e1 w2 ⟨rfl, hb2⟩
  have hI2 := hI1.below hb2
  have hB2 := hB0.trans (hb2.mono hB0.size)
  have c2 := (hb2.cell (p := ⟨w.heap.size, 0, none⟩) (by simp [hsz])).trans c0
  have hs2 : w.heap.size + 1 ≤ w2.heap.size := by have := hb2.size; omega
  clear hv hI1 hB0 hb2 c0
  cases V
  · have HR2 := HR.out
    subst HR2
    go_wp2_with fail
    go_ret2
    exact ⟨_, rfl, GrE.nil _ _, hB2⟩
  · go_wp2_with fail
    with_reducible refine (ht _).mono ?_
    rintro e2 w3 ⟨rfl, hb3⟩
    have hI3 := hI2.below hb3
    have hB3 := seq hB2 hb3
    have c3 := (hb3.cell (p := ⟨w.heap.size, 0, none⟩) (by show w.heap.size < _; omega)).trans c2
    have hs3 : w.heap.size + 1 ≤ w3.heap.size := by have := hb3.size; omega
    clear ht hI2 hB2 hb3 c2
    cases T
    · have HR2 := HR.out
      subst HR2
      go_wp2_with fail
      go_ret2
      exact ⟨_, rfl, GrE.nil _ _, hB3⟩
    · have HR2 := HR.out
      have hlen := HL.out (by simp)
      subst HR2
      go_wp2_with fail
      with_reducible refine (clone_any a len cap l _ hI3 (by omega)).mono ?_
      rintro e4 w4 ⟨v, rfl, hG, hb4⟩
      have hB4 := seq hB3 hb4
      have c4 := (hb4.cell (p := ⟨w.heap.size, 0, none⟩) (by show w.heap.size < _; omega)).trans c3
      have hs4 := hb4.size
      clear hb4 c3 hB3 HR
      go_wp2_with fail
      with_reducible refine (delete_any w3.heap.size v l w.heap.size now w4 hG (by omega) c4 (by omega) hs4).mono ?_
      rintro e5 w5 ⟨v5, rfl, hG5, hb5⟩
      have hB5 := hB4.trans (hb5.mono (by omega))
      go_wp2_with fail
      go_ret2
      exact ⟨_, rfl, hG5.mono (by omega), hB5⟩

set_option maxHeartbeats 4000000 in
set_option maxRecDepth 100000 in
theorem known7_any (a : Option Addr) (len cap : Nat) (l : List Ent) (m s e q now : Int) (w : World) (hI : IsE w a len cap l) :
    Calls Tryd.prog 20 #[.slice a len cap, av m s e, .int .u8 q, .int .i64 now] w (RetS (.bool (knownL l m s e q now)) w) := by
  have hB0 := (Below.refl w.heap.size w).alloc (Nat.le_refl _) (.cells #[.int .i64 m, .int .u16 s, .int .u64 e] 28)
  have hA0 : Ar (w.alloc (.cells #[.int .i64 m, .int .u16 s, .int .u64 e] 28)) w.heap.size m s e := Ar.of_heap (heap_alloc_new w _)
  have hsz : (w.alloc (.cells #[.int .i64 m, .int .u16 s, .int .u64 e] 28)).heap.size = w.heap.size + 1 := by simp
  have hp := prune_any a len cap l now _ (hI.below hB0)
  have hlen := pruneR_len l now
  have HK : Hid (knownL l m s e q now = (decide ((pruneR l now).2 = 0) && hasF (pruneR l now).1 m s e q)) := hid rfl
  generalize knownL l m s e q now = K at HK ⊢
  generalize pruneR l now = R at hp HK hlen
  obtain ⟨L, er⟩ := R
  simp only at HK hlen
  rw [av]
  go_enter Tryd.func20, Tryd.ntmps20
  go_wp2_with fail
  generalize w.alloc (.cells #[.int .i64 m, .int .u16 s, .int .u64 e] 28) = w1 at *
  with_reducible refine hp.mono ?_
  rintro e1 w2 ⟨v, rfl, hG, hb2⟩
  have hB2 := hB0.trans (hb2.mono hB0.size)
  have hA2 := hA0.below hb2 (by omega)
  obtain ⟨c0, c1, c2⟩ := hA2.cells
  obtain ⟨p, cp, rfl, hI2⟩ := hG.isE (by simp only at hlen ⊢; omega)
  have hh := has_any p L.length cp L m s e q w2 hI2
  simp only [av] at hh
  clear hp hG hb2 hA0 hA2
  by_cases he : er = 0
  · subst he
    have HK2 := HK.out
    simp at HK2
    subst HK2
    clear HK
    generalize hY : hasF L m s e q = Y at hh
    have HY := hid hY
    clear hY
    go_wp2_with fail
    with_reducible refine hh.mono ?_
    rintro e3 w3 ⟨rfl, hb3⟩
    go_wp2_with fail
    go_ret
    exact ⟨ret_bool HY.out.symm, seq hB2 hb3⟩
  · have HK2 := HK.out
    rw [decide_eq_false he, Bool.false_and] at HK2
    subst HK2
    clear HK
    go_wp2_with fail
    go_ret
    exact ⟨ret_bool rfl, hB2⟩
end Go.Proofs.YtcmpdpcncjggkaaDoor
