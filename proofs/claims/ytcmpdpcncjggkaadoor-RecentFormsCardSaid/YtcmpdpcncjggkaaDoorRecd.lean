/-
  Record.
-/
import Derived.Test.YtcmpdpcncjggkaaDoorWout
namespace Go.Proofs.YtcmpdpcncjggkaaDoor
open Go.RowKit
set_option linter.unusedSimpArgs false
set_option linter.unusedVariables false

theorem pruneR_time {l : List Ent} {now : Int} (h : (pruneR l now).2 = 0) : 0 ≤ now ∧ now ≤ 1099511627776 := by
  unfold pruneR at h
  split at h
  · split at h
    · rename_i h2; simpa [timeB] using h2
    · simp at h
  · simp at h
theorem evict_len (p : List Ent) (h : p.length ≤ 32) : (evict p).length ≤ 31 ∨ (evict p).length < 32 := by
  unfold evict
  split
  · have := leastTo_lt p 32
    left; rw [List.length_append, List.length_take, List.length_drop]; omega
  · omega

theorem OneE.mono {w : World} {B C : Nat} {v : Value} {l : List Ent} (h : OneE w B v l) (hc : C ≤ B) : OneE w C v l := by
  rcases h with h | h
  · exact .inl (h.mono hc)
  · exact .inr h
theorem OneE.below {w w' : World} {B : Nat} {v : Value} {l : List Ent} (h : OneE w B v l) (hb : Below w.heap.size w w') : OneE w' B v l := by
  rcases h with h | ⟨a, hv, hI⟩
  · exact .inl (h.below hb)
  · exact .inr ⟨a, hv, hI.below hb⟩

/-- the post of Record -/
def RetRec (r : List Ent × Bool × Int) (w : World) (e : Ending) (w' : World) : Prop := ∃ v, e = .returned (.tuple #[v, .bool r.2.1, .int .i64 r.2.2]) ∧ GrE w' w.heap.size v r.1 ∧ Below w.heap.size w w'

theorem ret_tuple3 {v : Value} {b c : Bool} {i j : Int} (h1 : b = c) (h2 : i = j) : Ending.returned (.tuple #[v, .bool b, .int .i64 i]) = .returned (.tuple #[v, .bool c, .int .i64 j]) := by rw [h1, h2]

set_option maxHeartbeats 8000000 in
set_option maxRecDepth 100000 in
theorem record_any (a : Option Addr) (len cap : Nat) (l : List Ent) (m s e q now : Int) (w : World) (hI : IsE w a len cap l) :
    Calls Tryd.prog 16 #[.slice a len cap, av m s e, .int .u8 q, .int .i64 now] w (RetRec (recR l m s e q now) w) := by
  have hB0 := (Below.refl w.heap.size w).alloc (Nat.le_refl _) (.cells #[.int .i64 m, .int .u16 s, .int .u64 e] 28)
  have hA0 : Ar (w.alloc (.cells #[.int .i64 m, .int .u16 s, .int .u64 e] 28)) w.heap.size m s e := Ar.of_heap (heap_alloc_new w _)
  have hsz : (w.alloc (.cells #[.int .i64 m, .int .u16 s, .int .u64 e] 28)).heap.size = w.heap.size + 1 := by simp
  have hI1 := hI.below hB0
  have hsn := isSender_any m s e
  simp only [av] at hsn
  have HR : Hid (recR l m s e q now = if senderB m s e then (if (pruneR l now).2 = 0 then (if hasF (pruneR l now).1 m s e q then ((pruneR l now).1, false, 0) else (evict (pruneR l now).1 ++ [⟨m, s, e, q, min (now + 16) 1099511627776⟩], true, 0)) else ((pruneR l now).1, false, (pruneR l now).2)) else ([], false, 1)) := hid rfl
  have hpr := prune_any a len cap l now
  have hlen := pruneR_len l now
  have HT : Hid ((pruneR l now).2 = 0 → 0 ≤ now ∧ now ≤ 1099511627776) := hid pruneR_time
  generalize recR l m s e q now = R at HR ⊢
  generalize senderB m s e = SB at hsn HR
  generalize pruneR l now = P at hpr HR hlen HT
  obtain ⟨L, er⟩ := P
  simp only at HR hlen HT
  rw [av]
  go_enter Tryd.func16, Tryd.ntmps16
  go_wp2_with fail
  generalize w.alloc (.cells #[.int .i64 m, .int .u16 s, .int .u64 e] 28) = w1 at *
  with_reducible refine (hsn w1).mono ?_
  rintro e1 w2 ⟨rfl, hb2⟩
  have hB2 := hB0.trans (hb2.mono hB0.size)
  have hA2 := hA0.below hb2 (by omega)
  have hI2 := hI1.below hb2
  have hs2 := hb2.size
  clear hb2 hB0 hA0 hI1 hsn
  cases SB
  · have HR2 := HR.out
    subst HR2
    go_wp2_with fail
    go_ret3
    exact ⟨_, rfl, GrE.nil _ _, hB2⟩
  · go_wp2_with fail
    with_reducible refine (hpr w2 hI2).mono ?_
    rintro e3 w3 ⟨v, rfl, hG, hb3⟩
    have hB3 := seq hB2 hb3
    have hA3 := hA2.below hb3 (by omega)
    have hs3 := hb3.size
    have hG := hG.mono (C := w.heap.size) (by omega)
    clear hb3 hB2 hA2 hI2 hpr
    obtain ⟨p, cp, rfl, hI3⟩ := hG.isE (by simp only at hlen ⊢; omega)
    obtain ⟨c0, c1, c2⟩ := hA3.cells
    have hh := has_any p L.length cp L m s e q w3 hI3
    simp only [av] at hh
    by_cases he : er = 0
    · subst he
      have HT2 := HT.out rfl
      generalize hY : hasF L m s e q = Y at hh HR
      clear hY HT
      go_wp2_with fail
      with_reducible refine hh.mono ?_
      rintro e4 w4 ⟨rfl, hb4⟩
      have hB4 := seq hB3 hb4
      have hA4 := hA3.below hb4 (by omega)
      have hG4 := hG.below hb4
      have hI4 := hI3.below hb4
      have hs4 := hb4.size
      clear hh hb4 hB3 hA3 hI3 hG c0 c1 c2
      obtain ⟨d0, d1, d2⟩ := hA4.cells
      cases Y
      · have HR2 := HR.out
        simp only [if_pos, Bool.false_eq_true, if_false] at HR2
        subst HR2
        by_cases hfull : L.length = 32
        · have hI5 := hI4
          rw [hfull] at hI5
          obtain ⟨b, off, rfl, hbl, hcc⟩ := hI5.some (by omega)
          clear hcc
          rw [hfull] at hI4
          rw [hfull]
          have hfst := first_any (some ⟨b, off, none⟩) 32 cp L w4 hI4
          have hwt := fun w5 h => without_any b off 32 cp (leastTo L 32) L w5 h (by have := leastTo_lt L 32; omega) (by omega)
          have HE : Hid (evict L = L.take (leastTo L 32) ++ L.drop (leastTo L 32 + 1)) := hid (by unfold evict; rw [if_pos hfull])
          have hev : (L.take (leastTo L 32) ++ L.drop (leastTo L 32 + 1)).length < 32 := by
            have := leastTo_lt L 32
            rw [List.length_append, List.length_take, List.length_drop]; omega
          generalize leastTo L 32 = k at *
          generalize L.take k ++ L.drop (k + 1) = L2 at *
          go_wp2_with fail
          with_reducible refine hfst.mono ?_
          rintro e5 w5 ⟨rfl, hb5⟩
          have hI5 := hI4.below hb5
          have hB5 := seq hB4 hb5
          have hA5 := hA4.below hb5 (by omega)
          have hs5 := hb5.size
          clear hfst hb5 hI4 hG4 hB4 hA4 d0 d1 d2
          go_wp2_with fail
          with_reducible refine (hwt _ hI5).mono ?_
          rintro e6 w7 ⟨v7, rfl, hO7, hb7⟩
          have hB7 := seq hB5 hb7
          have hA7 := hA5.below hb7 (by omega)
          have hO7 := hO7.mono (C := w.heap.size) (by omega)
          have hs7 := hb7.size
          obtain ⟨d0, d1, d2⟩ := hA7.cells
          clear hwt hb7 hI5 hB5 hA5
          by_cases hu : 1099511627776 < now + 16
          · have hmin : Hid (min (now + 16) 1099511627776 = 1099511627776) := hid (by omega)
            have hone : IsE (w7.alloc (.cells #[.int .i64 m, .int .u16 s, .int .u64 e, .int .u8 q, .int .i64 1099511627776] 36)) (some ⟨w7.heap.size, 0, none⟩) 1 1 [⟨m, s, e, q, 1099511627776⟩] := isE_one w7 ⟨m, s, e, q, 1099511627776⟩
            have hb5 := (Below.refl w7.heap.size w7).alloc (Nat.le_refl _) (.cells #[.int .i64 m, .int .u16 s, .int .u64 e, .int .u8 q, .int .i64 1099511627776] 36)
            have hO5 := hO7.below hb5
            go_wp2_with (with_reducible refine wpList_append_one (o := ⟨some 47, _, _, _, _, _⟩) rfl (.tmp 39) (.tmp 46) rfl v7 rfl ⟨w7.heap.size, 0, none⟩ 1 1 rfl w.heap.size L2 [⟨m, s, e, q, 1099511627776⟩] hO5 hone (by omega) (by omega) w (hB7.trans (hb5.mono hB7.size)) (by simp; omega) ?_; intro v6 w6 hG6 hB6)
            go_ret3
            refine ⟨v6, rfl, ?_, hB6⟩
            show GrE _ _ _ (evict L ++ [⟨m, s, e, q, min (now + 16) 1099511627776⟩])
            rw [HE.out, hmin.out]; exact hG6.out
          · have hmin : Hid (min (now + 16) 1099511627776 = (now + 16)) := hid (by omega)
            have hone : IsE (w7.alloc (.cells #[.int .i64 m, .int .u16 s, .int .u64 e, .int .u8 q, .int .i64 (now + 16)] 36)) (some ⟨w7.heap.size, 0, none⟩) 1 1 [⟨m, s, e, q, (now + 16)⟩] := isE_one w7 ⟨m, s, e, q, (now + 16)⟩
            have hb5 := (Below.refl w7.heap.size w7).alloc (Nat.le_refl _) (.cells #[.int .i64 m, .int .u16 s, .int .u64 e, .int .u8 q, .int .i64 (now + 16)] 36)
            have hO5 := hO7.below hb5
            go_wp2_with (with_reducible refine wpList_append_one (o := ⟨some 47, _, _, _, _, _⟩) rfl (.tmp 39) (.tmp 46) rfl v7 rfl ⟨w7.heap.size, 0, none⟩ 1 1 rfl w.heap.size L2 [⟨m, s, e, q, (now + 16)⟩] hO5 hone (by omega) (by omega) w (hB7.trans (hb5.mono hB7.size)) (by simp; omega) ?_; intro v6 w6 hG6 hB6)
            go_ret3
            refine ⟨v6, rfl, ?_, hB6⟩
            show GrE _ _ _ (evict L ++ [⟨m, s, e, q, min (now + 16) 1099511627776⟩])
            rw [HE.out, hmin.out]; exact hG6.out
        ·
          have hev : L.length < 32 := by omega
          have HE : Hid (evict L = L) := hid (by unfold evict; rw [if_neg hfull])
          have hO4 : OneE w4 w.heap.size (.slice p L.length cp) L := .inl hG4
          clear hG4 hI4 hG
          by_cases hu : 1099511627776 < now + 16
          · have hmin : Hid (min (now + 16) 1099511627776 = 1099511627776) := hid (by omega)
            have hone : IsE (w4.alloc (.cells #[.int .i64 m, .int .u16 s, .int .u64 e, .int .u8 q, .int .i64 1099511627776] 36)) (some ⟨w4.heap.size, 0, none⟩) 1 1 [⟨m, s, e, q, 1099511627776⟩] := isE_one w4 ⟨m, s, e, q, 1099511627776⟩
            have hb5 := (Below.refl w4.heap.size w4).alloc (Nat.le_refl _) (.cells #[.int .i64 m, .int .u16 s, .int .u64 e, .int .u8 q, .int .i64 1099511627776] 36)
            have hO5 := hO4.below hb5
            go_wp2_with (with_reducible refine wpList_append_one (o := ⟨some 47, _, _, _, _, _⟩) rfl (.tmp 39) (.tmp 46) rfl (.slice p L.length cp) rfl ⟨w4.heap.size, 0, none⟩ 1 1 rfl w.heap.size L [⟨m, s, e, q, 1099511627776⟩] hO5 hone (by omega) (by omega) w (hB4.trans (hb5.mono hB4.size)) (by simp; omega) ?_; intro v6 w6 hG6 hB6)
            go_ret3
            refine ⟨v6, rfl, ?_, hB6⟩
            show GrE _ _ _ (evict L ++ [⟨m, s, e, q, min (now + 16) 1099511627776⟩])
            rw [HE.out, hmin.out]; exact hG6.out
          · have hmin : Hid (min (now + 16) 1099511627776 = (now + 16)) := hid (by omega)
            have hone : IsE (w4.alloc (.cells #[.int .i64 m, .int .u16 s, .int .u64 e, .int .u8 q, .int .i64 (now + 16)] 36)) (some ⟨w4.heap.size, 0, none⟩) 1 1 [⟨m, s, e, q, (now + 16)⟩] := isE_one w4 ⟨m, s, e, q, (now + 16)⟩
            have hb5 := (Below.refl w4.heap.size w4).alloc (Nat.le_refl _) (.cells #[.int .i64 m, .int .u16 s, .int .u64 e, .int .u8 q, .int .i64 (now + 16)] 36)
            have hO5 := hO4.below hb5
            go_wp2_with (with_reducible refine wpList_append_one (o := ⟨some 47, _, _, _, _, _⟩) rfl (.tmp 39) (.tmp 46) rfl (.slice p L.length cp) rfl ⟨w4.heap.size, 0, none⟩ 1 1 rfl w.heap.size L [⟨m, s, e, q, (now + 16)⟩] hO5 hone (by omega) (by omega) w (hB4.trans (hb5.mono hB4.size)) (by simp; omega) ?_; intro v6 w6 hG6 hB6)
            go_ret3
            refine ⟨v6, rfl, ?_, hB6⟩
            show GrE _ _ _ (evict L ++ [⟨m, s, e, q, min (now + 16) 1099511627776⟩])
            rw [HE.out, hmin.out]; exact hG6.out
      · have HR2 := HR.out
        simp only [if_pos] at HR2
        subst HR2
        go_wp2_with fail
        go_ret3
        exact ⟨_, rfl, hG4, hB4⟩
    · have HR2 := HR.out
      simp only [if_pos, if_neg he] at HR2
      subst HR2
      go_wp2_with fail
      go_ret3
      exact ⟨_, rfl, hG, hB3⟩
end Go.Proofs.YtcmpdpcncjggkaaDoor
