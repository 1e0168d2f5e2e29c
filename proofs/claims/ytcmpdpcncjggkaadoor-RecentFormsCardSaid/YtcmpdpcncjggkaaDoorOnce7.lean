/-
  known; copies of a frame: the law's walk.
-/
import Derived.Test.YtcmpdpcncjggkaaDoorSpecR
import Derived.Test.YtcmpdpcncjggkaaDoorGl07
import Derived.Test.YtcmpdpcncjggkaaDoorMod
import Derived.Test.YtcmpdpcncjggkaaDoorTape
import Derived.Test.YtcmpdpcncjggkaaDoorLoU
namespace Go.Proofs.YtcmpdpcncjggkaaDoor
open Go.RowKit
set_option linter.unusedSimpArgs false
set_option linter.unusedVariables false

theorem known_one : recR [] 2 1 0 7 0 = ([⟨2, 1, 0, 7, 16⟩], true, 0) := by rfl
theorem known_two : recR [⟨2, 1, 0, 7, 16⟩] 2 1 0 7 15 = ([⟨2, 1, 0, 7, 16⟩], false, 0) := by rfl

set_option maxHeartbeats 4000000 in
set_option maxRecDepth 100000 in
theorem known_any (w : World) (G : GL w) : Calls Tryd.prog 12 #[] w (RetS (.bool true) w) := by
  have h1 := record_any none 0 0 [] 2 1 0 7 0 w (IsE.zero w)
  rw [known_one] at h1
  simp only [av] at h1
  obtain ⟨c0, c1, c2⟩ := G.ar.cells
  go_enter Tryd.func12, Tryd.ntmps12
  go_wp2_with fail
  with_reducible refine h1.mono ?_
  rintro e1 w2 ⟨v, rfl, hG, hb2⟩
  obtain ⟨p, cp, rfl, hI⟩ := hG.isE (by simp)
  have h2 := record_any p 1 cp [⟨2, 1, 0, 7, 16⟩] 2 1 0 7 15 w2 hI
  rw [known_two] at h2
  simp only [av] at h2
  obtain ⟨d0, d1, d2⟩ := (G.on hb2).ar.cells
  clear h1 c0 c1 c2 hG
  go_wp2_with fail
  with_reducible refine h2.mono ?_
  rintro e3 w3 ⟨v3, rfl, hG3, hb3⟩
  go_wp2_with fail
  go_ret
  exact ⟨ret_bool rfl, seq hb2 hb3⟩

/-- the list while copies come in -/
structure OI (L : List Ent) (i : Nat) (E : Int) : Prop where
  v : VL L
  len : L.length ≤ i + 1
  ex : ∃ x ∈ L, sameF 2 1 0 9 x = true ∧ x.u = E

theorem OI.start (now : Int) (h0 : 0 ≤ now) (h1 : now < 1099511627760) : recR [] 2 1 0 9 now = ([⟨2, 1, 0, 9, now + 16⟩], true, 0) ∧ OI [⟨2, 1, 0, 9, now + 16⟩] 0 (now + 16) := by
  have hV : VL [] := ⟨by simp, by simp, List.Pairwise.nil⟩
  have ht : timeB now = true := by simp [timeB]; omega
  have e := recR_new hV (m := 2) (s := 1) (e := 0) (q := 9) (by rfl) ht (by rfl)
  have hm : min (now + 16) 1099511627776 = now + 16 := by omega
  rw [hm] at e
  refine ⟨e, ⟨?_, Nat.le_refl _, ⟨_, List.mem_singleton.2 rfl, rfl, rfl⟩⟩⟩
  have := recR_valid hV (m := 2) (s := 1) (e := 0) (q := 9) (by rfl) ht
  rw [e] at this; exact this
theorem OI.other {L : List Ent} {i : Nat} {E : Int} (h : OI L i E) (hi : i ≤ 30) (q now : Int) (h0 : 0 ≤ now) (h1 : now < E) (hE : E ≤ 1099511627776) : (recR L 2 2 0 q now).2.2 = 0 ∧ OI (recR L 2 2 0 q now).1 (i + 1) E := by
  have ht : timeB now = true := by simp [timeB]; omega
  have hl := h.len
  obtain ⟨x, hx, hk, hu⟩ := h.ex
  refine ⟨recR_err h.v (by rfl) ht, recR_valid h.v (by rfl) ht, ?_, ⟨x, recR_mem h.v (by omega) (by rfl) ht hx (by omega), hk, hu⟩⟩
  have := recR_len h.v (by omega) (m := 2) (s := 2) (e := 0) (q := q) (by rfl) ht
  omega
theorem OI.more {L : List Ent} {i : Nat} {E : Int} (h : OI L i E) : OI L (i + 1) E := ⟨h.v, by have := h.len; omega, h.ex⟩
theorem OI.same {L : List Ent} {i : Nat} {E : Int} (h : OI L i E) (now : Int) (h0 : 0 ≤ now) (h1 : now < E) (hE : E ≤ 1099511627776) : recR L 2 1 0 9 now = (pruneL L now, false, 0) ∧ OI (pruneL L now) i E ∧ knownL (pruneL L now) 2 1 0 9 now = true := by
  have ht : timeB now = true := by simp [timeB]; omega
  obtain ⟨x, hx, hk, hu⟩ := h.ex
  have hx2 : x ∈ pruneL L now := mem_pruneL.2 ⟨hx, by omega⟩
  refine ⟨recR_has h.v (by rfl) ht ((hasF_iff _ _ _ _ _).2 ⟨x, hx2, hk⟩), ⟨h.v.prune now, Nat.le_trans (pruneL_len L now) h.len, ⟨x, hx2, hk, hu⟩⟩, known_mem (h.v.prune now) ht hx2 hk (by omega)⟩
theorem OI.last {L : List Ent} {i : Nat} {E : Int} (h : OI L i E) (h0 : 0 ≤ E) (hE : E ≤ 1099511627776) : (recR L 2 1 0 9 E).2 = (true, 0) := by
  have ht : timeB E = true := by simp [timeB]; omega
  obtain ⟨x, hx, hk, hu⟩ := h.ex
  rw [recR_new h.v (by rfl) ht (has_over h.v hx hk (by omega))]

theorem isI_some {w : World} {a : Option Addr} {len cap : Nat} (h : IsI w a len cap) (hp : 0 < len) :
    ∃ b off, a = some ⟨b, off, none⟩ ∧ b < w.heap.size ∧ ∀ j, j < len → ∃ z, w.cell? ⟨b, off + j, none⟩ = some (.int .i64 z) ∧ I64 z := by
  cases ha : a with
  | none => have := h.nil ha; omega
  | some x =>
    obtain ⟨h1, h2⟩ := h.cells x ha
    obtain ⟨h3, h4⟩ := h1 (by have := h.le; omega)
    obtain ⟨b, off, spot⟩ := x
    simp at h3 h4 h2
    subst h3
    exact ⟨b, off, rfl, h4, h2⟩

set_option maxHeartbeats 8000000 in
set_option maxRecDepth 100000 in
theorem once_walk (a0 : Option Addr) (len0 cap0 : Nat) (start : Int) (a2 : Option Addr) (len2 cap2 : Nat) (l2 : List UInt8) (w : World) (hT : IsI w a0 len0 cap0) (hs : I64 start) (hO : IsB w a2 len2 cap2 l2) (hc2 : cap2 ≤ 140737488351232) (G : GL w) :
    Calls Tryd.prog 5 #[.slice a0 len0 cap0, .int .i64 start, .slice a2 len2 cap2] w (RetS (.bool true) w) := by
  have hle0 := hT.le
  have hmx0 := hT.max
  have hle2 := hO.le
  have hmx2 := hO.max
  obtain ⟨c0, c1, c2⟩ := G.ar.cells
  go_enter Tryd.func5, Tryd.ntmps5
  go_wp2_with fail
  with_reducible refine (mod_some start 1099511627760 w (by omega) (by omega) hs).mono ?_
  rintro e1 w1 ⟨n0, rfl, hn0, rfl⟩
  obtain ⟨hr0, hi0⟩ := OI.start (n0 : Int) (by omega) hn0
  have h1 := record_any none 0 0 [] 2 1 0 9 (n0 : Int) w (IsE.zero w)
  rw [hr0] at h1
  simp only [av] at h1
  clear hr0
  go_wp2_with fail
  with_reducible refine h1.mono ?_
  rintro e2 w2 ⟨v, rfl, hG, hb2⟩
  clear h1
  have hGE : ∃ p cp, v = .slice p 1 cp ∧ IsE w2 p 1 cp [⟨2, 1, 0, 9, (n0 : Int) + 16⟩] := hG.isE (by simp)
  clear hG
  generalize hE : (n0 : Int) + 16 = E at *
  have hE2 : E ≤ 1099511627775 := by omega
  have hEn : (n0 : Int) = E - 16 := by omega
  have hE0 : 16 ≤ E := by omega
  generalize hL : [(⟨2, 1, 0, 9, E⟩ : Ent)] = L0 at *
  have HI := hid hi0
  have hll : L0.length = 1 := by rw [← hL]; rfl
  have HE2 := hid hE2
  clear hL hi0 hE hn0
  obtain ⟨p, cp, rfl, hI⟩ := hGE
  go_wp2_with fail
  go_loopw [7, 9, 12] (fun tn tv ti wr => ∃ (i : Nat) (n : Int) (L : List Ent) (p : Option Addr) (cp : Nat), i ≤ 31 ∧ i ≤ len0 ∧ ti = .int .i64 i ∧ tn = .int .i64 n ∧ tv = .slice p L.length cp ∧ 0 ≤ n ∧ n ≤ E - 1 ∧ Hid (OI L i E) ∧ IsE wr p L.length cp L ∧ Below w.heap.size w wr) (fun _ _ ti _ => len0 - (intOf ti).toNat)
  case atStart => exact ⟨0, E - 16, L0, p, cp, by omega, Nat.zero_le _, rfl, rfl, by rw [hll], by omega, by omega, HI, by rw [hll]; exact hI, hb2⟩
  case round =>
    clear HI hI c0 c1 c2 hb2 hll hE2 hEn
    obtain ⟨i, n, L, p, cp, hi31, hi, rfl, rfl, rfl, hn, hnE, HI, hI, hB⟩ := hrel
    obtain ⟨c0, c1, c2⟩ := (G.on hB).ar.cells
    by_cases hlt0 : i < len0
    · by_cases hlt31 : i < 31
      · obtain ⟨b, off, rfl, hbl, hcc⟩ := isI_some hT (by omega)
        obtain ⟨tv, htv, htc⟩ := hcc i hlt0
        have htc2 := (hB.cell (p := ⟨b, off + i, none⟩) hbl).trans htv
        clear hcc htv
        go_wp2_with fail
        with_reducible refine (mod_some tv 5 wr (by omega) (by omega) htc).mono ?_
        rintro e3 w3 ⟨r, rfl, hr, rfl⟩
        have hw1 : IntKind.i64.wrap (n + (r : Int)) = n + (r : Int) := by have := HE2.out; simp [IntKind.wrap, IntKind.bits, IntKind.signed]; omega
        have hw2 : IntKind.i64.wrap (E - 1) = E - 1 := by have := HE2.out; simp [IntKind.wrap, IntKind.bits, IntKind.signed]; omega
        by_cases hc : E - 1 < n + (r : Int)
        · by_cases ho : i < len2
          ·
            obtain ⟨b2, off2, rfl, hbl2, hcc2⟩ := hO.some (by omega)
            have hx := (hB.cell (p := ⟨b2, off2 + i, none⟩) hbl2).trans (hcc2 i ho)
            clear hcc2
            generalize ((l2.getD i 0).toNat : Int) = q at hx
            have hq := HI.out.other (by omega) q (E - 1) (by omega) (by omega) (by have := HE2.out; omega)
            have h1 := record_any p L.length cp L 2 2 0 q (E - 1) wr hI
            simp only [av] at h1
            generalize recR L 2 2 0 q (E - 1) = R at hq h1
            obtain ⟨L1, b1, er⟩ := R
            obtain ⟨hq1, hq2⟩ := hq
            simp only at hq1 hq2
            subst hq1
            have HI1 := hid hq2
            clear hq2 HI hI
            go_wp2_with fail
            with_reducible refine h1.mono ?_
            rintro e4 w4 ⟨v4, rfl, hG4, hb4⟩
            obtain ⟨p4, cp4, rfl, hI4⟩ := hG4.isE (by have := HI1.out.v.len; simp only at this ⊢; omega)
            have hB4 := seq hB hb4
            obtain ⟨d0, d1, d2⟩ := (G.on hB4).ar.cells
            clear h1 hG4 hb4 hB c0 c1 c2 hx htc2
            obtain ⟨hs1, hs2, hs3⟩ := HI1.out.same (E - 1) (by omega) (by omega) (by have := HE2.out; omega)
            have h5 := record_any p4 L1.length cp4 L1 2 1 0 9 (E - 1) w4 hI4
            rw [hs1] at h5
            simp only [av] at h5
            have HI5 := hid hs2
            generalize pruneL L1 (E - 1) = L5 at h5 HI5 hs3
            clear hs1 hs2 HI1
            go_wp2_with fail
            with_reducible refine h5.mono ?_
            rintro e5 w5 ⟨v5, rfl, hG5, hb5⟩
            obtain ⟨p5, cp5, rfl, hI5⟩ := hG5.isE (by have := HI5.out.v.len; simp only at this ⊢; omega)
            have hB5 := seq hB4 hb5
            have h6 := known7_any p5 L5.length cp5 L5 2 1 0 9 (E - 1) w5 hI5
            rw [hs3] at h6
            simp only [av] at h6
            obtain ⟨f0, f1, f2⟩ := (G.on hB5).ar.cells
            clear h5 hG5 hb5 hB4 hs3
            go_wp2_with fail
            with_reducible refine h6.mono ?_
            rintro e6 w6 ⟨rfl, hb6⟩
            have hB6 := seq hB5 hb6
            have hI6 := hI5.below hb6
            clear h6 hb6 hB5 hI5 f0 f1 f2
            go_wp2_with fail
            go_roundw
            case rel => exact ⟨i + 1, (E - 1), L5, p5, cp5, by omega, by omega, by go_num, rfl, rfl, by omega, by omega, HI5, hI6, hB6⟩
            case measure => simp [intOf]; omega
          ·
            have HI1 := hid HI.out.more
            clear HI
            obtain ⟨hs1, hs2, hs3⟩ := HI1.out.same (E - 1) (by omega) (by omega) (by have := HE2.out; omega)
            have h5 := record_any p L.length cp L 2 1 0 9 (E - 1) wr hI
            rw [hs1] at h5
            simp only [av] at h5
            have HI5 := hid hs2
            generalize pruneL L (E - 1) = L5 at h5 HI5 hs3
            clear hs1 hs2 HI1
            go_wp2_with fail
            with_reducible refine h5.mono ?_
            rintro e5 w5 ⟨v5, rfl, hG5, hb5⟩
            obtain ⟨p5, cp5, rfl, hI5⟩ := hG5.isE (by have := HI5.out.v.len; simp only at this ⊢; omega)
            have hB5 := seq hB hb5
            have h6 := known7_any p5 L5.length cp5 L5 2 1 0 9 (E - 1) w5 hI5
            rw [hs3] at h6
            simp only [av] at h6
            obtain ⟨f0, f1, f2⟩ := (G.on hB5).ar.cells
            clear h5 hG5 hb5 hB hs3
            go_wp2_with fail
            with_reducible refine h6.mono ?_
            rintro e6 w6 ⟨rfl, hb6⟩
            have hB6 := seq hB5 hb6
            have hI6 := hI5.below hb6
            clear h6 hb6 hB5 hI5 f0 f1 f2
            go_wp2_with fail
            go_roundw
            case rel => exact ⟨i + 1, (E - 1), L5, p5, cp5, by omega, by omega, by go_num, rfl, rfl, by omega, by omega, HI5, hI6, hB6⟩
            case measure => simp [intOf]; omega
        · by_cases ho : i < len2
          ·
            obtain ⟨b2, off2, rfl, hbl2, hcc2⟩ := hO.some (by omega)
            have hx := (hB.cell (p := ⟨b2, off2 + i, none⟩) hbl2).trans (hcc2 i ho)
            clear hcc2
            generalize ((l2.getD i 0).toNat : Int) = q at hx
            have hq := HI.out.other (by omega) q (n + (r : Int)) (by omega) (by omega) (by have := HE2.out; omega)
            have h1 := record_any p L.length cp L 2 2 0 q (n + (r : Int)) wr hI
            simp only [av] at h1
            generalize recR L 2 2 0 q (n + (r : Int)) = R at hq h1
            obtain ⟨L1, b1, er⟩ := R
            obtain ⟨hq1, hq2⟩ := hq
            simp only at hq1 hq2
            subst hq1
            have HI1 := hid hq2
            clear hq2 HI hI
            go_wp2_with fail
            with_reducible refine h1.mono ?_
            rintro e4 w4 ⟨v4, rfl, hG4, hb4⟩
            obtain ⟨p4, cp4, rfl, hI4⟩ := hG4.isE (by have := HI1.out.v.len; simp only at this ⊢; omega)
            have hB4 := seq hB hb4
            obtain ⟨d0, d1, d2⟩ := (G.on hB4).ar.cells
            clear h1 hG4 hb4 hB c0 c1 c2 hx htc2
            obtain ⟨hs1, hs2, hs3⟩ := HI1.out.same (n + (r : Int)) (by omega) (by omega) (by have := HE2.out; omega)
            have h5 := record_any p4 L1.length cp4 L1 2 1 0 9 (n + (r : Int)) w4 hI4
            rw [hs1] at h5
            simp only [av] at h5
            have HI5 := hid hs2
            generalize pruneL L1 (n + (r : Int)) = L5 at h5 HI5 hs3
            clear hs1 hs2 HI1
            go_wp2_with fail
            with_reducible refine h5.mono ?_
            rintro e5 w5 ⟨v5, rfl, hG5, hb5⟩
            obtain ⟨p5, cp5, rfl, hI5⟩ := hG5.isE (by have := HI5.out.v.len; simp only at this ⊢; omega)
            have hB5 := seq hB4 hb5
            have h6 := known7_any p5 L5.length cp5 L5 2 1 0 9 (n + (r : Int)) w5 hI5
            rw [hs3] at h6
            simp only [av] at h6
            obtain ⟨f0, f1, f2⟩ := (G.on hB5).ar.cells
            clear h5 hG5 hb5 hB4 hs3
            go_wp2_with fail
            with_reducible refine h6.mono ?_
            rintro e6 w6 ⟨rfl, hb6⟩
            have hB6 := seq hB5 hb6
            have hI6 := hI5.below hb6
            clear h6 hb6 hB5 hI5 f0 f1 f2
            go_wp2_with fail
            go_roundw
            case rel => exact ⟨i + 1, (n + (r : Int)), L5, p5, cp5, by omega, by omega, by go_num, rfl, rfl, by omega, by omega, HI5, hI6, hB6⟩
            case measure => simp [intOf]; omega
          ·
            have HI1 := hid HI.out.more
            clear HI
            obtain ⟨hs1, hs2, hs3⟩ := HI1.out.same (n + (r : Int)) (by omega) (by omega) (by have := HE2.out; omega)
            have h5 := record_any p L.length cp L 2 1 0 9 (n + (r : Int)) wr hI
            rw [hs1] at h5
            simp only [av] at h5
            have HI5 := hid hs2
            generalize pruneL L (n + (r : Int)) = L5 at h5 HI5 hs3
            clear hs1 hs2 HI1
            go_wp2_with fail
            with_reducible refine h5.mono ?_
            rintro e5 w5 ⟨v5, rfl, hG5, hb5⟩
            obtain ⟨p5, cp5, rfl, hI5⟩ := hG5.isE (by have := HI5.out.v.len; simp only at this ⊢; omega)
            have hB5 := seq hB hb5
            have h6 := known7_any p5 L5.length cp5 L5 2 1 0 9 (n + (r : Int)) w5 hI5
            rw [hs3] at h6
            simp only [av] at h6
            obtain ⟨f0, f1, f2⟩ := (G.on hB5).ar.cells
            clear h5 hG5 hb5 hB hs3
            go_wp2_with fail
            with_reducible refine h6.mono ?_
            rintro e6 w6 ⟨rfl, hb6⟩
            have hB6 := seq hB5 hb6
            have hI6 := hI5.below hb6
            clear h6 hb6 hB5 hI5 f0 f1 f2
            go_wp2_with fail
            go_roundw
            case rel => exact ⟨i + 1, (n + (r : Int)), L5, p5, cp5, by omega, by omega, by go_num, rfl, rfl, by omega, by omega, HI5, hI6, hB6⟩
            case measure => simp [intOf]; omega
      · obtain rfl : i = 31 := by omega
        obtain ⟨hl1, hl2⟩ : (recR L 2 1 0 9 E).2.1 = true ∧ (recR L 2 1 0 9 E).2.2 = 0 := by
          have := HI.out.last (by omega) (by have := HE2.out; omega)
          rw [this]; exact ⟨rfl, rfl⟩
        have h5 := record_any p L.length cp L 2 1 0 9 E wr hI
        generalize recR L 2 1 0 9 E = R at h5 hl1 hl2
        obtain ⟨L5, b5, e5⟩ := R
        simp only at hl1 hl2
        subst hl1 hl2
        simp only [av] at h5
        go_wp2_with fail
        with_reducible refine h5.mono ?_
        rintro e5 w5 ⟨v5, rfl, hG5, hb5⟩
        have hB5 := seq hB hb5
        clear h5 hG5 hb5 hI
        go_wp2_with fail
        with_reducible refine (known_any w5 (G.on hB5)).mono ?_
        rintro e6 w6 ⟨rfl, hb6⟩
        have hB6 := seq hB5 hb6
        go_wp2_with fail
        go_ret
        exact ⟨ret_bool rfl, hB6⟩
    · obtain rfl : i = len0 := by omega
      obtain ⟨hl1, hl2⟩ : (recR L 2 1 0 9 E).2.1 = true ∧ (recR L 2 1 0 9 E).2.2 = 0 := by
        have := HI.out.last (by omega) (by have := HE2.out; omega)
        rw [this]; exact ⟨rfl, rfl⟩
      have h5 := record_any p L.length cp L 2 1 0 9 E wr hI
      generalize recR L 2 1 0 9 E = R at h5 hl1 hl2
      obtain ⟨L5, b5, e5⟩ := R
      simp only at hl1 hl2
      subst hl1 hl2
      simp only [av] at h5
      go_wp2_with fail
      with_reducible refine h5.mono ?_
      rintro e5 w5 ⟨v5, rfl, hG5, hb5⟩
      have hB5 := seq hB hb5
      clear h5 hG5 hb5 hI
      go_wp2_with fail
      with_reducible refine (known_any w5 (G.on hB5)).mono ?_
      rintro e6 w6 ⟨rfl, hb6⟩
      have hB6 := seq hB5 hb6
      go_wp2_with fail
      go_ret
      exact ⟨ret_bool rfl, hB6⟩
end Go.Proofs.YtcmpdpcncjggkaaDoor
