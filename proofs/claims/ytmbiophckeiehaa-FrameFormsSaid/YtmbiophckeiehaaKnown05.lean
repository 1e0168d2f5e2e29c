/-
  The sanity check of layer 5.
-/
import Derived.Test.YtmbiophckeiehaaAck
namespace Go.Proofs.Ytmbiophckeiehaa
open Go.RowKit
set_option linter.unusedSimpArgs false
set_option linter.unusedVariables false

theorem isB_nil (w : World) : IsB w none 0 0 [] := ⟨rfl, Nat.le_refl _, by omega, by omega, fun _ => ⟨rfl, rfl⟩, by simp⟩
theorem ack7_ok : HOk (ackH 7) := by
  refine ⟨?_, ?_, ?_, ?_, ?_, ?_, ?_⟩ <;> simp [ackH, I64, U64, Ad3]

set_option maxHeartbeats 2000000 in
set_option maxRecDepth 100000 in
theorem known_any (w : World) : Calls Try.prog 7 #[] w (RetS (.bool true) w) := by
  obtain ⟨L, hL⟩ : ∃ L, L = encL (ackH 7) [] [] := ⟨_, rfl⟩
  have hl5 : L.length = 5 := by rw [hL, length_encL]; rfl
  have hv : validF (ackH 7) ([] : List UInt8).length ([] : List UInt8).length = true := rfl
  have hd := dec_enc (ackH 7) [] [] ack7_ok hv
  rw [← hL] at hd
  obtain ⟨d0, d1, d2, d3⟩ := hd
  have j1 : ∀ w, Calls Try.prog 20 #[.agg #[.int .i64 2, .bool false, .bool false, .bool false, .int .u8 7, .int .u16 0, .int .i64 0, .int .u16 0, .int .u64 0, .int .i64 0, .int .u16 0, .int .u64 0, .int .u32 0, .int .u8 0, .slice none 0 0, .slice none 0 0]] w (fun e w' => ∃ g, e = .returned (.tuple #[.slice (some ⟨g, 0, none⟩) 5 5, .int .i64 0]) ∧ w.heap.size ≤ g ∧ Own w' g L ∧ Below w.heap.size w w') := fun w => by
    have := encode_any (ackH 7) none 0 0 [] none 0 0 [] w ack7_ok (isB_nil w) (isB_nil w)
    refine this.mono ?_
    intro e w' h
    have h2 : RetEnc true (encL (ackH 7) [] []) w e w' := h
    rw [← hL] at h2
    unfold RetEnc at h2
    rw [if_pos rfl, hl5] at h2
    exact h2
  have j2 : ∀ g w, Own w g L → Calls Try.prog 21 #[.slice (some ⟨g, 0, none⟩) 5 5] w (fun e w' => ∃ p m, e = .returned (.tuple #[fv (ackH 7) p m, .int .i64 0]) ∧ Gr w' w.heap.size p [] ∧ Gr w' w.heap.size m [] ∧ Below w.heap.size w w') := fun g w hO => by
    have hI := hO.isB (by omega)
    rw [hl5] at hI
    refine (decode_any _ 5 5 L w hI).mono ?_
    intro e w' h
    unfold RetDec at h
    rw [d0, d1, d2, d3] at h
    exact h
  clear hL hv d0 d1 d2 d3
  go_enter Try.func7, Try.ntmps7
  go_wp2_with fail
  with_reducible refine (j1 _).mono ?_
  rintro e w1 ⟨g, rfl, hg, hO, hb1⟩
  go_wp2_with fail
  with_reducible refine (j2 _ _ hO).mono ?_
  rintro e w2 ⟨p, m, rfl, hGp, hGm, hb2⟩
  obtain ⟨pa, pc, rfl⟩ := hGp.form
  obtain ⟨ma, mc, rfl⟩ := hGm.form
  have hB := hb1.trans (hb2.mono hb1.size)
  have hK : Fk (w2.alloc (.cells #[.int .i64 0, .bool false, .bool false, .bool false, .int .u8 0, .int .u16 0, .int .i64 0, .int .u16 0, .int .u64 0, .int .i64 0, .int .u16 0, .int .u64 0, .int .u32 0, .int .u8 0, .slice none 0 0, .slice none 0 0] 31)) w2.heap.size zH (.slice none 0 0) (.slice none 0 0) := Fk.new w2 zH (.slice none 0 0) (.slice none 0 0)
  have hx := (Below.refl w2.heap.size w2).alloc (Nat.le_refl _) (.cells #[.int .i64 0, .bool false, .bool false, .bool false, .int .u8 0, .int .u16 0, .int .i64 0, .int .u16 0, .int .u64 0, .int .i64 0, .int .u16 0, .int .u64 0, .int .u32 0, .int .u8 0, .slice none 0 0, .slice none 0 0] 31)
  have hB := hB.trans (hx.mono hB.size)
  go_upto_region 3 with ((with_reducible refine wpList_store_frame (op := ⟨none, _, _, _, _, _⟩) ?_ (.tmp 3) (.tmp 13) ?_ ?_ (h := ackH 7) (p := .slice pa ([] : List UInt8).length pc) (m := .slice ma ([] : List UInt8).length mc) ?_ hK ?_ ?_ ?_); (· exact rfl); (· exact rfl); (· exact rfl); (· exact rfl); (· exact rfl); (· exact rfl); intro wz hRz hOz)
  have hBz := hB.trans (hOz.below (by have := hb1.size; have := hb2.size; omega) hB.size)
  have c4 := hRz.out.cells.2.2.2.2.1
  simp only [ackH] at c4
  clear hRz hOz hB hx hK hGp hGm hb1 hb2 hO j1 j2
  go_wp2_with fail
  go_ret
  exact ⟨rfl, hBz⟩
end Go.Proofs.Ytmbiophckeiehaa
