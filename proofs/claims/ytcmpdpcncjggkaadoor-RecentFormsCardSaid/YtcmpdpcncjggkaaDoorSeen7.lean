/-
  The tape's list of received frames.
-/
import Derived.Test.YtcmpdpcncjggkaaDoorSpecR
import Derived.Test.YtcmpdpcncjggkaaDoorAdEq
namespace Go.Proofs.YtcmpdpcncjggkaaDoor
open Go.RowKit
set_option linter.unusedSimpArgs false
set_option linter.unusedVariables false

/-- what the tape's Device answers: a sender, of few -/
def RetDev (g : Nat) (w : World) (e : Ending) (w' : World) : Prop :=
  ∃ m s x, e = .returned (av m s x) ∧ Ad3 m s x ∧ (senderB m s x = true ∧ s < 100) ∧ TapeAt w' g ∧ Only g w w'

set_option maxHeartbeats 1600000 in
set_option maxRecDepth 100000 in
theorem device_good (g : Nat) (w : World) (hT : TapeAt w g) :
    Calls Tryd.prog 15 #[.pointer (some ⟨g, 0, none⟩)] w (RetDev g w) := by
  have hlt := hT.lt
  have hT1 := hT.below ((Below.refl w.heap.size w).alloc (Nat.le_refl _) (.cells #[.int .i64 0, .int .u16 0, .int .u64 0] 28))
  go_enter Tryd.func15, Tryd.ntmps15
  go_wp2_with fail
  have hO1 := Only.ofBelow g ((Below.refl w.heap.size w).alloc (Nat.le_refl _) (.cells #[.int .i64 0, .int .u16 0, .int .u64 0] 28))
  have cA : (w.alloc (.cells #[.int .i64 0, .int .u16 0, .int .u64 0] 28)).heap[w.heap.size]? = some (.cells #[.int .i64 0, .int .u16 0, .int .u64 0] 28 (0, 0)) := heap_alloc_new w _
  have hsz : (w.alloc (.cells #[.int .i64 0, .int .u16 0, .int .u64 0] 28)).heap.size = w.heap.size + 1 := by simp
  generalize w.alloc (.cells #[.int .i64 0, .int .u16 0, .int .u64 0] 28) = w1 at hT1 hO1 cA hsz ⊢
  with_reducible refine (next_any g 5 w1 hT1 (by omega) (by omega)).mono ?_
  rintro e w2 ⟨v, rfl, hv, hT2, hO2⟩
  go_wp2_with fail
  with_reducible refine (bool_any g 2 w2 hT2 (by omega) (by omega)).mono ?_
  rintro e w3 ⟨b, rfl, hT3, hO3⟩
  have hO13 := hO2.trans hO3
  have cA3 : w3.heap[w.heap.size]? = some (.cells #[.int .i64 0, .int .u16 0, .int .u64 0] 28 (0, 0)) := (hO13.block _ (by omega) (by omega)).trans cA
  have th := there_addr cA3
  have hO := hO1.trans hO13
  have hq : IntKind.u64.wrap (v : Int) = (v : Int) := by rw [u64_wrap_nat]; congr 1; omega
  have hq2 : IntKind.u16.wrap (v : Int) = (v : Int) := by simp [IntKind.wrap, IntKind.bits, IntKind.signed]; omega
  clear cA cA3 hT1 hO1 hT2 hO2 hO3 hO13
  cases b
  · go_wp2_with (with_reducible refine wpList_store_addr (op := ⟨none, _, _, _, _, _⟩) rfl (.tmp 2) (.tmp 14) rfl rfl rfl th ?_; intro w4 hR4 hO4)
    refine bodyPost_ret (results_addr rfl rfl hR4.out) rfl ⟨_, _, _, rfl, ⟨by unfold I64; omega, by omega, by unfold U64; omega⟩, ⟨by simp [senderB, validA], by omega⟩, hT3.only hO4 (by omega), only_two hO hO4 (Nat.le_refl _)⟩
  · go_wp2_with (with_reducible refine wpList_store_addr (op := ⟨none, _, _, _, _, _⟩) rfl (.tmp 2) (.tmp 11) rfl rfl rfl th ?_; intro w4 hR4 hO4)
    refine bodyPost_ret (results_addr rfl rfl hR4.out) rfl ⟨_, _, _, rfl, ⟨by unfold I64; omega, by omega, by unfold U64; omega⟩, ⟨by simp [senderB, validA], by omega⟩, hT3.only hO4 (by omega), only_two hO hO4 (Nat.le_refl _)⟩

theorem tape_under {w w' : World} {g B : Nat} (h : TapeAt w g) (hb : Below B w w') (hg : g < B) : TapeAt w' g := by
  have hlt := h.lt
  obtain ⟨a, len, cap, i, h1, h2, h3, h4, h5⟩ := h
  refine ⟨a, len, cap, i, ⟨h1.le, h1.max, h1.capmax, h1.nil, fun x hx => ?_⟩, h2, h3, by rw [hb.block g hg]; exact h4, h5⟩
  obtain ⟨c1, c2⟩ := h1.cells x hx
  refine ⟨fun hc => ⟨(c1 hc).1, Nat.lt_of_lt_of_le (c1 hc).2 hb.size⟩, fun j hj => ?_⟩
  obtain ⟨z, h6, h7⟩ := c2 j hj
  have hc : 0 < cap := by have := h1.le; omega
  have hxg := h5 x hx hc
  exact ⟨z, (hb.cell (p := ⟨x.block, x.off + j, none⟩) (show x.block < B by omega)).trans h6, h7⟩
theorem only_grow {w wr wk : World} {g : Nat} (h : Only g w wr) (hb : Below w.heap.size wr wk) : Only g w wk :=
  ⟨hb.os.trans h.os, hb.tape.trans h.tape, hb.output.trans h.output, Nat.le_trans h.size hb.size, fun k hk hn => (hb.block k hk).trans (h.block k hk hn)⟩
theorem GrE.only {w w' : World} {B k : Nat} {v : Value} {l : List Ent} (h : GrE w B v l) (hO : Only k w w') (hk : k < B) : GrE w' B v l := by
  refine ⟨h.1, ?_⟩
  rcases h.2 with h0 | ⟨g, cap, cur, hv, hB, hh, hr⟩
  · exact .inl h0
  · exact .inr ⟨g, cap, cur, hv, hB, by rw [hO.block g (Array.getElem?_eq_some_iff.1 hh).1 (by omega)]; exact hh, hr⟩

/-- where Seen stands -/
structure TS (w wr : World) (g : Nat) (v : Value) (L : List Ent) (n : Nat) : Prop where
  gr : GrE wr w.heap.size v L
  t : TapeAt wr g
  o : Only g w wr
  vl : VL L
  few : ∀ x ∈ L, x.s < 100
  len : L.length ≤ n
end Go.Proofs.YtcmpdpcncjggkaaDoor
