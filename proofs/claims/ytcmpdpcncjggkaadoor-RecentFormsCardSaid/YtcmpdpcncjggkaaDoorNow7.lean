/-
  The tape's time.
-/
import Derived.Test.YtcmpdpcncjggkaaDoorSeen7
namespace Go.Proofs.YtcmpdpcncjggkaaDoor
open Go.RowKit
set_option linter.unusedSimpArgs false
set_option linter.unusedVariables false

theorem six (w : World) (B : Nat) (a b c : Nat) (h : w.heap[B]? = some (.cells #[.int .i64 a, .int .i64 b, .int .i64 c, .int .i64 1099511627776, .int .i64 1099511627777, .int .i64 (-1)] 3 (0, 0))) (v : Nat) (hv : v < 6) : ∃ x : Int, w.cell? ⟨B, v, none⟩ = some (.int .i64 x) := by
  rcases (by omega : v = 0 ∨ v = 1 ∨ v = 2 ∨ v = 3 ∨ v = 4 ∨ v = 5) with rfl | rfl | rfl | rfl | rfl | rfl
  · exact ⟨a, by rw [cell_of_row w B 0 _ _ _ h]; rfl⟩
  · exact ⟨b, by rw [cell_of_row w B 1 _ _ _ h]; rfl⟩
  · exact ⟨c, by rw [cell_of_row w B 2 _ _ _ h]; rfl⟩
  · exact ⟨1099511627776, by rw [cell_of_row w B 3 _ _ _ h]; rfl⟩
  · exact ⟨1099511627777, by rw [cell_of_row w B 4 _ _ _ h]; rfl⟩
  · exact ⟨-1, by rw [cell_of_row w B 5 _ _ _ h]; rfl⟩

def RetZ (g : Nat) (w : World) (e : Ending) (w' : World) : Prop := ∃ z : Int, e = .returned (.int .i64 z) ∧ TapeAt w' g ∧ Only g w w'

set_option maxHeartbeats 4000000 in
set_option maxRecDepth 100000 in
theorem now_any (g : Nat) (w : World) (hT : TapeAt w g) :
    Calls Tryd.prog 14 #[.pointer (some ⟨g, 0, none⟩)] w (RetZ g w) := by
  go_enter Tryd.func14, Tryd.ntmps14
  go_wp2_with fail
  with_reducible refine (next_any g 60 w hT (by omega) (by omega)).mono ?_
  rintro e1 w1 ⟨a, rfl, ha, hT1, hO1⟩
  go_wp2_with fail
  with_reducible refine (next_any g 60 w1 hT1 (by omega) (by omega)).mono ?_
  rintro e2 w2 ⟨b, rfl, hb, hT2, hO2⟩
  go_wp2_with fail
  with_reducible refine (next_any g 60 w2 hT2 (by omega) (by omega)).mono ?_
  rintro e3 w3 ⟨c, rfl, hc, hT3, hO3⟩
  have hO := (hO1.trans hO2).trans hO3
  have hg := hT3.lt
  have hb4 := (Below.refl w3.heap.size w3).alloc (Nat.le_refl _) (.cells #[.int .i64 a, .int .i64 b, .int .i64 c, .int .i64 1099511627776, .int .i64 1099511627777, .int .i64 (-1)] 3)
  have hr := heap_alloc_new w3 (.cells #[.int .i64 a, .int .i64 b, .int .i64 c, .int .i64 1099511627776, .int .i64 1099511627777, .int .i64 (-1)] 3)
  have hsz : (w3.alloc (.cells #[.int .i64 a, .int .i64 b, .int .i64 c, .int .i64 1099511627776, .int .i64 1099511627777, .int .i64 (-1)] 3)).heap.size = w3.heap.size + 1 := by simp
  clear hT hT1 hT2 hO1 hO2 hO3
  go_wp2_with fail
  generalize w3.alloc (.cells #[.int .i64 a, .int .i64 b, .int .i64 c, .int .i64 1099511627776, .int .i64 1099511627777, .int .i64 (-1)] 3) = w4 at *
  have hT4 := hT3.below hb4
  have hO4 := hO.trans (Only.ofBelow g hb4)
  with_reducible refine (next_any g 6 w4 hT4 (by omega) (by omega)).mono ?_
  rintro e5 w5 ⟨v, rfl, hv, hT5, hO5⟩
  have hr5 : w5.heap[w3.heap.size]? = _ := (hO5.block _ (by omega) (by omega)).trans hr
  obtain ⟨x, hx⟩ := six w5 _ a b c hr5 v (by omega)
  clear hr hr5
  go_wp2_with fail
  go_ret
  exact ⟨x, rfl, hT5, hO4.trans hO5⟩
end Go.Proofs.YtcmpdpcncjggkaaDoor
