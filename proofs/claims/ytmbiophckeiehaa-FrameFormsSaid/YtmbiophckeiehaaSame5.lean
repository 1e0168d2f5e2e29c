/-
  The reference's Same of frames that are equal.
-/
import Derived.Test.YtmbiophckeiehaaFv
import Derived.Test.YtmbiophckeiehaaSame
import Derived.BigRegion
import Derived.Deep.DeepCutAuto
namespace Go.Proofs.Ytmbiophckeiehaa
open Go.RowKit
set_option linter.unusedSimpArgs false
set_option linter.unusedVariables false

set_option maxHeartbeats 8000000 in
set_option maxRecDepth 100000 in
theorem rsame_eq (h : Hd) (a : Option Addr) (n c : Nat) (P : List UInt8) (b : Option Addr) (k d : Nat) (M : List UInt8) (a2 : Option Addr) (c2 : Nat) (b2 : Option Addr) (d2 : Nat) (w : World) (hP : IsB w a n c P) (hM : IsB w b k d M) (hP2 : IsB w a2 n c2 P) (hM2 : IsB w b2 k d2 M) :
    Calls Try.prog 32 #[fv h (.slice a n c) (.slice b k d), fv h (.slice a2 n c2) (.slice b2 k d2)] w (RetS (.bool true) w) := by
  have hF1 : Fr ((w.alloc (.cells (fvl h (.slice a n c) (.slice b k d)).toArray 31)).alloc (.cells (fvl h (.slice a2 n c2) (.slice b2 k d2)).toArray 31)) w.heap.size h (.slice a n c) (.slice b k d) := (Fk.new w h (.slice a n c) (.slice b k d)).fr.below ((Below.refl (w.heap.size + 1) _).alloc (by simp) _) (Nat.lt_succ_self _)
  have hF2 : Fr ((w.alloc (.cells (fvl h (.slice a n c) (.slice b k d)).toArray 31)).alloc (.cells (fvl h (.slice a2 n c2) (.slice b2 k d2)).toArray 31)) (w.heap.size + 1) h (.slice a2 n c2) (.slice b2 k d2) := by
    have := (Fk.new (w.alloc (.cells (fvl h (.slice a n c) (.slice b k d)).toArray 31)) h (.slice a2 n c2) (.slice b2 k d2)).fr
    rw [World.size_alloc] at this
    exact this
  have hB := two_below w (.cells (fvl h (.slice a n c) (.slice b k d)).toArray 31) (.cells (fvl h (.slice a2 n c2) (.slice b2 k d2)).toArray 31)
  have hP := hP.below hB
  have hM := hM.below hB
  have hP2 := hP2.below hB
  have hM2 := hM2.below hB
  rw [show fv h (.slice a n c) (.slice b k d) = .agg (fvl h (.slice a n c) (.slice b k d)).toArray from rfl, show fv h (.slice a2 n c2) (.slice b2 k d2) = .agg (fvl h (.slice a2 n c2) (.slice b2 k d2)).toArray from rfl]
  go_enter Try.func32, Try.ntmps32
  go_upto_region 1 with (fail)
  generalize (w.alloc _).alloc _ = w2 at *
  have cc0 := hF1.cells.1
  have cc1 := hF1.cells.2.1
  have cc2 := hF1.cells.2.2.1
  have cc3 := hF1.cells.2.2.2.1
  have cc4 := hF1.cells.2.2.2.2.1
  have cc5 := hF1.cells.2.2.2.2.2.1
  have cc6 := hF1.cells.2.2.2.2.2.2.1
  have cc7 := hF1.cells.2.2.2.2.2.2.2.1
  have cc8 := hF1.cells.2.2.2.2.2.2.2.2.1
  have cc9 := hF1.cells.2.2.2.2.2.2.2.2.2.1
  have cc10 := hF1.cells.2.2.2.2.2.2.2.2.2.2.1
  have cc11 := hF1.cells.2.2.2.2.2.2.2.2.2.2.2.1
  have cc12 := hF1.cells.2.2.2.2.2.2.2.2.2.2.2.2.1
  have cc13 := hF1.cells.2.2.2.2.2.2.2.2.2.2.2.2.2.1
  have cc14 := hF1.cells.2.2.2.2.2.2.2.2.2.2.2.2.2.2.1
  have cc15 := hF1.cells.2.2.2.2.2.2.2.2.2.2.2.2.2.2.2
  have dd0 := hF2.cells.1
  have dd1 := hF2.cells.2.1
  have dd2 := hF2.cells.2.2.1
  have dd3 := hF2.cells.2.2.2.1
  have dd4 := hF2.cells.2.2.2.2.1
  have dd5 := hF2.cells.2.2.2.2.2.1
  have dd6 := hF2.cells.2.2.2.2.2.2.1
  have dd7 := hF2.cells.2.2.2.2.2.2.2.1
  have dd8 := hF2.cells.2.2.2.2.2.2.2.2.1
  have dd9 := hF2.cells.2.2.2.2.2.2.2.2.2.1
  have dd10 := hF2.cells.2.2.2.2.2.2.2.2.2.2.1
  have dd11 := hF2.cells.2.2.2.2.2.2.2.2.2.2.2.1
  have dd12 := hF2.cells.2.2.2.2.2.2.2.2.2.2.2.2.1
  have dd13 := hF2.cells.2.2.2.2.2.2.2.2.2.2.2.2.2.1
  have dd14 := hF2.cells.2.2.2.2.2.2.2.2.2.2.2.2.2.2.1
  have dd15 := hF2.cells.2.2.2.2.2.2.2.2.2.2.2.2.2.2.2
  go_wp2_with fail
  clear cc0 dd0 cc1 dd1 cc2 dd2 cc3 dd3 cc4 dd4 cc5 dd5 cc6 dd6 cc7 dd7 cc8 dd8 cc9 dd9 cc10 dd10 cc11 dd11 cc12 dd12 cc13 dd13 cc14 dd14 cc15 dd15
  with_reducible refine (same_any a n c P a2 n c2 P _ hP hP2).mono ?_
  rintro e3 w3 ⟨rfl, hb3⟩
  have hB := hB.trans (hb3.mono hB.size)
  have c15 := (hF1.below hb3 hF1.lt).cells.2.2.2.2.2.2.2.2.2.2.2.2.2.2.2
  have d15 := (hF2.below hb3 hF2.lt).cells.2.2.2.2.2.2.2.2.2.2.2.2.2.2.2
  have hM := hM.below hb3
  have hM2 := hM2.below hb3
  have hpp : (P == P) = true := by simp
  have hmm : (M == M) = true := by simp
  rw [hpp]
  clear hb3 hF1 hF2 hP hP2
  go_wp2_with fail
  with_reducible refine (same_any b k d M b2 k d2 M _ hM hM2).mono ?_
  rintro e4 w4 ⟨rfl, hb4⟩
  rw [hmm]
  go_wp2_with fail
  go_ret
  exact ⟨rfl, hB.trans (hb4.mono hB.size)⟩
end Go.Proofs.Ytmbiophckeiehaa
