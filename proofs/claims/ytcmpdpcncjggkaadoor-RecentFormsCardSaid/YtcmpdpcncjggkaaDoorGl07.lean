/-
  What the listed variable (the link address of a device) holds when a statement's call begins; it stays so.
-/
import Derived.Test.YtcmpdpcncjggkaaDoorTapeAd
namespace Go.Proofs.YtcmpdpcncjggkaaDoor
open Go.RowKit
set_option linter.unusedSimpArgs false
set_option linter.unusedVariables false

structure GL (w : World) : Prop where
  ar : Ar w 0 2 1 0
  big : 1 ≤ w.heap.size
theorem GL.below {w w' : World} {B : Nat} (h : GL w) (hb : Below B w w') (h1 : 1 ≤ B) : GL w' := ⟨h.ar.below hb (by omega), Nat.le_trans h.big hb.size⟩
theorem GL.on {w w' : World} (h : GL w) (hb : Below w.heap.size w w') : GL w' := h.below hb h.big
end Go.Proofs.YtcmpdpcncjggkaaDoor
