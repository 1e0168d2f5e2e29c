/-
  What the rows' listed variable gives to the walks; a world that holds it.
-/
import Derived.Test.YtcmpdpcncjggkaaDoorCards
import Derived.Test.YtcmpdpcncjggkaaDoorTie
import Derived.Test.YtcmpdpcncjggkaaDoorGl07
import Derived.Deep.DeepHandedRow
import Derived.Deep.DeepWitnessRowRef
import Derived.Lib.LaidU8
import Derived.LaidMore
import Derived.MakeChecks
namespace Go.Proofs.YtcmpdpcncjggkaaDoor
open Go.RowKit
set_option linter.unusedSimpArgs false
set_option linter.unusedVariables false

theorem g0 : Tryd.prog.globalNamed "multihop/multihoplaw07.one" = some 0 := by kernel_rfl
theorem g0t : (Tryd.prog.globals[0]?).map (·.type) = some 28 := by kernel_rfl
theorem c_addr : Tryd.prog.cellsOf 28 = 3 := by kernel_rfl
theorem c_int : Tryd.prog.cellsOf 3 = 1 := by kernel_rfl
theorem c_short : Tryd.prog.cellsOf 24 = 1 := by kernel_rfl
theorem c_eui : Tryd.prog.cellsOf 26 = 1 := by kernel_rfl

theorem cell_of {t : TypeId} {k : IntKind} {H : Type} {enc : TypeId × Value → H} {P : Program} {w : World} {base : Nat} {sp : Nat → Bool} {held : Bool} {n : Nat} (hu : P.underlying t = some (.int k)) {c : Value} {z : Int} {p : List MemPlace}
    (h : DataW.trod enc P w base sp held n t [c] = some (.lit (.int k z), p)) : c = .int k z := by
  obtain ⟨z', hc, hd, _⟩ := DataW.trod_int hu h
  simp at hc hd
  rw [hc, hd.1]

set_option maxRecDepth 100000 in
theorem gl_of_laid {W : World} (h0 : laidMetH Tryd.prog Rows.recentOnceRow.laid W) (hsh : W.ShapedOpen Tryd.prog) : GL W := by
  have h : laidMet Tryd.prog Rows.recentOnceRow.laid W := by rw [← MakeChecks.laidMetH_plain _ _ _ (by kernel_rfl)]; exact h0
  obtain ⟨ps, ⟨g, t, cs, fuel, p, q, h1, h2, h3, h4, _⟩, _⟩ := h
  rw [g0] at h1
  injection h1 with h1
  subst h1
  rw [g0t] at h2
  injection h2 with h2
  subst h2
  obtain ⟨xs, n, rfl, hx, hl, hxl, hall⟩ := DataW.trod_struct Tryd.underlying28 h4
  rw [c_addr] at hl
  obtain ⟨l⟩ := cs
  match l, hl with
  | [a, b, c], _ =>
    match xs, hxl with
    | [x, y, z], _ =>
      have k0 := hall 0 _ rfl
      have k1 := hall 1 _ rfl
      have k2 := hall 2 _ rfl
      obtain ⟨x1, x2⟩ := x
      obtain ⟨y1, y2⟩ := y
      obtain ⟨z1, z2⟩ := z
      have hx1 := congrArg Prod.fst hx
      simp [Rows.laid_multihop_multihoplaw07_one] at hx1
      obtain ⟨rfl, rfl, rfl⟩ := hx1
      simp only [c_int, c_short, c_eui, List.drop, List.take, List.getElem?_cons_zero, List.getElem?_cons_succ] at k0 k1 k2
      have e0 := cell_of Tryd.underlying3 k0
      have e1 := cell_of Tryd.underlying24 k1
      have e2 := cell_of Tryd.underlying26 k2
      subst e0 e1 e2
      have c0 := World.var?_cell g0 h3 0
      have c1 := World.var?_cell g0 h3 1
      have c2 := World.var?_cell g0 h3 2
      refine ⟨fun j v hj => ?_, ?_⟩
      · match j, hj with
        | 0, hj => simpa [avl] using c0.trans hj
        | 1, hj => simpa [avl] using c1.trans hj
        | 2, hj => simpa [avl] using c2.trans hj
        | j + 3, hj => simp [avl] at hj
      · simp only [World.cell?] at c0
        split at c0
        · rename_i hh
          exact (Array.getElem?_eq_some_iff.1 hh).1
        · simp at c0

/-- A world for the witness: the settled one, the listed variable holding what its initialiser lays. -/
noncomputable def laidWorld (os : Os) : World :=
  let w0 := World.settled Tryd.prog os
  { w0 with heap := w0.heap.modify 0 fun
    | .cells _ t frozen => .cells #[.int .i64 2, .int .u16 1, .int .u64 0] t frozen
    | o => o }
set_option maxRecDepth 1000000 in
theorem laid_met (os : Os) (args : Array Value) : laidMet Tryd.prog Rows.recentOnceRow.laid ((laidWorld os).forCall (fun _ _ => 0) ⟨#[], args, []⟩).memory :=
  laidMet_of_run' 12 (by kernel_rfl) (by kernel_rfl)
end Go.Proofs.YtcmpdpcncjggkaaDoor
