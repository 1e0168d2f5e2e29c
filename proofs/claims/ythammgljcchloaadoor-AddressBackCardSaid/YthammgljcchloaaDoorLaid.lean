/-
  What the rows' listed variables give to the walks; a world that holds them.
-/
import Derived.Test.YthammgljcchloaaDoorCards
import Derived.Test.YthammgljcchloaaDoorTie
import Derived.Test.YthammgljcchloaaDoorGl
import Derived.Test.YthammgljcchloaaDoorShelf
import Derived.Deep.DeepHandedRow
import Derived.Deep.DeepWitnessRowRef
import Derived.Stop.LaidErr
import Derived.Lib.LaidTab
import Derived.LaidMore
import Derived.MakeChecks
namespace Go.Proofs.YthammgljcchloaaDoor
open Go.RowKit
set_option linter.unusedSimpArgs false
set_option linter.unusedVariables false

theorem star_err : "*" ++ "errors.errorString" = "*errors.errorString" := by decide
theorem row_err (u : TypeId) (h : Tryd.prog.typeName? 3 u = some "*errors.errorString") : u = 139 :=
  typeName_ptr_named (nm := "errors.errorString") (by rw [star_err]; kernel_rfl) (by kernel_rfl) (by decide) u (by rw [star_err]; exact h)
theorem g1 : Tryd.prog.globalNamed "strconv.ErrSyntax" = some 1 := by kernel_rfl
theorem g2 : Tryd.prog.globalNamed "strconv.ErrRange" = some 2 := by kernel_rfl
theorem g7 : Tryd.prog.globalNamed "math/bits.deBruijn64tab" = some 7 := by kernel_rfl
theorem g1t : (Tryd.prog.globals[1]?).map (·.type) = some 84 := by kernel_rfl
theorem g2t : (Tryd.prog.globals[2]?).map (·.type) = some 84 := by kernel_rfl
theorem g3t : (Tryd.prog.globals[3]?).map (·.type) = some 135 := by kernel_rfl
theorem g7t : (Tryd.prog.globals[7]?).map (·.type) = some 148 := by kernel_rfl
theorem c_err : Tryd.prog.cellsOf 141 = 1 := by kernel_rfl
theorem c_str : Tryd.prog.cellsOf 9 = 1 := by kernel_rfl
theorem c_u64 : Tryd.prog.cellsOf 48 = 1 := by kernel_rfl
theorem c_u8 : Tryd.prog.cellsOf 5 = 1 := by kernel_rfl
theorem c_20 : Tryd.prog.cellsOf 135 = 20 := by kernel_rfl
theorem c_64 : Tryd.prog.cellsOf 148 = 64 := by kernel_rfl

def bruijn : List Int := [0, 1, 56, 2, 57, 49, 28, 3, 61, 58, 42, 50, 38, 29, 17, 4, 62, 47, 59, 36, 45, 43, 51, 22, 53, 39, 33, 30, 24, 18, 12, 5, 63, 55, 48, 27, 60, 41, 37, 16, 46, 35, 44, 21, 52, 32, 23, 11, 54, 26, 40, 15, 34, 20, 31, 10, 25, 14, 19, 9, 13, 8, 7, 6]
def bruijn32 : List Int := [0, 1, 28, 2, 29, 14, 24, 3, 30, 22, 20, 15, 25, 17, 4, 8, 31, 27, 13, 23, 21, 19, 16, 7, 26, 12, 18, 6, 11, 5, 10, 9]
def accepts : List Int := [128, 191, 160, 191, 128, 159, 144, 191, 128, 143, 0, 0, 0, 0, 0, 0, 0, 0, 0, 0, 0, 0, 0, 0, 0, 0, 0, 0, 0, 0, 0, 0]

theorem gl_of_laid {W : World} (h0 : laidMetH Tryd.prog Rows.addressBackRow.laid W) (hsh : W.ShapedOpen Tryd.prog) : GL W := by
  have h : laidMet Tryd.prog Rows.addressBackRow.laid W := by rw [← MakeChecks.laidMetH_plain _ _ _ (by kernel_rfl)]; exact h0
  have hR := h.tail.tail.tail.tail
  have hS := hR.tail
  obtain ⟨aR, sR, hvR, -, -, -⟩ := laid_sentinel hR g2 g2t Tryd.underlying84 row_err Tryd.underlying139 Tryd.underlying141 rfl rfl Tryd.underlying9 c_err c_str
  obtain ⟨aS, sS, hvS, -, -, -⟩ := laid_sentinel hS g1 g1t Tryd.underlying84 row_err Tryd.underlying139 Tryd.underlying141 rfl rfl Tryd.underlying9 c_err c_str
  have h7 : Lib.TabIs Tryd.prog W "math/bits.deBruijn64tab" .u8 bruijn := Lib.tabIs_of_head g7 g7t Tryd.underlying148 Tryd.underlying5 c_u8 c_64 h.tail
  have h3 : Lib.TabIs Tryd.prog W "internal/strconv.uint64pow10" .u64 Lib.pow10Tab := Lib.tabIs_of_head g_pow g3t Tryd.underlying135 Tryd.underlying48 c_u64 c_20 h.tail.tail
  have c1 := World.var?_cell g1 hvS 0
  have c2 := World.var?_cell g2 hvR 0
  have c7 := h7.cell g7 15 (by decide)
  refine ⟨Tryd.laysM145.s1_3 W hsh, ⟨_, _, by simpa using c1⟩, ⟨_, _, by simpa using c2⟩, h3, c7, ?_⟩
  have : (⟨7, 15, none⟩ : Addr).block < W.heap.size := by
    simp only [World.cell?] at c7
    split at c7
    · rename_i hh; exact (Array.getElem?_eq_some_iff.1 hh).1
    · cases c7
  simp at this; omega

abbrev synS : ByteArray := ⟨#[105, 110, 118, 97, 108, 105, 100, 32, 115, 121, 110, 116, 97, 120]⟩
abbrev rngS : ByteArray := ⟨#[118, 97, 108, 117, 101, 32, 111, 117, 116, 32, 111, 102, 32, 114, 97, 110, 103, 101]⟩
/-- A world for the witness: the settled one, two blocks more (the two errors' texts), each listed variable holding what its initialiser lays. -/
noncomputable def laidWorld (os : Os) : World :=
  let N := (World.settled Tryd.prog os).heap.size
  let w0 := World.holding Tryd.prog os ⟨#[.cells #[.string synS] 141, .cells #[.string rngS] 141], #[], []⟩
  let put (h : Array Obj) (g : Nat) (cs : Array Value) : Array Obj := h.modify g fun
    | .cells _ t frozen => .cells cs t frozen
    | o => o
  let h0 := put (put w0.heap 1 #[.iface 139 (.pointer (some ⟨N, 0, none⟩))]) 2 #[.iface 139 (.pointer (some ⟨N + 1, 0, none⟩))]
  let h1 := put (put h0 3 (Lib.pow10Tab.map (Value.int .u64)).toArray) 4 ((Pinned.utf8FirstZ.map fun (n : Nat) => (n : Int)).map (Value.int .u8)).toArray
  let h2 := put (put (put h1 5 (accepts.map (Value.int .u8)).toArray) 6 (bruijn32.map (Value.int .u8)).toArray) 7 (bruijn.map (Value.int .u8)).toArray
  { w0 with heap := h2 }
set_option maxRecDepth 1000000 in
theorem laid_met (os : Os) (args : Array Value) : laidMet Tryd.prog Rows.addressBackRow.laid ((laidWorld os).forCall (fun _ _ => 0) ⟨#[], args, []⟩).memory :=
  laidMet_of_run' 12 (by kernel_rfl) (by kernel_rfl)
end Go.Proofs.YthammgljcchloaaDoor
