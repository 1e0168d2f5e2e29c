/-
  Two keys are compared.
-/
import Derived.Test.YthammgljcchloaaDoorIp
import Derived.ChangeKeysEq
import Derived.Laws.StructEq
namespace Go.Proofs.YthammgljcchloaaDoor
open Go.RowKit

theorem mapM_some {α β : Type} (f : α → Option β) (g : α → β) : ∀ (L : List α), (∀ i ∈ L, f i = some (g i)) → L.mapM f = some (L.map g)
  | [], _ => rfl
  | a :: L, h => by
    rw [List.mapM_cons, h a (by simp), mapM_some f g L fun i hi => h i (by simp [hi])]
    rfl

theorem ip_u8_cells : Tryd.prog.cellsOf 5 = 1 := by kernel_rfl
theorem ip_u8_plain : Tryd.prog.plainKey 5 = true := by kernel_rfl
theorem ip_array : Tryd.prog.underlying 23 = some (.array 16 5) := by kernel_rfl
theorem ip_guard : Tryd.prog.eqGuardType Tryd.prog.depth 23 = false := by kernel_rfl

theorem ip_items (l : List UInt8) (hl : l.length = 16) :
    (List.range 16).mapM (fun i => Tryd.prog.keyLits 1 5 (((row l).toList.drop (i * Tryd.prog.cellsOf 5)).take (Tryd.prog.cellsOf 5))) = some ((List.range 16).map fun i => [Lit.int .u8 (l.getD i 0).toNat]) := by
  refine mapM_some _ _ _ fun i hi => ?_
  have hi : i < 16 := by simpa using hi
  rw [ip_u8_cells, Nat.mul_one]
  have e : ((row l).toList.drop i).take 1 = [Value.int .u8 (l.getD i 0).toNat] := by
    rw [List.take_one, List.head?_drop]
    simp [row, bv, List.getD_eq_getElem?_getD, show i < l.length by omega]
  rw [e]
  unfold Program.keyLits
  generalize l.getD i 0 = x
  have hb := x.toNat_lt
  have hw : (Lit.int .u8 (x.toNat : Int)).wf = true := by
    simp [Lit.wf, IntKind.min, IntKind.max, IntKind.bits, IntKind.signed]
    omega
  simp [Tryd.underlying5, hw]

theorem list_ext16 (l m : List UInt8) (hl : l.length = 16) (hm : m.length = 16) : (((List.range 16).map fun i => [Lit.int .u8 (l.getD i 0).toNat]).flatten = ((List.range 16).map fun i => [Lit.int .u8 (m.getD i 0).toNat]).flatten) ↔ l = m := by
  constructor
  · intro h
    apply List.ext_getElem (by omega)
    intro i h1 h2
    have h3 : ∀ (l : List UInt8), ((List.range 16).map fun i => [Lit.int .u8 (l.getD i 0).toNat]).flatten = (List.range 16).map fun i => Lit.int .u8 (l.getD i 0).toNat := by
      intro l
      generalize List.range 16 = L
      induction L with
      | nil => rfl
      | cons a L ih => simp only [List.map_cons, List.flatten_cons, ih]; rfl
    rw [h3, h3] at h
    have := congrArg (fun L => L[i]?) h
    simp [show i < 16 by omega, List.getD_eq_getElem?_getD, h1, h2] at this
    exact UInt8.toNat_inj.1 (by omega)
  · rintro rfl; rfl

theorem ip_equal (l m : List UInt8) (hl : l.length = 16) (hm : m.length = 16) (w : World) :
    (Op.equal 23 (iv l) (iv m)).run Tryd.prog w = .ok (l == m) w := by
  obtain ⟨i0, hi, _⟩ := info_parts info5
  obtain ⟨r, h1, h2⟩ := run_eqItems_plain (P := Tryd.prog) (w := w) 9998 ip_u8_plain (row l) (row m) (List.range 16) _ _ (ip_items l hl) (ip_items m hm)
  rw [list_ext16 l m hl hm] at h2
  have h3 := run_equalIn_array (P := Tryd.prog) (w := w) 9999 (row l) (row m) ip_array hi
  have h4 : r = (l == m) := by rw [Bool.eq_iff_iff, h2, beq_iff_eq]
  rw [← h4, ← h1]
  exact h3

theorem ip_eql (l m : List UInt8) (hl : l.length = 16) (hm : m.length = 16) (w : World) :
    (binOp .eql 23 (iv l) (iv m)).run Tryd.prog w = .ok (.bool (l == m)) w := by
  have h := ip_equal l m hl hm w
  unfold iv at h ⊢
  simp [binOp, h]

theorem ip_guarded (op : BinOp) (x y : Operand) (l m : List UInt8) (w : World) : (eqGuard op 23 x y (iv l) (iv m)).run Tryd.prog w = .ok () w :=
  run_eqGuard_agg w op 23 x y (row l) (row m) ip_guard
end Go.Proofs.YthammgljcchloaaDoor
