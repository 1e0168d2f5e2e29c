/-
  Two keys are compared.
-/
import Derived.Test.YtjlogmbgapnceaaKey
import Derived.ChangeKeysEq
import Derived.Laws.StructEq
namespace Go.Proofs.Ytjlogmbgapnceaa
open Go.RowKit

theorem mapM_some {α β : Type} (f : α → Option β) (g : α → β) : ∀ (L : List α), (∀ i ∈ L, f i = some (g i)) → L.mapM f = some (L.map g)
  | [], _ => rfl
  | a :: L, h => by
    rw [List.mapM_cons, h a (by simp), mapM_some f g L fun i hi => h i (by simp [hi])]
    rfl

theorem key_u8_cells : Try.prog.cellsOf 5 = 1 := by kernel_rfl
theorem key_u8_plain : Try.prog.plainKey 5 = true := by kernel_rfl
theorem key_array : Try.prog.underlying 23 = some (.array 16 5) := by kernel_rfl
theorem key_guard : Try.prog.eqGuardType Try.prog.depth 23 = false := by kernel_rfl

theorem key_items (l : List UInt8) (hl : l.length = 16) :
    (List.range 16).mapM (fun i => Try.prog.keyLits 1 5 (((row l).toList.drop (i * Try.prog.cellsOf 5)).take (Try.prog.cellsOf 5))) = some ((List.range 16).map fun i => [Lit.int .u8 (l.getD i 0).toNat]) := by
  refine mapM_some _ _ _ fun i hi => ?_
  have hi : i < 16 := by simpa using hi
  rw [key_u8_cells, Nat.mul_one]
  have e : ((row l).toList.drop i).take 1 = [Value.int .u8 (l.getD i 0).toNat] := by
    rw [List.take_one, List.head?_drop]
    simp [row, bv, List.getD_eq_getElem?_getD, show i < l.length by omega]
  rw [e]
  unfold Program.keyLits
  generalize l.getD i 0 = x
  have hb := x.toNat_lt
  have hw : (Lit.int .u8 (x.toNat : Int)).wf = true := by
    simp [Lit.wf, IntKind.min, IntKind.max, IntKind.bits, IntKind.signed]
    omega
  simp [Try.underlying5, hw]

theorem list_ext16 (l m : List UInt8) (hl : l.length = 16) (hm : m.length = 16) : (((List.range 16).map fun i => [Lit.int .u8 (l.getD i 0).toNat]).flatten = ((List.range 16).map fun i => [Lit.int .u8 (m.getD i 0).toNat]).flatten) ↔ l = m := by
  constructor
  · intro h
    apply List.ext_getElem (by omega)
    intro i h1 h2
    have h3 : ∀ (l : List UInt8), ((List.range 16).map fun i => [Lit.int .u8 (l.getD i 0).toNat]).flatten = (List.range 16).map fun i => Lit.int .u8 (l.getD i 0).toNat := by
      intro l
      generalize List.range 16 = L
      induction L with
      | nil => rfl
      | cons a L ih => simp only [List.map_cons, List.flatten_cons, ih]; rfl
    rw [h3, h3] at h
    have := congrArg (fun L => L[i]?) h
    simp [show i < 16 by omega, List.getD_eq_getElem?_getD, h1, h2] at this
    exact UInt8.toNat_inj.1 (by omega)
  · rintro rfl; rfl

theorem key_equal (l m : List UInt8) (hl : l.length = 16) (hm : m.length = 16) (w : World) :
    (Op.equal 23 (kv l) (kv m)).run Try.prog w = .ok (l == m) w := by
  obtain ⟨i0, hi, _⟩ := info_parts info5
  obtain ⟨r, h1, h2⟩ := run_eqItems_plain (P := Try.prog) (w := w) 9998 key_u8_plain (row l) (row m) (List.range 16) _ _ (key_items l hl) (key_items m hm)
  rw [list_ext16 l m hl hm] at h2
  have h3 := run_equalIn_array (P := Try.prog) (w := w) 9999 (row l) (row m) key_array hi
  have h4 : r = (l == m) := by rw [Bool.eq_iff_iff, h2, beq_iff_eq]
  rw [← h4, ← h1]
  exact h3

theorem key_eql (l m : List UInt8) (hl : l.length = 16) (hm : m.length = 16) (w : World) :
    (binOp .eql 23 (kv l) (kv m)).run Try.prog w = .ok (.bool (l == m)) w := by
  have h := key_equal l m hl hm w
  unfold kv at h ⊢
  simp [binOp, h]

theorem key_guarded (op : BinOp) (x y : Operand) (l m : List UInt8) (w : World) : (eqGuard op 23 x y (kv l) (kv m)).run Try.prog w = .ok () w :=
  run_eqGuard_agg w op 23 x y (row l) (row m) key_guard
end Go.Proofs.Ytjlogmbgapnceaa
