/-
  Prefixes by value: an address of 16 bytes and a number, 17 cells.
-/
import Derived.Test.YthammgljcchloaaDoorIpMore
import Derived.Test.YthammgljcchloaaDoorIpEq
import Derived.Test.YthammgljcchloaaDoorIpCopy
import Derived.Deep.RegionHeld3
namespace Go.Proofs.YthammgljcchloaaDoor
open Go.RowKit
set_option linter.unusedSimpArgs false
set_option linter.unusedVariables false

def pl (l : List UInt8) (n : Int) : List Value := l.map bv ++ [.int .i64 n]
/-- a prefix by value -/
def pv (l : List UInt8) (n : Int) : Value := .agg (pl l n).toArray
/-- block g holds a prefix -/
def Pr (w : World) (g : Nat) (l : List UInt8) (n : Int) : Prop := w.rangeAt g 0 (pl l n)
theorem pfx_info : (Tryd.prog.info? 35).map (·.size) = some 17 := by kernel_rfl
theorem length_pl (l : List UInt8) (n : Int) (h : l.length = 16) : (pl l n).length = 17 := by simp [pl, h]
theorem Pr.below {w w' : World} {g B : Nat} {l : List UInt8} {n : Int} (h : Pr w g l n) (hb : Below B w w') (hg : g < B) : Pr w' g l n := by
  intro j v hj
  rw [hb.cell (p := ⟨g, 0 + j, none⟩) hg]; exact h j v hj
theorem Pr.drew {w : World} {g : Nat} {l : List UInt8} {n : Int} (h : Pr w g l n) : Pr w.drew g l n := h
theorem Pr.ry {w : World} {g : Nat} {l : List UInt8} {n : Int} (h : Pr w g l n) : Ry w g l := by
  intro j v hj
  exact h j v (by unfold pl; rw [List.getElem?_append_left (List.getElem?_eq_some_iff.1 hj).1]; exact hj)
theorem Pr.bits {w : World} {g : Nat} {l : List UInt8} {n : Int} (h : Pr w g l n) (hl : l.length = 16) : w.cell? ⟨g, 16, none⟩ = some (.int .i64 n) := by
  have := h 16 (.int .i64 n) (by unfold pl; rw [List.getElem?_append_right (by simp [hl])]; simp [hl])
  rwa [Nat.zero_add] at this
theorem Pr.lt {w : World} {g : Nat} {l : List UInt8} {n : Int} (h : Pr w g l n) (hl : l.length = 16) : g < w.heap.size := by
  have h0 := h.bits hl
  simp only [World.cell?] at h0
  split at h0
  · rename_i hh; exact (Array.getElem?_eq_some_iff.1 hh).1
  · cases h0
theorem Pr.of_heap {w : World} {g : Nat} {l : List UInt8} {n : Int} {t : TypeId} {fr : Nat × Nat} (h : w.heap[g]? = some (.cells (pl l n).toArray t fr)) : Pr w g l n := by
  intro j v hj
  rw [Nat.zero_add, cell_of_row w g j _ _ _ h]
  simpa using hj
/-- a block of the call's own that holds a prefix -/
def Pk (w : World) (g : Nat) (l : List UInt8) (n : Int) : Prop := w.heap[g]? = some (.cells (pl l n).toArray 35 (0, 0))
theorem Pk.pr {w : World} {g : Nat} {l : List UInt8} {n : Int} (h : Pk w g l n) : Pr w g l n := Pr.of_heap h
theorem Pk.new (w : World) (l : List UInt8) (n : Int) : Pk (w.alloc (.cells (pl l n).toArray 35)) w.heap.size l n := heap_alloc_new w _
theorem Pk.below {w w' : World} {g B : Nat} {l : List UInt8} {n : Int} (h : Pk w g l n) (hb : Below B w w') (hg : g < B) : Pk w' g l n := by
  unfold Pk; rw [hb.block g hg]; exact h
theorem Pk.lt {w : World} {g : Nat} {l : List UInt8} {n : Int} (h : Pk w g l n) : g < w.heap.size := (Array.getElem?_eq_some_iff.1 h).1
theorem Pk.zero (w : World) : Pk (w.alloc (.cells #[.int .u8 0, .int .u8 0, .int .u8 0, .int .u8 0, .int .u8 0, .int .u8 0, .int .u8 0, .int .u8 0, .int .u8 0, .int .u8 0, .int .u8 0, .int .u8 0, .int .u8 0, .int .u8 0, .int .u8 0, .int .u8 0, .int .i64 0] 35)) w.heap.size (zeros 16) 0 := Pk.new w (zeros 16) 0

theorem wpList_load_pfx {ops : Array Oper} {rest : List Oper} {op : Oper} {a : Act} {w : World} {Q : Exit → Act → World → Prop} {g : Nat} {l : List UInt8} {n : Int} (hgd : op.guard = none) (x : Operand) (ho : op.op = .load 35 x)
    (hx : a.eval x = .pointer (some ⟨g, 0, none⟩)) (hK : Pr w g l n) (hl : l.length = 16)
    (h : wpList Tryd.prog ops Q rest (a.put op.dst (pv l n)) w) : wpList Tryd.prog ops Q (op :: rest) a w :=
  wpList_load_mid hgd 35 x ho g 0 hx (pl l n) _ hK Tryd.underlying35 rfl (by rw [length_pl l n hl]; exact pfx_info) h
theorem wpAnyH_pfx {ops : Array Oper} {Q : Exit → Act → World → Prop} {S : World → Prop} {i : Nat} {oi : Oper} {fuel : Nat} {listed : Array Bool} {a : Act} {w : World} {g : Nat} {l : List UInt8} {n : Int} (hi : ops[i]? = some oi)
    (hs : Region.noSelect ops = true) (hf : Region.free .any ops listed i = true) (hr : (Region.ready .any ops listed).contains i = true)
    (hQ : ∀ c a w, Q (.panic c) (a.put oi.dst (pv l n)) w → Q (.panic c) a w) (hw : Region.wanted oi (yielded ops a.tmps) = true) (x : Operand) (ho : oi.op = .load 35 x) (hx : a.eval x = .pointer (some ⟨g, 0, none⟩))
    (hl : l.length = 16) (hR : ∀ w, S w → Pr w g l n) (hS : S w)
    (h : wpAnyH Tryd.prog .any ops Q S fuel (listed.setIfInBounds i true) (a.put oi.dst (pv l n)) w) : wpAnyH Tryd.prog .any ops Q S (fuel + 1) listed a w :=
  wpAnyH_take hi hs hf hr hQ (yieldsIf_load_mid hw 35 x ho g 0 hx (pl l n) _ hR Tryd.underlying35 rfl (by rw [length_pl l n hl]; exact pfx_info)) hS h
theorem wpList_store_pfx {ops : Array Oper} {rest : List Oper} {op : Oper} {a : Act} {w : World} {Q : Exit → Act → World → Prop} {g : Nat} {l0 l : List UInt8} {n0 n : Int} (hgd : op.guard = none) (x y : Operand) (ho : op.op = .store 35 x y)
    (hx : a.eval x = .pointer (some ⟨g, 0, none⟩)) (hy : a.eval y = pv l n) (hK : Pk w g l0 n0) (hl0 : l0.length = 16) (hl : l.length = 16) (B : Nat) (w0 : World) (hB : Below B w0 w) (hg : B ≤ g)
    (h : ∀ w', Hid (Pr w' g l n) → Below B w0 w' → wpList Tryd.prog ops Q rest (a.put op.dst undef) w') : wpList Tryd.prog ops Q (op :: rest) a w := by
  have hlen := length_pl l0 n0 hl0
  have hth : w.there g 0 17 := fun j hj => ⟨by rw [Nat.zero_add, cell_of_row w g j _ _ _ hK]; simp; omega, frozen_of_row w g (0 + j) _ _ hK⟩
  have hsz : ((pl l n).toArray).size = 17 := by simp [length_pl l n hl]
  refine wpList_store_mid hgd 35 x y ho g 0 (pl l n).toArray hx (by rw [hy]; rfl) (by rw [hsz]; exact hth) (by rw [hsz]; exact pfx_info) (all_oneCell_toArray (fun v hv => by
    unfold pl at hv; simp at hv; rcases hv with ⟨b, _, rfl⟩ | rfl <;> rfl)) ?_
  refine h _ (hid ?_) (below_cells hg _ _ _ hB)
  exact World.rangeAt_setCells_same w g 0 _ (by rw [show (pl l n).toArray.toList.length = 17 from by simp [length_pl l n hl]]; exact hth)
theorem results_pfx {fn : Func} {t : Tmp} (hr : fn.results = #[.cell t 35]) {tmps : Array Value} {w : World} {g : Nat} {l : List UInt8} {n : Int} (hp : tmps.getD t undef = .pointer (some ⟨g, 0, none⟩)) (hR : Pr w g l n) (hl : l.length = 16) :
    (results fn tmps).run Tryd.prog w = .ok (pv l n) w := by
  have hload := run_loadVar_mid (P := Tryd.prog) w g 0 35 (pl l n) _ hR Tryd.underlying35 rfl (by rw [length_pl l n hl]; exact pfx_info)
  unfold results
  rw [hr]
  have hp' : tmps[t]?.getD undef = .pointer (some ⟨g, 0, none⟩) := by simpa using hp
  simp [hp', asAddr, hload]
  rfl

theorem ip_equal_at (d : Nat) (l m : List UInt8) (hl : l.length = 16) (hm : m.length = 16) (w : World) :
    (Op.equalIn (d + 2) 23 (iv l) (iv m)).run Tryd.prog w = .ok (l == m) w := by
  obtain ⟨i0, hi, _⟩ := info_parts info5
  obtain ⟨r, h1, h2⟩ := run_eqItems_plain (P := Tryd.prog) (w := w) d ip_u8_plain (row l) (row m) (List.range 16) _ _ (ip_items l hl) (ip_items m hm)
  rw [list_ext16 l m hl hm] at h2
  have h3 := run_equalIn_array (P := Tryd.prog) (w := w) (d + 1) (row l) (row m) ip_array hi
  have h4 : r = (l == m) := by rw [Bool.eq_iff_iff, h2, beq_iff_eq]
  rw [← h4, ← h1]
  exact h3
theorem pfx_part0 (l : List UInt8) (n : Int) (hl : l.length = 16) (w : World) : (part 23 (pl l n).toArray 0).run Tryd.prog w = .ok (iv l) w := by
  have hs : (sizeOf 23).run Tryd.prog w = .ok 16 w := by
    have h := ip_info
    cases hq : Tryd.prog.info? 23 with
    | none => simp [hq] at h
    | some i => simp [hq] at h; simp [sizeOf, typeInfo, hq, h]
  have e : List.take 16 (pl l n) = l.map bv := by
    rw [← hl, ← List.length_map (f := bv), pl, List.take_append_of_le_length (Nat.le_refl _), List.take_length]
  simp [part, isAgg, run_underlying ip_array, hs, e, iv, row]
theorem pfx_part1 (l : List UInt8) (n : Int) (hl : l.length = 16) (w : World) : (part 3 (pl l n).toArray 16).run Tryd.prog w = .ok (.int .i64 n) w := by
  have e : (pl l n).toArray[16]? = some (.int .i64 n) := by
    simp [pl, hl]
  simp [part, isAgg, run_underlying Tryd.underlying3, e]
set_option maxRecDepth 100000 in
theorem pfx_equal (l m : List UInt8) (n k : Int) (hl : l.length = 16) (hm : m.length = 16) (w : World) :
    (Op.equalIn 10000 35 (pv l n) (pv m k)).run Tryd.prog w = .ok (l == m && n == k) w := by
  rw [pv, pv, run_equalIn_struct w 9999 35 _ _ (by unfold Program.fieldsOf; simp only [Tryd.underlying35]) (by kernel_rfl)]
  unfold Program.fieldsOf
  simp only [Tryd.underlying35]
  have h1 := ip_equal_at 9997 l m hl hm w
  have h2 := run_equalIn_int w 9998 3 .i64 _ n k Tryd.underlying3
  rw [show 9997 + 2 = 9999 from rfl] at h1
  rw [show 9998 + 1 = 9999 from rfl] at h2
  simp only [Op.eqFields]
  rw [if_pos (by decide)]
  rw [Sem.run_bind, pfx_part0 l n hl w, Result.andThen_ok, Sem.run_bind, pfx_part0 m k hm w, Result.andThen_ok, Sem.run_bind, h1, Result.andThen_ok]
  cases hq : (l == m)
  · rw [if_pos (by decide)]; rfl
  · rw [if_neg (by decide), if_pos (by decide)]
    rw [Sem.run_bind, pfx_part1 l n hl w, Result.andThen_ok, Sem.run_bind, pfx_part1 m k hm w, Result.andThen_ok, Sem.run_bind, h2, Result.andThen_ok]
    cases hr : (n == k)
    · rw [if_pos (by decide)]; rfl
    · rw [if_neg (by decide)]; rfl
theorem pfx_eql (l m : List UInt8) (n k : Int) (hl : l.length = 16) (hm : m.length = 16) (w : World) :
    (binOp .eql 35 (pv l n) (pv m k)).run Tryd.prog w = .ok (.bool (l == m && n == k)) w := by
  have h := pfx_equal l m n k hl hm w
  unfold pv at h ⊢
  rw [run_eql_struct, h]; rfl
theorem pfx_neq (l m : List UInt8) (n k : Int) (hl : l.length = 16) (hm : m.length = 16) (w : World) :
    (binOp .neq 35 (pv l n) (pv m k)).run Tryd.prog w = .ok (.bool (!(l == m && n == k))) w := by
  have h := pfx_equal l m n k hl hm w
  unfold pv at h ⊢
  rw [run_neq_struct, h]; rfl
theorem pfx_guard : Tryd.prog.eqGuardType Tryd.prog.depth 35 = false := by kernel_rfl
theorem pfx_guarded (op : BinOp) (x y : Operand) (l m : List UInt8) (n k : Int) (w : World) : (eqGuard op 35 x y (pv l n) (pv m k)).run Tryd.prog w = .ok () w :=
  run_eqGuard_agg w op 35 x y (pl l n).toArray (pl m k).toArray pfx_guard
end Go.Proofs.YthammgljcchloaaDoor
