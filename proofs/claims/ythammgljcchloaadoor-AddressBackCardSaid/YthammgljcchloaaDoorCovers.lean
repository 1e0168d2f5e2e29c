/-
  Covers.
-/
import Derived.Test.YthammgljcchloaaDoorContains
namespace Go.Proofs.YthammgljcchloaaDoor
open Go.RowKit
set_option linter.unusedSimpArgs false
set_option linter.unusedVariables false

def covP (l : List UInt8) (n : Int) (m : List UInt8) (k : Int) : Bool := conP m k m && decide (n ≤ k) && conP l n m
theorem wpList_load_pfx_on {ops : Array Oper} {rest : List Oper} {op : Oper} {a : Act} {w : World} {Q : Exit → Act → World → Prop} {g : Nat} {l : List UInt8} {n : Int} (hw : Region.wanted op (yielded ops a.tmps) = true) (x : Operand) (ho : op.op = .load 35 x)
    (hx : a.eval x = .pointer (some ⟨g, 0, none⟩)) (hK : Pr w g l n) (hl : l.length = 16)
    (h : wpList Tryd.prog ops Q rest (a.put op.dst (pv l n)) w) : wpList Tryd.prog ops Q (op :: rest) a w := by
  unfold wpList
  rw [if_pos hw]
  exact .inl (wp_load_mid 35 x ho g 0 hx (pl l n) _ hK Tryd.underlying35 rfl (by rw [length_pl l n hl]; exact pfx_info) h)

set_option maxHeartbeats 3200000 in
set_option maxRecDepth 100000 in
theorem covers_any (l m : List UInt8) (hl : l.length = 16) (hm : m.length = 16) (n k : Int) (hn : I64 n) (hk : I64 k) (w : World) :
    Calls Tryd.prog 25 #[pv l n, pv m k] w (RetS (.bool (covP l n m k)) w) := by
  have hP : Pr ((w.alloc (.cells (pl l n).toArray 35)).alloc (.cells (pl m k).toArray 35)) w.heap.size l n := (Pk.new w l n).pr.below ((Below.refl (w.heap.size + 1) _).alloc (by simp) _) (Nat.lt_succ_self _)
  have hQ : Pr ((w.alloc (.cells (pl l n).toArray 35)).alloc (.cells (pl m k).toArray 35)) (w.heap.size + 1) m k := by
    have := (Pk.new (w.alloc (.cells (pl l n).toArray 35)) m k).pr
    rwa [World.size_alloc] at this
  have hB := two_below w (.cells (pl l n).toArray 35) (.cells (pl m k).toArray 35)
  have hv := fun w => validp_any m hm k hk w
  have hc := fun w => contains_any l m hl hm n hn w
  have hdef : covP l n m k = (conP m k m && decide (n ≤ k) && conP l n m) := rfl
  generalize conP m k m = b1 at hv hdef
  generalize conP l n m = b2 at hc hdef
  have HD := hid hdef
  clear hdef
  rw [show pv l n = .agg (pl l n).toArray from rfl, show pv m k = .agg (pl m k).toArray from rfl]
  go_enter Tryd.func25, Tryd.ntmps25
  go_wp2_with (with_reducible refine wpList_load_pfx (op := ⟨some 5, _, _, _, _, _⟩) rfl (.tmp 3) rfl rfl hQ hm ?_)
  generalize (w.alloc _).alloc _ = w2 at hP hQ hB ⊢
  with_reducible refine (hv _).mono ?_
  rintro e3 w3 ⟨rfl, hb3⟩
  have hP3 := hP.below hb3 (hP.lt hl)
  have hQ3 := hQ.below hb3 (hQ.lt hm)
  have hB3 := hB.trans (hb3.mono hB.size)
  have z1 := hP3.bits hl
  have z2 := hQ3.bits hm
  clear hP hQ hB hb3 hv
  cases b1
  · go_wp2_with fail
    go_ret
    exact ⟨by rw [HD.out]; rfl, hB3⟩
  · by_cases hnk : n ≤ k
    · go_wp2_with (first
        | (refine wpList_load_pfx_on (op := ⟨some 15, _, _, _, _, _⟩) (by rfl) (.tmp 2) rfl rfl hP3 hl ?_)
        | (refine wpList_load_ry_on (op := ⟨some 17, _, _, _, _, _⟩) (by rfl) (.tmp 16) rfl rfl hQ3.ry hm ?_))
      with_reducible refine (hc _).mono ?_
      rintro e4 w4 ⟨rfl, hb4⟩
      go_wp2_with fail
      go_ret
      exact ⟨by rw [HD.out]; simp [hnk], hB3.trans (hb4.mono hB3.size)⟩
    · have hd : decide (n ≤ k) = false := decide_eq_false hnk
      have hd2 := hid hd
      clear hd
      go_wp2_with fail
      go_ret
      exact ⟨by rw [HD.out, hd2.out]; rfl, hB3⟩
end Go.Proofs.YthammgljcchloaaDoor
