/-
  writeGroups: the text of the groups of a slice of bytes.
-/
import Derived.Test.YthammgljcchloaaDoorIter
import Derived.Test.YthammgljcchloaaDoorAu
import Derived.RangeFuncBox
import Derived.Maps.AppendAt
import Derived.Test.YthammgljcchloaaDoorGrowMore
namespace Go.Proofs.YthammgljcchloaaDoor
open Go.RowKit Go.Shelf
set_option linter.unusedSimpArgs false
set_option linter.unusedVariables false
attribute [local go_sem] Oper.semAt_some

def gtext (l : List (Nat × Nat)) : List UInt8 := l.flatMap fun x => (if 0 < x.1 then [58] else []) ++ hexs x.2
theorem gtext_snoc (l : List (Nat × Nat)) (x : Nat × Nat) : gtext (l ++ [x]) = gtext l ++ ((if 0 < x.1 then [58] else []) ++ hexs x.2) := by simp [gtext]
def vals (l : List GV) : List (Nat × Nat) := l.map (·.1)
theorem length_gtext : ∀ (l : List GV), (gtext (vals l)).length ≤ 5 * l.length
  | [] => by simp [gtext, vals]
  | x :: l => by
    have h1 := length_gtext l
    have h2 := (length_hexs x.1.2 x.2.1).2
    simp only [gtext, vals, List.map_cons, List.flatMap_cons, List.length_append, List.length_cons] at h1 ⊢
    have h3 : (if 0 < x.1.1 then [(58 : UInt8)] else []).length ≤ 1 := by split <;> simp
    omega


theorem run_string_isB {w : World} {a : Option Addr} {len cap : Nat} {l : List UInt8} (h : IsB w a len cap l) :
    (convert 26 9 (.slice a len cap)).run Tryd.prog w = .ok (.string ⟨l.toArray⟩) w := by
  obtain rfl := h.length
  cases a with
  | none =>
    obtain ⟨h0, rfl⟩ := h.nil rfl
    obtain rfl : l = [] := List.eq_nil_of_length_eq_zero h0
    simp [convert, run_underlying Tryd.underlying26, run_underlying Tryd.underlying5, run_underlying Tryd.underlying9, Conv.bytesToString, Builtin.firstCells]
    rfl
  | some ad =>
    refine run_convert_bytes_back w 26 9 5 ad cap l Tryd.underlying26 Tryd.underlying5 Tryd.underlying9 fun j hj => ?_
    obtain ⟨b, off, e, _, hc⟩ := h.some (by omega)
    cases e
    have := hc j hj
    rw [List.getD_eq_getElem?_getD, List.getElem?_eq_getElem hj, Option.getD_some] at this
    by_cases h0 : j = 0
    · subst h0; simpa [Addr.add] using this
    · simpa [Addr.add, h0] using this

theorem grown_of_alloc {W w1 : World} {o : Obj} {r : Option Nat} (h : (W.alloc o).grownBy w1 r) : W.grownBy w1 r :=
  ⟨h.os, h.tape, h.output, by have := h.size; simp at this; omega, fun k hk hne => (h.block k (by simp; omega) hne).trans (Below.heap_alloc W o k hk)⟩

theorem put_back {W w1 : World} {m Bo Bs : Nat} {v v' s : Value} {l l' : List UInt8} (hv : Boxed W Bo 26 v) (hs : Boxed W Bs 26 s) (hne : Bo ≠ Bs) (hrow : Gr W m v l) (hm : m ≤ W.heap.size) (hB : m ≤ Bo)
    (hown : Gr w1 m v' l') (hgrow : W.grownBy w1 v.ownBlock) :
    Boxed w1 Bo 26 v ∧ Boxed (w1.setCell ⟨Bo, 0, none⟩ v') Bo 26 v' ∧ Boxed (w1.setCell ⟨Bo, 0, none⟩ v') Bs 26 s ∧ Gr (w1.setCell ⟨Bo, 0, none⟩ v') m v' l' ∧ KeepsOthers W (w1.setCell ⟨Bo, 0, none⟩ v') ∧ Below m W (w1.setCell ⟨Bo, 0, none⟩ v') := by
  have h1 : Boxed w1 Bo 26 v := hv.kept hgrow (hv.not_row (by decide) hrow)
  have h2 : Boxed w1 Bs 26 s := hs.kept hgrow (hs.not_row (by decide) hrow)
  refine ⟨h1, h1.set _, h2.kept (grownBy_setCell' _ _ _) (by simp; omega), ?_, ?_, ?_⟩
  · exact World.ownsRow.kept hown (grownBy_setCell' _ _ _) (Or.inr (fun e => (h1.not_row (by decide) hown) e.symm))
  · refine (KeepsOthers.of_grownBy hgrow fun j o ej ho => ?_).trans (KeepsOthers.setCell _ _ _)
    obtain ⟨c, fz, e⟩ := Lib.ownsRow_kind hrow j ej
    rw [e] at ho; cases ho; rfl
  · exact ((Below.refl m W).grown hgrow hm (fun j hj => (hrow.own j hj).1)).setCell hB _

set_option maxRecDepth 100000 in
set_option maxHeartbeats 4000000 in
theorem write_groups_in (n : Nat) (hn : 6 ≤ n) (a : Option Addr) (len cap : Nat) (zs : List UInt8) (hlen : len ≤ 16) (w : World) (hI : IsB w a len cap zs) (G : GL w) :
    CallsIn Fence.wide n Tryd.prog 47 #[.slice a len cap] w fun e W' => e = .returned (.string ⟨(gtext (vals (upto (grp zs) (len / 2)))).toArray⟩) ∧ Below w.heap.size w W' := by
  have h1 : 1 ≤ n := by omega
  obtain ⟨i0, hi, hz0, hz1, hz2⟩ := info_parts info5
  refine callsIn_of_wp_marks Tryd.func47 rfl trivial ?_ rfl
  simp only [Tryd.ntmps47, List.size_toArray, List.length_cons, List.length_nil, Nat.reduceAdd, Nat.reduceSub, Array.replicate_succ, Array.replicate_zero, List.push_toArray, List.append_toArray, List.nil_append, List.cons_append]
  gi_wp2_with (refine ⟨trivial, ?_⟩; refine (groups_in (n - 1) _ _ _ _).mono ?_; rintro e w' ⟨rfl, rfl⟩)
  have bO := Boxed.new w 26 (.slice none 0 0)
  have bN := Boxed.new (w.alloc (.cells #[.slice none 0 0] 26)) 26 (.slice a len cap)
  rw [World.size_alloc] at bN
  have hB0 : Below w.heap.size w ((w.alloc (.cells #[.slice none 0 0] 26)).alloc (.cells #[.slice a len cap] 26)) := ((Below.refl _ w).alloc (Nat.le_refl _) _).alloc (by simp) _
  refine wpIn_rangeFunc_ownG (ps := #[8, 9]) rfl h1 (gf := 76) (lb := #[.pointer (some ⟨w.heap.size + 1, 0, none⟩)]) rfl trivial (enters_of Tryd.func76 (by kernel_rfl) rfl)
    (groups_stops (n - 1) (by omega) (w.heap.size + 1) w.heap.size a len cap zs hlen _ (by simp) (by simp; omega) bN.cell (fun W' hb => hI.below (hB0.trans hb))) (fun h k => h.trans k)
    (fun W l o o' hl ho h1 h2 => ⟨belowK_b (by simp; omega) W l o o' hl ho h1 h2, World.putObj_heap_other (by simp at hl; omega)⟩) (Below.refl _ _) (fun _ => rfl)
    (fun pre W => ((∃ v, Boxed W w.heap.size 26 v ∧ W.ownsRow w.heap.size 5 1 v (gtext (vals pre)).length ((gtext (vals pre)).map bv) ∧ True) ∧ Boxed W (w.heap.size + 1) 26 (.slice a len cap)) ∧ Below w.heap.size w W)
    (fun _ _ _ => False)
    (OwnFrom.and (OwnFrom.and (Own.from (holdsRow_own w.heap.size w.heap.size 26 5 1 (fun pre => (gtext (vals pre)).length) (fun pre => (gtext (vals pre)).map bv) (fun pre v => True)) _) (Own.from (boxed_own _ _ _) _)) (ownFrom_below (Nat.le_refl _) (by simp; omega)))
    (fun _ _ _ _ _ hs _ _ => hs)
    ⟨⟨⟨_, bO.alloc _, World.ownsRow_nil _ _ _ _, trivial⟩, bN⟩, hB0⟩
    (fun x => { tmps := #[.slice a len cap, undef, .string ByteArray.empty, .pointer (some ⟨w.heap.size, 0, none⟩), .int .i64 (x.1.1 : Int), .int .u64 (x.1.2 : Int), .slice a len cap, .func (.func 76) #[] #[.pointer (some ⟨w.heap.size + 1, 0, none⟩)], .int .i64 (x.1.1 : Int), .int .u64 (x.1.2 : Int), undef, undef, undef, undef, undef, undef, undef, undef, undef, undef], defers := [] }) ?assign ?body ?done ?stop
  case assign =>
    intro l x W K hK
    dsimp only [gencs]
    gi_wp2
    exact hK
  case body =>
    rintro l pre x W ⟨⟨⟨v, hv, hrow, -⟩, hs⟩, hB⟩ hlt
    have hc := hv.cell
    have hrow' : Gr W w.heap.size v (gtext (vals pre)) := hrow
    have hle := length_gtext pre
    have hgt : gtext (vals (pre ++ [x])) = gtext (vals pre) ++ ((if 0 < x.1.1 then [58] else []) ++ hexs x.1.2) := by rw [show vals (pre ++ [x]) = vals pre ++ [x.1] by simp [vals], gtext_snoc]
    by_cases h0 : 0 < x.1.1
    · rw [if_pos h0] at hgt
      gi_wp2_with (gi_at_builtin; refine wpListIn_append_own _ rfl _ _ 26 rfl w.heap.size 5 i0 (.int .u8 0) 1 1 Tryd.underlying26 hi hz0 hz1 hz2 rfl (by decide) _ _ _ rfl (hrow.alloc _) ⟨W.heap.size, 0, none⟩ 1 1 [.int .u8 58] rfl rfl (cell_one_new _ _ _) (by simp [Value.oneCell']) (by unfold maxLen; omega) (by omega) (by have := hB.size; simp; omega) ?_; intro v' w1 hown' hgrow _; obtain ⟨g', cap', rfl⟩ := ownsRow_succ hown'; have hgr1 : Gr w1 w.heap.size (.slice (some ⟨g', 0, none⟩) ((gtext (vals pre)).length + 1) cap') (gtext (vals pre) ++ [58]) := (by unfold Gr; rw [List.length_append, List.map_append]; exact hown'); obtain ⟨p1, p2, p3, p4, p5, p6⟩ := put_back hv hs (by omega) hrow' hB.size (Nat.le_refl _) hgr1 (grown_of_alloc hgrow); have hc1 := p1.cell; have hf1 := p1.frozen)
      generalize w1.setCell ⟨w.heap.size, 0, none⟩ (.slice (some ⟨g', 0, none⟩) ((gtext (vals pre)).length + 1) cap') = W3 at p2 p3 p4 p5 p6 ⊢
      refine ⟨trivial, fun _ => by omega, ?_⟩
      refine (CallsIn.inRound l (callsIn_wide.2 (append_uint w.heap.size x.1.2 x.2.1 _ _ W3 p4 (by have := hB.size; have := p6.size; omega) (by rw [List.length_append]; simp; omega) (G.on (hB.trans p6))))).mono ?_
      rintro e w4 ⟨v4, rfl, q1, q2⟩
      obtain ⟨a4, c4, hv4⟩ := q1.form
      generalize (gtext (vals pre) ++ [58] ++ hexs x.1.2).length = m4 at hv4
      subst hv4
      obtain ⟨r1, r2, r3, r4, r5, r6⟩ := put_back p2 p3 (by omega) p4 (by have := hB.size; have := p6.size; omega) (Nat.le_refl _) q1 q2
      have hc4 := r1.cell
      have hf4 := r1.frozen
      gi_wp2
      refine ⟨(p5.trans r5).from _, ⟨p6.trans r6, (show _ = _ from r3).trans (show _ = _ from hs).symm⟩, ⟨⟨⟨_, r2, ?_, trivial⟩, r3⟩, hB.trans (p6.trans r6)⟩⟩
      rw [hgt]
      simpa [Gr] using r4
    · rw [if_neg h0] at hgt
      have p2 := hv
      have p3 := hs
      have p4 := hrow'
      have p5 := KeepsOthers.refl W
      have p6 := Below.refl w.heap.size W
      gi_wp2
      refine ⟨trivial, fun _ => by omega, ?_⟩
      refine (CallsIn.inRound l (callsIn_wide.2 (append_uint w.heap.size x.1.2 x.2.1 _ _ W p4 (by have := hB.size; have := p6.size; omega) (by omega) (G.on (hB.trans p6))))).mono ?_
      rintro e w4 ⟨v4, rfl, q1, q2⟩
      obtain ⟨a4, c4, hv4⟩ := q1.form
      generalize (gtext (vals pre) ++ hexs x.1.2).length = m4 at hv4
      subst hv4
      obtain ⟨r1, r2, r3, r4, r5, r6⟩ := put_back p2 p3 (by omega) p4 (by have := hB.size; have := p6.size; omega) (Nat.le_refl _) q1 q2
      have hc4 := r1.cell
      have hf4 := r1.frozen
      gi_wp2
      refine ⟨(p5.trans r5).from _, ⟨p6.trans r6, (show _ = _ from r3).trans (show _ = _ from hs).symm⟩, ⟨⟨⟨_, r2, ?_, trivial⟩, r3⟩, hB.trans (p6.trans r6)⟩⟩
      rw [hgt]
      simpa [Gr] using r4
  case done =>
    rintro D ys W hD rfl ⟨⟨⟨v, hv, hrow, -⟩, hs⟩, hB⟩ hK
    have hG : Gr W w.heap.size v (gtext (vals (upto (grp zs) (len / 2)))) := hrow
    have hle := length_gtext (upto (grp zs) (len / 2))
    rw [upto_length] at hle
    obtain ⟨a4, c4, rfl, hIs⟩ := hG.isB (by omega)
    have hstr := run_string_isB hIs
    have hc := hv.cell
    gi_wp2
    refine ⟨by simp, .inl ⟨_, _, rfl, run_takeDeferred hK, ?_⟩⟩
    exact ⟨_, results_tmp rfl _ _ _, rfl, hB.trans (belowK_b (w := w) (Nat.le_refl _) W D _ _ (by simp at hD; omega) hK rfl rfl)⟩
  case stop =>
    rintro D c pre W _ _ h _
    exact h.elim
end Go.Proofs.YthammgljcchloaaDoor
