/-
  longestZeros: where the longest sequence of groups that are 0 begins, and how long it is.
-/
import Derived.Test.YthammgljcchloaaDoorWg
import Derived.Test.YthammgljcchloaaDoorIp
namespace Go.Proofs.YthammgljcchloaaDoor
open Go.RowKit Go.Shelf
set_option linter.unusedSimpArgs false
set_option linter.unusedVariables false
attribute [local go_sem] Oper.semAt_some

/-- (from, longest, count) -/
def lzStep (s : Int × Int × Int) (x : Nat × Nat) : Int × Int × Int :=
  if x.2 ≠ 0 then (s.1, s.2.1, 0) else if s.2.1 < s.2.2 + 1 then ((x.1 : Int) + 1 - (s.2.2 + 1), s.2.2 + 1, s.2.2 + 1) else (s.1, s.2.1, s.2.2 + 1)
def lzs (l : List (Nat × Nat)) : Int × Int × Int := l.foldl lzStep (0, 0, 0)
theorem lzs_snoc (l : List (Nat × Nat)) (x : Nat × Nat) : lzs (l ++ [x]) = lzStep (lzs l) x := by simp [lzs]

/-- the three counters -/
def Cn (b : Nat) (s : Int × Int × Int) (W : World) : Prop :=
  Boxed W b 3 (.int .i64 s.1) ∧ Boxed W (b + 1) 3 (.int .i64 s.2.1) ∧ Boxed W (b + 1 + 1) 3 (.int .i64 s.2.2)
/-- how far the counters may go in k rounds -/
def Bd (k : Nat) (s : Int × Int × Int) : Prop := -10 ≤ s.1 ∧ s.1 ≤ 10 ∧ 0 ≤ s.2.1 ∧ s.2.1 ≤ k ∧ 0 ≤ s.2.2 ∧ s.2.2 ≤ k
theorem bd_step (k : Nat) (hk : k ≤ 8) (s : Int × Int × Int) (x : Nat × Nat) (hx : x.1 ≤ 8) (h : Bd k s) : Bd (k + 1) (lzStep s x) := by
  unfold Bd lzStep at *
  split
  · simp; omega
  · split <;> simp <;> omega

theorem wrap64_id {n : Int} (h0 : -9223372036854775808 ≤ n) (h1 : n < 9223372036854775808) : wrap64 n = n := by
  unfold wrap64 at *
  omega

theorem i64_id {n : Int} (h0 : -9223372036854775808 ≤ n) (h1 : n < 9223372036854775808) : IntKind.i64.wrap n = n := by
  simp [IntKind.wrap, IntKind.bits, IntKind.signed]
  omega

theorem cn_set {b : Nat} {f g c : Int} {W : World} (h : Cn b (f, g, c) W) : (∀ f', Cn b (f', g, c) (W.setCell ⟨b, 0, none⟩ (.int .i64 f'))) ∧ (∀ g', Cn b (f, g', c) (W.setCell ⟨b + 1, 0, none⟩ (.int .i64 g'))) ∧ (∀ c', Cn b (f, g, c') (W.setCell ⟨b + 1 + 1, 0, none⟩ (.int .i64 c'))) := by
  obtain ⟨h1, h2, h3⟩ := h
  exact ⟨fun _ => ⟨h1.set _, h2.other (by omega) _, h3.other (by omega) _⟩, fun _ => ⟨h1.other (by omega) _, h2.set _, h3.other (by omega) _⟩, fun _ => ⟨h1.other (by omega) _, h2.other (by omega) _, h3.set _⟩⟩

/-- what stores into the counters keep -/
structure Kc (b : Nat) (s : Value) (W W' : World) : Prop where
  others : KeepsOthers W W'
  below : Below b W W'
  boxed : Boxed W (b + 1 + 1 + 1) 26 s → Boxed W' (b + 1 + 1 + 1) 26 s
theorem Kc.refl (b : Nat) (s : Value) (W : World) : Kc b s W W := ⟨KeepsOthers.refl _, Below.refl _ _, id⟩
theorem Kc.set {b : Nat} {s : Value} {W W' : World} (h : Kc b s W W') (k : Nat) (hk : b ≤ k) (hk2 : k < b + 1 + 1 + 1) (v : Value) : Kc b s W (W'.setCell ⟨k, 0, none⟩ v) :=
  ⟨h.others.trans (KeepsOthers.setCell _ _ _), h.below.setCell (p := ⟨k, 0, none⟩) hk _, fun hb => (h.boxed hb).other (by omega) _⟩
theorem Kc.drew {b : Nat} {s : Value} {W W' : World} (h : Kc b s W W') : Kc b s W W'.drew := ⟨h.others.trans (KeepsOthers.drew _), h.below.drew, h.boxed⟩
theorem Cn.drew {b : Nat} {s : Int × Int × Int} {W : World} (h : Cn b s W) : Cn b s W.drew := h

theorem cn_own (b : Nat) : Go.Own (fun (s : List GV) W => Cn b (lzs (vals s)) W) := by
  intro s A B row hs hg hr
  exact ⟨boxed_own b 3 (fun _ => _) s A B row hs.1 hg hr, boxed_own (b + 1) 3 (fun _ => _) s A B row hs.2.1 hg hr, boxed_own (b + 1 + 1) 3 (fun _ => _) s A B row hs.2.2 hg hr⟩

set_option maxRecDepth 100000 in
set_option maxHeartbeats 4000000 in
theorem longest_in (n : Nat) (hn : 6 ≤ n) (zs : List UInt8) (hz : zs.length = 16) (w : World) :
    CallsIn Fence.wide n Tryd.prog 46 #[iv zs] w fun e W' => e = .returned (.tuple #[.int .i64 (lzs (vals (upto (grp zs) 8))).1, .int .i64 (lzs (vals (upto (grp zs) 8))).2.1]) ∧ Below w.heap.size w W' := by
  have h1 : 1 ≤ n := by omega
  unfold iv
  refine callsIn_of_wp_marks Tryd.func46 rfl trivial ?_ rfl
  simp only [Tryd.ntmps46, List.size_toArray, List.length_cons, List.length_nil, Nat.reduceAdd, Nat.reduceSub, Array.replicate_succ, Array.replicate_zero, List.push_toArray, List.append_toArray, List.nil_append, List.cons_append]
  gi_wp2_with (refine ⟨trivial, ?_⟩; refine (groups_in (n - 1) _ _ _ _).mono ?_; rintro e w' ⟨rfl, rfl⟩)
  have hB0 : Below w.heap.size w (((((w.alloc (.cells (row zs) 23)).alloc (.cells #[.int .i64 0] 3)).alloc (.cells #[.int .i64 0] 3)).alloc (.cells #[.int .i64 0] 3)).alloc (.cells #[.slice (some ⟨w.heap.size, 0, none⟩) 16 16] 26)) :=
    (((((Below.refl _ w).alloc (Nat.le_refl _) _).alloc (by simp) _).alloc (by simp; omega) _).alloc (by simp; omega) _).alloc (by simp; omega) _
  have bI := Ik.new w zs
  have b1 := Boxed.new (w.alloc (.cells (row zs) 23)) 3 (.int .i64 0)
  have b2 := Boxed.new ((w.alloc (.cells (row zs) 23)).alloc (.cells #[.int .i64 0] 3)) 3 (.int .i64 0)
  have b3 := Boxed.new (((w.alloc (.cells (row zs) 23)).alloc (.cells #[.int .i64 0] 3)).alloc (.cells #[.int .i64 0] 3)) 3 (.int .i64 0)
  have bN := Boxed.new ((((w.alloc (.cells (row zs) 23)).alloc (.cells #[.int .i64 0] 3)).alloc (.cells #[.int .i64 0] 3)).alloc (.cells #[.int .i64 0] 3)) 26 (.slice (some ⟨w.heap.size, 0, none⟩) 16 16)
  simp only [World.size_alloc] at b1 b2 b3 bN
  have b1 := ((b1.alloc (.cells #[.int .i64 0] 3)).alloc (.cells #[.int .i64 0] 3)).alloc (.cells #[.slice (some ⟨w.heap.size, 0, none⟩) 16 16] 26)
  have b2 := (b2.alloc (.cells #[.int .i64 0] 3)).alloc (.cells #[.slice (some ⟨w.heap.size, 0, none⟩) 16 16] 26)
  have b3 := b3.alloc (.cells #[.slice (some ⟨w.heap.size, 0, none⟩) 16 16] 26)
  have bI : Ik (((((w.alloc (.cells (row zs) 23)).alloc (.cells #[.int .i64 0] 3)).alloc (.cells #[.int .i64 0] 3)).alloc (.cells #[.int .i64 0] 3)).alloc (.cells #[.slice (some ⟨w.heap.size, 0, none⟩) 16 16] 26)) w.heap.size zs :=
    bI.below ((((((Below.refl _ (w.alloc (.cells (row zs) 23))).alloc (Nat.le_refl _) _)).alloc (by simp) _).alloc (by simp) _).alloc (by simp) _) (by simp)
  have hsz : (((((w.alloc (.cells (row zs) 23)).alloc (.cells #[.int .i64 0] 3)).alloc (.cells #[.int .i64 0] 3)).alloc (.cells #[.int .i64 0] 3)).alloc (.cells #[.slice (some ⟨w.heap.size, 0, none⟩) 16 16] 26)).heap.size = w.heap.size + 1 + 1 + 1 + 1 + 1 := by simp
  generalize ((((w.alloc (.cells (row zs) 23)).alloc (.cells #[.int .i64 0] 3)).alloc (.cells #[.int .i64 0] 3)).alloc (.cells #[.int .i64 0] 3)).alloc (.cells #[.slice (some ⟨w.heap.size, 0, none⟩) 16 16] 26) = w5 at hB0 bI b1 b2 b3 bN hsz ⊢
  have hI5 : ∀ W', Below (w.heap.size + 1) w5 W' → IsB W' (some ⟨w.heap.size, 0, none⟩) 16 16 zs := fun W' hb => by
    have := (bI.below hb (by omega)).isB 0 16 16 (by omega) (by omega) (by omega) (by omega)
    rwa [List.drop_zero, List.take_of_length_le (by omega)] at this
  obtain ⟨b, hb⟩ : ∃ b, b = w.heap.size + 1 := ⟨_, rfl⟩
  simp only [← hb] at b1 b2 b3 bN hsz hI5 ⊢
  have hbl : w.heap.size < b := by omega
  have hbr : b ≤ w.heap.size + 1 := by omega
  clear hb
  refine wpIn_rangeFunc_ownG (ps := #[11, 12]) rfl h1 (gf := 76) (lb := #[.pointer (some ⟨b + 1 + 1 + 1, 0, none⟩)]) rfl trivial (enters_of Tryd.func76 (by kernel_rfl) rfl)
    (groups_stops (n - 1) (by omega) (b + 1 + 1 + 1) b _ 16 16 zs (by omega) w5 (by omega) (by omega) bN.cell hI5) (fun h k => h.trans k)
    (fun W l o o' hl ho h1 h2 => ⟨belowK_b (by omega) W l o o' hl ho h1 h2, World.putObj_heap_other (by omega)⟩) (Below.refl _ _) (fun _ => rfl)
    (fun pre W => ((Cn b (lzs (vals pre)) W ∧ Bd pre.length (lzs (vals pre))) ∧ Boxed W (b + 1 + 1 + 1) 26 (.slice (some ⟨w.heap.size, 0, none⟩) 16 16)) ∧ Below b w5 W)
    (fun _ _ _ => False)
    (OwnFrom.and (OwnFrom.and (OwnFrom.and (Own.from (cn_own b) _) (fun _ _ _ _ h _ _ => h)) (Own.from (boxed_own _ _ _) _)) (ownFrom_below (by omega) (by omega)))
    (fun _ _ _ _ _ hs _ _ => hs)
    ⟨⟨⟨⟨b1, b2, b3⟩, by simp [Bd, lzs, vals]⟩, bN⟩, Below.refl _ _⟩
    (fun x => { tmps := #[.agg (row zs), .pointer (some ⟨w.heap.size, 0, none⟩), .int .i64 0, .int .i64 0, .pointer (some ⟨b, 0, none⟩), .pointer (some ⟨b + 1, 0, none⟩), .pointer (some ⟨b + 1 + 1, 0, none⟩), .int .i64 (x.1.1 : Int), .int .u64 (x.1.2 : Int), .slice (some ⟨w.heap.size, 0, none⟩) 16 16, .func (.func 76) #[] #[.pointer (some ⟨b + 1 + 1 + 1, 0, none⟩)], .int .i64 (x.1.1 : Int), .int .u64 (x.1.2 : Int), undef, undef, undef, undef, undef, undef, undef, undef, undef, undef, undef, undef, undef, undef], defers := [] }) ?assign ?body ?done ?stop
  case assign =>
    intro l x W K hK
    dsimp only [gencs]
    gi_wp2
    exact hK
  case body =>
    rintro l pre x W ⟨⟨⟨⟨c1, c2, c3⟩, hbd⟩, hs⟩, hB⟩ hlt
    have hbd2 := bd_step pre.length (by omega) (lzs (vals pre)) x.1 x.2.2 hbd
    have hst : lzs (vals (pre ++ [x])) = lzStep (lzs (vals pre)) x.1 := by rw [show vals (pre ++ [x]) = vals pre ++ [x.1] by simp [vals], lzs_snoc]
    have hx8 := x.2.2
    generalize lzs (vals pre) = s at c1 c2 c3 hbd hbd2 hst
    obtain ⟨f, g, c⟩ := s
    dsimp only at c1 c2 c3
    have hC : Cn b (f, g, c) W := ⟨c1, c2, c3⟩
    have hK0 := Kc.refl b (.slice (some ⟨w.heap.size, 0, none⟩) 16 16) W
    have e1 := c1.cell
    have e2 := c2.cell
    have e3 := c3.cell
    have g1 := c1.frozen
    have g2 := c2.frozen
    have g3 := c3.frozen
    obtain ⟨d1, d2, d3, d4, d5, d6⟩ := hbd
    dsimp only at d1 d2 d3 d4 d5 d6
    have d4 : g ≤ 8 := by omega
    have d6 : c ≤ 8 := by omega
    have hw : wrap64 (c + 1) = c + 1 := wrap64_id (by omega) (by omega)
    have hmx : Tryd.prog.follows .mixedOrders = true := by kernel_rfl
    have hq1 : IntKind.i64.wrap ((x.1.1 : Int) + 1) = (x.1.1 : Int) + 1 := i64_id (by omega) (by omega)
    have hq2 : IntKind.i64.wrap ((x.1.1 : Int) + 1 - (c + 1)) = (x.1.1 : Int) + 1 - (c + 1) := i64_id (by omega) (by omega)
    by_cases h0 : x.1.2 = 0
    · by_cases hgt : g < c + 1
      · have hz : lzStep (f, g, c) x.1 = ((x.1.1 : Int) + 1 - (c + 1), c + 1, c + 1) := by simp [lzStep, h0, hgt]
        gi_wp2
        gi_region_o
        all_goals gi_wp2
        all_goals (try simp only [hq1, hq2])
        all_goals first
          | (have hC1 := (((cn_set ((cn_set ((cn_set hC).2.2 (c + 1))).1 ((x.1.1 : Int) + 1 - (c + 1)))).2.1 (c + 1))).drew
             have hK1 := (((hK0.set (b + 1 + 1) (by omega) (by omega) (.int .i64 (c + 1))).set b (by omega) (by omega) (.int .i64 ((x.1.1 : Int) + 1 - (c + 1)))).set (b + 1) (by omega) (by omega) (.int .i64 (c + 1))).drew
             exact ⟨hK1.others.from _, ⟨hK1.below, (show _ = _ from hK1.boxed hs).trans (show _ = _ from hs).symm⟩, ⟨⟨⟨by rw [hst, hz]; exact hC1, by rw [hst, List.length_append]; exact hbd2⟩, hK1.boxed hs⟩, hB.trans hK1.below⟩⟩)
          | (have hC1 := (((cn_set ((cn_set ((cn_set hC).2.2 (c + 1))).2.1 (c + 1))).1 ((x.1.1 : Int) + 1 - (c + 1)))).drew
             have hK1 := (((hK0.set (b + 1 + 1) (by omega) (by omega) (.int .i64 (c + 1))).set (b + 1) (by omega) (by omega) (.int .i64 (c + 1))).set b (by omega) (by omega) (.int .i64 ((x.1.1 : Int) + 1 - (c + 1)))).drew
             exact ⟨hK1.others.from _, ⟨hK1.below, (show _ = _ from hK1.boxed hs).trans (show _ = _ from hs).symm⟩, ⟨⟨⟨by rw [hst, hz]; exact hC1, by rw [hst, List.length_append]; exact hbd2⟩, hK1.boxed hs⟩, hB.trans hK1.below⟩⟩)
          | go_show
      · have hz : lzStep (f, g, c) x.1 = (f, g, c + 1) := by simp [lzStep, h0, hgt]
        have hgt' : c + 1 ≤ g := by omega
        gi_wp2
        have hC1 := (cn_set hC).2.2 (c + 1)
        have hK1 := hK0.set (b + 1 + 1) (by omega) (by omega) (.int .i64 (c + 1))
        exact ⟨hK1.others.from _, ⟨hK1.below, (show _ = _ from hK1.boxed hs).trans (show _ = _ from hs).symm⟩, ⟨⟨⟨by rw [hst, hz]; exact hC1, by rw [hst, List.length_append]; exact hbd2⟩, hK1.boxed hs⟩, hB.trans hK1.below⟩⟩
    · have hz : lzStep (f, g, c) x.1 = (f, g, 0) := by simp [lzStep, h0]
      gi_wp2
      have hC1 := (cn_set hC).2.2 0
      have hK1 := hK0.set (b + 1 + 1) (by omega) (by omega) (.int .i64 0)
      exact ⟨hK1.others.from _, ⟨hK1.below, (show _ = _ from hK1.boxed hs).trans (show _ = _ from hs).symm⟩, ⟨⟨⟨by rw [hst, hz]; exact hC1, by rw [hst, List.length_append]; exact hbd2⟩, hK1.boxed hs⟩, hB.trans hK1.below⟩⟩
  case done =>
    rintro D ys W hD rfl ⟨⟨⟨⟨c1, c2, c3⟩, hbd⟩, hs⟩, hB⟩ hK
    have e1 := c1.cell
    have e2 := c2.cell
    have hmx : Tryd.prog.follows .mixedOrders = true := by kernel_rfl
    gi_wp2
    gi_region_o
    all_goals gi_wp2
    all_goals
      have hK2 : W.drew.heap[D]? = some (.deferred (some [])) := hK
      refine ⟨by simp, .inl ⟨_, _, rfl, run_takeDeferred hK2, ?_⟩⟩
      exact ⟨_, results_tmp2 rfl _ _ _, rfl, (hB0.trans (hB.mono (by omega)).drew).trans (belowK_b (w := w) (Nat.le_refl _) W.drew D _ _ (by omega) hK2 rfl rfl)⟩
  case stop =>
    rintro D c pre W _ _ h _
    exact h.elim

/-- the text of an address out of its longest sequence of zeros -/
theorem longest_zeros (zs : List UInt8) (hz : zs.length = 16) (w : World) :
    Calls Tryd.prog 46 #[iv zs] w fun e W' => e = .returned (.tuple #[.int .i64 (lzs (vals (upto (grp zs) 8))).1, .int .i64 (lzs (vals (upto (grp zs) 8))).2.1]) ∧ Below w.heap.size w W' :=
  (callsIn_wide (n := 6)).1 (longest_in 6 (by omega) zs hz w)
theorem write_groups (a : Option Addr) (len cap : Nat) (zs : List UInt8) (hlen : len ≤ 16) (w : World) (hI : IsB w a len cap zs) (G : GL w) :
    Calls Tryd.prog 47 #[.slice a len cap] w fun e W' => e = .returned (.string ⟨(gtext (vals (upto (grp zs) (len / 2)))).toArray⟩) ∧ Below w.heap.size w W' :=
  (callsIn_wide (n := 6)).1 (write_groups_in 6 (by omega) a len cap zs hlen w hI G)
end Go.Proofs.YthammgljcchloaaDoor
