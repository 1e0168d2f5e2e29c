/-
  The reader takes both addresses.
-/
import Derived.Test.YtmbiophckeiehaaRdr
import Derived.Test.YtmbiophckeiehaaAdReg
namespace Go.Proofs.Ytmbiophckeiehaa
open Go.RowKit
set_option linter.unusedSimpArgs false
set_option linter.unusedVariables false

/-- two addresses, one behind the other -/
def Two (w : World) (g : Nat) (dm ds dx sm ss sx : Int) : Prop := w.rangeAt g 0 (avl dm ds dx) ∧ w.rangeAt g 3 (avl sm ss sx)
def tw (dm ds dx sm ss sx : Int) : Array Value := #[.int .i64 dm, .int .u16 ds, .int .u64 dx, .int .i64 sm, .int .u16 ss, .int .u64 sx]
def TwH (w : World) (g : Nat) (dm ds dx sm ss sx : Int) : Prop := w.heap[g]? = some (.cells (tw dm ds dx sm ss sx) 84 (0, 0))
theorem rangeAt_only {w w' : World} {g k o : Nat} {cs : List Value} (h : w.rangeAt g o cs) (hO : Only k w w') (hg : g < w.heap.size) (hk : g ≠ k) : w'.rangeAt g o cs := by
  intro j v hj
  rw [World.cell?_of_block (w := w) (a := ⟨g, o + j, none⟩) (hO.block g hg hk)]; exact h j v hj
theorem Two.only {w w' : World} {g k : Nat} {dm ds dx sm ss sx : Int} (h : Two w g dm ds dx sm ss sx) (hO : Only k w w') (hg : g < w.heap.size) (hk : g ≠ k) : Two w' g dm ds dx sm ss sx :=
  ⟨rangeAt_only h.1 hO hg hk, rangeAt_only h.2 hO hg hk⟩
theorem TwH.two {w : World} {g : Nat} {dm ds dx sm ss sx : Int} (h : TwH w g dm ds dx sm ss sx) : Two w g dm ds dx sm ss sx := by
  constructor
  · intro j v hj
    rw [cell_of_row w g (0 + j) _ _ _ h]
    have hk3 : j < 3 := (List.getElem?_eq_some_iff.1 hj).1
    rcases (by omega : j = 0 ∨ j = 1 ∨ j = 2) with rfl | rfl | rfl <;> exact hj
  · intro j v hj
    rw [cell_of_row w g (3 + j) _ _ _ h]
    have hk3 : j < 3 := (List.getElem?_eq_some_iff.1 hj).1
    rcases (by omega : j = 0 ∨ j = 1 ∨ j = 2) with rfl | rfl | rfl <;> exact hj
theorem TwH.only {w w' : World} {g k : Nat} {dm ds dx sm ss sx : Int} (h : TwH w g dm ds dx sm ss sx) (hO : Only k w w') (hg : g < w.heap.size) (hk : g ≠ k) : TwH w' g dm ds dx sm ss sx :=
  (hO.block g hg hk).trans h
theorem TwH.there {w : World} {g o : Nat} {dm ds dx sm ss sx : Int} (h : TwH w g dm ds dx sm ss sx) (ho : o ≤ 3) : w.there g o 3 := by
  intro j hj
  refine ⟨?_, frozen_of_row w g (o + j) _ _ h⟩
  rw [cell_of_row w g (o + j) _ _ _ h]
  rcases (by omega : o + j = 0 ∨ o + j = 1 ∨ o + j = 2 ∨ o + j = 3 ∨ o + j = 4 ∨ o + j = 5) with e | e | e | e | e | e <;> rw [e] <;> rfl
theorem TwH.set0 {w : World} {g : Nat} {dm ds dx sm ss sx : Int} (h : TwH w g dm ds dx sm ss sx) (m s e : Int) : TwH (w.setCells g 0 [.int .i64 m, .int .u16 s, .int .u64 e]) g m s e sm ss sx := by
  simp only [World.setCells]
  have h1 := heap_setCell_same w g 0 _ _ (.int .i64 m) h
  have h2 := heap_setCell_same _ g 1 _ _ (.int .u16 s) h1
  have h3 := heap_setCell_same _ g 2 _ _ (.int .u64 e) h2
  exact h3
theorem TwH.set3 {w : World} {g : Nat} {dm ds dx sm ss sx : Int} (h : TwH w g dm ds dx sm ss sx) (m s e : Int) : TwH (w.setCells g 3 [.int .i64 m, .int .u16 s, .int .u64 e]) g dm ds dx m s e := by
  simp only [World.setCells]
  have h1 := heap_setCell_same w g 3 _ _ (.int .i64 m) h
  have h2 := heap_setCell_same _ g 4 _ _ (.int .u16 s) h1
  have h3 := heap_setCell_same _ g 5 _ _ (.int .u64 e) h2
  exact h3
theorem step_store_addr {ops : Array Oper} {o : Oper} {a : Act} {w : World} {K : Act → World → Prop} {Q : Exit → Act → World → Prop} {E : Prop} {g : Nat} {m s e : Int} (hgd : o.guard = none) (x y : Operand) (ho : o.op = .store 27 x y)
    (hx : a.eval x = .pointer (some ⟨g, 0, none⟩)) (hy : a.eval y = .agg #[.int .i64 m, .int .u16 s, .int .u64 e]) (hth : w.there g 0 3)
    (h : ∀ w', Hid (Ar w' g m s e) → Only g w w' → K (a.put o.dst undef) w') :
    if Region.wanted o (yielded ops a.tmps) = true then Oper.wp Try.prog o a w K Q else E := by
  rw [if_pos (by simp [Region.wanted, hgd])]
  refine wp_store_mid 27 x y ho g 0 #[.int .i64 m, .int .u16 s, .int .u64 e] hx hy hth addr_info (by simp [Value.oneCell']) ?_
  exact h _ (hid (World.rangeAt_setCells_same w g 0 _ hth)) (only_cells _ _ _ _ (Only.refl g w))
theorem results_addr2 {fn : Func} {t u : Tmp} (hr : fn.results = #[.cell t 27, .cell u 27]) {tmps : Array Value} {w : World} {g k : Nat} {m s e m' s' e' : Int} (hp : tmps.getD t undef = .pointer (some ⟨g, 0, none⟩)) (hq : tmps.getD u undef = .pointer (some ⟨k, 0, none⟩)) (hR : Ar w g m s e) (hT : Ar w k m' s' e') :
    (results fn tmps).run Try.prog w = .ok (.tuple #[av m s e, av m' s' e']) w := by
  have hload := run_loadVar_mid (P := Try.prog) w g 0 27 (avl m s e) _ hR Try.underlying27 rfl addr_info
  have hload2 := run_loadVar_mid (P := Try.prog) w k 0 27 (avl m' s' e') _ hT Try.underlying27 rfl addr_info
  unfold results
  rw [hr]
  have hp' : tmps[t]?.getD undef = .pointer (some ⟨g, 0, none⟩) := by simpa using hp
  have hq' : tmps[u]?.getD undef = .pointer (some ⟨k, 0, none⟩) := by simpa using hq
  simp [hp', hq', asAddr, hload, hload2]
  exact ⟨rfl, rfl⟩

theorem shift_and (M : Nat) (hM : M < 256) (k : Nat) : bits .and .u64 ((M : Int) / 2 ^ k) 3 = ((M / 2 ^ k % 4 : Nat) : Int) := by
  have h := bits_and_u64_nat (M / 2 ^ k) 3 (Nat.lt_of_le_of_lt (Nat.div_le_self _ _) (by omega)) (by decide)
  rw [show (3 : Nat) = 2 ^ 2 - 1 from rfl, Nat.and_two_pow_sub_one_eq_mod] at h
  rw [show (4 : Nat) = 2 ^ 2 from rfl, ← h]
  simp

set_option maxHeartbeats 4000000 in
set_option maxRecDepth 100000 in
theorem addrs_any (g : Nat) (l : List UInt8) (M : Nat) (w : World) (hM : M < 256) (hR : Rdr w g l) :
    Calls Try.prog 60 #[.pointer (some ⟨g, 0, none⟩), .int .u64 M] w (fun e w' =>
      e = .returned (.tuple #[rdA (dmOf M) (numV l (asz (dmOf M))), rdA (smOf M) (numV (numR l (asz (dmOf M))) (asz (smOf M)))]) ∧ Rdr w' g (numR (numR l (asz (dmOf M))) (asz (smOf M))) ∧ Only g w w') := by
  have hglt := hR.lt
  have q1 := fun w hR => raddr_any g l (dmOf M) w (by unfold dmOf; omega) hR
  have q2 := fun w hR => raddr_any g (numR l (asz (dmOf M))) (smOf M) w (by unfold smOf; omega) hR
  have s1 : bits .and .u64 ((M : Int) / 64) 3 = (dmOf M : Int) := shift_and M hM 6
  have s2 : bits .and .u64 ((M : Int) / 16) 3 = (smOf M : Int) := shift_and M hM 4
  have t1 : dmOf M < 4 := by unfold dmOf; omega
  have t2 : smOf M < 4 := by unfold smOf; omega
  generalize numV (numR l (asz (dmOf M))) (asz (smOf M)) = y2 at *
  generalize numR (numR l (asz (dmOf M))) (asz (smOf M)) = rr at *
  generalize numR l (asz (dmOf M)) = r1 at *
  generalize numV l (asz (dmOf M)) = y1 at *
  generalize dmOf M = d at *
  generalize smOf M = s at *
  have hB1 : Below w.heap.size w (((w.alloc (.cells #[.int .i64 0, .int .u16 0, .int .u64 0] 27)).alloc (.cells #[.int .i64 0, .int .u16 0, .int .u64 0] 27)).alloc (.cells #[.int .i64 0, .int .u16 0, .int .u64 0, .int .i64 0, .int .u16 0, .int .u64 0] 84)) := (two_below w (.cells #[.int .i64 0, .int .u16 0, .int .u64 0] 27) (.cells #[.int .i64 0, .int .u16 0, .int .u64 0] 27)).alloc (by simp; omega) _
  have hO1 := Only.ofBelow g hB1
  have hR1 := hR.below hB1
  have h4 : (((w.alloc (.cells #[.int .i64 0, .int .u16 0, .int .u64 0] 27)).alloc (.cells #[.int .i64 0, .int .u16 0, .int .u64 0] 27)).alloc (.cells #[.int .i64 0, .int .u16 0, .int .u64 0, .int .i64 0, .int .u16 0, .int .u64 0] 84)).heap[w.heap.size]? = some (.cells #[.int .i64 0, .int .u16 0, .int .u64 0] 27 (0, 0)) := by
    have h := heap_alloc_new w (.cells #[.int .i64 0, .int .u16 0, .int .u64 0] 27)
    have k := (Below.refl (w.heap.size + 1) (w.alloc (.cells #[.int .i64 0, .int .u16 0, .int .u64 0] 27))).alloc (by simp) (.cells #[.int .i64 0, .int .u16 0, .int .u64 0] 27)
    have k2 := k.alloc (by simp) (.cells #[.int .i64 0, .int .u16 0, .int .u64 0, .int .i64 0, .int .u16 0, .int .u64 0] 84)
    rw [k2.block _ (Nat.lt_succ_self _)]; exact h
  have h5 : (((w.alloc (.cells #[.int .i64 0, .int .u16 0, .int .u64 0] 27)).alloc (.cells #[.int .i64 0, .int .u16 0, .int .u64 0] 27)).alloc (.cells #[.int .i64 0, .int .u16 0, .int .u64 0, .int .i64 0, .int .u16 0, .int .u64 0] 84)).heap[w.heap.size + 1]? = some (.cells #[.int .i64 0, .int .u16 0, .int .u64 0] 27 (0, 0)) := by
    have h := heap_alloc_new (w.alloc (.cells #[.int .i64 0, .int .u16 0, .int .u64 0] 27)) (.cells #[.int .i64 0, .int .u16 0, .int .u64 0] 27)
    rw [World.size_alloc] at h
    have k := (Below.refl (w.heap.size + 2) ((w.alloc (.cells #[.int .i64 0, .int .u16 0, .int .u64 0] 27)).alloc (.cells #[.int .i64 0, .int .u16 0, .int .u64 0] 27))).alloc (by simp) (.cells #[.int .i64 0, .int .u16 0, .int .u64 0, .int .i64 0, .int .u16 0, .int .u64 0] 84)
    rw [k.block _ (Nat.lt_succ_self _)]; exact h
  have hT : TwH (((w.alloc (.cells #[.int .i64 0, .int .u16 0, .int .u64 0] 27)).alloc (.cells #[.int .i64 0, .int .u16 0, .int .u64 0] 27)).alloc (.cells #[.int .i64 0, .int .u16 0, .int .u64 0, .int .i64 0, .int .u16 0, .int .u64 0] 84)) (w.heap.size + 1 + 1) 0 0 0 0 0 0 := by
    have h := heap_alloc_new ((w.alloc (.cells #[.int .i64 0, .int .u16 0, .int .u64 0] 27)).alloc (.cells #[.int .i64 0, .int .u16 0, .int .u64 0] 27)) (.cells #[.int .i64 0, .int .u16 0, .int .u64 0, .int .i64 0, .int .u16 0, .int .u64 0] 84)
    rw [World.size_alloc, World.size_alloc] at h
    exact h
  have hsz : w.heap.size + 3 ≤ (((w.alloc (.cells #[.int .i64 0, .int .u16 0, .int .u64 0] 27)).alloc (.cells #[.int .i64 0, .int .u16 0, .int .u64 0] 27)).alloc (.cells #[.int .i64 0, .int .u16 0, .int .u64 0, .int .i64 0, .int .u16 0, .int .u64 0] 84)).heap.size := by simp
  clear hB1 hR
  go_enter Try.func60, Try.ntmps60
  go_wp2_with fail
  generalize ((w.alloc _).alloc _).alloc _ = w1 at *
  go_loopw [8] (fun i wr => Only g w wr ∧ wr.heap[w.heap.size]? = some (.cells #[.int .i64 0, .int .u16 0, .int .u64 0] 27 (0, 0)) ∧ wr.heap[w.heap.size + 1]? = some (.cells #[.int .i64 0, .int .u16 0, .int .u64 0] 27 (0, 0)) ∧ w.heap.size + 3 ≤ wr.heap.size ∧
      ((i = .int .i64 0 ∧ Rdr wr g l ∧ TwH wr (w.heap.size + 1 + 1) 0 0 0 0 0 0) ∨ (i = .int .i64 1 ∧ Rdr wr g r1 ∧ TwH wr (w.heap.size + 1 + 1) d (adS d y1) (adX d y1) 0 0 0) ∨ (i = .int .i64 2 ∧ Rdr wr g rr ∧ TwH wr (w.heap.size + 1 + 1) d (adS d y1) (adX d y1) s (adS s y2) (adX s y2)))) (fun i _ => 2 - (intOf i).toNat)
  case atStart => exact ⟨hO1, h4, h5, hsz, Or.inl ⟨rfl, hR1, hT⟩⟩
  case round =>
    clear hO1 h4 h5 hsz hR1 hT
    obtain ⟨hO, h4, h5, hsz, hj⟩ := hrel
    rcases hj with ⟨rfl, hRd, hT⟩ | ⟨rfl, hRd, hT⟩ | ⟨rfl, hRd, hT⟩
    · clear q2
      go_wp2_with fail
      with_reducible refine (q1 _ hRd).mono ?_
      rintro e w2 ⟨rfl, hRd2, hO2⟩
      have hT2 := hT.only hO2 (by omega) (by omega)
      have th := hT2.there (o := 0) (by omega)
      have h42 := (hO2.block _ (by omega) (by omega)).trans h4
      have h52 := (hO2.block _ (by omega) (by omega)).trans h5
      have hO := hO.trans hO2
      have hsz2 := Nat.le_trans hsz hO2.size
      simp only [rdA, av]
      go_wp2_with (refine wpList_store_mid (op := ⟨none, _, _, _, _, _⟩) rfl 27 (.tmp 21) (.tmp 20) rfl (w.heap.size + 1 + 1) 0 #[.int .i64 d, .int .u16 (adS d y1), .int .u64 (adX d y1)] rfl rfl th addr_info (by simp [Value.oneCell']) ?_)
      have hO3 := only_cells (g := w.heap.size + 1 + 1) [.int .i64 (d : Int), .int .u16 (adS d y1), .int .u64 (adX d y1)] 0 w2 w2 (Only.refl _ w2)
      have hT3 := hT2.set0 d (adS d y1) (adX d y1)
      go_roundw
      case rel => exact ⟨only_two hO hO3 (by omega), (hO3.block _ (by omega) (by omega)).trans h42, (hO3.block _ (by omega) (by omega)).trans h52, Nat.le_trans hsz2 hO3.size, Or.inr (Or.inl ⟨by go_num, hRd2.only hO3 (by omega), hT3⟩)⟩
      case measure => simp [intOf]
    · clear q1
      go_wp2_with fail
      with_reducible refine (q2 _ hRd).mono ?_
      rintro e w2 ⟨rfl, hRd2, hO2⟩
      have hT2 := hT.only hO2 (by omega) (by omega)
      have th := hT2.there (o := 3) (by omega)
      have h42 := (hO2.block _ (by omega) (by omega)).trans h4
      have h52 := (hO2.block _ (by omega) (by omega)).trans h5
      have hO := hO.trans hO2
      have hsz2 := Nat.le_trans hsz hO2.size
      simp only [rdA, av]
      go_wp2_with (refine wpList_store_mid (op := ⟨none, _, _, _, _, _⟩) rfl 27 (.tmp 21) (.tmp 20) rfl (w.heap.size + 1 + 1) 3 #[.int .i64 s, .int .u16 (adS s y2), .int .u64 (adX s y2)] rfl rfl th addr_info (by simp [Value.oneCell']) ?_)
      have hO3 := only_cells (g := w.heap.size + 1 + 1) [.int .i64 (s : Int), .int .u16 (adS s y2), .int .u64 (adX s y2)] 3 w2 w2 (Only.refl _ w2)
      have hT3 := hT2.set3 s (adS s y2) (adX s y2)
      go_roundw
      case rel => exact ⟨only_two hO hO3 (by omega), (hO3.block _ (by omega) (by omega)).trans h42, (hO3.block _ (by omega) (by omega)).trans h52, Nat.le_trans hsz2 hO3.size, Or.inr (Or.inr ⟨by go_num, hRd2.only hO3 (by omega), hT3⟩)⟩
      case measure => simp [intOf]
    · clear q1 q2
      go_wp2_with fail
      have hsz0 : w.heap.size < wr.heap.size := by omega
      have hsz1 : w.heap.size + 1 < wr.heap.size := by omega
      have hsz2 : w.heap.size + 1 + 1 < wr.heap.size := by omega
      refine wp_region_held_drew (S := fun w' => Only g w w' ∧ Rdr w' g rr ∧ Two w' (w.heap.size + 1 + 1) d (adS d y1) (adX d y1) s (adS s y2) (adX s y2)) (by kernel_rfl) (⟨hO.drewN 1, hRd.below (below_drewN (Below.refl _ _) 1), hT.two⟩) (fun hHeld => ?_)
      refine wpAnyH_take (i := 0) (oi := ⟨some 23, _, _, _, _, _⟩) (v := ?_) rfl (by kernel_rfl) (by kernel_rfl) (by kernel_rfl) (fun _ _ _ h => h) (Or.inl ⟨by rfl, ?_⟩) hHeld ?_
      rotate_left
      · intro w hSw; go_simp; try with_reducible rfl
      try simp only [Act.put, List.setIfInBounds_toArray, List.set_cons_zero, List.set_cons_succ]
      refine wpAnyH_addr (g := w.heap.size + 1 + 1) (o := 0) (m := d) (s := adS d y1) (e := adX d y1) (i := 1) (oi := ⟨some 24, _, _, _, _, _⟩) rfl (by kernel_rfl) (by kernel_rfl) (by kernel_rfl) (fun _ _ _ h => h) (by rfl) (.tmp 23) rfl rfl  (fun _ h => h.2.2.1) hHeld ?_
      try simp only [Act.put, List.setIfInBounds_toArray, List.set_cons_zero, List.set_cons_succ]
      refine wpAnyH_take (i := 2) (oi := ⟨some 25, _, _, _, _, _⟩) (v := ?_) rfl (by kernel_rfl) (by kernel_rfl) (by kernel_rfl) (fun _ _ _ h => h) (Or.inl ⟨by rfl, ?_⟩) hHeld ?_
      rotate_left
      · intro w hSw; go_simp; try with_reducible rfl
      try simp only [Act.put, List.setIfInBounds_toArray, List.set_cons_zero, List.set_cons_succ]
      refine wpAnyH_addr (g := w.heap.size + 1 + 1) (o := 3) (m := s) (s := adS s y2) (e := adX s y2) (i := 3) (oi := ⟨some 26, _, _, _, _, _⟩) rfl (by kernel_rfl) (by kernel_rfl) (by kernel_rfl) (fun _ _ _ h => h) (by rfl) (.tmp 25) rfl rfl  (fun _ h => h.2.2.2) hHeld ?_
      try simp only [Act.put, List.setIfInBounds_toArray, List.set_cons_zero, List.set_cons_succ]
      refine wpAnyH_ready (rs := [4]) (by kernel_rfl) (by simp) ?_
      refine AllReadyH.cons (o := ⟨none, _, _, _, _, _⟩) rfl (fun K hK => ?_) AllReadyH.nil
      refine step_store_addr rfl (.tmp 4) (.tmp 24) rfl rfl rfl (there_addr h4) ?_
      intro v4 hR4 hO4
      have hP4 := hHeld
      have hS4 : Only g w v4 ∧ Rdr v4 g rr ∧ Two v4 (w.heap.size + 1 + 1) d (adS d y1) (adX d y1) s (adS s y2) (adX s y2) := ⟨only_two hP4.1 hO4 (Nat.le_refl _), hP4.2.1.only hO4 (by omega), hP4.2.2.only hO4 hsz2 (by omega)⟩
      have h5 := (hO4.block (w.heap.size + 1) hsz1 (by omega)).trans h5
      have hsz0 := Nat.lt_of_lt_of_le hsz0 hO4.size
      have hsz2 := Nat.lt_of_lt_of_le hsz2 hO4.size
      clear h4 hO4
      clear hHeld
      refine hK.out _ _ (hS4) (fun hHeld => ?_)
      clear hK K
      try simp only [Act.put, List.setIfInBounds_toArray, List.set_cons_zero, List.set_cons_succ]
      refine wpAnyH_ready (rs := [5]) (by kernel_rfl) (by simp) ?_
      refine AllReadyH.cons (o := ⟨none, _, _, _, _, _⟩) rfl (fun K hK => ?_) AllReadyH.nil
      refine step_store_addr rfl (.tmp 5) (.tmp 26) rfl rfl rfl (there_addr h5) ?_
      intro v5 hR5 hO5
      have hP5 := hHeld
      have hS5 : Only g w v5 ∧ Rdr v5 g rr ∧ Two v5 (w.heap.size + 1 + 1) d (adS d y1) (adX d y1) s (adS s y2) (adX s y2) := ⟨only_two hP5.1 hO5 (Nat.le_succ _), hP5.2.1.only hO5 (by omega), hP5.2.2.only hO5 hsz2 (by omega)⟩
      have hR4 := hR4.out.only hO5 hsz0 (by omega)
      clear hHeld
      refine hK.out _ _ (hS5) (fun hHeld => ?_)
      clear hK K
      try simp only [Act.put, List.setIfInBounds_toArray, List.set_cons_zero, List.set_cons_succ]
      refine wpAnyH_done (by kernel_rfl) ?_ _
      go_wp2_with fail
      refine bodyPost_ret (results_addr2 rfl rfl rfl hR4 hR5.out) rfl ⟨rfl, hHeld.2.1, hHeld.1⟩
end Go.Proofs.Ytmbiophckeiehaa
