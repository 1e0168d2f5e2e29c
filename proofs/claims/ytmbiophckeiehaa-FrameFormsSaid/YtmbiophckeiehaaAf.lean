/-
  AnyFrame: a valid frame off the tape.
-/
import Derived.Test.YtmbiophckeiehaaTf
import Derived.BigRegion
import Derived.Deep.DeepCutAuto
namespace Go.Proofs.Ytmbiophckeiehaa
open Go.RowKit
set_option linter.unusedSimpArgs false
set_option linter.unusedVariables false

theorem step_store_frame {ops : Array Oper} {o : Oper} {a : Act} {w : World} {K : Act → World → Prop} {Q : Exit → Act → World → Prop} {E : Prop} {g : Nat} {h0 h : Hd} {p0 m0 p m : Value} (hgd : o.guard = none) (x y : Operand) (ho : o.op = .store 31 x y)
    (hx : a.eval x = .pointer (some ⟨g, 0, none⟩)) (hy : a.eval y = fv h p m) (hK : Fk w g h0 p0 m0) (hp : OneC p) (hm : OneC m)
    (hh : ∀ w', Hid (Fr w' g h p m) → Only g w w' → K (a.put o.dst undef) w') :
    if Region.wanted o (yielded ops a.tmps) = true then Oper.wp Try.prog o a w K Q else E := by
  rw [if_pos (by simp [Region.wanted, hgd])]
  have hth := hK.there
  refine wp_store_mid 31 x y ho g 0 (fvl h p m).toArray hx hy hth frame_info (all_oneCell_toArray (fvl_one h p m hp hm)) ?_
  exact hh _ (hid (World.rangeAt_setCells_same w g 0 _ hth)) (only_cells _ _ _ _ (Only.refl g w))
theorem step_load_frame {ops : Array Oper} {o : Oper} {a : Act} {w : World} {K : Act → World → Prop} {Q : Exit → Act → World → Prop} {E : Prop} {g : Nat} {h : Hd} {p m : Value} (hgd : o.guard = none) (x : Operand) (ho : o.op = .load 31 x)
    (hx : a.eval x = .pointer (some ⟨g, 0, none⟩)) (hK : Fr w g h p m) (hh : K (a.put o.dst (fv h p m)) w) :
    if Region.wanted o (yielded ops a.tmps) = true then Oper.wp Try.prog o a w K Q else E := by
  rw [if_pos (by simp [Region.wanted, hgd])]
  exact wp_load_mid 31 x ho g 0 hx (fvl h p m) _ hK Try.underlying31 rfl frame_info hh

theorem Fk.whole {w : World} {g : Nat} {h0 : Hd} {p0 m0 : Value} (e : Fk w g h0 p0 m0) (h : Hd) (p m : Value) : Fk (w.setCells g 0 (fvl h p m)) g h p m := by
  simp only [fvl, World.setCells]
  have e1 := e.set (h' := ⟨h.k, h0.ar, h0.pe, h0.se, h0.sq, h0.pn, h0.dm, h0.ds, h0.dx, h0.sm, h0.ss, h0.sx, h0.ct, h0.ky⟩) (p' := p0) (m' := m0) 0 (.int .i64 h.k) rfl
  have e2 := e1.set (h' := ⟨h.k, h.ar, h0.pe, h0.se, h0.sq, h0.pn, h0.dm, h0.ds, h0.dx, h0.sm, h0.ss, h0.sx, h0.ct, h0.ky⟩) (p' := p0) (m' := m0) 1 (.bool h.ar) rfl
  have e3 := e2.set (h' := ⟨h.k, h.ar, h.pe, h0.se, h0.sq, h0.pn, h0.dm, h0.ds, h0.dx, h0.sm, h0.ss, h0.sx, h0.ct, h0.ky⟩) (p' := p0) (m' := m0) 2 (.bool h.pe) rfl
  have e4 := e3.set (h' := ⟨h.k, h.ar, h.pe, h.se, h0.sq, h0.pn, h0.dm, h0.ds, h0.dx, h0.sm, h0.ss, h0.sx, h0.ct, h0.ky⟩) (p' := p0) (m' := m0) 3 (.bool h.se) rfl
  have e5 := e4.set (h' := ⟨h.k, h.ar, h.pe, h.se, h.sq, h0.pn, h0.dm, h0.ds, h0.dx, h0.sm, h0.ss, h0.sx, h0.ct, h0.ky⟩) (p' := p0) (m' := m0) 4 (.int .u8 h.sq) rfl
  have e6 := e5.set (h' := ⟨h.k, h.ar, h.pe, h.se, h.sq, h.pn, h0.dm, h0.ds, h0.dx, h0.sm, h0.ss, h0.sx, h0.ct, h0.ky⟩) (p' := p0) (m' := m0) 5 (.int .u16 h.pn) rfl
  have e7 := e6.set (h' := ⟨h.k, h.ar, h.pe, h.se, h.sq, h.pn, h.dm, h0.ds, h0.dx, h0.sm, h0.ss, h0.sx, h0.ct, h0.ky⟩) (p' := p0) (m' := m0) 6 (.int .i64 h.dm) rfl
  have e8 := e7.set (h' := ⟨h.k, h.ar, h.pe, h.se, h.sq, h.pn, h.dm, h.ds, h0.dx, h0.sm, h0.ss, h0.sx, h0.ct, h0.ky⟩) (p' := p0) (m' := m0) 7 (.int .u16 h.ds) rfl
  have e9 := e8.set (h' := ⟨h.k, h.ar, h.pe, h.se, h.sq, h.pn, h.dm, h.ds, h.dx, h0.sm, h0.ss, h0.sx, h0.ct, h0.ky⟩) (p' := p0) (m' := m0) 8 (.int .u64 h.dx) rfl
  have e10 := e9.set (h' := ⟨h.k, h.ar, h.pe, h.se, h.sq, h.pn, h.dm, h.ds, h.dx, h.sm, h0.ss, h0.sx, h0.ct, h0.ky⟩) (p' := p0) (m' := m0) 9 (.int .i64 h.sm) rfl
  have e11 := e10.set (h' := ⟨h.k, h.ar, h.pe, h.se, h.sq, h.pn, h.dm, h.ds, h.dx, h.sm, h.ss, h0.sx, h0.ct, h0.ky⟩) (p' := p0) (m' := m0) 10 (.int .u16 h.ss) rfl
  have e12 := e11.set (h' := ⟨h.k, h.ar, h.pe, h.se, h.sq, h.pn, h.dm, h.ds, h.dx, h.sm, h.ss, h.sx, h0.ct, h0.ky⟩) (p' := p0) (m' := m0) 11 (.int .u64 h.sx) rfl
  have e13 := e12.set (h' := ⟨h.k, h.ar, h.pe, h.se, h.sq, h.pn, h.dm, h.ds, h.dx, h.sm, h.ss, h.sx, h.ct, h0.ky⟩) (p' := p0) (m' := m0) 12 (.int .u32 h.ct) rfl
  have e14 := e13.set (h' := ⟨h.k, h.ar, h.pe, h.se, h.sq, h.pn, h.dm, h.ds, h.dx, h.sm, h.ss, h.sx, h.ct, h.ky⟩) (p' := p0) (m' := m0) 13 (.int .u8 h.ky) rfl
  have e15 := e14.set (h' := ⟨h.k, h.ar, h.pe, h.se, h.sq, h.pn, h.dm, h.ds, h.dx, h.sm, h.ss, h.sx, h.ct, h.ky⟩) (p' := p) (m' := m0) 14 (p) rfl
  have e16 := e15.set (h' := ⟨h.k, h.ar, h.pe, h.se, h.sq, h.pn, h.dm, h.ds, h.dx, h.sm, h.ss, h.sx, h.ct, h.ky⟩) (p' := p) (m' := m) 15 (m) rfl
  exact e16
theorem wpList_store_frameK {ops : Array Oper} {rest : List Oper} {op : Oper} {a : Act} {w : World} {Q : Exit → Act → World → Prop} {g : Nat} {h0 h : Hd} {p0 m0 p m : Value} (hgd : op.guard = none) (x y : Operand) (ho : op.op = .store 31 x y)
    (hx : a.eval x = .pointer (some ⟨g, 0, none⟩)) (hy : a.eval y = fv h p m) (hK : Fk w g h0 p0 m0) (hp : OneC p) (hm : OneC m)
    (hh : ∀ w', Hid (Fk w' g h p m) → Only g w w' → wpList Try.prog ops Q rest (a.put op.dst undef) w') : wpList Try.prog ops Q (op :: rest) a w := by
  have hth := hK.there
  refine wpList_store_mid hgd 31 x y ho g 0 (fvl h p m).toArray hx hy hth frame_info (all_oneCell_toArray (fvl_one h p m hp hm)) ?_
  exact hh _ (hid (hK.whole h p m)) (only_cells _ _ _ _ (Only.refl g w))

/-- what AnyFrame answers: a valid frame -/
def RetAny (g : Nat) (w : World) (e : Ending) (w' : World) : Prop :=
  ∃ h p m P M, e = .returned (fv h p m) ∧ HOk h ∧ validF h P.length M.length = true ∧ Gr w' (w.heap.size + 1) p P ∧ Gr w' (w.heap.size + 1) m M ∧ TapeAt w' g ∧ Only g w w'

theorem valid_13 (h : Hd) (n k : Nat) (h13 : h.k = 1 ∨ h.k = 3) (ha : adrF h = true) (hs : secF h k = true) (hz : sizeF h n k ≤ 127) : validF h n k = true := by
  unfold validF
  rw [if_neg (by omega), if_pos h13]
  exact decide_eq_true ⟨ha, hs, hz⟩
theorem sizeF_13 (h : Hd) (n k : Nat) (h13 : h.k = 1 ∨ h.k = 3) : sizeF h n k = 7 + n + k + asz h.dm + asz h.sm + (if h.se then 5 else 0) := by
  unfold sizeF; rw [if_neg (by omega)]; omega

set_option maxHeartbeats 8000000 in
set_option maxRecDepth 100000 in
theorem anyframe_any (g : Nat) (w : World) (hT : TapeAt w g) :
    Calls Try.prog 6 #[.pointer (some ⟨g, 0, none⟩)] w (RetAny g w) := by
  have hglt := hT.lt
  have hRs : Fk (w.alloc (.cells #[.int .i64 0, .bool false, .bool false, .bool false, .int .u8 0, .int .u16 0, .int .i64 0, .int .u16 0, .int .u64 0, .int .i64 0, .int .u16 0, .int .u64 0, .int .u32 0, .int .u8 0, .slice none 0 0, .slice none 0 0] 31)) w.heap.size zH (.slice none 0 0) (.slice none 0 0) := Fk.new w zH (.slice none 0 0) (.slice none 0 0)
  have hx := (Below.refl w.heap.size w).alloc (Nat.le_refl _) (.cells #[.int .i64 0, .bool false, .bool false, .bool false, .int .u8 0, .int .u16 0, .int .i64 0, .int .u16 0, .int .u64 0, .int .i64 0, .int .u16 0, .int .u64 0, .int .u32 0, .int .u8 0, .slice none 0 0, .slice none 0 0] 31)
  have hT := hT.below hx
  have hO := Only.ofBelow g hx
  have hs : (w.alloc (.cells #[.int .i64 0, .bool false, .bool false, .bool false, .int .u8 0, .int .u16 0, .int .i64 0, .int .u16 0, .int .u64 0, .int .i64 0, .int .u16 0, .int .u64 0, .int .u32 0, .int .u8 0, .slice none 0 0, .slice none 0 0] 31)).heap.size = w.heap.size + 1 := by simp
  have hs := Nat.le_of_eq hs.symm
  go_enter Try.func6, Try.ntmps6
  go_wp2_with fail
  change Calls _ _ _ (w.alloc (.cells #[.int .i64 0, .bool false, .bool false, .bool false, .int .u8 0, .int .u16 0, .int .i64 0, .int .u16 0, .int .u64 0, .int .i64 0, .int .u16 0, .int .u64 0, .int .u32 0, .int .u8 0, .slice none 0 0, .slice none 0 0] 31)) _
  generalize w.alloc _ = w1 at *
  clear hx
  have tf : ∀ w, TapeAt w g → Calls Try.prog 10 #[.pointer (some ⟨g, 0, none⟩), .int .i64 20] w (RetFrame g w) := fun w h => tframe_any g 20 w h (by omega)
  with_reducible refine (tf _ hT).mono ?_
  rintro e2 w2 ⟨h, k, P, rfl, hk, hPn, hok, h13, hse, hct, hky, hadr, hOw, hT, hOn⟩
  have hRs := hRs.only hOn hRs.lt (Nat.ne_of_gt hglt)
  have hO := hO.trans hOn
  have hs1 := hs
  have hs := Nat.le_trans hs hOn.size
  have hkl := hOw.lt
  have hx := (Below.refl w2.heap.size w2).alloc (Nat.le_refl _) (.cells #[.int .i64 0, .bool false, .bool false, .bool false, .int .u8 0, .int .u16 0, .int .i64 0, .int .u16 0, .int .u64 0, .int .i64 0, .int .u16 0, .int .u64 0, .int .u32 0, .int .u8 0, .slice none 0 0, .slice none 0 0] 31)
  have hK2 : Fk (w2.alloc (.cells #[.int .i64 0, .bool false, .bool false, .bool false, .int .u8 0, .int .u16 0, .int .i64 0, .int .u16 0, .int .u64 0, .int .i64 0, .int .u16 0, .int .u64 0, .int .u32 0, .int .u8 0, .slice none 0 0, .slice none 0 0] 31)) w2.heap.size zH (.slice none 0 0) (.slice none 0 0) := Fk.new w2 zH (.slice none 0 0) (.slice none 0 0)
  go_upto_region 2 with ((with_reducible refine wpList_store_frameK (op := ⟨none, _, _, _, _, _⟩) ?_ (.tmp 3) (.tmp 5) ?_ ?_ (h := h) (p := .slice (some ⟨k, 0, none⟩) P.length P.length) (m := .slice none 0 0) ?_ hK2 ?_ ?_ ?_); (· exact rfl); (· exact rfl); (· exact rfl); (· exact rfl); (· exact rfl); (· exact rfl); intro w3 hR3 hO3)
  have hO3 := hO3
  have b23 := hx.trans (hO3.below (Nat.le_refl _) (by simp))
  have hOw := hOw.below b23 hkl
  have hS : TS w w3 g w2.heap.size h (.slice (some ⟨k, 0, none⟩) P.length P.length) (.slice none 0 0) := ⟨hT.below b23, (hO.trans (Only.ofBelow g b23)), hRs.below b23 hRs.lt, hR3.out, by omega, hglt⟩
  have hk5 : k < w2.heap.size := hkl
  have hkw : w.heap.size + 1 < k := by omega
  clear b23 hO3 hR3 hK2 hx hT hO hOn hs hRs hkl
  generalize w2.heap.size = b5 at *
  have z1 := asz_le h.dm
  have z2 := asz_le h.sm
  have hsz : sizeF h P.length 0 = 7 + P.length + asz h.dm + asz h.sm := by rw [sizeF_13 h _ _ h13, hse]; simp
  have hv0 : validF h P.length 0 = true := valid_13 h _ _ h13 hadr (by unfold secF; rw [hse]; simp [hct, hky]) (by omega)
  have jr := fun w hJ => rroom_any h (some ⟨k, 0, none⟩) P.length P.length P none 0 0 w hok hJ (by omega) (by omega)
  have hroom : roomF h P.length 0 = 127 - sizeF h P.length 0 := by unfold roomF; rw [if_neg (by rw [hv0]; simp; omega)]
  obtain ⟨R, hR⟩ : ∃ R, R = roomF h P.length 0 := ⟨_, rfl⟩
  rw [← hR] at jr hroom
  have hRv : sizeF h P.length 0 + R = 127 := by omega
  have HRV := hid hRv
  have hR127 : R ≤ 127 := by omega
  clear hR hRv hroom hs1 hk
  go_wp2_with fail
  with_reducible refine (next_any g 4 _ hS.tape (by decide) (by decide)).mono ?_
  rintro e4 w4 ⟨cs, rfl, hcs, hTn, hOn⟩
  have hS := hS.call hTn hOn
  have hOw := hOw.only hOn (by omega)
  clear hTn hOn
  have hfin : ∀ (w' wz : World) (h' : Hd) (p m : Value) (Q M : List UInt8), TS w w' g b5 h' p m → Only w.heap.size w' wz → HOk h' → validF h' Q.length M.length = true → Gr w' (w.heap.size + 1) p Q → Gr w' (w.heap.size + 1) m M → RetAny g w (.returned (fv h' p m)) wz :=
    fun _ _ _ _ _ _ _ s hz h1 h2 h3 h4 => ⟨_, _, _, _, _, rfl, h1, h2, h3.only hz (Nat.lt_succ_self _), h4.only hz (Nat.lt_succ_self _), s.tape.only hz s.glt, only_two s.only hz (Nat.le_refl _)⟩
  have HFIN := hid hfin
  clear hfin
  rcases (by omega : cs = 0 ∨ cs = 1 ∨ cs = 2 ∨ cs = 3) with rfl | rfl | rfl | rfl
  · have hRs := (hS.res.below (Below.refl _ _).drew hS.res.lt)
    go_upto_region 4 with (fail)
    refine wp_region_held_drew (S := fun w' => TapeAt w' g ∧ Only g w w' ∧ Fr w' b5 h (.slice (some ⟨k, 0, none⟩) P.length P.length) (.slice none 0 0)) (by kernel_rfl) (⟨hS.tape.below (Below.refl _ _).drew, hS.only.drewN 1, hS.fr.fr.drew⟩) (fun hHeld => ?_)
    refine wpAnyH_take (i := 0) (oi := ⟨some 10, _, _, _, _, _⟩) (v := ?_) rfl (by kernel_rfl) (by kernel_rfl) (by kernel_rfl) (fun _ _ _ h => h) (Or.inl ⟨by rfl, ?_⟩) hHeld ?_
    rotate_left
    · intro w hSw; go_simp; try with_reducible rfl
    try simp only [Act.put, List.setIfInBounds_toArray, List.set_cons_zero, List.set_cons_succ]
    refine wpAnyH_take (i := 2) (oi := ⟨some 12, _, _, _, _, _⟩) (v := ?_) rfl (by kernel_rfl) (by kernel_rfl) (by kernel_rfl) (fun _ _ _ h => h) (Or.inl ⟨by rfl, ?_⟩) hHeld ?_
    rotate_left
    · intro w hSw; go_simp; try with_reducible rfl
    try simp only [Act.put, List.setIfInBounds_toArray, List.set_cons_zero, List.set_cons_succ]
    refine wpAnyH_take (i := 3) (oi := ⟨some 13, _, _, _, _, _⟩) (v := ?_) rfl (by kernel_rfl) (by kernel_rfl) (by kernel_rfl) (fun _ _ _ h => h) (Or.inl ⟨by rfl, ?_⟩) hHeld ?_
    rotate_left
    · intro w hSw; have c4 := hSw.2.2.cells.2.2.2.2.1; go_simp; try with_reducible rfl
    try simp only [Act.put, List.setIfInBounds_toArray, List.set_cons_zero, List.set_cons_succ]
    refine wpAnyH_ready (rs := [1]) (by kernel_rfl) (by simp) ?_
    refine AllReadyH.cons (o := ⟨some 11, _, _, _, _, _⟩) rfl (fun K hK => ?_) AllReadyH.nil
    go_simp
    have hP1 := hHeld
    with_reducible refine (bool_any g 2 _ hHeld.1 (by decide) (by decide)).mono ?_
    rintro e1 v1 ⟨bb, rfl, hTn, hOn⟩
    have hQ1 : TapeAt v1 g ∧ Only g w v1 ∧ Fr v1 b5 h (.slice (some ⟨k, 0, none⟩) P.length P.length) (.slice none 0 0) := ⟨hTn, hP1.2.1.trans hOn, hP1.2.2.only hOn (hP1.2.2.lt) (by omega)⟩
    have hRs := hRs.only hOn hRs.lt (Nat.ne_of_gt hglt)
    clear hP1 hTn hOn
    go_wp2_with fail
    clear hHeld
    refine hK.out _ _ (hQ1) (fun hHeld => ?_)
    clear hK K
    try simp only [Act.put, List.setIfInBounds_toArray, List.set_cons_zero, List.set_cons_succ]
    refine wpAnyH_take (i := 4) (oi := ⟨some 14, _, _, _, _, _⟩) (v := ?_) rfl (by kernel_rfl) (by kernel_rfl) (by kernel_rfl) (fun _ _ _ h => h) (Or.inl ⟨by rfl, ?_⟩) hHeld ?_
    rotate_left
    · intro w hSw; go_simp; try with_reducible rfl
    try simp only [Act.put, List.setIfInBounds_toArray, List.set_cons_zero, List.set_cons_succ]
    refine wpAnyH_ready (rs := [5]) (by kernel_rfl) (by simp) ?_
    refine AllReadyH.cons (o := ⟨none, _, _, _, _, _⟩) rfl (fun K hK => ?_) AllReadyH.nil
    refine step_store_frame rfl (.tmp 2) (.tmp 14) rfl rfl (h := ⟨2, false, bb, false, h.sq, 0, 0, 0, 0, 0, 0, 0, 0, 0⟩) (p := .slice none 0 0) (m := .slice none 0 0) rfl hRs rfl rfl ?_
    intro wz hRz hOz
    have hQ5 : TapeAt wz g ∧ Only g w wz ∧ Fr wz b5 h (.slice (some ⟨k, 0, none⟩) P.length P.length) (.slice none 0 0) := ⟨hQ1.1.only hOz hglt, only_two hQ1.2.1 hOz (Nat.le_refl _), hQ1.2.2.only hOz hQ1.2.2.lt (by omega)⟩
    clear hHeld
    refine hK.out _ _ (hQ5) (fun hHeld => ?_)
    clear hK K
    try simp only [Act.put, List.setIfInBounds_toArray, List.set_cons_zero, List.set_cons_succ]
    refine wpAnyH_done (by kernel_rfl) ?_ _
    go_wp2_with fail
    refine bodyPost_ret (results_frame rfl rfl hRz.out) rfl ⟨_, _, _, [], [], rfl, hok_mk (by unfold I64; omega) hok.sq (by omega) (by unfold Ad3 I64 U64; omega) (by unfold Ad3 I64 U64; omega) (by omega) (by omega), ?_, Gr.nil _ _, Gr.nil _ _, hHeld.1, hHeld.2.1⟩
    simp [validF, ackF, secF]
  · go_wp2_with fail
    with_reducible refine (word_any g _ hS.tape).mono ?_
    rintro e5 w5 ⟨wd, rfl, hwd, hTn, hOn⟩
    have hS := hS.call hTn hOn
    have hOw := hOw.only hOn (by omega)
    go_wp2_with fail
    with_reducible refine (next_any g 3 _ hS.tape (by decide) (by decide)).mono ?_
    rintro e6 w6 ⟨ky, rfl, hky3, hTn, hOn⟩
    have hS := hS.call hTn hOn
    have hOw := hOw.only hOn (by omega)
    go_wp2_with fail
    with_reducible refine (fill_any g 4 _ hS.tape (by omega) (by omega)).mono ?_
    rintro e7 w7 ⟨km, M, rfl, hkm, hML, hOM, hTn, hOn⟩
    have HML := hid hML
    clear hML
    have hk7 := Nat.lt_of_lt_of_le hS.fr.lt hkm
    have hS := hS.call hTn hOn
    have hOw := hOw.only hOn (by omega)
    clear hTn hOn
    have q32 : IntKind.u32.wrap (wd : Int) = ((wd : Int) % 4294967296) := by rw [IntKind.wrap_u32]
    have q8 : IntKind.u8.wrap (ky : Int) = (ky : Int) := by rw [IntKind.wrap_u8]; omega
    have c3 := hS.fr.fr.cells.2.2.2.1
    have c12 := hS.fr.fr.cells.2.2.2.2.2.2.2.2.2.2.2.2.1
    have c13 := hS.fr.fr.cells.2.2.2.2.2.2.2.2.2.2.2.2.2.1
    have c15 := hS.fr.fr.cells.2.2.2.2.2.2.2.2.2.2.2.2.2.2.2
    have f3 := hS.fr.frozen 3
    have f12 := hS.fr.frozen 12
    have f13 := hS.fr.frozen 13
    have f15 := hS.fr.frozen 15
    go_upto_region 9 with (fail)
    have hS1 := hS.set 3 (.bool true) ⟨h.k, h.ar, h.pe, true, h.sq, h.pn, h.dm, h.ds, h.dx, h.sm, h.ss, h.sx, h.ct, h.ky⟩ (.slice (some ⟨k, 0, none⟩) P.length P.length) (.slice none 0 0) rfl
    have hS2 := hS1.set 12 (.int .u32 ((wd : Int) % 4294967296)) ⟨h.k, h.ar, h.pe, true, h.sq, h.pn, h.dm, h.ds, h.dx, h.sm, h.ss, h.sx, ((wd : Int) % 4294967296), h.ky⟩ (.slice (some ⟨k, 0, none⟩) P.length P.length) (.slice none 0 0) rfl
    have hS3 := hS2.set 13 (.int .u8 (ky : Int)) ⟨h.k, h.ar, h.pe, true, h.sq, h.pn, h.dm, h.ds, h.dx, h.sm, h.ss, h.sx, ((wd : Int) % 4294967296), (ky : Int)⟩ (.slice (some ⟨k, 0, none⟩) P.length P.length) (.slice none 0 0) rfl
    have hS4 := hS3.set 15 (.slice (some ⟨km, 0, none⟩) M.length M.length) ⟨h.k, h.ar, h.pe, true, h.sq, h.pn, h.dm, h.ds, h.dx, h.sm, h.ss, h.sx, ((wd : Int) % 4294967296), (ky : Int)⟩ (.slice (some ⟨k, 0, none⟩) P.length P.length) (.slice (some ⟨km, 0, none⟩) M.length M.length) rfl
    have o4 : ∀ {l : List UInt8} {kk : Nat}, Own w7 kk l → kk ≠ b5 → Own ((((w7.setCell ⟨b5, 3, none⟩ (.bool true)).setCell ⟨b5, 12, none⟩ (.int .u32 ((wd : Int) % 4294967296))).setCell ⟨b5, 13, none⟩ (.int .u8 (ky : Int))).setCell ⟨b5, 15, none⟩ (.slice (some ⟨km, 0, none⟩) M.length M.length)) kk l := fun {l kk} ho hne => (((ho.only (Only.set b5 3 w7 (.bool true)) hne).only (Only.set b5 12 _ (.int .u32 ((wd : Int) % 4294967296))) hne).only (Only.set b5 13 _ (.int .u8 (ky : Int))) hne).only (Only.set b5 15 _ (.slice (some ⟨km, 0, none⟩) M.length M.length)) hne
    have hOw4 := o4 hOw (by omega)
    have hOM4 := o4 hOM (by omega)
    clear o4 hS hS1 hS2 hS3 hOw hOM c3 c12 c13 c15 f3 f12 f13 f15
    generalize World.setCell _ _ _ = wq at *
    have hF := hS4.fr.fr
    have hK := hS4.res
    go_wp2_with (first | ((with_reducible refine wpList_load_frame (op := ⟨some 47, _, _, _, _, _⟩) ?_ (.tmp 3) ?_ ?_ hF ?_); (· exact rfl); (· exact rfl); (· exact rfl)) | ((with_reducible refine wpList_store_frame (op := ⟨none, _, _, _, _, _⟩) ?_ (.tmp 2) (.tmp 47) ?_ ?_ (h := ⟨h.k, h.ar, h.pe, true, h.sq, h.pn, h.dm, h.ds, h.dx, h.sm, h.ss, h.sx, ((wd : Int) % 4294967296), (ky : Int)⟩) (p := .slice (some ⟨k, 0, none⟩) P.length P.length) (m := .slice (some ⟨km, 0, none⟩) M.length M.length) ?_ hK ?_ ?_ ?_); (· exact rfl); (· exact rfl); (· exact rfl); (· exact rfl); (· exact rfl); (· exact rfl); intro wz hRz hOz))
    have hsv : validF ⟨h.k, h.ar, h.pe, true, h.sq, h.pn, h.dm, h.ds, h.dx, h.sm, h.ss, h.sx, ((wd : Int) % 4294967296), (ky : Int)⟩ P.length M.length = true := valid_13 _ _ _ h13 hadr (by unfold secF; rw [if_pos rfl, HML.out]; rfl) (by have e := sizeF_13 ⟨h.k, h.ar, h.pe, true, h.sq, h.pn, h.dm, h.ds, h.dx, h.sm, h.ss, h.sx, ((wd : Int) % 4294967296), (ky : Int)⟩ P.length M.length h13; rw [e]; dsimp only; rw [if_pos rfl, HML.out]; have e4 : (4 : Int).toNat = 4 := rfl; omega)
    exact bodyPost_ret (results_frame rfl rfl hRz.out) rfl (HFIN.out _ _ _ _ _ P M hS4 hOz (hok_mk hok.k hok.sq hok.pn hok.d hok.s (by omega) (by omega)) hsv (hOw4.gr (by omega) (by omega)) (hOM4.gr (by omega) (by rw [HML.out]; decide)))
  · have W6 : IntKind.i64.wrap ((R : Int) + (P.length : Int)) = (R : Int) + (P.length : Int) := by simp [IntKind.wrap, IntKind.bits, IntKind.signed]; omega
    have W11 : IntKind.i64.wrap (1 + (R : Int)) = 1 + (R : Int) := by simp [IntKind.wrap, IntKind.bits, IntKind.signed]; omega
    have hR0 : ¬ (1 + (R : Int) = 0) := by omega
    have W12 : ∀ x : Nat, (x : Int).tmod (1 + (R : Int)) = (x : Int) % (1 + (R : Int)) := fun x => Int.tmod_eq_emod_of_nonneg (by omega)
    have W13 : ∀ x : Nat, ∃ L0 : Nat, L0 ≤ R + P.length ∧ IntKind.i64.wrap ((R : Int) + (P.length : Int) - (x : Int) % (1 + (R : Int))) = (L0 : Int) := fun x => by
      have h1 := Int.emod_nonneg (x : Int) (show (1 + (R : Int)) ≠ 0 by omega)
      have h2 := Int.emod_lt_of_pos (x : Int) (show 0 < (1 + (R : Int)) by omega)
      generalize (x : Int) % (1 + (R : Int)) = y at *
      obtain ⟨L0, e⟩ := Int.eq_ofNat_of_zero_le (show 0 ≤ (R : Int) + (P.length : Int) - y by omega)
      rw [e]
      exact ⟨L0, by omega, by simp [IntKind.wrap, IntKind.bits, IntKind.signed]; omega⟩
    have HV2 : ∀ n, n ≤ P.length + R → validF h n 0 = true := fun n h2 => by
      have hs0 : sizeF h n 0 = 7 + n + asz h.dm + asz h.sm := by rw [sizeF_13 h _ _ h13, hse]; simp
      have hrv := HRV.out
      exact valid_13 h _ _ h13 hadr (by unfold secF; rw [hse]; simp [hct, hky]) (by omega)
    go_upto_region 8 with (fail)
    refine wp_region_held_drew (S := fun _ => True) (by kernel_rfl) trivial (fun _ => ?_)
    have hS := hS.below (Below.refl _ _).drew
    have hOw := hOw.below (Below.refl w4.heap.size w4).drew hOw.lt
    generalize w4.drew = v0 at hS hOw ⊢
    refine wpAnyH_take (i := 0) (oi := ⟨some 31, _, _, _, _, _⟩) (v := ?_) rfl (by kernel_rfl) (by kernel_rfl) (by kernel_rfl) (fun _ _ _ h => h) (Or.inl ⟨by rfl, ?_⟩) trivial ?_
    rotate_left
    · intro w hSw; go_simp; try with_reducible rfl
    try simp only [Act.put, List.setIfInBounds_toArray, List.set_cons_zero, List.set_cons_succ]
    refine wpAnyH_take (i := 3) (oi := ⟨some 34, _, _, _, _, _⟩) (v := ?_) rfl (by kernel_rfl) (by kernel_rfl) (by kernel_rfl) (fun _ _ _ h => h) (Or.inl ⟨by rfl, ?_⟩) trivial ?_
    rotate_left
    · intro w hSw; go_simp; try with_reducible rfl
    try simp only [Act.put, List.setIfInBounds_toArray, List.set_cons_zero, List.set_cons_succ]
    refine wpAnyH_take (i := 7) (oi := ⟨some 38, _, _, _, _, _⟩) (v := ?_) rfl (by kernel_rfl) (by kernel_rfl) (by kernel_rfl) (fun _ _ _ h => h) (Or.inl ⟨by rfl, ?_⟩) trivial ?_
    rotate_left
    · intro w hSw; go_simp; try with_reducible rfl
    try simp only [Act.put, List.setIfInBounds_toArray, List.set_cons_zero, List.set_cons_succ]
    refine wpAnyH_ready (rs := [1, 4, 9]) (by kernel_rfl) (by simp) ?_
    refine (AllReadyH.cons (o := ⟨some 32, _, _, _, _, _⟩) rfl ?_ (AllReadyH.cons (o := ⟨some 35, _, _, _, _, _⟩) rfl ?_ (AllReadyH.cons (o := ⟨some 40, _, _, _, _, _⟩) rfl ?_ AllReadyH.nil)))
    · intro K hK
      refine step_load_frame rfl (.tmp 3) rfl rfl hS.fr.fr ?_
      refine hK.out _ _ trivial (fun _ => ?_)
      clear hK K
      try simp only [Act.put, List.setIfInBounds_toArray, List.set_cons_zero, List.set_cons_succ]
      refine wpAnyH_ready (rs := [2, 4, 9]) (by kernel_rfl) (by simp) ?_
      refine (AllReadyH.cons (o := ⟨some 33, _, _, _, _, _⟩) rfl ?_ (AllReadyH.cons (o := ⟨some 35, _, _, _, _, _⟩) rfl ?_ (AllReadyH.cons (o := ⟨some 40, _, _, _, _, _⟩) rfl ?_ AllReadyH.nil)))
      · intro K hK
        go_simp
        with_reducible refine (jr v0 (hOw.isB (by omega))).mono ?_
        rintro e v1 ⟨rfl, hb⟩
        have hS := hS.below hb
        have hOw := hOw.below hb hOw.lt
        go_wp2_with fail
        refine hK.out _ _ trivial (fun _ => ?_)
        clear hK K hb
        try simp only [Act.put, List.setIfInBounds_toArray, List.set_cons_zero, List.set_cons_succ]
        refine wpAnyH_ready (rs := [4, 8, 9]) (by kernel_rfl) (by simp) ?_
        refine (AllReadyH.cons (o := ⟨some 35, _, _, _, _, _⟩) rfl ?_ (AllReadyH.cons (o := ⟨some 39, _, _, _, _, _⟩) rfl ?_ (AllReadyH.cons (o := ⟨some 40, _, _, _, _, _⟩) rfl ?_ AllReadyH.nil)))
        · intro K hK
          have c14 := hS.fr.fr.cells.2.2.2.2.2.2.2.2.2.2.2.2.2.2.1
          go_simp
          refine hK.out _ _ trivial (fun _ => ?_)
          clear hK K c14
          try simp only [Act.put, List.setIfInBounds_toArray, List.set_cons_zero, List.set_cons_succ]
          refine wpAnyH_take (i := 5) (oi := ⟨some 36, _, _, _, _, _⟩) (v := .int .i64 (P.length : Int)) rfl (by kernel_rfl) (by kernel_rfl) (by kernel_rfl) (fun _ _ _ h => h) (Or.inl ⟨by rfl, ?_⟩) trivial ?_
          · intro w hSw; go_simp; try rfl
          try simp only [Act.put, List.setIfInBounds_toArray, List.set_cons_zero, List.set_cons_succ]
          refine wpAnyH_take (i := 6) (oi := ⟨some 37, _, _, _, _, _⟩) (v := .int .i64 ((R : Int) + (P.length : Int))) rfl (by kernel_rfl) (by kernel_rfl) (by kernel_rfl) (fun _ _ _ h => h) (Or.inl ⟨by rfl, ?_⟩) trivial ?_
          · intro w hSw; go_simp; try simp only [W6]
          try simp only [Act.put, List.setIfInBounds_toArray, List.set_cons_zero, List.set_cons_succ]
          refine wpAnyH_ready (rs := [8, 9]) (by kernel_rfl) (by simp) ?_
          refine (AllReadyH.cons (o := ⟨some 39, _, _, _, _, _⟩) rfl ?_ (AllReadyH.cons (o := ⟨some 40, _, _, _, _, _⟩) rfl ?_ AllReadyH.nil))
          · intro K hK
            go_simp
            with_reducible refine (next_any g 3 v1 hS.tape (by decide) (by decide)).mono ?_
            rintro e v2 ⟨x, rfl, hx, hTn, hOn⟩
            have hS := hS.call hTn hOn
            have hOw := hOw.only hOn (by omega)
            have W12x := W12 x
            obtain ⟨L0, hL0, W13x⟩ := W13 x
            go_wp2_with fail
            refine hK.out _ _ trivial (fun _ => ?_)
            clear hK K hTn hOn
            try simp only [Act.put, List.setIfInBounds_toArray, List.set_cons_zero, List.set_cons_succ]
            refine wpAnyH_ready (rs := [9]) (by kernel_rfl) (by simp) ?_
            refine (AllReadyH.cons (o := ⟨some 40, _, _, _, _, _⟩) rfl ?_ AllReadyH.nil)
            · intro K hK
              refine step_load_frame rfl (.tmp 3) rfl rfl hS.fr.fr ?_
              refine hK.out _ _ trivial (fun _ => ?_)
              clear hK K
              try simp only [Act.put, List.setIfInBounds_toArray, List.set_cons_zero, List.set_cons_succ]
              refine wpAnyH_ready (rs := [10]) (by kernel_rfl) (by simp) ?_
              refine (AllReadyH.cons (o := ⟨some 41, _, _, _, _, _⟩) rfl ?_ AllReadyH.nil)
              · intro K hK
                go_simp
                with_reducible refine (jr v2 (hOw.isB (by omega))).mono ?_
                rintro e v3 ⟨rfl, hb⟩
                have hS := hS.below hb
                have hOw := hOw.below hb hOw.lt
                go_wp2_with fail
                refine hK.out _ _ trivial (fun _ => ?_)
                clear hK K hb
                try simp only [Act.put, List.setIfInBounds_toArray, List.set_cons_zero, List.set_cons_succ]
                refine wpAnyH_take (i := 11) (oi := ⟨some 42, _, _, _, _, _⟩) (v := .int .i64 (1 + (R : Int))) rfl (by kernel_rfl) (by kernel_rfl) (by kernel_rfl) (fun _ _ _ h => h) (Or.inl ⟨by rfl, ?_⟩) trivial ?_
                · intro w hSw; go_simp; try simp only [W11]
                try simp only [Act.put, List.setIfInBounds_toArray, List.set_cons_zero, List.set_cons_succ]
                refine wpAnyH_take (i := 12) (oi := ⟨some 43, _, _, _, _, _⟩) (v := .int .i64 ((x : Int) % (1 + (R : Int)))) rfl (by kernel_rfl) (by kernel_rfl) (by kernel_rfl) (fun _ _ _ h => h) (Or.inl ⟨by rfl, ?_⟩) trivial ?_
                · intro w hSw; go_simp; try simp only [hR0, if_false, W12x]
                try simp only [Act.put, List.setIfInBounds_toArray, List.set_cons_zero, List.set_cons_succ]
                refine wpAnyH_take (i := 13) (oi := ⟨some 44, _, _, _, _, _⟩) (v := .int .i64 (L0 : Int)) rfl (by kernel_rfl) (by kernel_rfl) (by kernel_rfl) (fun _ _ _ h => h) (Or.inl ⟨by rfl, ?_⟩) trivial ?_
                · intro w hSw; go_simp; try simp only [W13x]
                try simp only [Act.put, List.setIfInBounds_toArray, List.set_cons_zero, List.set_cons_succ]
                refine wpAnyH_ready (rs := [14]) (by kernel_rfl) (by simp) ?_
                refine (AllReadyH.cons (o := ⟨some 45, _, _, _, _, _⟩) rfl ?_ AllReadyH.nil)
                · intro K hK
                  go_simp
                  with_reducible refine (fill_any g (L0 : Int) v3 hS.tape (by omega) (by omega)).mono ?_
                  rintro e v4 ⟨k2, L, rfl, hk2, hL, hOL, hTn, hOn⟩
                  have HL := hid hL
                  clear hL
                  have hk5 := Nat.lt_of_lt_of_le hS.fr.lt hk2
                  have hS := hS.call hTn hOn
                  go_wp2_with fail
                  refine hK.out _ _ trivial (fun _ => ?_)
                  clear hK K hTn hOn
                  try simp only [Act.put, List.setIfInBounds_toArray, List.set_cons_zero, List.set_cons_succ]
                  refine wpAnyH_take (i := 15) (oi := ⟨some 46, _, _, _, _, _⟩) (v := ?_) rfl (by kernel_rfl) (by kernel_rfl) (by kernel_rfl) (fun _ _ _ h => h) (Or.inl ⟨by rfl, ?_⟩) trivial ?_
                  rotate_left
                  · intro w hSw; go_simp; try with_reducible rfl
                  try simp only [Act.put, List.setIfInBounds_toArray, List.set_cons_zero, List.set_cons_succ]
                  refine wpAnyH_ready (rs := [16]) (by kernel_rfl) (by simp) ?_
                  refine (AllReadyH.cons (o := ⟨none, _, _, _, _, _⟩) rfl ?_ AllReadyH.nil)
                  · intro K hK
                    have c14 := hS.fr.fr.cells.2.2.2.2.2.2.2.2.2.2.2.2.2.2.1
                    have f14 := hS.fr.frozen 14
                    go_simp
                    refine hK.out _ _ trivial (fun _ => ?_)
                    clear hK K
                    try simp only [Act.put, List.setIfInBounds_toArray, List.set_cons_zero, List.set_cons_succ]
                    have hS2 := hS.set 14 (.slice (some ⟨k2, 0, none⟩) L.length L.length) h (.slice (some ⟨k2, 0, none⟩) L.length L.length) (.slice none 0 0) rfl
                    have hOL2 := hOL.only (Only.set b5 14 _ (.slice (some ⟨k2, 0, none⟩) L.length L.length)) (by omega)
                    refine wpAnyH_done (by kernel_rfl) ?_ _
                    generalize World.setCell _ _ _ = wq at hS2 hOL2 ⊢
                    have hF := hS2.fr.fr
                    have hK := hS2.res
                    go_wp2_with (first | ((with_reducible refine wpList_load_frame (op := ⟨some 47, _, _, _, _, _⟩) ?_ (.tmp 3) ?_ ?_ hF ?_); (· exact rfl); (· exact rfl); (· exact rfl)) | ((with_reducible refine wpList_store_frame (op := ⟨none, _, _, _, _, _⟩) ?_ (.tmp 2) (.tmp 47) ?_ ?_ (h := h) (p := .slice (some ⟨k2, 0, none⟩) L.length L.length) (m := .slice none 0 0) ?_ hK ?_ ?_ ?_); (· exact rfl); (· exact rfl); (· exact rfl); (· exact rfl); (· exact rfl); (· exact rfl); intro wz hRz hOz))
                    exact bodyPost_ret (results_frame rfl rfl hRz.out) rfl (HFIN.out _ _ _ _ _ L [] hS2 hOz hok (HV2 _ (by rw [HL.out]; omega)) (hOL2.gr (by omega) (by rw [HL.out]; omega)) (Gr.nil _ _))
          · intro K hK
            refine step_load_frame rfl (.tmp 3) rfl rfl hS.fr.fr ?_
            refine hK.out _ _ trivial (fun _ => ?_)
            clear hK K
            try simp only [Act.put, List.setIfInBounds_toArray, List.set_cons_zero, List.set_cons_succ]
            refine wpAnyH_ready (rs := [8]) (by kernel_rfl) (by simp) ?_
            refine (AllReadyH.cons (o := ⟨some 39, _, _, _, _, _⟩) rfl ?_ AllReadyH.nil)
            · intro K hK
              go_simp
              with_reducible refine (next_any g 3 v1 hS.tape (by decide) (by decide)).mono ?_
              rintro e v5 ⟨x, rfl, hx, hTn, hOn⟩
              have hS := hS.call hTn hOn
              have hOw := hOw.only hOn (by omega)
              have W12x := W12 x
              obtain ⟨L0, hL0, W13x⟩ := W13 x
              go_wp2_with fail
              refine hK.out _ _ trivial (fun _ => ?_)
              clear hK K hTn hOn
              try simp only [Act.put, List.setIfInBounds_toArray, List.set_cons_zero, List.set_cons_succ]
              refine wpAnyH_ready (rs := [10]) (by kernel_rfl) (by simp) ?_
              refine (AllReadyH.cons (o := ⟨some 41, _, _, _, _, _⟩) rfl ?_ AllReadyH.nil)
              · intro K hK
                go_simp
                with_reducible refine (jr v5 (hOw.isB (by omega))).mono ?_
                rintro e v6 ⟨rfl, hb⟩
                have hS := hS.below hb
                have hOw := hOw.below hb hOw.lt
                go_wp2_with fail
                refine hK.out _ _ trivial (fun _ => ?_)
                clear hK K hb
                try simp only [Act.put, List.setIfInBounds_toArray, List.set_cons_zero, List.set_cons_succ]
                refine wpAnyH_take (i := 11) (oi := ⟨some 42, _, _, _, _, _⟩) (v := .int .i64 (1 + (R : Int))) rfl (by kernel_rfl) (by kernel_rfl) (by kernel_rfl) (fun _ _ _ h => h) (Or.inl ⟨by rfl, ?_⟩) trivial ?_
                · intro w hSw; go_simp; try simp only [W11]
                try simp only [Act.put, List.setIfInBounds_toArray, List.set_cons_zero, List.set_cons_succ]
                refine wpAnyH_take (i := 12) (oi := ⟨some 43, _, _, _, _, _⟩) (v := .int .i64 ((x : Int) % (1 + (R : Int)))) rfl (by kernel_rfl) (by kernel_rfl) (by kernel_rfl) (fun _ _ _ h => h) (Or.inl ⟨by rfl, ?_⟩) trivial ?_
                · intro w hSw; go_simp; try simp only [hR0, if_false, W12x]
                try simp only [Act.put, List.setIfInBounds_toArray, List.set_cons_zero, List.set_cons_succ]
                refine wpAnyH_take (i := 13) (oi := ⟨some 44, _, _, _, _, _⟩) (v := .int .i64 (L0 : Int)) rfl (by kernel_rfl) (by kernel_rfl) (by kernel_rfl) (fun _ _ _ h => h) (Or.inl ⟨by rfl, ?_⟩) trivial ?_
                · intro w hSw; go_simp; try simp only [W13x]
                try simp only [Act.put, List.setIfInBounds_toArray, List.set_cons_zero, List.set_cons_succ]
                refine wpAnyH_ready (rs := [14]) (by kernel_rfl) (by simp) ?_
                refine (AllReadyH.cons (o := ⟨some 45, _, _, _, _, _⟩) rfl ?_ AllReadyH.nil)
                · intro K hK
                  go_simp
                  with_reducible refine (fill_any g (L0 : Int) v6 hS.tape (by omega) (by omega)).mono ?_
                  rintro e v7 ⟨k2, L, rfl, hk2, hL, hOL, hTn, hOn⟩
                  have HL := hid hL
                  clear hL
                  have hk5 := Nat.lt_of_lt_of_le hS.fr.lt hk2
                  have hS := hS.call hTn hOn
                  go_wp2_with fail
                  refine hK.out _ _ trivial (fun _ => ?_)
                  clear hK K hTn hOn
                  try simp only [Act.put, List.setIfInBounds_toArray, List.set_cons_zero, List.set_cons_succ]
                  refine wpAnyH_take (i := 15) (oi := ⟨some 46, _, _, _, _, _⟩) (v := ?_) rfl (by kernel_rfl) (by kernel_rfl) (by kernel_rfl) (fun _ _ _ h => h) (Or.inl ⟨by rfl, ?_⟩) trivial ?_
                  rotate_left
                  · intro w hSw; go_simp; try with_reducible rfl
                  try simp only [Act.put, List.setIfInBounds_toArray, List.set_cons_zero, List.set_cons_succ]
                  refine wpAnyH_ready (rs := [16]) (by kernel_rfl) (by simp) ?_
                  refine (AllReadyH.cons (o := ⟨none, _, _, _, _, _⟩) rfl ?_ AllReadyH.nil)
                  · intro K hK
                    have c14 := hS.fr.fr.cells.2.2.2.2.2.2.2.2.2.2.2.2.2.2.1
                    have f14 := hS.fr.frozen 14
                    go_simp
                    refine hK.out _ _ trivial (fun _ => ?_)
                    clear hK K
                    try simp only [Act.put, List.setIfInBounds_toArray, List.set_cons_zero, List.set_cons_succ]
                    have hS2 := hS.set 14 (.slice (some ⟨k2, 0, none⟩) L.length L.length) h (.slice (some ⟨k2, 0, none⟩) L.length L.length) (.slice none 0 0) rfl
                    have hOL2 := hOL.only (Only.set b5 14 _ (.slice (some ⟨k2, 0, none⟩) L.length L.length)) (by omega)
                    refine wpAnyH_done (by kernel_rfl) ?_ _
                    generalize World.setCell _ _ _ = wq at hS2 hOL2 ⊢
                    have hF := hS2.fr.fr
                    have hK := hS2.res
                    go_wp2_with (first | ((with_reducible refine wpList_load_frame (op := ⟨some 47, _, _, _, _, _⟩) ?_ (.tmp 3) ?_ ?_ hF ?_); (· exact rfl); (· exact rfl); (· exact rfl)) | ((with_reducible refine wpList_store_frame (op := ⟨none, _, _, _, _, _⟩) ?_ (.tmp 2) (.tmp 47) ?_ ?_ (h := h) (p := .slice (some ⟨k2, 0, none⟩) L.length L.length) (m := .slice none 0 0) ?_ hK ?_ ?_ ?_); (· exact rfl); (· exact rfl); (· exact rfl); (· exact rfl); (· exact rfl); (· exact rfl); intro wz hRz hOz))
                    exact bodyPost_ret (results_frame rfl rfl hRz.out) rfl (HFIN.out _ _ _ _ _ L [] hS2 hOz hok (HV2 _ (by rw [HL.out]; omega)) (hOL2.gr (by omega) (by rw [HL.out]; omega)) (Gr.nil _ _))
        · intro K hK
          go_simp
          with_reducible refine (next_any g 3 v1 hS.tape (by decide) (by decide)).mono ?_
          rintro e v8 ⟨x, rfl, hx, hTn, hOn⟩
          have hS := hS.call hTn hOn
          have hOw := hOw.only hOn (by omega)
          have W12x := W12 x
          obtain ⟨L0, hL0, W13x⟩ := W13 x
          go_wp2_with fail
          refine hK.out _ _ trivial (fun _ => ?_)
          clear hK K hTn hOn
          try simp only [Act.put, List.setIfInBounds_toArray, List.set_cons_zero, List.set_cons_succ]
          refine wpAnyH_ready (rs := [4, 9]) (by kernel_rfl) (by simp) ?_
          refine (AllReadyH.cons (o := ⟨some 35, _, _, _, _, _⟩) rfl ?_ (AllReadyH.cons (o := ⟨some 40, _, _, _, _, _⟩) rfl ?_ AllReadyH.nil))
          · intro K hK
            have c14 := hS.fr.fr.cells.2.2.2.2.2.2.2.2.2.2.2.2.2.2.1
            go_simp
            refine hK.out _ _ trivial (fun _ => ?_)
            clear hK K c14
            try simp only [Act.put, List.setIfInBounds_toArray, List.set_cons_zero, List.set_cons_succ]
            refine wpAnyH_take (i := 5) (oi := ⟨some 36, _, _, _, _, _⟩) (v := .int .i64 (P.length : Int)) rfl (by kernel_rfl) (by kernel_rfl) (by kernel_rfl) (fun _ _ _ h => h) (Or.inl ⟨by rfl, ?_⟩) trivial ?_
            · intro w hSw; go_simp; try rfl
            try simp only [Act.put, List.setIfInBounds_toArray, List.set_cons_zero, List.set_cons_succ]
            refine wpAnyH_take (i := 6) (oi := ⟨some 37, _, _, _, _, _⟩) (v := .int .i64 ((R : Int) + (P.length : Int))) rfl (by kernel_rfl) (by kernel_rfl) (by kernel_rfl) (fun _ _ _ h => h) (Or.inl ⟨by rfl, ?_⟩) trivial ?_
            · intro w hSw; go_simp; try simp only [W6]
            try simp only [Act.put, List.setIfInBounds_toArray, List.set_cons_zero, List.set_cons_succ]
            refine wpAnyH_ready (rs := [9]) (by kernel_rfl) (by simp) ?_
            refine (AllReadyH.cons (o := ⟨some 40, _, _, _, _, _⟩) rfl ?_ AllReadyH.nil)
            · intro K hK
              refine step_load_frame rfl (.tmp 3) rfl rfl hS.fr.fr ?_
              refine hK.out _ _ trivial (fun _ => ?_)
              clear hK K
              try simp only [Act.put, List.setIfInBounds_toArray, List.set_cons_zero, List.set_cons_succ]
              refine wpAnyH_ready (rs := [10]) (by kernel_rfl) (by simp) ?_
              refine (AllReadyH.cons (o := ⟨some 41, _, _, _, _, _⟩) rfl ?_ AllReadyH.nil)
              · intro K hK
                go_simp
                with_reducible refine (jr v8 (hOw.isB (by omega))).mono ?_
                rintro e v9 ⟨rfl, hb⟩
                have hS := hS.below hb
                have hOw := hOw.below hb hOw.lt
                go_wp2_with fail
                refine hK.out _ _ trivial (fun _ => ?_)
                clear hK K hb
                try simp only [Act.put, List.setIfInBounds_toArray, List.set_cons_zero, List.set_cons_succ]
                refine wpAnyH_take (i := 11) (oi := ⟨some 42, _, _, _, _, _⟩) (v := .int .i64 (1 + (R : Int))) rfl (by kernel_rfl) (by kernel_rfl) (by kernel_rfl) (fun _ _ _ h => h) (Or.inl ⟨by rfl, ?_⟩) trivial ?_
                · intro w hSw; go_simp; try simp only [W11]
                try simp only [Act.put, List.setIfInBounds_toArray, List.set_cons_zero, List.set_cons_succ]
                refine wpAnyH_take (i := 12) (oi := ⟨some 43, _, _, _, _, _⟩) (v := .int .i64 ((x : Int) % (1 + (R : Int)))) rfl (by kernel_rfl) (by kernel_rfl) (by kernel_rfl) (fun _ _ _ h => h) (Or.inl ⟨by rfl, ?_⟩) trivial ?_
                · intro w hSw; go_simp; try simp only [hR0, if_false, W12x]
                try simp only [Act.put, List.setIfInBounds_toArray, List.set_cons_zero, List.set_cons_succ]
                refine wpAnyH_take (i := 13) (oi := ⟨some 44, _, _, _, _, _⟩) (v := .int .i64 (L0 : Int)) rfl (by kernel_rfl) (by kernel_rfl) (by kernel_rfl) (fun _ _ _ h => h) (Or.inl ⟨by rfl, ?_⟩) trivial ?_
                · intro w hSw; go_simp; try simp only [W13x]
                try simp only [Act.put, List.setIfInBounds_toArray, List.set_cons_zero, List.set_cons_succ]
                refine wpAnyH_ready (rs := [14]) (by kernel_rfl) (by simp) ?_
                refine (AllReadyH.cons (o := ⟨some 45, _, _, _, _, _⟩) rfl ?_ AllReadyH.nil)
                · intro K hK
                  go_simp
                  with_reducible refine (fill_any g (L0 : Int) v9 hS.tape (by omega) (by omega)).mono ?_
                  rintro e v10 ⟨k2, L, rfl, hk2, hL, hOL, hTn, hOn⟩
                  have HL := hid hL
                  clear hL
                  have hk5 := Nat.lt_of_lt_of_le hS.fr.lt hk2
                  have hS := hS.call hTn hOn
                  go_wp2_with fail
                  refine hK.out _ _ trivial (fun _ => ?_)
                  clear hK K hTn hOn
                  try simp only [Act.put, List.setIfInBounds_toArray, List.set_cons_zero, List.set_cons_succ]
                  refine wpAnyH_take (i := 15) (oi := ⟨some 46, _, _, _, _, _⟩) (v := ?_) rfl (by kernel_rfl) (by kernel_rfl) (by kernel_rfl) (fun _ _ _ h => h) (Or.inl ⟨by rfl, ?_⟩) trivial ?_
                  rotate_left
                  · intro w hSw; go_simp; try with_reducible rfl
                  try simp only [Act.put, List.setIfInBounds_toArray, List.set_cons_zero, List.set_cons_succ]
                  refine wpAnyH_ready (rs := [16]) (by kernel_rfl) (by simp) ?_
                  refine (AllReadyH.cons (o := ⟨none, _, _, _, _, _⟩) rfl ?_ AllReadyH.nil)
                  · intro K hK
                    have c14 := hS.fr.fr.cells.2.2.2.2.2.2.2.2.2.2.2.2.2.2.1
                    have f14 := hS.fr.frozen 14
                    go_simp
                    refine hK.out _ _ trivial (fun _ => ?_)
                    clear hK K
                    try simp only [Act.put, List.setIfInBounds_toArray, List.set_cons_zero, List.set_cons_succ]
                    have hS2 := hS.set 14 (.slice (some ⟨k2, 0, none⟩) L.length L.length) h (.slice (some ⟨k2, 0, none⟩) L.length L.length) (.slice none 0 0) rfl
                    have hOL2 := hOL.only (Only.set b5 14 _ (.slice (some ⟨k2, 0, none⟩) L.length L.length)) (by omega)
                    refine wpAnyH_done (by kernel_rfl) ?_ _
                    generalize World.setCell _ _ _ = wq at hS2 hOL2 ⊢
                    have hF := hS2.fr.fr
                    have hK := hS2.res
                    go_wp2_with (first | ((with_reducible refine wpList_load_frame (op := ⟨some 47, _, _, _, _, _⟩) ?_ (.tmp 3) ?_ ?_ hF ?_); (· exact rfl); (· exact rfl); (· exact rfl)) | ((with_reducible refine wpList_store_frame (op := ⟨none, _, _, _, _, _⟩) ?_ (.tmp 2) (.tmp 47) ?_ ?_ (h := h) (p := .slice (some ⟨k2, 0, none⟩) L.length L.length) (m := .slice none 0 0) ?_ hK ?_ ?_ ?_); (· exact rfl); (· exact rfl); (· exact rfl); (· exact rfl); (· exact rfl); (· exact rfl); intro wz hRz hOz))
                    exact bodyPost_ret (results_frame rfl rfl hRz.out) rfl (HFIN.out _ _ _ _ _ L [] hS2 hOz hok (HV2 _ (by rw [HL.out]; omega)) (hOL2.gr (by omega) (by rw [HL.out]; omega)) (Gr.nil _ _))
          · intro K hK
            refine step_load_frame rfl (.tmp 3) rfl rfl hS.fr.fr ?_
            refine hK.out _ _ trivial (fun _ => ?_)
            clear hK K
            try simp only [Act.put, List.setIfInBounds_toArray, List.set_cons_zero, List.set_cons_succ]
            refine wpAnyH_ready (rs := [4, 10]) (by kernel_rfl) (by simp) ?_
            refine (AllReadyH.cons (o := ⟨some 35, _, _, _, _, _⟩) rfl ?_ (AllReadyH.cons (o := ⟨some 41, _, _, _, _, _⟩) rfl ?_ AllReadyH.nil))
            · intro K hK
              have c14 := hS.fr.fr.cells.2.2.2.2.2.2.2.2.2.2.2.2.2.2.1
              go_simp
              refine hK.out _ _ trivial (fun _ => ?_)
              clear hK K c14
              try simp only [Act.put, List.setIfInBounds_toArray, List.set_cons_zero, List.set_cons_succ]
              refine wpAnyH_take (i := 5) (oi := ⟨some 36, _, _, _, _, _⟩) (v := .int .i64 (P.length : Int)) rfl (by kernel_rfl) (by kernel_rfl) (by kernel_rfl) (fun _ _ _ h => h) (Or.inl ⟨by rfl, ?_⟩) trivial ?_
              · intro w hSw; go_simp; try rfl
              try simp only [Act.put, List.setIfInBounds_toArray, List.set_cons_zero, List.set_cons_succ]
              refine wpAnyH_take (i := 6) (oi := ⟨some 37, _, _, _, _, _⟩) (v := .int .i64 ((R : Int) + (P.length : Int))) rfl (by kernel_rfl) (by kernel_rfl) (by kernel_rfl) (fun _ _ _ h => h) (Or.inl ⟨by rfl, ?_⟩) trivial ?_
              · intro w hSw; go_simp; try simp only [W6]
              try simp only [Act.put, List.setIfInBounds_toArray, List.set_cons_zero, List.set_cons_succ]
              refine wpAnyH_ready (rs := [10]) (by kernel_rfl) (by simp) ?_
              refine (AllReadyH.cons (o := ⟨some 41, _, _, _, _, _⟩) rfl ?_ AllReadyH.nil)
              · intro K hK
                go_simp
                with_reducible refine (jr v8 (hOw.isB (by omega))).mono ?_
                rintro e v11 ⟨rfl, hb⟩
                have hS := hS.below hb
                have hOw := hOw.below hb hOw.lt
                go_wp2_with fail
                refine hK.out _ _ trivial (fun _ => ?_)
                clear hK K hb
                try simp only [Act.put, List.setIfInBounds_toArray, List.set_cons_zero, List.set_cons_succ]
                refine wpAnyH_take (i := 11) (oi := ⟨some 42, _, _, _, _, _⟩) (v := .int .i64 (1 + (R : Int))) rfl (by kernel_rfl) (by kernel_rfl) (by kernel_rfl) (fun _ _ _ h => h) (Or.inl ⟨by rfl, ?_⟩) trivial ?_
                · intro w hSw; go_simp; try simp only [W11]
                try simp only [Act.put, List.setIfInBounds_toArray, List.set_cons_zero, List.set_cons_succ]
                refine wpAnyH_take (i := 12) (oi := ⟨some 43, _, _, _, _, _⟩) (v := .int .i64 ((x : Int) % (1 + (R : Int)))) rfl (by kernel_rfl) (by kernel_rfl) (by kernel_rfl) (fun _ _ _ h => h) (Or.inl ⟨by rfl, ?_⟩) trivial ?_
                · intro w hSw; go_simp; try simp only [hR0, if_false, W12x]
                try simp only [Act.put, List.setIfInBounds_toArray, List.set_cons_zero, List.set_cons_succ]
                refine wpAnyH_take (i := 13) (oi := ⟨some 44, _, _, _, _, _⟩) (v := .int .i64 (L0 : Int)) rfl (by kernel_rfl) (by kernel_rfl) (by kernel_rfl) (fun _ _ _ h => h) (Or.inl ⟨by rfl, ?_⟩) trivial ?_
                · intro w hSw; go_simp; try simp only [W13x]
                try simp only [Act.put, List.setIfInBounds_toArray, List.set_cons_zero, List.set_cons_succ]
                refine wpAnyH_ready (rs := [14]) (by kernel_rfl) (by simp) ?_
                refine (AllReadyH.cons (o := ⟨some 45, _, _, _, _, _⟩) rfl ?_ AllReadyH.nil)
                · intro K hK
                  go_simp
                  with_reducible refine (fill_any g (L0 : Int) v11 hS.tape (by omega) (by omega)).mono ?_
                  rintro e v12 ⟨k2, L, rfl, hk2, hL, hOL, hTn, hOn⟩
                  have HL := hid hL
                  clear hL
                  have hk5 := Nat.lt_of_lt_of_le hS.fr.lt hk2
                  have hS := hS.call hTn hOn
                  go_wp2_with fail
                  refine hK.out _ _ trivial (fun _ => ?_)
                  clear hK K hTn hOn
                  try simp only [Act.put, List.setIfInBounds_toArray, List.set_cons_zero, List.set_cons_succ]
                  refine wpAnyH_take (i := 15) (oi := ⟨some 46, _, _, _, _, _⟩) (v := ?_) rfl (by kernel_rfl) (by kernel_rfl) (by kernel_rfl) (fun _ _ _ h => h) (Or.inl ⟨by rfl, ?_⟩) trivial ?_
                  rotate_left
                  · intro w hSw; go_simp; try with_reducible rfl
                  try simp only [Act.put, List.setIfInBounds_toArray, List.set_cons_zero, List.set_cons_succ]
                  refine wpAnyH_ready (rs := [16]) (by kernel_rfl) (by simp) ?_
                  refine (AllReadyH.cons (o := ⟨none, _, _, _, _, _⟩) rfl ?_ AllReadyH.nil)
                  · intro K hK
                    have c14 := hS.fr.fr.cells.2.2.2.2.2.2.2.2.2.2.2.2.2.2.1
                    have f14 := hS.fr.frozen 14
                    go_simp
                    refine hK.out _ _ trivial (fun _ => ?_)
                    clear hK K
                    try simp only [Act.put, List.setIfInBounds_toArray, List.set_cons_zero, List.set_cons_succ]
                    have hS2 := hS.set 14 (.slice (some ⟨k2, 0, none⟩) L.length L.length) h (.slice (some ⟨k2, 0, none⟩) L.length L.length) (.slice none 0 0) rfl
                    have hOL2 := hOL.only (Only.set b5 14 _ (.slice (some ⟨k2, 0, none⟩) L.length L.length)) (by omega)
                    refine wpAnyH_done (by kernel_rfl) ?_ _
                    generalize World.setCell _ _ _ = wq at hS2 hOL2 ⊢
                    have hF := hS2.fr.fr
                    have hK := hS2.res
                    go_wp2_with (first | ((with_reducible refine wpList_load_frame (op := ⟨some 47, _, _, _, _, _⟩) ?_ (.tmp 3) ?_ ?_ hF ?_); (· exact rfl); (· exact rfl); (· exact rfl)) | ((with_reducible refine wpList_store_frame (op := ⟨none, _, _, _, _, _⟩) ?_ (.tmp 2) (.tmp 47) ?_ ?_ (h := h) (p := .slice (some ⟨k2, 0, none⟩) L.length L.length) (m := .slice none 0 0) ?_ hK ?_ ?_ ?_); (· exact rfl); (· exact rfl); (· exact rfl); (· exact rfl); (· exact rfl); (· exact rfl); intro wz hRz hOz))
                    exact bodyPost_ret (results_frame rfl rfl hRz.out) rfl (HFIN.out _ _ _ _ _ L [] hS2 hOz hok (HV2 _ (by rw [HL.out]; omega)) (hOL2.gr (by omega) (by rw [HL.out]; omega)) (Gr.nil _ _))
            · intro K hK
              go_simp
              with_reducible refine (jr v8 (hOw.isB (by omega))).mono ?_
              rintro e v13 ⟨rfl, hb⟩
              have hS := hS.below hb
              have hOw := hOw.below hb hOw.lt
              go_wp2_with fail
              refine hK.out _ _ trivial (fun _ => ?_)
              clear hK K hb
              try simp only [Act.put, List.setIfInBounds_toArray, List.set_cons_zero, List.set_cons_succ]
              refine wpAnyH_take (i := 11) (oi := ⟨some 42, _, _, _, _, _⟩) (v := .int .i64 (1 + (R : Int))) rfl (by kernel_rfl) (by kernel_rfl) (by kernel_rfl) (fun _ _ _ h => h) (Or.inl ⟨by rfl, ?_⟩) trivial ?_
              · intro w hSw; go_simp; try simp only [W11]
              try simp only [Act.put, List.setIfInBounds_toArray, List.set_cons_zero, List.set_cons_succ]
              refine wpAnyH_take (i := 12) (oi := ⟨some 43, _, _, _, _, _⟩) (v := .int .i64 ((x : Int) % (1 + (R : Int)))) rfl (by kernel_rfl) (by kernel_rfl) (by kernel_rfl) (fun _ _ _ h => h) (Or.inl ⟨by rfl, ?_⟩) trivial ?_
              · intro w hSw; go_simp; try simp only [hR0, if_false, W12x]
              try simp only [Act.put, List.setIfInBounds_toArray, List.set_cons_zero, List.set_cons_succ]
              refine wpAnyH_ready (rs := [4]) (by kernel_rfl) (by simp) ?_
              refine (AllReadyH.cons (o := ⟨some 35, _, _, _, _, _⟩) rfl ?_ AllReadyH.nil)
              · intro K hK
                have c14 := hS.fr.fr.cells.2.2.2.2.2.2.2.2.2.2.2.2.2.2.1
                go_simp
                refine hK.out _ _ trivial (fun _ => ?_)
                clear hK K c14
                try simp only [Act.put, List.setIfInBounds_toArray, List.set_cons_zero, List.set_cons_succ]
                refine wpAnyH_take (i := 5) (oi := ⟨some 36, _, _, _, _, _⟩) (v := .int .i64 (P.length : Int)) rfl (by kernel_rfl) (by kernel_rfl) (by kernel_rfl) (fun _ _ _ h => h) (Or.inl ⟨by rfl, ?_⟩) trivial ?_
                · intro w hSw; go_simp; try rfl
                try simp only [Act.put, List.setIfInBounds_toArray, List.set_cons_zero, List.set_cons_succ]
                refine wpAnyH_take (i := 6) (oi := ⟨some 37, _, _, _, _, _⟩) (v := .int .i64 ((R : Int) + (P.length : Int))) rfl (by kernel_rfl) (by kernel_rfl) (by kernel_rfl) (fun _ _ _ h => h) (Or.inl ⟨by rfl, ?_⟩) trivial ?_
                · intro w hSw; go_simp; try simp only [W6]
                try simp only [Act.put, List.setIfInBounds_toArray, List.set_cons_zero, List.set_cons_succ]
                refine wpAnyH_take (i := 13) (oi := ⟨some 44, _, _, _, _, _⟩) (v := .int .i64 (L0 : Int)) rfl (by kernel_rfl) (by kernel_rfl) (by kernel_rfl) (fun _ _ _ h => h) (Or.inl ⟨by rfl, ?_⟩) trivial ?_
                · intro w hSw; go_simp; try simp only [W13x]
                try simp only [Act.put, List.setIfInBounds_toArray, List.set_cons_zero, List.set_cons_succ]
                refine wpAnyH_ready (rs := [14]) (by kernel_rfl) (by simp) ?_
                refine (AllReadyH.cons (o := ⟨some 45, _, _, _, _, _⟩) rfl ?_ AllReadyH.nil)
                · intro K hK
                  go_simp
                  with_reducible refine (fill_any g (L0 : Int) v13 hS.tape (by omega) (by omega)).mono ?_
                  rintro e v14 ⟨k2, L, rfl, hk2, hL, hOL, hTn, hOn⟩
                  have HL := hid hL
                  clear hL
                  have hk5 := Nat.lt_of_lt_of_le hS.fr.lt hk2
                  have hS := hS.call hTn hOn
                  go_wp2_with fail
                  refine hK.out _ _ trivial (fun _ => ?_)
                  clear hK K hTn hOn
                  try simp only [Act.put, List.setIfInBounds_toArray, List.set_cons_zero, List.set_cons_succ]
                  refine wpAnyH_take (i := 15) (oi := ⟨some 46, _, _, _, _, _⟩) (v := ?_) rfl (by kernel_rfl) (by kernel_rfl) (by kernel_rfl) (fun _ _ _ h => h) (Or.inl ⟨by rfl, ?_⟩) trivial ?_
                  rotate_left
                  · intro w hSw; go_simp; try with_reducible rfl
                  try simp only [Act.put, List.setIfInBounds_toArray, List.set_cons_zero, List.set_cons_succ]
                  refine wpAnyH_ready (rs := [16]) (by kernel_rfl) (by simp) ?_
                  refine (AllReadyH.cons (o := ⟨none, _, _, _, _, _⟩) rfl ?_ AllReadyH.nil)
                  · intro K hK
                    have c14 := hS.fr.fr.cells.2.2.2.2.2.2.2.2.2.2.2.2.2.2.1
                    have f14 := hS.fr.frozen 14
                    go_simp
                    refine hK.out _ _ trivial (fun _ => ?_)
                    clear hK K
                    try simp only [Act.put, List.setIfInBounds_toArray, List.set_cons_zero, List.set_cons_succ]
                    have hS2 := hS.set 14 (.slice (some ⟨k2, 0, none⟩) L.length L.length) h (.slice (some ⟨k2, 0, none⟩) L.length L.length) (.slice none 0 0) rfl
                    have hOL2 := hOL.only (Only.set b5 14 _ (.slice (some ⟨k2, 0, none⟩) L.length L.length)) (by omega)
                    refine wpAnyH_done (by kernel_rfl) ?_ _
                    generalize World.setCell _ _ _ = wq at hS2 hOL2 ⊢
                    have hF := hS2.fr.fr
                    have hK := hS2.res
                    go_wp2_with (first | ((with_reducible refine wpList_load_frame (op := ⟨some 47, _, _, _, _, _⟩) ?_ (.tmp 3) ?_ ?_ hF ?_); (· exact rfl); (· exact rfl); (· exact rfl)) | ((with_reducible refine wpList_store_frame (op := ⟨none, _, _, _, _, _⟩) ?_ (.tmp 2) (.tmp 47) ?_ ?_ (h := h) (p := .slice (some ⟨k2, 0, none⟩) L.length L.length) (m := .slice none 0 0) ?_ hK ?_ ?_ ?_); (· exact rfl); (· exact rfl); (· exact rfl); (· exact rfl); (· exact rfl); (· exact rfl); intro wz hRz hOz))
                    exact bodyPost_ret (results_frame rfl rfl hRz.out) rfl (HFIN.out _ _ _ _ _ L [] hS2 hOz hok (HV2 _ (by rw [HL.out]; omega)) (hOL2.gr (by omega) (by rw [HL.out]; omega)) (Gr.nil _ _))
        · intro K hK
          refine step_load_frame rfl (.tmp 3) rfl rfl hS.fr.fr ?_
          refine hK.out _ _ trivial (fun _ => ?_)
          clear hK K
          try simp only [Act.put, List.setIfInBounds_toArray, List.set_cons_zero, List.set_cons_succ]
          refine wpAnyH_ready (rs := [4, 8]) (by kernel_rfl) (by simp) ?_
          refine (AllReadyH.cons (o := ⟨some 35, _, _, _, _, _⟩) rfl ?_ (AllReadyH.cons (o := ⟨some 39, _, _, _, _, _⟩) rfl ?_ AllReadyH.nil))
          · intro K hK
            have c14 := hS.fr.fr.cells.2.2.2.2.2.2.2.2.2.2.2.2.2.2.1
            go_simp
            refine hK.out _ _ trivial (fun _ => ?_)
            clear hK K c14
            try simp only [Act.put, List.setIfInBounds_toArray, List.set_cons_zero, List.set_cons_succ]
            refine wpAnyH_take (i := 5) (oi := ⟨some 36, _, _, _, _, _⟩) (v := .int .i64 (P.length : Int)) rfl (by kernel_rfl) (by kernel_rfl) (by kernel_rfl) (fun _ _ _ h => h) (Or.inl ⟨by rfl, ?_⟩) trivial ?_
            · intro w hSw; go_simp; try rfl
            try simp only [Act.put, List.setIfInBounds_toArray, List.set_cons_zero, List.set_cons_succ]
            refine wpAnyH_take (i := 6) (oi := ⟨some 37, _, _, _, _, _⟩) (v := .int .i64 ((R : Int) + (P.length : Int))) rfl (by kernel_rfl) (by kernel_rfl) (by kernel_rfl) (fun _ _ _ h => h) (Or.inl ⟨by rfl, ?_⟩) trivial ?_
            · intro w hSw; go_simp; try simp only [W6]
            try simp only [Act.put, List.setIfInBounds_toArray, List.set_cons_zero, List.set_cons_succ]
            refine wpAnyH_ready (rs := [8]) (by kernel_rfl) (by simp) ?_
            refine (AllReadyH.cons (o := ⟨some 39, _, _, _, _, _⟩) rfl ?_ AllReadyH.nil)
            · intro K hK
              go_simp
              with_reducible refine (next_any g 3 v1 hS.tape (by decide) (by decide)).mono ?_
              rintro e v15 ⟨x, rfl, hx, hTn, hOn⟩
              have hS := hS.call hTn hOn
              have hOw := hOw.only hOn (by omega)
              have W12x := W12 x
              obtain ⟨L0, hL0, W13x⟩ := W13 x
              go_wp2_with fail
              refine hK.out _ _ trivial (fun _ => ?_)
              clear hK K hTn hOn
              try simp only [Act.put, List.setIfInBounds_toArray, List.set_cons_zero, List.set_cons_succ]
              refine wpAnyH_ready (rs := [10]) (by kernel_rfl) (by simp) ?_
              refine (AllReadyH.cons (o := ⟨some 41, _, _, _, _, _⟩) rfl ?_ AllReadyH.nil)
              · intro K hK
                go_simp
                with_reducible refine (jr v15 (hOw.isB (by omega))).mono ?_
                rintro e v16 ⟨rfl, hb⟩
                have hS := hS.below hb
                have hOw := hOw.below hb hOw.lt
                go_wp2_with fail
                refine hK.out _ _ trivial (fun _ => ?_)
                clear hK K hb
                try simp only [Act.put, List.setIfInBounds_toArray, List.set_cons_zero, List.set_cons_succ]
                refine wpAnyH_take (i := 11) (oi := ⟨some 42, _, _, _, _, _⟩) (v := .int .i64 (1 + (R : Int))) rfl (by kernel_rfl) (by kernel_rfl) (by kernel_rfl) (fun _ _ _ h => h) (Or.inl ⟨by rfl, ?_⟩) trivial ?_
                · intro w hSw; go_simp; try simp only [W11]
                try simp only [Act.put, List.setIfInBounds_toArray, List.set_cons_zero, List.set_cons_succ]
                refine wpAnyH_take (i := 12) (oi := ⟨some 43, _, _, _, _, _⟩) (v := .int .i64 ((x : Int) % (1 + (R : Int)))) rfl (by kernel_rfl) (by kernel_rfl) (by kernel_rfl) (fun _ _ _ h => h) (Or.inl ⟨by rfl, ?_⟩) trivial ?_
                · intro w hSw; go_simp; try simp only [hR0, if_false, W12x]
                try simp only [Act.put, List.setIfInBounds_toArray, List.set_cons_zero, List.set_cons_succ]
                refine wpAnyH_take (i := 13) (oi := ⟨some 44, _, _, _, _, _⟩) (v := .int .i64 (L0 : Int)) rfl (by kernel_rfl) (by kernel_rfl) (by kernel_rfl) (fun _ _ _ h => h) (Or.inl ⟨by rfl, ?_⟩) trivial ?_
                · intro w hSw; go_simp; try simp only [W13x]
                try simp only [Act.put, List.setIfInBounds_toArray, List.set_cons_zero, List.set_cons_succ]
                refine wpAnyH_ready (rs := [14]) (by kernel_rfl) (by simp) ?_
                refine (AllReadyH.cons (o := ⟨some 45, _, _, _, _, _⟩) rfl ?_ AllReadyH.nil)
                · intro K hK
                  go_simp
                  with_reducible refine (fill_any g (L0 : Int) v16 hS.tape (by omega) (by omega)).mono ?_
                  rintro e v17 ⟨k2, L, rfl, hk2, hL, hOL, hTn, hOn⟩
                  have HL := hid hL
                  clear hL
                  have hk5 := Nat.lt_of_lt_of_le hS.fr.lt hk2
                  have hS := hS.call hTn hOn
                  go_wp2_with fail
                  refine hK.out _ _ trivial (fun _ => ?_)
                  clear hK K hTn hOn
                  try simp only [Act.put, List.setIfInBounds_toArray, List.set_cons_zero, List.set_cons_succ]
                  refine wpAnyH_take (i := 15) (oi := ⟨some 46, _, _, _, _, _⟩) (v := ?_) rfl (by kernel_rfl) (by kernel_rfl) (by kernel_rfl) (fun _ _ _ h => h) (Or.inl ⟨by rfl, ?_⟩) trivial ?_
                  rotate_left
                  · intro w hSw; go_simp; try with_reducible rfl
                  try simp only [Act.put, List.setIfInBounds_toArray, List.set_cons_zero, List.set_cons_succ]
                  refine wpAnyH_ready (rs := [16]) (by kernel_rfl) (by simp) ?_
                  refine (AllReadyH.cons (o := ⟨none, _, _, _, _, _⟩) rfl ?_ AllReadyH.nil)
                  · intro K hK
                    have c14 := hS.fr.fr.cells.2.2.2.2.2.2.2.2.2.2.2.2.2.2.1
                    have f14 := hS.fr.frozen 14
                    go_simp
                    refine hK.out _ _ trivial (fun _ => ?_)
                    clear hK K
                    try simp only [Act.put, List.setIfInBounds_toArray, List.set_cons_zero, List.set_cons_succ]
                    have hS2 := hS.set 14 (.slice (some ⟨k2, 0, none⟩) L.length L.length) h (.slice (some ⟨k2, 0, none⟩) L.length L.length) (.slice none 0 0) rfl
                    have hOL2 := hOL.only (Only.set b5 14 _ (.slice (some ⟨k2, 0, none⟩) L.length L.length)) (by omega)
                    refine wpAnyH_done (by kernel_rfl) ?_ _
                    generalize World.setCell _ _ _ = wq at hS2 hOL2 ⊢
                    have hF := hS2.fr.fr
                    have hK := hS2.res
                    go_wp2_with (first | ((with_reducible refine wpList_load_frame (op := ⟨some 47, _, _, _, _, _⟩) ?_ (.tmp 3) ?_ ?_ hF ?_); (· exact rfl); (· exact rfl); (· exact rfl)) | ((with_reducible refine wpList_store_frame (op := ⟨none, _, _, _, _, _⟩) ?_ (.tmp 2) (.tmp 47) ?_ ?_ (h := h) (p := .slice (some ⟨k2, 0, none⟩) L.length L.length) (m := .slice none 0 0) ?_ hK ?_ ?_ ?_); (· exact rfl); (· exact rfl); (· exact rfl); (· exact rfl); (· exact rfl); (· exact rfl); intro wz hRz hOz))
                    exact bodyPost_ret (results_frame rfl rfl hRz.out) rfl (HFIN.out _ _ _ _ _ L [] hS2 hOz hok (HV2 _ (by rw [HL.out]; omega)) (hOL2.gr (by omega) (by rw [HL.out]; omega)) (Gr.nil _ _))
          · intro K hK
            go_simp
            with_reducible refine (next_any g 3 v1 hS.tape (by decide) (by decide)).mono ?_
            rintro e v18 ⟨x, rfl, hx, hTn, hOn⟩
            have hS := hS.call hTn hOn
            have hOw := hOw.only hOn (by omega)
            have W12x := W12 x
            obtain ⟨L0, hL0, W13x⟩ := W13 x
            go_wp2_with fail
            refine hK.out _ _ trivial (fun _ => ?_)
            clear hK K hTn hOn
            try simp only [Act.put, List.setIfInBounds_toArray, List.set_cons_zero, List.set_cons_succ]
            refine wpAnyH_ready (rs := [4, 10]) (by kernel_rfl) (by simp) ?_
            refine (AllReadyH.cons (o := ⟨some 35, _, _, _, _, _⟩) rfl ?_ (AllReadyH.cons (o := ⟨some 41, _, _, _, _, _⟩) rfl ?_ AllReadyH.nil))
            · intro K hK
              have c14 := hS.fr.fr.cells.2.2.2.2.2.2.2.2.2.2.2.2.2.2.1
              go_simp
              refine hK.out _ _ trivial (fun _ => ?_)
              clear hK K c14
              try simp only [Act.put, List.setIfInBounds_toArray, List.set_cons_zero, List.set_cons_succ]
              refine wpAnyH_take (i := 5) (oi := ⟨some 36, _, _, _, _, _⟩) (v := .int .i64 (P.length : Int)) rfl (by kernel_rfl) (by kernel_rfl) (by kernel_rfl) (fun _ _ _ h => h) (Or.inl ⟨by rfl, ?_⟩) trivial ?_
              · intro w hSw; go_simp; try rfl
              try simp only [Act.put, List.setIfInBounds_toArray, List.set_cons_zero, List.set_cons_succ]
              refine wpAnyH_take (i := 6) (oi := ⟨some 37, _, _, _, _, _⟩) (v := .int .i64 ((R : Int) + (P.length : Int))) rfl (by kernel_rfl) (by kernel_rfl) (by kernel_rfl) (fun _ _ _ h => h) (Or.inl ⟨by rfl, ?_⟩) trivial ?_
              · intro w hSw; go_simp; try simp only [W6]
              try simp only [Act.put, List.setIfInBounds_toArray, List.set_cons_zero, List.set_cons_succ]
              refine wpAnyH_ready (rs := [10]) (by kernel_rfl) (by simp) ?_
              refine (AllReadyH.cons (o := ⟨some 41, _, _, _, _, _⟩) rfl ?_ AllReadyH.nil)
              · intro K hK
                go_simp
                with_reducible refine (jr v18 (hOw.isB (by omega))).mono ?_
                rintro e v19 ⟨rfl, hb⟩
                have hS := hS.below hb
                have hOw := hOw.below hb hOw.lt
                go_wp2_with fail
                refine hK.out _ _ trivial (fun _ => ?_)
                clear hK K hb
                try simp only [Act.put, List.setIfInBounds_toArray, List.set_cons_zero, List.set_cons_succ]
                refine wpAnyH_take (i := 11) (oi := ⟨some 42, _, _, _, _, _⟩) (v := .int .i64 (1 + (R : Int))) rfl (by kernel_rfl) (by kernel_rfl) (by kernel_rfl) (fun _ _ _ h => h) (Or.inl ⟨by rfl, ?_⟩) trivial ?_
                · intro w hSw; go_simp; try simp only [W11]
                try simp only [Act.put, List.setIfInBounds_toArray, List.set_cons_zero, List.set_cons_succ]
                refine wpAnyH_take (i := 12) (oi := ⟨some 43, _, _, _, _, _⟩) (v := .int .i64 ((x : Int) % (1 + (R : Int)))) rfl (by kernel_rfl) (by kernel_rfl) (by kernel_rfl) (fun _ _ _ h => h) (Or.inl ⟨by rfl, ?_⟩) trivial ?_
                · intro w hSw; go_simp; try simp only [hR0, if_false, W12x]
                try simp only [Act.put, List.setIfInBounds_toArray, List.set_cons_zero, List.set_cons_succ]
                refine wpAnyH_take (i := 13) (oi := ⟨some 44, _, _, _, _, _⟩) (v := .int .i64 (L0 : Int)) rfl (by kernel_rfl) (by kernel_rfl) (by kernel_rfl) (fun _ _ _ h => h) (Or.inl ⟨by rfl, ?_⟩) trivial ?_
                · intro w hSw; go_simp; try simp only [W13x]
                try simp only [Act.put, List.setIfInBounds_toArray, List.set_cons_zero, List.set_cons_succ]
                refine wpAnyH_ready (rs := [14]) (by kernel_rfl) (by simp) ?_
                refine (AllReadyH.cons (o := ⟨some 45, _, _, _, _, _⟩) rfl ?_ AllReadyH.nil)
                · intro K hK
                  go_simp
                  with_reducible refine (fill_any g (L0 : Int) v19 hS.tape (by omega) (by omega)).mono ?_
                  rintro e v20 ⟨k2, L, rfl, hk2, hL, hOL, hTn, hOn⟩
                  have HL := hid hL
                  clear hL
                  have hk5 := Nat.lt_of_lt_of_le hS.fr.lt hk2
                  have hS := hS.call hTn hOn
                  go_wp2_with fail
                  refine hK.out _ _ trivial (fun _ => ?_)
                  clear hK K hTn hOn
                  try simp only [Act.put, List.setIfInBounds_toArray, List.set_cons_zero, List.set_cons_succ]
                  refine wpAnyH_take (i := 15) (oi := ⟨some 46, _, _, _, _, _⟩) (v := ?_) rfl (by kernel_rfl) (by kernel_rfl) (by kernel_rfl) (fun _ _ _ h => h) (Or.inl ⟨by rfl, ?_⟩) trivial ?_
                  rotate_left
                  · intro w hSw; go_simp; try with_reducible rfl
                  try simp only [Act.put, List.setIfInBounds_toArray, List.set_cons_zero, List.set_cons_succ]
                  refine wpAnyH_ready (rs := [16]) (by kernel_rfl) (by simp) ?_
                  refine (AllReadyH.cons (o := ⟨none, _, _, _, _, _⟩) rfl ?_ AllReadyH.nil)
                  · intro K hK
                    have c14 := hS.fr.fr.cells.2.2.2.2.2.2.2.2.2.2.2.2.2.2.1
                    have f14 := hS.fr.frozen 14
                    go_simp
                    refine hK.out _ _ trivial (fun _ => ?_)
                    clear hK K
                    try simp only [Act.put, List.setIfInBounds_toArray, List.set_cons_zero, List.set_cons_succ]
                    have hS2 := hS.set 14 (.slice (some ⟨k2, 0, none⟩) L.length L.length) h (.slice (some ⟨k2, 0, none⟩) L.length L.length) (.slice none 0 0) rfl
                    have hOL2 := hOL.only (Only.set b5 14 _ (.slice (some ⟨k2, 0, none⟩) L.length L.length)) (by omega)
                    refine wpAnyH_done (by kernel_rfl) ?_ _
                    generalize World.setCell _ _ _ = wq at hS2 hOL2 ⊢
                    have hF := hS2.fr.fr
                    have hK := hS2.res
                    go_wp2_with (first | ((with_reducible refine wpList_load_frame (op := ⟨some 47, _, _, _, _, _⟩) ?_ (.tmp 3) ?_ ?_ hF ?_); (· exact rfl); (· exact rfl); (· exact rfl)) | ((with_reducible refine wpList_store_frame (op := ⟨none, _, _, _, _, _⟩) ?_ (.tmp 2) (.tmp 47) ?_ ?_ (h := h) (p := .slice (some ⟨k2, 0, none⟩) L.length L.length) (m := .slice none 0 0) ?_ hK ?_ ?_ ?_); (· exact rfl); (· exact rfl); (· exact rfl); (· exact rfl); (· exact rfl); (· exact rfl); intro wz hRz hOz))
                    exact bodyPost_ret (results_frame rfl rfl hRz.out) rfl (HFIN.out _ _ _ _ _ L [] hS2 hOz hok (HV2 _ (by rw [HL.out]; omega)) (hOL2.gr (by omega) (by rw [HL.out]; omega)) (Gr.nil _ _))
            · intro K hK
              go_simp
              with_reducible refine (jr v18 (hOw.isB (by omega))).mono ?_
              rintro e v21 ⟨rfl, hb⟩
              have hS := hS.below hb
              have hOw := hOw.below hb hOw.lt
              go_wp2_with fail
              refine hK.out _ _ trivial (fun _ => ?_)
              clear hK K hb
              try simp only [Act.put, List.setIfInBounds_toArray, List.set_cons_zero, List.set_cons_succ]
              refine wpAnyH_take (i := 11) (oi := ⟨some 42, _, _, _, _, _⟩) (v := .int .i64 (1 + (R : Int))) rfl (by kernel_rfl) (by kernel_rfl) (by kernel_rfl) (fun _ _ _ h => h) (Or.inl ⟨by rfl, ?_⟩) trivial ?_
              · intro w hSw; go_simp; try simp only [W11]
              try simp only [Act.put, List.setIfInBounds_toArray, List.set_cons_zero, List.set_cons_succ]
              refine wpAnyH_take (i := 12) (oi := ⟨some 43, _, _, _, _, _⟩) (v := .int .i64 ((x : Int) % (1 + (R : Int)))) rfl (by kernel_rfl) (by kernel_rfl) (by kernel_rfl) (fun _ _ _ h => h) (Or.inl ⟨by rfl, ?_⟩) trivial ?_
              · intro w hSw; go_simp; try simp only [hR0, if_false, W12x]
              try simp only [Act.put, List.setIfInBounds_toArray, List.set_cons_zero, List.set_cons_succ]
              refine wpAnyH_ready (rs := [4]) (by kernel_rfl) (by simp) ?_
              refine (AllReadyH.cons (o := ⟨some 35, _, _, _, _, _⟩) rfl ?_ AllReadyH.nil)
              · intro K hK
                have c14 := hS.fr.fr.cells.2.2.2.2.2.2.2.2.2.2.2.2.2.2.1
                go_simp
                refine hK.out _ _ trivial (fun _ => ?_)
                clear hK K c14
                try simp only [Act.put, List.setIfInBounds_toArray, List.set_cons_zero, List.set_cons_succ]
                refine wpAnyH_take (i := 5) (oi := ⟨some 36, _, _, _, _, _⟩) (v := .int .i64 (P.length : Int)) rfl (by kernel_rfl) (by kernel_rfl) (by kernel_rfl) (fun _ _ _ h => h) (Or.inl ⟨by rfl, ?_⟩) trivial ?_
                · intro w hSw; go_simp; try rfl
                try simp only [Act.put, List.setIfInBounds_toArray, List.set_cons_zero, List.set_cons_succ]
                refine wpAnyH_take (i := 6) (oi := ⟨some 37, _, _, _, _, _⟩) (v := .int .i64 ((R : Int) + (P.length : Int))) rfl (by kernel_rfl) (by kernel_rfl) (by kernel_rfl) (fun _ _ _ h => h) (Or.inl ⟨by rfl, ?_⟩) trivial ?_
                · intro w hSw; go_simp; try simp only [W6]
                try simp only [Act.put, List.setIfInBounds_toArray, List.set_cons_zero, List.set_cons_succ]
                refine wpAnyH_take (i := 13) (oi := ⟨some 44, _, _, _, _, _⟩) (v := .int .i64 (L0 : Int)) rfl (by kernel_rfl) (by kernel_rfl) (by kernel_rfl) (fun _ _ _ h => h) (Or.inl ⟨by rfl, ?_⟩) trivial ?_
                · intro w hSw; go_simp; try simp only [W13x]
                try simp only [Act.put, List.setIfInBounds_toArray, List.set_cons_zero, List.set_cons_succ]
                refine wpAnyH_ready (rs := [14]) (by kernel_rfl) (by simp) ?_
                refine (AllReadyH.cons (o := ⟨some 45, _, _, _, _, _⟩) rfl ?_ AllReadyH.nil)
                · intro K hK
                  go_simp
                  with_reducible refine (fill_any g (L0 : Int) v21 hS.tape (by omega) (by omega)).mono ?_
                  rintro e v22 ⟨k2, L, rfl, hk2, hL, hOL, hTn, hOn⟩
                  have HL := hid hL
                  clear hL
                  have hk5 := Nat.lt_of_lt_of_le hS.fr.lt hk2
                  have hS := hS.call hTn hOn
                  go_wp2_with fail
                  refine hK.out _ _ trivial (fun _ => ?_)
                  clear hK K hTn hOn
                  try simp only [Act.put, List.setIfInBounds_toArray, List.set_cons_zero, List.set_cons_succ]
                  refine wpAnyH_take (i := 15) (oi := ⟨some 46, _, _, _, _, _⟩) (v := ?_) rfl (by kernel_rfl) (by kernel_rfl) (by kernel_rfl) (fun _ _ _ h => h) (Or.inl ⟨by rfl, ?_⟩) trivial ?_
                  rotate_left
                  · intro w hSw; go_simp; try with_reducible rfl
                  try simp only [Act.put, List.setIfInBounds_toArray, List.set_cons_zero, List.set_cons_succ]
                  refine wpAnyH_ready (rs := [16]) (by kernel_rfl) (by simp) ?_
                  refine (AllReadyH.cons (o := ⟨none, _, _, _, _, _⟩) rfl ?_ AllReadyH.nil)
                  · intro K hK
                    have c14 := hS.fr.fr.cells.2.2.2.2.2.2.2.2.2.2.2.2.2.2.1
                    have f14 := hS.fr.frozen 14
                    go_simp
                    refine hK.out _ _ trivial (fun _ => ?_)
                    clear hK K
                    try simp only [Act.put, List.setIfInBounds_toArray, List.set_cons_zero, List.set_cons_succ]
                    have hS2 := hS.set 14 (.slice (some ⟨k2, 0, none⟩) L.length L.length) h (.slice (some ⟨k2, 0, none⟩) L.length L.length) (.slice none 0 0) rfl
                    have hOL2 := hOL.only (Only.set b5 14 _ (.slice (some ⟨k2, 0, none⟩) L.length L.length)) (by omega)
                    refine wpAnyH_done (by kernel_rfl) ?_ _
                    generalize World.setCell _ _ _ = wq at hS2 hOL2 ⊢
                    have hF := hS2.fr.fr
                    have hK := hS2.res
                    go_wp2_with (first | ((with_reducible refine wpList_load_frame (op := ⟨some 47, _, _, _, _, _⟩) ?_ (.tmp 3) ?_ ?_ hF ?_); (· exact rfl); (· exact rfl); (· exact rfl)) | ((with_reducible refine wpList_store_frame (op := ⟨none, _, _, _, _, _⟩) ?_ (.tmp 2) (.tmp 47) ?_ ?_ (h := h) (p := .slice (some ⟨k2, 0, none⟩) L.length L.length) (m := .slice none 0 0) ?_ hK ?_ ?_ ?_); (· exact rfl); (· exact rfl); (· exact rfl); (· exact rfl); (· exact rfl); (· exact rfl); intro wz hRz hOz))
                    exact bodyPost_ret (results_frame rfl rfl hRz.out) rfl (HFIN.out _ _ _ _ _ L [] hS2 hOz hok (HV2 _ (by rw [HL.out]; omega)) (hOL2.gr (by omega) (by rw [HL.out]; omega)) (Gr.nil _ _))
      · intro K hK
        have c14 := hS.fr.fr.cells.2.2.2.2.2.2.2.2.2.2.2.2.2.2.1
        go_simp
        refine hK.out _ _ trivial (fun _ => ?_)
        clear hK K c14
        try simp only [Act.put, List.setIfInBounds_toArray, List.set_cons_zero, List.set_cons_succ]
        refine wpAnyH_take (i := 5) (oi := ⟨some 36, _, _, _, _, _⟩) (v := .int .i64 (P.length : Int)) rfl (by kernel_rfl) (by kernel_rfl) (by kernel_rfl) (fun _ _ _ h => h) (Or.inl ⟨by rfl, ?_⟩) trivial ?_
        · intro w hSw; go_simp; try rfl
        try simp only [Act.put, List.setIfInBounds_toArray, List.set_cons_zero, List.set_cons_succ]
        refine wpAnyH_ready (rs := [2, 9]) (by kernel_rfl) (by simp) ?_
        refine (AllReadyH.cons (o := ⟨some 33, _, _, _, _, _⟩) rfl ?_ (AllReadyH.cons (o := ⟨some 40, _, _, _, _, _⟩) rfl ?_ AllReadyH.nil))
        · intro K hK
          go_simp
          with_reducible refine (jr v0 (hOw.isB (by omega))).mono ?_
          rintro e v23 ⟨rfl, hb⟩
          have hS := hS.below hb
          have hOw := hOw.below hb hOw.lt
          go_wp2_with fail
          refine hK.out _ _ trivial (fun _ => ?_)
          clear hK K hb
          try simp only [Act.put, List.setIfInBounds_toArray, List.set_cons_zero, List.set_cons_succ]
          refine wpAnyH_take (i := 6) (oi := ⟨some 37, _, _, _, _, _⟩) (v := .int .i64 ((R : Int) + (P.length : Int))) rfl (by kernel_rfl) (by kernel_rfl) (by kernel_rfl) (fun _ _ _ h => h) (Or.inl ⟨by rfl, ?_⟩) trivial ?_
          · intro w hSw; go_simp; try simp only [W6]
          try simp only [Act.put, List.setIfInBounds_toArray, List.set_cons_zero, List.set_cons_succ]
          refine wpAnyH_ready (rs := [8, 9]) (by kernel_rfl) (by simp) ?_
          refine (AllReadyH.cons (o := ⟨some 39, _, _, _, _, _⟩) rfl ?_ (AllReadyH.cons (o := ⟨some 40, _, _, _, _, _⟩) rfl ?_ AllReadyH.nil))
          · intro K hK
            go_simp
            with_reducible refine (next_any g 3 v23 hS.tape (by decide) (by decide)).mono ?_
            rintro e v24 ⟨x, rfl, hx, hTn, hOn⟩
            have hS := hS.call hTn hOn
            have hOw := hOw.only hOn (by omega)
            have W12x := W12 x
            obtain ⟨L0, hL0, W13x⟩ := W13 x
            go_wp2_with fail
            refine hK.out _ _ trivial (fun _ => ?_)
            clear hK K hTn hOn
            try simp only [Act.put, List.setIfInBounds_toArray, List.set_cons_zero, List.set_cons_succ]
            refine wpAnyH_ready (rs := [9]) (by kernel_rfl) (by simp) ?_
            refine (AllReadyH.cons (o := ⟨some 40, _, _, _, _, _⟩) rfl ?_ AllReadyH.nil)
            · intro K hK
              refine step_load_frame rfl (.tmp 3) rfl rfl hS.fr.fr ?_
              refine hK.out _ _ trivial (fun _ => ?_)
              clear hK K
              try simp only [Act.put, List.setIfInBounds_toArray, List.set_cons_zero, List.set_cons_succ]
              refine wpAnyH_ready (rs := [10]) (by kernel_rfl) (by simp) ?_
              refine (AllReadyH.cons (o := ⟨some 41, _, _, _, _, _⟩) rfl ?_ AllReadyH.nil)
              · intro K hK
                go_simp
                with_reducible refine (jr v24 (hOw.isB (by omega))).mono ?_
                rintro e v25 ⟨rfl, hb⟩
                have hS := hS.below hb
                have hOw := hOw.below hb hOw.lt
                go_wp2_with fail
                refine hK.out _ _ trivial (fun _ => ?_)
                clear hK K hb
                try simp only [Act.put, List.setIfInBounds_toArray, List.set_cons_zero, List.set_cons_succ]
                refine wpAnyH_take (i := 11) (oi := ⟨some 42, _, _, _, _, _⟩) (v := .int .i64 (1 + (R : Int))) rfl (by kernel_rfl) (by kernel_rfl) (by kernel_rfl) (fun _ _ _ h => h) (Or.inl ⟨by rfl, ?_⟩) trivial ?_
                · intro w hSw; go_simp; try simp only [W11]
                try simp only [Act.put, List.setIfInBounds_toArray, List.set_cons_zero, List.set_cons_succ]
                refine wpAnyH_take (i := 12) (oi := ⟨some 43, _, _, _, _, _⟩) (v := .int .i64 ((x : Int) % (1 + (R : Int)))) rfl (by kernel_rfl) (by kernel_rfl) (by kernel_rfl) (fun _ _ _ h => h) (Or.inl ⟨by rfl, ?_⟩) trivial ?_
                · intro w hSw; go_simp; try simp only [hR0, if_false, W12x]
                try simp only [Act.put, List.setIfInBounds_toArray, List.set_cons_zero, List.set_cons_succ]
                refine wpAnyH_take (i := 13) (oi := ⟨some 44, _, _, _, _, _⟩) (v := .int .i64 (L0 : Int)) rfl (by kernel_rfl) (by kernel_rfl) (by kernel_rfl) (fun _ _ _ h => h) (Or.inl ⟨by rfl, ?_⟩) trivial ?_
                · intro w hSw; go_simp; try simp only [W13x]
                try simp only [Act.put, List.setIfInBounds_toArray, List.set_cons_zero, List.set_cons_succ]
                refine wpAnyH_ready (rs := [14]) (by kernel_rfl) (by simp) ?_
                refine (AllReadyH.cons (o := ⟨some 45, _, _, _, _, _⟩) rfl ?_ AllReadyH.nil)
                · intro K hK
                  go_simp
                  with_reducible refine (fill_any g (L0 : Int) v25 hS.tape (by omega) (by omega)).mono ?_
                  rintro e v26 ⟨k2, L, rfl, hk2, hL, hOL, hTn, hOn⟩
                  have HL := hid hL
                  clear hL
                  have hk5 := Nat.lt_of_lt_of_le hS.fr.lt hk2
                  have hS := hS.call hTn hOn
                  go_wp2_with fail
                  refine hK.out _ _ trivial (fun _ => ?_)
                  clear hK K hTn hOn
                  try simp only [Act.put, List.setIfInBounds_toArray, List.set_cons_zero, List.set_cons_succ]
                  refine wpAnyH_take (i := 15) (oi := ⟨some 46, _, _, _, _, _⟩) (v := ?_) rfl (by kernel_rfl) (by kernel_rfl) (by kernel_rfl) (fun _ _ _ h => h) (Or.inl ⟨by rfl, ?_⟩) trivial ?_
                  rotate_left
                  · intro w hSw; go_simp; try with_reducible rfl
                  try simp only [Act.put, List.setIfInBounds_toArray, List.set_cons_zero, List.set_cons_succ]
                  refine wpAnyH_ready (rs := [16]) (by kernel_rfl) (by simp) ?_
                  refine (AllReadyH.cons (o := ⟨none, _, _, _, _, _⟩) rfl ?_ AllReadyH.nil)
                  · intro K hK
                    have c14 := hS.fr.fr.cells.2.2.2.2.2.2.2.2.2.2.2.2.2.2.1
                    have f14 := hS.fr.frozen 14
                    go_simp
                    refine hK.out _ _ trivial (fun _ => ?_)
                    clear hK K
                    try simp only [Act.put, List.setIfInBounds_toArray, List.set_cons_zero, List.set_cons_succ]
                    have hS2 := hS.set 14 (.slice (some ⟨k2, 0, none⟩) L.length L.length) h (.slice (some ⟨k2, 0, none⟩) L.length L.length) (.slice none 0 0) rfl
                    have hOL2 := hOL.only (Only.set b5 14 _ (.slice (some ⟨k2, 0, none⟩) L.length L.length)) (by omega)
                    refine wpAnyH_done (by kernel_rfl) ?_ _
                    generalize World.setCell _ _ _ = wq at hS2 hOL2 ⊢
                    have hF := hS2.fr.fr
                    have hK := hS2.res
                    go_wp2_with (first | ((with_reducible refine wpList_load_frame (op := ⟨some 47, _, _, _, _, _⟩) ?_ (.tmp 3) ?_ ?_ hF ?_); (· exact rfl); (· exact rfl); (· exact rfl)) | ((with_reducible refine wpList_store_frame (op := ⟨none, _, _, _, _, _⟩) ?_ (.tmp 2) (.tmp 47) ?_ ?_ (h := h) (p := .slice (some ⟨k2, 0, none⟩) L.length L.length) (m := .slice none 0 0) ?_ hK ?_ ?_ ?_); (· exact rfl); (· exact rfl); (· exact rfl); (· exact rfl); (· exact rfl); (· exact rfl); intro wz hRz hOz))
                    exact bodyPost_ret (results_frame rfl rfl hRz.out) rfl (HFIN.out _ _ _ _ _ L [] hS2 hOz hok (HV2 _ (by rw [HL.out]; omega)) (hOL2.gr (by omega) (by rw [HL.out]; omega)) (Gr.nil _ _))
          · intro K hK
            refine step_load_frame rfl (.tmp 3) rfl rfl hS.fr.fr ?_
            refine hK.out _ _ trivial (fun _ => ?_)
            clear hK K
            try simp only [Act.put, List.setIfInBounds_toArray, List.set_cons_zero, List.set_cons_succ]
            refine wpAnyH_ready (rs := [8]) (by kernel_rfl) (by simp) ?_
            refine (AllReadyH.cons (o := ⟨some 39, _, _, _, _, _⟩) rfl ?_ AllReadyH.nil)
            · intro K hK
              go_simp
              with_reducible refine (next_any g 3 v23 hS.tape (by decide) (by decide)).mono ?_
              rintro e v27 ⟨x, rfl, hx, hTn, hOn⟩
              have hS := hS.call hTn hOn
              have hOw := hOw.only hOn (by omega)
              have W12x := W12 x
              obtain ⟨L0, hL0, W13x⟩ := W13 x
              go_wp2_with fail
              refine hK.out _ _ trivial (fun _ => ?_)
              clear hK K hTn hOn
              try simp only [Act.put, List.setIfInBounds_toArray, List.set_cons_zero, List.set_cons_succ]
              refine wpAnyH_ready (rs := [10]) (by kernel_rfl) (by simp) ?_
              refine (AllReadyH.cons (o := ⟨some 41, _, _, _, _, _⟩) rfl ?_ AllReadyH.nil)
              · intro K hK
                go_simp
                with_reducible refine (jr v27 (hOw.isB (by omega))).mono ?_
                rintro e v28 ⟨rfl, hb⟩
                have hS := hS.below hb
                have hOw := hOw.below hb hOw.lt
                go_wp2_with fail
                refine hK.out _ _ trivial (fun _ => ?_)
                clear hK K hb
                try simp only [Act.put, List.setIfInBounds_toArray, List.set_cons_zero, List.set_cons_succ]
                refine wpAnyH_take (i := 11) (oi := ⟨some 42, _, _, _, _, _⟩) (v := .int .i64 (1 + (R : Int))) rfl (by kernel_rfl) (by kernel_rfl) (by kernel_rfl) (fun _ _ _ h => h) (Or.inl ⟨by rfl, ?_⟩) trivial ?_
                · intro w hSw; go_simp; try simp only [W11]
                try simp only [Act.put, List.setIfInBounds_toArray, List.set_cons_zero, List.set_cons_succ]
                refine wpAnyH_take (i := 12) (oi := ⟨some 43, _, _, _, _, _⟩) (v := .int .i64 ((x : Int) % (1 + (R : Int)))) rfl (by kernel_rfl) (by kernel_rfl) (by kernel_rfl) (fun _ _ _ h => h) (Or.inl ⟨by rfl, ?_⟩) trivial ?_
                · intro w hSw; go_simp; try simp only [hR0, if_false, W12x]
                try simp only [Act.put, List.setIfInBounds_toArray, List.set_cons_zero, List.set_cons_succ]
                refine wpAnyH_take (i := 13) (oi := ⟨some 44, _, _, _, _, _⟩) (v := .int .i64 (L0 : Int)) rfl (by kernel_rfl) (by kernel_rfl) (by kernel_rfl) (fun _ _ _ h => h) (Or.inl ⟨by rfl, ?_⟩) trivial ?_
                · intro w hSw; go_simp; try simp only [W13x]
                try simp only [Act.put, List.setIfInBounds_toArray, List.set_cons_zero, List.set_cons_succ]
                refine wpAnyH_ready (rs := [14]) (by kernel_rfl) (by simp) ?_
                refine (AllReadyH.cons (o := ⟨some 45, _, _, _, _, _⟩) rfl ?_ AllReadyH.nil)
                · intro K hK
                  go_simp
                  with_reducible refine (fill_any g (L0 : Int) v28 hS.tape (by omega) (by omega)).mono ?_
                  rintro e v29 ⟨k2, L, rfl, hk2, hL, hOL, hTn, hOn⟩
                  have HL := hid hL
                  clear hL
                  have hk5 := Nat.lt_of_lt_of_le hS.fr.lt hk2
                  have hS := hS.call hTn hOn
                  go_wp2_with fail
                  refine hK.out _ _ trivial (fun _ => ?_)
                  clear hK K hTn hOn
                  try simp only [Act.put, List.setIfInBounds_toArray, List.set_cons_zero, List.set_cons_succ]
                  refine wpAnyH_take (i := 15) (oi := ⟨some 46, _, _, _, _, _⟩) (v := ?_) rfl (by kernel_rfl) (by kernel_rfl) (by kernel_rfl) (fun _ _ _ h => h) (Or.inl ⟨by rfl, ?_⟩) trivial ?_
                  rotate_left
                  · intro w hSw; go_simp; try with_reducible rfl
                  try simp only [Act.put, List.setIfInBounds_toArray, List.set_cons_zero, List.set_cons_succ]
                  refine wpAnyH_ready (rs := [16]) (by kernel_rfl) (by simp) ?_
                  refine (AllReadyH.cons (o := ⟨none, _, _, _, _, _⟩) rfl ?_ AllReadyH.nil)
                  · intro K hK
                    have c14 := hS.fr.fr.cells.2.2.2.2.2.2.2.2.2.2.2.2.2.2.1
                    have f14 := hS.fr.frozen 14
                    go_simp
                    refine hK.out _ _ trivial (fun _ => ?_)
                    clear hK K
                    try simp only [Act.put, List.setIfInBounds_toArray, List.set_cons_zero, List.set_cons_succ]
                    have hS2 := hS.set 14 (.slice (some ⟨k2, 0, none⟩) L.length L.length) h (.slice (some ⟨k2, 0, none⟩) L.length L.length) (.slice none 0 0) rfl
                    have hOL2 := hOL.only (Only.set b5 14 _ (.slice (some ⟨k2, 0, none⟩) L.length L.length)) (by omega)
                    refine wpAnyH_done (by kernel_rfl) ?_ _
                    generalize World.setCell _ _ _ = wq at hS2 hOL2 ⊢
                    have hF := hS2.fr.fr
                    have hK := hS2.res
                    go_wp2_with (first | ((with_reducible refine wpList_load_frame (op := ⟨some 47, _, _, _, _, _⟩) ?_ (.tmp 3) ?_ ?_ hF ?_); (· exact rfl); (· exact rfl); (· exact rfl)) | ((with_reducible refine wpList_store_frame (op := ⟨none, _, _, _, _, _⟩) ?_ (.tmp 2) (.tmp 47) ?_ ?_ (h := h) (p := .slice (some ⟨k2, 0, none⟩) L.length L.length) (m := .slice none 0 0) ?_ hK ?_ ?_ ?_); (· exact rfl); (· exact rfl); (· exact rfl); (· exact rfl); (· exact rfl); (· exact rfl); intro wz hRz hOz))
                    exact bodyPost_ret (results_frame rfl rfl hRz.out) rfl (HFIN.out _ _ _ _ _ L [] hS2 hOz hok (HV2 _ (by rw [HL.out]; omega)) (hOL2.gr (by omega) (by rw [HL.out]; omega)) (Gr.nil _ _))
        · intro K hK
          refine step_load_frame rfl (.tmp 3) rfl rfl hS.fr.fr ?_
          refine hK.out _ _ trivial (fun _ => ?_)
          clear hK K
          try simp only [Act.put, List.setIfInBounds_toArray, List.set_cons_zero, List.set_cons_succ]
          refine wpAnyH_ready (rs := [2]) (by kernel_rfl) (by simp) ?_
          refine (AllReadyH.cons (o := ⟨some 33, _, _, _, _, _⟩) rfl ?_ AllReadyH.nil)
          · intro K hK
            go_simp
            with_reducible refine (jr v0 (hOw.isB (by omega))).mono ?_
            rintro e v30 ⟨rfl, hb⟩
            have hS := hS.below hb
            have hOw := hOw.below hb hOw.lt
            go_wp2_with fail
            refine hK.out _ _ trivial (fun _ => ?_)
            clear hK K hb
            try simp only [Act.put, List.setIfInBounds_toArray, List.set_cons_zero, List.set_cons_succ]
            refine wpAnyH_take (i := 6) (oi := ⟨some 37, _, _, _, _, _⟩) (v := .int .i64 ((R : Int) + (P.length : Int))) rfl (by kernel_rfl) (by kernel_rfl) (by kernel_rfl) (fun _ _ _ h => h) (Or.inl ⟨by rfl, ?_⟩) trivial ?_
            · intro w hSw; go_simp; try simp only [W6]
            try simp only [Act.put, List.setIfInBounds_toArray, List.set_cons_zero, List.set_cons_succ]
            refine wpAnyH_ready (rs := [8]) (by kernel_rfl) (by simp) ?_
            refine (AllReadyH.cons (o := ⟨some 39, _, _, _, _, _⟩) rfl ?_ AllReadyH.nil)
            · intro K hK
              go_simp
              with_reducible refine (next_any g 3 v30 hS.tape (by decide) (by decide)).mono ?_
              rintro e v31 ⟨x, rfl, hx, hTn, hOn⟩
              have hS := hS.call hTn hOn
              have hOw := hOw.only hOn (by omega)
              have W12x := W12 x
              obtain ⟨L0, hL0, W13x⟩ := W13 x
              go_wp2_with fail
              refine hK.out _ _ trivial (fun _ => ?_)
              clear hK K hTn hOn
              try simp only [Act.put, List.setIfInBounds_toArray, List.set_cons_zero, List.set_cons_succ]
              refine wpAnyH_ready (rs := [10]) (by kernel_rfl) (by simp) ?_
              refine (AllReadyH.cons (o := ⟨some 41, _, _, _, _, _⟩) rfl ?_ AllReadyH.nil)
              · intro K hK
                go_simp
                with_reducible refine (jr v31 (hOw.isB (by omega))).mono ?_
                rintro e v32 ⟨rfl, hb⟩
                have hS := hS.below hb
                have hOw := hOw.below hb hOw.lt
                go_wp2_with fail
                refine hK.out _ _ trivial (fun _ => ?_)
                clear hK K hb
                try simp only [Act.put, List.setIfInBounds_toArray, List.set_cons_zero, List.set_cons_succ]
                refine wpAnyH_take (i := 11) (oi := ⟨some 42, _, _, _, _, _⟩) (v := .int .i64 (1 + (R : Int))) rfl (by kernel_rfl) (by kernel_rfl) (by kernel_rfl) (fun _ _ _ h => h) (Or.inl ⟨by rfl, ?_⟩) trivial ?_
                · intro w hSw; go_simp; try simp only [W11]
                try simp only [Act.put, List.setIfInBounds_toArray, List.set_cons_zero, List.set_cons_succ]
                refine wpAnyH_take (i := 12) (oi := ⟨some 43, _, _, _, _, _⟩) (v := .int .i64 ((x : Int) % (1 + (R : Int)))) rfl (by kernel_rfl) (by kernel_rfl) (by kernel_rfl) (fun _ _ _ h => h) (Or.inl ⟨by rfl, ?_⟩) trivial ?_
                · intro w hSw; go_simp; try simp only [hR0, if_false, W12x]
                try simp only [Act.put, List.setIfInBounds_toArray, List.set_cons_zero, List.set_cons_succ]
                refine wpAnyH_take (i := 13) (oi := ⟨some 44, _, _, _, _, _⟩) (v := .int .i64 (L0 : Int)) rfl (by kernel_rfl) (by kernel_rfl) (by kernel_rfl) (fun _ _ _ h => h) (Or.inl ⟨by rfl, ?_⟩) trivial ?_
                · intro w hSw; go_simp; try simp only [W13x]
                try simp only [Act.put, List.setIfInBounds_toArray, List.set_cons_zero, List.set_cons_succ]
                refine wpAnyH_ready (rs := [14]) (by kernel_rfl) (by simp) ?_
                refine (AllReadyH.cons (o := ⟨some 45, _, _, _, _, _⟩) rfl ?_ AllReadyH.nil)
                · intro K hK
                  go_simp
                  with_reducible refine (fill_any g (L0 : Int) v32 hS.tape (by omega) (by omega)).mono ?_
                  rintro e v33 ⟨k2, L, rfl, hk2, hL, hOL, hTn, hOn⟩
                  have HL := hid hL
                  clear hL
                  have hk5 := Nat.lt_of_lt_of_le hS.fr.lt hk2
                  have hS := hS.call hTn hOn
                  go_wp2_with fail
                  refine hK.out _ _ trivial (fun _ => ?_)
                  clear hK K hTn hOn
                  try simp only [Act.put, List.setIfInBounds_toArray, List.set_cons_zero, List.set_cons_succ]
                  refine wpAnyH_take (i := 15) (oi := ⟨some 46, _, _, _, _, _⟩) (v := ?_) rfl (by kernel_rfl) (by kernel_rfl) (by kernel_rfl) (fun _ _ _ h => h) (Or.inl ⟨by rfl, ?_⟩) trivial ?_
                  rotate_left
                  · intro w hSw; go_simp; try with_reducible rfl
                  try simp only [Act.put, List.setIfInBounds_toArray, List.set_cons_zero, List.set_cons_succ]
                  refine wpAnyH_ready (rs := [16]) (by kernel_rfl) (by simp) ?_
                  refine (AllReadyH.cons (o := ⟨none, _, _, _, _, _⟩) rfl ?_ AllReadyH.nil)
                  · intro K hK
                    have c14 := hS.fr.fr.cells.2.2.2.2.2.2.2.2.2.2.2.2.2.2.1
                    have f14 := hS.fr.frozen 14
                    go_simp
                    refine hK.out _ _ trivial (fun _ => ?_)
                    clear hK K
                    try simp only [Act.put, List.setIfInBounds_toArray, List.set_cons_zero, List.set_cons_succ]
                    have hS2 := hS.set 14 (.slice (some ⟨k2, 0, none⟩) L.length L.length) h (.slice (some ⟨k2, 0, none⟩) L.length L.length) (.slice none 0 0) rfl
                    have hOL2 := hOL.only (Only.set b5 14 _ (.slice (some ⟨k2, 0, none⟩) L.length L.length)) (by omega)
                    refine wpAnyH_done (by kernel_rfl) ?_ _
                    generalize World.setCell _ _ _ = wq at hS2 hOL2 ⊢
                    have hF := hS2.fr.fr
                    have hK := hS2.res
                    go_wp2_with (first | ((with_reducible refine wpList_load_frame (op := ⟨some 47, _, _, _, _, _⟩) ?_ (.tmp 3) ?_ ?_ hF ?_); (· exact rfl); (· exact rfl); (· exact rfl)) | ((with_reducible refine wpList_store_frame (op := ⟨none, _, _, _, _, _⟩) ?_ (.tmp 2) (.tmp 47) ?_ ?_ (h := h) (p := .slice (some ⟨k2, 0, none⟩) L.length L.length) (m := .slice none 0 0) ?_ hK ?_ ?_ ?_); (· exact rfl); (· exact rfl); (· exact rfl); (· exact rfl); (· exact rfl); (· exact rfl); intro wz hRz hOz))
                    exact bodyPost_ret (results_frame rfl rfl hRz.out) rfl (HFIN.out _ _ _ _ _ L [] hS2 hOz hok (HV2 _ (by rw [HL.out]; omega)) (hOL2.gr (by omega) (by rw [HL.out]; omega)) (Gr.nil _ _))
      · intro K hK
        refine step_load_frame rfl (.tmp 3) rfl rfl hS.fr.fr ?_
        refine hK.out _ _ trivial (fun _ => ?_)
        clear hK K
        try simp only [Act.put, List.setIfInBounds_toArray, List.set_cons_zero, List.set_cons_succ]
        refine wpAnyH_ready (rs := [2, 4]) (by kernel_rfl) (by simp) ?_
        refine (AllReadyH.cons (o := ⟨some 33, _, _, _, _, _⟩) rfl ?_ (AllReadyH.cons (o := ⟨some 35, _, _, _, _, _⟩) rfl ?_ AllReadyH.nil))
        · intro K hK
          go_simp
          with_reducible refine (jr v0 (hOw.isB (by omega))).mono ?_
          rintro e v34 ⟨rfl, hb⟩
          have hS := hS.below hb
          have hOw := hOw.below hb hOw.lt
          go_wp2_with fail
          refine hK.out _ _ trivial (fun _ => ?_)
          clear hK K hb
          try simp only [Act.put, List.setIfInBounds_toArray, List.set_cons_zero, List.set_cons_succ]
          refine wpAnyH_ready (rs := [4, 8]) (by kernel_rfl) (by simp) ?_
          refine (AllReadyH.cons (o := ⟨some 35, _, _, _, _, _⟩) rfl ?_ (AllReadyH.cons (o := ⟨some 39, _, _, _, _, _⟩) rfl ?_ AllReadyH.nil))
          · intro K hK
            have c14 := hS.fr.fr.cells.2.2.2.2.2.2.2.2.2.2.2.2.2.2.1
            go_simp
            refine hK.out _ _ trivial (fun _ => ?_)
            clear hK K c14
            try simp only [Act.put, List.setIfInBounds_toArray, List.set_cons_zero, List.set_cons_succ]
            refine wpAnyH_take (i := 5) (oi := ⟨some 36, _, _, _, _, _⟩) (v := .int .i64 (P.length : Int)) rfl (by kernel_rfl) (by kernel_rfl) (by kernel_rfl) (fun _ _ _ h => h) (Or.inl ⟨by rfl, ?_⟩) trivial ?_
            · intro w hSw; go_simp; try rfl
            try simp only [Act.put, List.setIfInBounds_toArray, List.set_cons_zero, List.set_cons_succ]
            refine wpAnyH_take (i := 6) (oi := ⟨some 37, _, _, _, _, _⟩) (v := .int .i64 ((R : Int) + (P.length : Int))) rfl (by kernel_rfl) (by kernel_rfl) (by kernel_rfl) (fun _ _ _ h => h) (Or.inl ⟨by rfl, ?_⟩) trivial ?_
            · intro w hSw; go_simp; try simp only [W6]
            try simp only [Act.put, List.setIfInBounds_toArray, List.set_cons_zero, List.set_cons_succ]
            refine wpAnyH_ready (rs := [8]) (by kernel_rfl) (by simp) ?_
            refine (AllReadyH.cons (o := ⟨some 39, _, _, _, _, _⟩) rfl ?_ AllReadyH.nil)
            · intro K hK
              go_simp
              with_reducible refine (next_any g 3 v34 hS.tape (by decide) (by decide)).mono ?_
              rintro e v35 ⟨x, rfl, hx, hTn, hOn⟩
              have hS := hS.call hTn hOn
              have hOw := hOw.only hOn (by omega)
              have W12x := W12 x
              obtain ⟨L0, hL0, W13x⟩ := W13 x
              go_wp2_with fail
              refine hK.out _ _ trivial (fun _ => ?_)
              clear hK K hTn hOn
              try simp only [Act.put, List.setIfInBounds_toArray, List.set_cons_zero, List.set_cons_succ]
              refine wpAnyH_ready (rs := [10]) (by kernel_rfl) (by simp) ?_
              refine (AllReadyH.cons (o := ⟨some 41, _, _, _, _, _⟩) rfl ?_ AllReadyH.nil)
              · intro K hK
                go_simp
                with_reducible refine (jr v35 (hOw.isB (by omega))).mono ?_
                rintro e v36 ⟨rfl, hb⟩
                have hS := hS.below hb
                have hOw := hOw.below hb hOw.lt
                go_wp2_with fail
                refine hK.out _ _ trivial (fun _ => ?_)
                clear hK K hb
                try simp only [Act.put, List.setIfInBounds_toArray, List.set_cons_zero, List.set_cons_succ]
                refine wpAnyH_take (i := 11) (oi := ⟨some 42, _, _, _, _, _⟩) (v := .int .i64 (1 + (R : Int))) rfl (by kernel_rfl) (by kernel_rfl) (by kernel_rfl) (fun _ _ _ h => h) (Or.inl ⟨by rfl, ?_⟩) trivial ?_
                · intro w hSw; go_simp; try simp only [W11]
                try simp only [Act.put, List.setIfInBounds_toArray, List.set_cons_zero, List.set_cons_succ]
                refine wpAnyH_take (i := 12) (oi := ⟨some 43, _, _, _, _, _⟩) (v := .int .i64 ((x : Int) % (1 + (R : Int)))) rfl (by kernel_rfl) (by kernel_rfl) (by kernel_rfl) (fun _ _ _ h => h) (Or.inl ⟨by rfl, ?_⟩) trivial ?_
                · intro w hSw; go_simp; try simp only [hR0, if_false, W12x]
                try simp only [Act.put, List.setIfInBounds_toArray, List.set_cons_zero, List.set_cons_succ]
                refine wpAnyH_take (i := 13) (oi := ⟨some 44, _, _, _, _, _⟩) (v := .int .i64 (L0 : Int)) rfl (by kernel_rfl) (by kernel_rfl) (by kernel_rfl) (fun _ _ _ h => h) (Or.inl ⟨by rfl, ?_⟩) trivial ?_
                · intro w hSw; go_simp; try simp only [W13x]
                try simp only [Act.put, List.setIfInBounds_toArray, List.set_cons_zero, List.set_cons_succ]
                refine wpAnyH_ready (rs := [14]) (by kernel_rfl) (by simp) ?_
                refine (AllReadyH.cons (o := ⟨some 45, _, _, _, _, _⟩) rfl ?_ AllReadyH.nil)
                · intro K hK
                  go_simp
                  with_reducible refine (fill_any g (L0 : Int) v36 hS.tape (by omega) (by omega)).mono ?_
                  rintro e v37 ⟨k2, L, rfl, hk2, hL, hOL, hTn, hOn⟩
                  have HL := hid hL
                  clear hL
                  have hk5 := Nat.lt_of_lt_of_le hS.fr.lt hk2
                  have hS := hS.call hTn hOn
                  go_wp2_with fail
                  refine hK.out _ _ trivial (fun _ => ?_)
                  clear hK K hTn hOn
                  try simp only [Act.put, List.setIfInBounds_toArray, List.set_cons_zero, List.set_cons_succ]
                  refine wpAnyH_take (i := 15) (oi := ⟨some 46, _, _, _, _, _⟩) (v := ?_) rfl (by kernel_rfl) (by kernel_rfl) (by kernel_rfl) (fun _ _ _ h => h) (Or.inl ⟨by rfl, ?_⟩) trivial ?_
                  rotate_left
                  · intro w hSw; go_simp; try with_reducible rfl
                  try simp only [Act.put, List.setIfInBounds_toArray, List.set_cons_zero, List.set_cons_succ]
                  refine wpAnyH_ready (rs := [16]) (by kernel_rfl) (by simp) ?_
                  refine (AllReadyH.cons (o := ⟨none, _, _, _, _, _⟩) rfl ?_ AllReadyH.nil)
                  · intro K hK
                    have c14 := hS.fr.fr.cells.2.2.2.2.2.2.2.2.2.2.2.2.2.2.1
                    have f14 := hS.fr.frozen 14
                    go_simp
                    refine hK.out _ _ trivial (fun _ => ?_)
                    clear hK K
                    try simp only [Act.put, List.setIfInBounds_toArray, List.set_cons_zero, List.set_cons_succ]
                    have hS2 := hS.set 14 (.slice (some ⟨k2, 0, none⟩) L.length L.length) h (.slice (some ⟨k2, 0, none⟩) L.length L.length) (.slice none 0 0) rfl
                    have hOL2 := hOL.only (Only.set b5 14 _ (.slice (some ⟨k2, 0, none⟩) L.length L.length)) (by omega)
                    refine wpAnyH_done (by kernel_rfl) ?_ _
                    generalize World.setCell _ _ _ = wq at hS2 hOL2 ⊢
                    have hF := hS2.fr.fr
                    have hK := hS2.res
                    go_wp2_with (first | ((with_reducible refine wpList_load_frame (op := ⟨some 47, _, _, _, _, _⟩) ?_ (.tmp 3) ?_ ?_ hF ?_); (· exact rfl); (· exact rfl); (· exact rfl)) | ((with_reducible refine wpList_store_frame (op := ⟨none, _, _, _, _, _⟩) ?_ (.tmp 2) (.tmp 47) ?_ ?_ (h := h) (p := .slice (some ⟨k2, 0, none⟩) L.length L.length) (m := .slice none 0 0) ?_ hK ?_ ?_ ?_); (· exact rfl); (· exact rfl); (· exact rfl); (· exact rfl); (· exact rfl); (· exact rfl); intro wz hRz hOz))
                    exact bodyPost_ret (results_frame rfl rfl hRz.out) rfl (HFIN.out _ _ _ _ _ L [] hS2 hOz hok (HV2 _ (by rw [HL.out]; omega)) (hOL2.gr (by omega) (by rw [HL.out]; omega)) (Gr.nil _ _))
          · intro K hK
            go_simp
            with_reducible refine (next_any g 3 v34 hS.tape (by decide) (by decide)).mono ?_
            rintro e v38 ⟨x, rfl, hx, hTn, hOn⟩
            have hS := hS.call hTn hOn
            have hOw := hOw.only hOn (by omega)
            have W12x := W12 x
            obtain ⟨L0, hL0, W13x⟩ := W13 x
            go_wp2_with fail
            refine hK.out _ _ trivial (fun _ => ?_)
            clear hK K hTn hOn
            try simp only [Act.put, List.setIfInBounds_toArray, List.set_cons_zero, List.set_cons_succ]
            refine wpAnyH_ready (rs := [4, 10]) (by kernel_rfl) (by simp) ?_
            refine (AllReadyH.cons (o := ⟨some 35, _, _, _, _, _⟩) rfl ?_ (AllReadyH.cons (o := ⟨some 41, _, _, _, _, _⟩) rfl ?_ AllReadyH.nil))
            · intro K hK
              have c14 := hS.fr.fr.cells.2.2.2.2.2.2.2.2.2.2.2.2.2.2.1
              go_simp
              refine hK.out _ _ trivial (fun _ => ?_)
              clear hK K c14
              try simp only [Act.put, List.setIfInBounds_toArray, List.set_cons_zero, List.set_cons_succ]
              refine wpAnyH_take (i := 5) (oi := ⟨some 36, _, _, _, _, _⟩) (v := .int .i64 (P.length : Int)) rfl (by kernel_rfl) (by kernel_rfl) (by kernel_rfl) (fun _ _ _ h => h) (Or.inl ⟨by rfl, ?_⟩) trivial ?_
              · intro w hSw; go_simp; try rfl
              try simp only [Act.put, List.setIfInBounds_toArray, List.set_cons_zero, List.set_cons_succ]
              refine wpAnyH_take (i := 6) (oi := ⟨some 37, _, _, _, _, _⟩) (v := .int .i64 ((R : Int) + (P.length : Int))) rfl (by kernel_rfl) (by kernel_rfl) (by kernel_rfl) (fun _ _ _ h => h) (Or.inl ⟨by rfl, ?_⟩) trivial ?_
              · intro w hSw; go_simp; try simp only [W6]
              try simp only [Act.put, List.setIfInBounds_toArray, List.set_cons_zero, List.set_cons_succ]
              refine wpAnyH_ready (rs := [10]) (by kernel_rfl) (by simp) ?_
              refine (AllReadyH.cons (o := ⟨some 41, _, _, _, _, _⟩) rfl ?_ AllReadyH.nil)
              · intro K hK
                go_simp
                with_reducible refine (jr v38 (hOw.isB (by omega))).mono ?_
                rintro e v39 ⟨rfl, hb⟩
                have hS := hS.below hb
                have hOw := hOw.below hb hOw.lt
                go_wp2_with fail
                refine hK.out _ _ trivial (fun _ => ?_)
                clear hK K hb
                try simp only [Act.put, List.setIfInBounds_toArray, List.set_cons_zero, List.set_cons_succ]
                refine wpAnyH_take (i := 11) (oi := ⟨some 42, _, _, _, _, _⟩) (v := .int .i64 (1 + (R : Int))) rfl (by kernel_rfl) (by kernel_rfl) (by kernel_rfl) (fun _ _ _ h => h) (Or.inl ⟨by rfl, ?_⟩) trivial ?_
                · intro w hSw; go_simp; try simp only [W11]
                try simp only [Act.put, List.setIfInBounds_toArray, List.set_cons_zero, List.set_cons_succ]
                refine wpAnyH_take (i := 12) (oi := ⟨some 43, _, _, _, _, _⟩) (v := .int .i64 ((x : Int) % (1 + (R : Int)))) rfl (by kernel_rfl) (by kernel_rfl) (by kernel_rfl) (fun _ _ _ h => h) (Or.inl ⟨by rfl, ?_⟩) trivial ?_
                · intro w hSw; go_simp; try simp only [hR0, if_false, W12x]
                try simp only [Act.put, List.setIfInBounds_toArray, List.set_cons_zero, List.set_cons_succ]
                refine wpAnyH_take (i := 13) (oi := ⟨some 44, _, _, _, _, _⟩) (v := .int .i64 (L0 : Int)) rfl (by kernel_rfl) (by kernel_rfl) (by kernel_rfl) (fun _ _ _ h => h) (Or.inl ⟨by rfl, ?_⟩) trivial ?_
                · intro w hSw; go_simp; try simp only [W13x]
                try simp only [Act.put, List.setIfInBounds_toArray, List.set_cons_zero, List.set_cons_succ]
                refine wpAnyH_ready (rs := [14]) (by kernel_rfl) (by simp) ?_
                refine (AllReadyH.cons (o := ⟨some 45, _, _, _, _, _⟩) rfl ?_ AllReadyH.nil)
                · intro K hK
                  go_simp
                  with_reducible refine (fill_any g (L0 : Int) v39 hS.tape (by omega) (by omega)).mono ?_
                  rintro e v40 ⟨k2, L, rfl, hk2, hL, hOL, hTn, hOn⟩
                  have HL := hid hL
                  clear hL
                  have hk5 := Nat.lt_of_lt_of_le hS.fr.lt hk2
                  have hS := hS.call hTn hOn
                  go_wp2_with fail
                  refine hK.out _ _ trivial (fun _ => ?_)
                  clear hK K hTn hOn
                  try simp only [Act.put, List.setIfInBounds_toArray, List.set_cons_zero, List.set_cons_succ]
                  refine wpAnyH_take (i := 15) (oi := ⟨some 46, _, _, _, _, _⟩) (v := ?_) rfl (by kernel_rfl) (by kernel_rfl) (by kernel_rfl) (fun _ _ _ h => h) (Or.inl ⟨by rfl, ?_⟩) trivial ?_
                  rotate_left
                  · intro w hSw; go_simp; try with_reducible rfl
                  try simp only [Act.put, List.setIfInBounds_toArray, List.set_cons_zero, List.set_cons_succ]
                  refine wpAnyH_ready (rs := [16]) (by kernel_rfl) (by simp) ?_
                  refine (AllReadyH.cons (o := ⟨none, _, _, _, _, _⟩) rfl ?_ AllReadyH.nil)
                  · intro K hK
                    have c14 := hS.fr.fr.cells.2.2.2.2.2.2.2.2.2.2.2.2.2.2.1
                    have f14 := hS.fr.frozen 14
                    go_simp
                    refine hK.out _ _ trivial (fun _ => ?_)
                    clear hK K
                    try simp only [Act.put, List.setIfInBounds_toArray, List.set_cons_zero, List.set_cons_succ]
                    have hS2 := hS.set 14 (.slice (some ⟨k2, 0, none⟩) L.length L.length) h (.slice (some ⟨k2, 0, none⟩) L.length L.length) (.slice none 0 0) rfl
                    have hOL2 := hOL.only (Only.set b5 14 _ (.slice (some ⟨k2, 0, none⟩) L.length L.length)) (by omega)
                    refine wpAnyH_done (by kernel_rfl) ?_ _
                    generalize World.setCell _ _ _ = wq at hS2 hOL2 ⊢
                    have hF := hS2.fr.fr
                    have hK := hS2.res
                    go_wp2_with (first | ((with_reducible refine wpList_load_frame (op := ⟨some 47, _, _, _, _, _⟩) ?_ (.tmp 3) ?_ ?_ hF ?_); (· exact rfl); (· exact rfl); (· exact rfl)) | ((with_reducible refine wpList_store_frame (op := ⟨none, _, _, _, _, _⟩) ?_ (.tmp 2) (.tmp 47) ?_ ?_ (h := h) (p := .slice (some ⟨k2, 0, none⟩) L.length L.length) (m := .slice none 0 0) ?_ hK ?_ ?_ ?_); (· exact rfl); (· exact rfl); (· exact rfl); (· exact rfl); (· exact rfl); (· exact rfl); intro wz hRz hOz))
                    exact bodyPost_ret (results_frame rfl rfl hRz.out) rfl (HFIN.out _ _ _ _ _ L [] hS2 hOz hok (HV2 _ (by rw [HL.out]; omega)) (hOL2.gr (by omega) (by rw [HL.out]; omega)) (Gr.nil _ _))
            · intro K hK
              go_simp
              with_reducible refine (jr v38 (hOw.isB (by omega))).mono ?_
              rintro e v41 ⟨rfl, hb⟩
              have hS := hS.below hb
              have hOw := hOw.below hb hOw.lt
              go_wp2_with fail
              refine hK.out _ _ trivial (fun _ => ?_)
              clear hK K hb
              try simp only [Act.put, List.setIfInBounds_toArray, List.set_cons_zero, List.set_cons_succ]
              refine wpAnyH_take (i := 11) (oi := ⟨some 42, _, _, _, _, _⟩) (v := .int .i64 (1 + (R : Int))) rfl (by kernel_rfl) (by kernel_rfl) (by kernel_rfl) (fun _ _ _ h => h) (Or.inl ⟨by rfl, ?_⟩) trivial ?_
              · intro w hSw; go_simp; try simp only [W11]
              try simp only [Act.put, List.setIfInBounds_toArray, List.set_cons_zero, List.set_cons_succ]
              refine wpAnyH_take (i := 12) (oi := ⟨some 43, _, _, _, _, _⟩) (v := .int .i64 ((x : Int) % (1 + (R : Int)))) rfl (by kernel_rfl) (by kernel_rfl) (by kernel_rfl) (fun _ _ _ h => h) (Or.inl ⟨by rfl, ?_⟩) trivial ?_
              · intro w hSw; go_simp; try simp only [hR0, if_false, W12x]
              try simp only [Act.put, List.setIfInBounds_toArray, List.set_cons_zero, List.set_cons_succ]
              refine wpAnyH_ready (rs := [4]) (by kernel_rfl) (by simp) ?_
              refine (AllReadyH.cons (o := ⟨some 35, _, _, _, _, _⟩) rfl ?_ AllReadyH.nil)
              · intro K hK
                have c14 := hS.fr.fr.cells.2.2.2.2.2.2.2.2.2.2.2.2.2.2.1
                go_simp
                refine hK.out _ _ trivial (fun _ => ?_)
                clear hK K c14
                try simp only [Act.put, List.setIfInBounds_toArray, List.set_cons_zero, List.set_cons_succ]
                refine wpAnyH_take (i := 5) (oi := ⟨some 36, _, _, _, _, _⟩) (v := .int .i64 (P.length : Int)) rfl (by kernel_rfl) (by kernel_rfl) (by kernel_rfl) (fun _ _ _ h => h) (Or.inl ⟨by rfl, ?_⟩) trivial ?_
                · intro w hSw; go_simp; try rfl
                try simp only [Act.put, List.setIfInBounds_toArray, List.set_cons_zero, List.set_cons_succ]
                refine wpAnyH_take (i := 6) (oi := ⟨some 37, _, _, _, _, _⟩) (v := .int .i64 ((R : Int) + (P.length : Int))) rfl (by kernel_rfl) (by kernel_rfl) (by kernel_rfl) (fun _ _ _ h => h) (Or.inl ⟨by rfl, ?_⟩) trivial ?_
                · intro w hSw; go_simp; try simp only [W6]
                try simp only [Act.put, List.setIfInBounds_toArray, List.set_cons_zero, List.set_cons_succ]
                refine wpAnyH_take (i := 13) (oi := ⟨some 44, _, _, _, _, _⟩) (v := .int .i64 (L0 : Int)) rfl (by kernel_rfl) (by kernel_rfl) (by kernel_rfl) (fun _ _ _ h => h) (Or.inl ⟨by rfl, ?_⟩) trivial ?_
                · intro w hSw; go_simp; try simp only [W13x]
                try simp only [Act.put, List.setIfInBounds_toArray, List.set_cons_zero, List.set_cons_succ]
                refine wpAnyH_ready (rs := [14]) (by kernel_rfl) (by simp) ?_
                refine (AllReadyH.cons (o := ⟨some 45, _, _, _, _, _⟩) rfl ?_ AllReadyH.nil)
                · intro K hK
                  go_simp
                  with_reducible refine (fill_any g (L0 : Int) v41 hS.tape (by omega) (by omega)).mono ?_
                  rintro e v42 ⟨k2, L, rfl, hk2, hL, hOL, hTn, hOn⟩
                  have HL := hid hL
                  clear hL
                  have hk5 := Nat.lt_of_lt_of_le hS.fr.lt hk2
                  have hS := hS.call hTn hOn
                  go_wp2_with fail
                  refine hK.out _ _ trivial (fun _ => ?_)
                  clear hK K hTn hOn
                  try simp only [Act.put, List.setIfInBounds_toArray, List.set_cons_zero, List.set_cons_succ]
                  refine wpAnyH_take (i := 15) (oi := ⟨some 46, _, _, _, _, _⟩) (v := ?_) rfl (by kernel_rfl) (by kernel_rfl) (by kernel_rfl) (fun _ _ _ h => h) (Or.inl ⟨by rfl, ?_⟩) trivial ?_
                  rotate_left
                  · intro w hSw; go_simp; try with_reducible rfl
                  try simp only [Act.put, List.setIfInBounds_toArray, List.set_cons_zero, List.set_cons_succ]
                  refine wpAnyH_ready (rs := [16]) (by kernel_rfl) (by simp) ?_
                  refine (AllReadyH.cons (o := ⟨none, _, _, _, _, _⟩) rfl ?_ AllReadyH.nil)
                  · intro K hK
                    have c14 := hS.fr.fr.cells.2.2.2.2.2.2.2.2.2.2.2.2.2.2.1
                    have f14 := hS.fr.frozen 14
                    go_simp
                    refine hK.out _ _ trivial (fun _ => ?_)
                    clear hK K
                    try simp only [Act.put, List.setIfInBounds_toArray, List.set_cons_zero, List.set_cons_succ]
                    have hS2 := hS.set 14 (.slice (some ⟨k2, 0, none⟩) L.length L.length) h (.slice (some ⟨k2, 0, none⟩) L.length L.length) (.slice none 0 0) rfl
                    have hOL2 := hOL.only (Only.set b5 14 _ (.slice (some ⟨k2, 0, none⟩) L.length L.length)) (by omega)
                    refine wpAnyH_done (by kernel_rfl) ?_ _
                    generalize World.setCell _ _ _ = wq at hS2 hOL2 ⊢
                    have hF := hS2.fr.fr
                    have hK := hS2.res
                    go_wp2_with (first | ((with_reducible refine wpList_load_frame (op := ⟨some 47, _, _, _, _, _⟩) ?_ (.tmp 3) ?_ ?_ hF ?_); (· exact rfl); (· exact rfl); (· exact rfl)) | ((with_reducible refine wpList_store_frame (op := ⟨none, _, _, _, _, _⟩) ?_ (.tmp 2) (.tmp 47) ?_ ?_ (h := h) (p := .slice (some ⟨k2, 0, none⟩) L.length L.length) (m := .slice none 0 0) ?_ hK ?_ ?_ ?_); (· exact rfl); (· exact rfl); (· exact rfl); (· exact rfl); (· exact rfl); (· exact rfl); intro wz hRz hOz))
                    exact bodyPost_ret (results_frame rfl rfl hRz.out) rfl (HFIN.out _ _ _ _ _ L [] hS2 hOz hok (HV2 _ (by rw [HL.out]; omega)) (hOL2.gr (by omega) (by rw [HL.out]; omega)) (Gr.nil _ _))
        · intro K hK
          have c14 := hS.fr.fr.cells.2.2.2.2.2.2.2.2.2.2.2.2.2.2.1
          go_simp
          refine hK.out _ _ trivial (fun _ => ?_)
          clear hK K c14
          try simp only [Act.put, List.setIfInBounds_toArray, List.set_cons_zero, List.set_cons_succ]
          refine wpAnyH_take (i := 5) (oi := ⟨some 36, _, _, _, _, _⟩) (v := .int .i64 (P.length : Int)) rfl (by kernel_rfl) (by kernel_rfl) (by kernel_rfl) (fun _ _ _ h => h) (Or.inl ⟨by rfl, ?_⟩) trivial ?_
          · intro w hSw; go_simp; try rfl
          try simp only [Act.put, List.setIfInBounds_toArray, List.set_cons_zero, List.set_cons_succ]
          refine wpAnyH_ready (rs := [2]) (by kernel_rfl) (by simp) ?_
          refine (AllReadyH.cons (o := ⟨some 33, _, _, _, _, _⟩) rfl ?_ AllReadyH.nil)
          · intro K hK
            go_simp
            with_reducible refine (jr v0 (hOw.isB (by omega))).mono ?_
            rintro e v43 ⟨rfl, hb⟩
            have hS := hS.below hb
            have hOw := hOw.below hb hOw.lt
            go_wp2_with fail
            refine hK.out _ _ trivial (fun _ => ?_)
            clear hK K hb
            try simp only [Act.put, List.setIfInBounds_toArray, List.set_cons_zero, List.set_cons_succ]
            refine wpAnyH_take (i := 6) (oi := ⟨some 37, _, _, _, _, _⟩) (v := .int .i64 ((R : Int) + (P.length : Int))) rfl (by kernel_rfl) (by kernel_rfl) (by kernel_rfl) (fun _ _ _ h => h) (Or.inl ⟨by rfl, ?_⟩) trivial ?_
            · intro w hSw; go_simp; try simp only [W6]
            try simp only [Act.put, List.setIfInBounds_toArray, List.set_cons_zero, List.set_cons_succ]
            refine wpAnyH_ready (rs := [8]) (by kernel_rfl) (by simp) ?_
            refine (AllReadyH.cons (o := ⟨some 39, _, _, _, _, _⟩) rfl ?_ AllReadyH.nil)
            · intro K hK
              go_simp
              with_reducible refine (next_any g 3 v43 hS.tape (by decide) (by decide)).mono ?_
              rintro e v44 ⟨x, rfl, hx, hTn, hOn⟩
              have hS := hS.call hTn hOn
              have hOw := hOw.only hOn (by omega)
              have W12x := W12 x
              obtain ⟨L0, hL0, W13x⟩ := W13 x
              go_wp2_with fail
              refine hK.out _ _ trivial (fun _ => ?_)
              clear hK K hTn hOn
              try simp only [Act.put, List.setIfInBounds_toArray, List.set_cons_zero, List.set_cons_succ]
              refine wpAnyH_ready (rs := [10]) (by kernel_rfl) (by simp) ?_
              refine (AllReadyH.cons (o := ⟨some 41, _, _, _, _, _⟩) rfl ?_ AllReadyH.nil)
              · intro K hK
                go_simp
                with_reducible refine (jr v44 (hOw.isB (by omega))).mono ?_
                rintro e v45 ⟨rfl, hb⟩
                have hS := hS.below hb
                have hOw := hOw.below hb hOw.lt
                go_wp2_with fail
                refine hK.out _ _ trivial (fun _ => ?_)
                clear hK K hb
                try simp only [Act.put, List.setIfInBounds_toArray, List.set_cons_zero, List.set_cons_succ]
                refine wpAnyH_take (i := 11) (oi := ⟨some 42, _, _, _, _, _⟩) (v := .int .i64 (1 + (R : Int))) rfl (by kernel_rfl) (by kernel_rfl) (by kernel_rfl) (fun _ _ _ h => h) (Or.inl ⟨by rfl, ?_⟩) trivial ?_
                · intro w hSw; go_simp; try simp only [W11]
                try simp only [Act.put, List.setIfInBounds_toArray, List.set_cons_zero, List.set_cons_succ]
                refine wpAnyH_take (i := 12) (oi := ⟨some 43, _, _, _, _, _⟩) (v := .int .i64 ((x : Int) % (1 + (R : Int)))) rfl (by kernel_rfl) (by kernel_rfl) (by kernel_rfl) (fun _ _ _ h => h) (Or.inl ⟨by rfl, ?_⟩) trivial ?_
                · intro w hSw; go_simp; try simp only [hR0, if_false, W12x]
                try simp only [Act.put, List.setIfInBounds_toArray, List.set_cons_zero, List.set_cons_succ]
                refine wpAnyH_take (i := 13) (oi := ⟨some 44, _, _, _, _, _⟩) (v := .int .i64 (L0 : Int)) rfl (by kernel_rfl) (by kernel_rfl) (by kernel_rfl) (fun _ _ _ h => h) (Or.inl ⟨by rfl, ?_⟩) trivial ?_
                · intro w hSw; go_simp; try simp only [W13x]
                try simp only [Act.put, List.setIfInBounds_toArray, List.set_cons_zero, List.set_cons_succ]
                refine wpAnyH_ready (rs := [14]) (by kernel_rfl) (by simp) ?_
                refine (AllReadyH.cons (o := ⟨some 45, _, _, _, _, _⟩) rfl ?_ AllReadyH.nil)
                · intro K hK
                  go_simp
                  with_reducible refine (fill_any g (L0 : Int) v45 hS.tape (by omega) (by omega)).mono ?_
                  rintro e v46 ⟨k2, L, rfl, hk2, hL, hOL, hTn, hOn⟩
                  have HL := hid hL
                  clear hL
                  have hk5 := Nat.lt_of_lt_of_le hS.fr.lt hk2
                  have hS := hS.call hTn hOn
                  go_wp2_with fail
                  refine hK.out _ _ trivial (fun _ => ?_)
                  clear hK K hTn hOn
                  try simp only [Act.put, List.setIfInBounds_toArray, List.set_cons_zero, List.set_cons_succ]
                  refine wpAnyH_take (i := 15) (oi := ⟨some 46, _, _, _, _, _⟩) (v := ?_) rfl (by kernel_rfl) (by kernel_rfl) (by kernel_rfl) (fun _ _ _ h => h) (Or.inl ⟨by rfl, ?_⟩) trivial ?_
                  rotate_left
                  · intro w hSw; go_simp; try with_reducible rfl
                  try simp only [Act.put, List.setIfInBounds_toArray, List.set_cons_zero, List.set_cons_succ]
                  refine wpAnyH_ready (rs := [16]) (by kernel_rfl) (by simp) ?_
                  refine (AllReadyH.cons (o := ⟨none, _, _, _, _, _⟩) rfl ?_ AllReadyH.nil)
                  · intro K hK
                    have c14 := hS.fr.fr.cells.2.2.2.2.2.2.2.2.2.2.2.2.2.2.1
                    have f14 := hS.fr.frozen 14
                    go_simp
                    refine hK.out _ _ trivial (fun _ => ?_)
                    clear hK K
                    try simp only [Act.put, List.setIfInBounds_toArray, List.set_cons_zero, List.set_cons_succ]
                    have hS2 := hS.set 14 (.slice (some ⟨k2, 0, none⟩) L.length L.length) h (.slice (some ⟨k2, 0, none⟩) L.length L.length) (.slice none 0 0) rfl
                    have hOL2 := hOL.only (Only.set b5 14 _ (.slice (some ⟨k2, 0, none⟩) L.length L.length)) (by omega)
                    refine wpAnyH_done (by kernel_rfl) ?_ _
                    generalize World.setCell _ _ _ = wq at hS2 hOL2 ⊢
                    have hF := hS2.fr.fr
                    have hK := hS2.res
                    go_wp2_with (first | ((with_reducible refine wpList_load_frame (op := ⟨some 47, _, _, _, _, _⟩) ?_ (.tmp 3) ?_ ?_ hF ?_); (· exact rfl); (· exact rfl); (· exact rfl)) | ((with_reducible refine wpList_store_frame (op := ⟨none, _, _, _, _, _⟩) ?_ (.tmp 2) (.tmp 47) ?_ ?_ (h := h) (p := .slice (some ⟨k2, 0, none⟩) L.length L.length) (m := .slice none 0 0) ?_ hK ?_ ?_ ?_); (· exact rfl); (· exact rfl); (· exact rfl); (· exact rfl); (· exact rfl); (· exact rfl); intro wz hRz hOz))
                    exact bodyPost_ret (results_frame rfl rfl hRz.out) rfl (HFIN.out _ _ _ _ _ L [] hS2 hOz hok (HV2 _ (by rw [HL.out]; omega)) (hOL2.gr (by omega) (by rw [HL.out]; omega)) (Gr.nil _ _))
    · intro K hK
      have c14 := hS.fr.fr.cells.2.2.2.2.2.2.2.2.2.2.2.2.2.2.1
      go_simp
      refine hK.out _ _ trivial (fun _ => ?_)
      clear hK K c14
      try simp only [Act.put, List.setIfInBounds_toArray, List.set_cons_zero, List.set_cons_succ]
      refine wpAnyH_take (i := 5) (oi := ⟨some 36, _, _, _, _, _⟩) (v := .int .i64 (P.length : Int)) rfl (by kernel_rfl) (by kernel_rfl) (by kernel_rfl) (fun _ _ _ h => h) (Or.inl ⟨by rfl, ?_⟩) trivial ?_
      · intro w hSw; go_simp; try rfl
      try simp only [Act.put, List.setIfInBounds_toArray, List.set_cons_zero, List.set_cons_succ]
      refine wpAnyH_ready (rs := [1, 9]) (by kernel_rfl) (by simp) ?_
      refine (AllReadyH.cons (o := ⟨some 32, _, _, _, _, _⟩) rfl ?_ (AllReadyH.cons (o := ⟨some 40, _, _, _, _, _⟩) rfl ?_ AllReadyH.nil))
      · intro K hK
        refine step_load_frame rfl (.tmp 3) rfl rfl hS.fr.fr ?_
        refine hK.out _ _ trivial (fun _ => ?_)
        clear hK K
        try simp only [Act.put, List.setIfInBounds_toArray, List.set_cons_zero, List.set_cons_succ]
        refine wpAnyH_ready (rs := [2, 9]) (by kernel_rfl) (by simp) ?_
        refine (AllReadyH.cons (o := ⟨some 33, _, _, _, _, _⟩) rfl ?_ (AllReadyH.cons (o := ⟨some 40, _, _, _, _, _⟩) rfl ?_ AllReadyH.nil))
        · intro K hK
          go_simp
          with_reducible refine (jr v0 (hOw.isB (by omega))).mono ?_
          rintro e v47 ⟨rfl, hb⟩
          have hS := hS.below hb
          have hOw := hOw.below hb hOw.lt
          go_wp2_with fail
          refine hK.out _ _ trivial (fun _ => ?_)
          clear hK K hb
          try simp only [Act.put, List.setIfInBounds_toArray, List.set_cons_zero, List.set_cons_succ]
          refine wpAnyH_take (i := 6) (oi := ⟨some 37, _, _, _, _, _⟩) (v := .int .i64 ((R : Int) + (P.length : Int))) rfl (by kernel_rfl) (by kernel_rfl) (by kernel_rfl) (fun _ _ _ h => h) (Or.inl ⟨by rfl, ?_⟩) trivial ?_
          · intro w hSw; go_simp; try simp only [W6]
          try simp only [Act.put, List.setIfInBounds_toArray, List.set_cons_zero, List.set_cons_succ]
          refine wpAnyH_ready (rs := [8, 9]) (by kernel_rfl) (by simp) ?_
          refine (AllReadyH.cons (o := ⟨some 39, _, _, _, _, _⟩) rfl ?_ (AllReadyH.cons (o := ⟨some 40, _, _, _, _, _⟩) rfl ?_ AllReadyH.nil))
          · intro K hK
            go_simp
            with_reducible refine (next_any g 3 v47 hS.tape (by decide) (by decide)).mono ?_
            rintro e v48 ⟨x, rfl, hx, hTn, hOn⟩
            have hS := hS.call hTn hOn
            have hOw := hOw.only hOn (by omega)
            have W12x := W12 x
            obtain ⟨L0, hL0, W13x⟩ := W13 x
            go_wp2_with fail
            refine hK.out _ _ trivial (fun _ => ?_)
            clear hK K hTn hOn
            try simp only [Act.put, List.setIfInBounds_toArray, List.set_cons_zero, List.set_cons_succ]
            refine wpAnyH_ready (rs := [9]) (by kernel_rfl) (by simp) ?_
            refine (AllReadyH.cons (o := ⟨some 40, _, _, _, _, _⟩) rfl ?_ AllReadyH.nil)
            · intro K hK
              refine step_load_frame rfl (.tmp 3) rfl rfl hS.fr.fr ?_
              refine hK.out _ _ trivial (fun _ => ?_)
              clear hK K
              try simp only [Act.put, List.setIfInBounds_toArray, List.set_cons_zero, List.set_cons_succ]
              refine wpAnyH_ready (rs := [10]) (by kernel_rfl) (by simp) ?_
              refine (AllReadyH.cons (o := ⟨some 41, _, _, _, _, _⟩) rfl ?_ AllReadyH.nil)
              · intro K hK
                go_simp
                with_reducible refine (jr v48 (hOw.isB (by omega))).mono ?_
                rintro e v49 ⟨rfl, hb⟩
                have hS := hS.below hb
                have hOw := hOw.below hb hOw.lt
                go_wp2_with fail
                refine hK.out _ _ trivial (fun _ => ?_)
                clear hK K hb
                try simp only [Act.put, List.setIfInBounds_toArray, List.set_cons_zero, List.set_cons_succ]
                refine wpAnyH_take (i := 11) (oi := ⟨some 42, _, _, _, _, _⟩) (v := .int .i64 (1 + (R : Int))) rfl (by kernel_rfl) (by kernel_rfl) (by kernel_rfl) (fun _ _ _ h => h) (Or.inl ⟨by rfl, ?_⟩) trivial ?_
                · intro w hSw; go_simp; try simp only [W11]
                try simp only [Act.put, List.setIfInBounds_toArray, List.set_cons_zero, List.set_cons_succ]
                refine wpAnyH_take (i := 12) (oi := ⟨some 43, _, _, _, _, _⟩) (v := .int .i64 ((x : Int) % (1 + (R : Int)))) rfl (by kernel_rfl) (by kernel_rfl) (by kernel_rfl) (fun _ _ _ h => h) (Or.inl ⟨by rfl, ?_⟩) trivial ?_
                · intro w hSw; go_simp; try simp only [hR0, if_false, W12x]
                try simp only [Act.put, List.setIfInBounds_toArray, List.set_cons_zero, List.set_cons_succ]
                refine wpAnyH_take (i := 13) (oi := ⟨some 44, _, _, _, _, _⟩) (v := .int .i64 (L0 : Int)) rfl (by kernel_rfl) (by kernel_rfl) (by kernel_rfl) (fun _ _ _ h => h) (Or.inl ⟨by rfl, ?_⟩) trivial ?_
                · intro w hSw; go_simp; try simp only [W13x]
                try simp only [Act.put, List.setIfInBounds_toArray, List.set_cons_zero, List.set_cons_succ]
                refine wpAnyH_ready (rs := [14]) (by kernel_rfl) (by simp) ?_
                refine (AllReadyH.cons (o := ⟨some 45, _, _, _, _, _⟩) rfl ?_ AllReadyH.nil)
                · intro K hK
                  go_simp
                  with_reducible refine (fill_any g (L0 : Int) v49 hS.tape (by omega) (by omega)).mono ?_
                  rintro e v50 ⟨k2, L, rfl, hk2, hL, hOL, hTn, hOn⟩
                  have HL := hid hL
                  clear hL
                  have hk5 := Nat.lt_of_lt_of_le hS.fr.lt hk2
                  have hS := hS.call hTn hOn
                  go_wp2_with fail
                  refine hK.out _ _ trivial (fun _ => ?_)
                  clear hK K hTn hOn
                  try simp only [Act.put, List.setIfInBounds_toArray, List.set_cons_zero, List.set_cons_succ]
                  refine wpAnyH_take (i := 15) (oi := ⟨some 46, _, _, _, _, _⟩) (v := ?_) rfl (by kernel_rfl) (by kernel_rfl) (by kernel_rfl) (fun _ _ _ h => h) (Or.inl ⟨by rfl, ?_⟩) trivial ?_
                  rotate_left
                  · intro w hSw; go_simp; try with_reducible rfl
                  try simp only [Act.put, List.setIfInBounds_toArray, List.set_cons_zero, List.set_cons_succ]
                  refine wpAnyH_ready (rs := [16]) (by kernel_rfl) (by simp) ?_
                  refine (AllReadyH.cons (o := ⟨none, _, _, _, _, _⟩) rfl ?_ AllReadyH.nil)
                  · intro K hK
                    have c14 := hS.fr.fr.cells.2.2.2.2.2.2.2.2.2.2.2.2.2.2.1
                    have f14 := hS.fr.frozen 14
                    go_simp
                    refine hK.out _ _ trivial (fun _ => ?_)
                    clear hK K
                    try simp only [Act.put, List.setIfInBounds_toArray, List.set_cons_zero, List.set_cons_succ]
                    have hS2 := hS.set 14 (.slice (some ⟨k2, 0, none⟩) L.length L.length) h (.slice (some ⟨k2, 0, none⟩) L.length L.length) (.slice none 0 0) rfl
                    have hOL2 := hOL.only (Only.set b5 14 _ (.slice (some ⟨k2, 0, none⟩) L.length L.length)) (by omega)
                    refine wpAnyH_done (by kernel_rfl) ?_ _
                    generalize World.setCell _ _ _ = wq at hS2 hOL2 ⊢
                    have hF := hS2.fr.fr
                    have hK := hS2.res
                    go_wp2_with (first | ((with_reducible refine wpList_load_frame (op := ⟨some 47, _, _, _, _, _⟩) ?_ (.tmp 3) ?_ ?_ hF ?_); (· exact rfl); (· exact rfl); (· exact rfl)) | ((with_reducible refine wpList_store_frame (op := ⟨none, _, _, _, _, _⟩) ?_ (.tmp 2) (.tmp 47) ?_ ?_ (h := h) (p := .slice (some ⟨k2, 0, none⟩) L.length L.length) (m := .slice none 0 0) ?_ hK ?_ ?_ ?_); (· exact rfl); (· exact rfl); (· exact rfl); (· exact rfl); (· exact rfl); (· exact rfl); intro wz hRz hOz))
                    exact bodyPost_ret (results_frame rfl rfl hRz.out) rfl (HFIN.out _ _ _ _ _ L [] hS2 hOz hok (HV2 _ (by rw [HL.out]; omega)) (hOL2.gr (by omega) (by rw [HL.out]; omega)) (Gr.nil _ _))
          · intro K hK
            refine step_load_frame rfl (.tmp 3) rfl rfl hS.fr.fr ?_
            refine hK.out _ _ trivial (fun _ => ?_)
            clear hK K
            try simp only [Act.put, List.setIfInBounds_toArray, List.set_cons_zero, List.set_cons_succ]
            refine wpAnyH_ready (rs := [8]) (by kernel_rfl) (by simp) ?_
            refine (AllReadyH.cons (o := ⟨some 39, _, _, _, _, _⟩) rfl ?_ AllReadyH.nil)
            · intro K hK
              go_simp
              with_reducible refine (next_any g 3 v47 hS.tape (by decide) (by decide)).mono ?_
              rintro e v51 ⟨x, rfl, hx, hTn, hOn⟩
              have hS := hS.call hTn hOn
              have hOw := hOw.only hOn (by omega)
              have W12x := W12 x
              obtain ⟨L0, hL0, W13x⟩ := W13 x
              go_wp2_with fail
              refine hK.out _ _ trivial (fun _ => ?_)
              clear hK K hTn hOn
              try simp only [Act.put, List.setIfInBounds_toArray, List.set_cons_zero, List.set_cons_succ]
              refine wpAnyH_ready (rs := [10]) (by kernel_rfl) (by simp) ?_
              refine (AllReadyH.cons (o := ⟨some 41, _, _, _, _, _⟩) rfl ?_ AllReadyH.nil)
              · intro K hK
                go_simp
                with_reducible refine (jr v51 (hOw.isB (by omega))).mono ?_
                rintro e v52 ⟨rfl, hb⟩
                have hS := hS.below hb
                have hOw := hOw.below hb hOw.lt
                go_wp2_with fail
                refine hK.out _ _ trivial (fun _ => ?_)
                clear hK K hb
                try simp only [Act.put, List.setIfInBounds_toArray, List.set_cons_zero, List.set_cons_succ]
                refine wpAnyH_take (i := 11) (oi := ⟨some 42, _, _, _, _, _⟩) (v := .int .i64 (1 + (R : Int))) rfl (by kernel_rfl) (by kernel_rfl) (by kernel_rfl) (fun _ _ _ h => h) (Or.inl ⟨by rfl, ?_⟩) trivial ?_
                · intro w hSw; go_simp; try simp only [W11]
                try simp only [Act.put, List.setIfInBounds_toArray, List.set_cons_zero, List.set_cons_succ]
                refine wpAnyH_take (i := 12) (oi := ⟨some 43, _, _, _, _, _⟩) (v := .int .i64 ((x : Int) % (1 + (R : Int)))) rfl (by kernel_rfl) (by kernel_rfl) (by kernel_rfl) (fun _ _ _ h => h) (Or.inl ⟨by rfl, ?_⟩) trivial ?_
                · intro w hSw; go_simp; try simp only [hR0, if_false, W12x]
                try simp only [Act.put, List.setIfInBounds_toArray, List.set_cons_zero, List.set_cons_succ]
                refine wpAnyH_take (i := 13) (oi := ⟨some 44, _, _, _, _, _⟩) (v := .int .i64 (L0 : Int)) rfl (by kernel_rfl) (by kernel_rfl) (by kernel_rfl) (fun _ _ _ h => h) (Or.inl ⟨by rfl, ?_⟩) trivial ?_
                · intro w hSw; go_simp; try simp only [W13x]
                try simp only [Act.put, List.setIfInBounds_toArray, List.set_cons_zero, List.set_cons_succ]
                refine wpAnyH_ready (rs := [14]) (by kernel_rfl) (by simp) ?_
                refine (AllReadyH.cons (o := ⟨some 45, _, _, _, _, _⟩) rfl ?_ AllReadyH.nil)
                · intro K hK
                  go_simp
                  with_reducible refine (fill_any g (L0 : Int) v52 hS.tape (by omega) (by omega)).mono ?_
                  rintro e v53 ⟨k2, L, rfl, hk2, hL, hOL, hTn, hOn⟩
                  have HL := hid hL
                  clear hL
                  have hk5 := Nat.lt_of_lt_of_le hS.fr.lt hk2
                  have hS := hS.call hTn hOn
                  go_wp2_with fail
                  refine hK.out _ _ trivial (fun _ => ?_)
                  clear hK K hTn hOn
                  try simp only [Act.put, List.setIfInBounds_toArray, List.set_cons_zero, List.set_cons_succ]
                  refine wpAnyH_take (i := 15) (oi := ⟨some 46, _, _, _, _, _⟩) (v := ?_) rfl (by kernel_rfl) (by kernel_rfl) (by kernel_rfl) (fun _ _ _ h => h) (Or.inl ⟨by rfl, ?_⟩) trivial ?_
                  rotate_left
                  · intro w hSw; go_simp; try with_reducible rfl
                  try simp only [Act.put, List.setIfInBounds_toArray, List.set_cons_zero, List.set_cons_succ]
                  refine wpAnyH_ready (rs := [16]) (by kernel_rfl) (by simp) ?_
                  refine (AllReadyH.cons (o := ⟨none, _, _, _, _, _⟩) rfl ?_ AllReadyH.nil)
                  · intro K hK
                    have c14 := hS.fr.fr.cells.2.2.2.2.2.2.2.2.2.2.2.2.2.2.1
                    have f14 := hS.fr.frozen 14
                    go_simp
                    refine hK.out _ _ trivial (fun _ => ?_)
                    clear hK K
                    try simp only [Act.put, List.setIfInBounds_toArray, List.set_cons_zero, List.set_cons_succ]
                    have hS2 := hS.set 14 (.slice (some ⟨k2, 0, none⟩) L.length L.length) h (.slice (some ⟨k2, 0, none⟩) L.length L.length) (.slice none 0 0) rfl
                    have hOL2 := hOL.only (Only.set b5 14 _ (.slice (some ⟨k2, 0, none⟩) L.length L.length)) (by omega)
                    refine wpAnyH_done (by kernel_rfl) ?_ _
                    generalize World.setCell _ _ _ = wq at hS2 hOL2 ⊢
                    have hF := hS2.fr.fr
                    have hK := hS2.res
                    go_wp2_with (first | ((with_reducible refine wpList_load_frame (op := ⟨some 47, _, _, _, _, _⟩) ?_ (.tmp 3) ?_ ?_ hF ?_); (· exact rfl); (· exact rfl); (· exact rfl)) | ((with_reducible refine wpList_store_frame (op := ⟨none, _, _, _, _, _⟩) ?_ (.tmp 2) (.tmp 47) ?_ ?_ (h := h) (p := .slice (some ⟨k2, 0, none⟩) L.length L.length) (m := .slice none 0 0) ?_ hK ?_ ?_ ?_); (· exact rfl); (· exact rfl); (· exact rfl); (· exact rfl); (· exact rfl); (· exact rfl); intro wz hRz hOz))
                    exact bodyPost_ret (results_frame rfl rfl hRz.out) rfl (HFIN.out _ _ _ _ _ L [] hS2 hOz hok (HV2 _ (by rw [HL.out]; omega)) (hOL2.gr (by omega) (by rw [HL.out]; omega)) (Gr.nil _ _))
        · intro K hK
          refine step_load_frame rfl (.tmp 3) rfl rfl hS.fr.fr ?_
          refine hK.out _ _ trivial (fun _ => ?_)
          clear hK K
          try simp only [Act.put, List.setIfInBounds_toArray, List.set_cons_zero, List.set_cons_succ]
          refine wpAnyH_ready (rs := [2]) (by kernel_rfl) (by simp) ?_
          refine (AllReadyH.cons (o := ⟨some 33, _, _, _, _, _⟩) rfl ?_ AllReadyH.nil)
          · intro K hK
            go_simp
            with_reducible refine (jr v0 (hOw.isB (by omega))).mono ?_
            rintro e v54 ⟨rfl, hb⟩
            have hS := hS.below hb
            have hOw := hOw.below hb hOw.lt
            go_wp2_with fail
            refine hK.out _ _ trivial (fun _ => ?_)
            clear hK K hb
            try simp only [Act.put, List.setIfInBounds_toArray, List.set_cons_zero, List.set_cons_succ]
            refine wpAnyH_take (i := 6) (oi := ⟨some 37, _, _, _, _, _⟩) (v := .int .i64 ((R : Int) + (P.length : Int))) rfl (by kernel_rfl) (by kernel_rfl) (by kernel_rfl) (fun _ _ _ h => h) (Or.inl ⟨by rfl, ?_⟩) trivial ?_
            · intro w hSw; go_simp; try simp only [W6]
            try simp only [Act.put, List.setIfInBounds_toArray, List.set_cons_zero, List.set_cons_succ]
            refine wpAnyH_ready (rs := [8]) (by kernel_rfl) (by simp) ?_
            refine (AllReadyH.cons (o := ⟨some 39, _, _, _, _, _⟩) rfl ?_ AllReadyH.nil)
            · intro K hK
              go_simp
              with_reducible refine (next_any g 3 v54 hS.tape (by decide) (by decide)).mono ?_
              rintro e v55 ⟨x, rfl, hx, hTn, hOn⟩
              have hS := hS.call hTn hOn
              have hOw := hOw.only hOn (by omega)
              have W12x := W12 x
              obtain ⟨L0, hL0, W13x⟩ := W13 x
              go_wp2_with fail
              refine hK.out _ _ trivial (fun _ => ?_)
              clear hK K hTn hOn
              try simp only [Act.put, List.setIfInBounds_toArray, List.set_cons_zero, List.set_cons_succ]
              refine wpAnyH_ready (rs := [10]) (by kernel_rfl) (by simp) ?_
              refine (AllReadyH.cons (o := ⟨some 41, _, _, _, _, _⟩) rfl ?_ AllReadyH.nil)
              · intro K hK
                go_simp
                with_reducible refine (jr v55 (hOw.isB (by omega))).mono ?_
                rintro e v56 ⟨rfl, hb⟩
                have hS := hS.below hb
                have hOw := hOw.below hb hOw.lt
                go_wp2_with fail
                refine hK.out _ _ trivial (fun _ => ?_)
                clear hK K hb
                try simp only [Act.put, List.setIfInBounds_toArray, List.set_cons_zero, List.set_cons_succ]
                refine wpAnyH_take (i := 11) (oi := ⟨some 42, _, _, _, _, _⟩) (v := .int .i64 (1 + (R : Int))) rfl (by kernel_rfl) (by kernel_rfl) (by kernel_rfl) (fun _ _ _ h => h) (Or.inl ⟨by rfl, ?_⟩) trivial ?_
                · intro w hSw; go_simp; try simp only [W11]
                try simp only [Act.put, List.setIfInBounds_toArray, List.set_cons_zero, List.set_cons_succ]
                refine wpAnyH_take (i := 12) (oi := ⟨some 43, _, _, _, _, _⟩) (v := .int .i64 ((x : Int) % (1 + (R : Int)))) rfl (by kernel_rfl) (by kernel_rfl) (by kernel_rfl) (fun _ _ _ h => h) (Or.inl ⟨by rfl, ?_⟩) trivial ?_
                · intro w hSw; go_simp; try simp only [hR0, if_false, W12x]
                try simp only [Act.put, List.setIfInBounds_toArray, List.set_cons_zero, List.set_cons_succ]
                refine wpAnyH_take (i := 13) (oi := ⟨some 44, _, _, _, _, _⟩) (v := .int .i64 (L0 : Int)) rfl (by kernel_rfl) (by kernel_rfl) (by kernel_rfl) (fun _ _ _ h => h) (Or.inl ⟨by rfl, ?_⟩) trivial ?_
                · intro w hSw; go_simp; try simp only [W13x]
                try simp only [Act.put, List.setIfInBounds_toArray, List.set_cons_zero, List.set_cons_succ]
                refine wpAnyH_ready (rs := [14]) (by kernel_rfl) (by simp) ?_
                refine (AllReadyH.cons (o := ⟨some 45, _, _, _, _, _⟩) rfl ?_ AllReadyH.nil)
                · intro K hK
                  go_simp
                  with_reducible refine (fill_any g (L0 : Int) v56 hS.tape (by omega) (by omega)).mono ?_
                  rintro e v57 ⟨k2, L, rfl, hk2, hL, hOL, hTn, hOn⟩
                  have HL := hid hL
                  clear hL
                  have hk5 := Nat.lt_of_lt_of_le hS.fr.lt hk2
                  have hS := hS.call hTn hOn
                  go_wp2_with fail
                  refine hK.out _ _ trivial (fun _ => ?_)
                  clear hK K hTn hOn
                  try simp only [Act.put, List.setIfInBounds_toArray, List.set_cons_zero, List.set_cons_succ]
                  refine wpAnyH_take (i := 15) (oi := ⟨some 46, _, _, _, _, _⟩) (v := ?_) rfl (by kernel_rfl) (by kernel_rfl) (by kernel_rfl) (fun _ _ _ h => h) (Or.inl ⟨by rfl, ?_⟩) trivial ?_
                  rotate_left
                  · intro w hSw; go_simp; try with_reducible rfl
                  try simp only [Act.put, List.setIfInBounds_toArray, List.set_cons_zero, List.set_cons_succ]
                  refine wpAnyH_ready (rs := [16]) (by kernel_rfl) (by simp) ?_
                  refine (AllReadyH.cons (o := ⟨none, _, _, _, _, _⟩) rfl ?_ AllReadyH.nil)
                  · intro K hK
                    have c14 := hS.fr.fr.cells.2.2.2.2.2.2.2.2.2.2.2.2.2.2.1
                    have f14 := hS.fr.frozen 14
                    go_simp
                    refine hK.out _ _ trivial (fun _ => ?_)
                    clear hK K
                    try simp only [Act.put, List.setIfInBounds_toArray, List.set_cons_zero, List.set_cons_succ]
                    have hS2 := hS.set 14 (.slice (some ⟨k2, 0, none⟩) L.length L.length) h (.slice (some ⟨k2, 0, none⟩) L.length L.length) (.slice none 0 0) rfl
                    have hOL2 := hOL.only (Only.set b5 14 _ (.slice (some ⟨k2, 0, none⟩) L.length L.length)) (by omega)
                    refine wpAnyH_done (by kernel_rfl) ?_ _
                    generalize World.setCell _ _ _ = wq at hS2 hOL2 ⊢
                    have hF := hS2.fr.fr
                    have hK := hS2.res
                    go_wp2_with (first | ((with_reducible refine wpList_load_frame (op := ⟨some 47, _, _, _, _, _⟩) ?_ (.tmp 3) ?_ ?_ hF ?_); (· exact rfl); (· exact rfl); (· exact rfl)) | ((with_reducible refine wpList_store_frame (op := ⟨none, _, _, _, _, _⟩) ?_ (.tmp 2) (.tmp 47) ?_ ?_ (h := h) (p := .slice (some ⟨k2, 0, none⟩) L.length L.length) (m := .slice none 0 0) ?_ hK ?_ ?_ ?_); (· exact rfl); (· exact rfl); (· exact rfl); (· exact rfl); (· exact rfl); (· exact rfl); intro wz hRz hOz))
                    exact bodyPost_ret (results_frame rfl rfl hRz.out) rfl (HFIN.out _ _ _ _ _ L [] hS2 hOz hok (HV2 _ (by rw [HL.out]; omega)) (hOL2.gr (by omega) (by rw [HL.out]; omega)) (Gr.nil _ _))
      · intro K hK
        refine step_load_frame rfl (.tmp 3) rfl rfl hS.fr.fr ?_
        refine hK.out _ _ trivial (fun _ => ?_)
        clear hK K
        try simp only [Act.put, List.setIfInBounds_toArray, List.set_cons_zero, List.set_cons_succ]
        refine wpAnyH_ready (rs := [1]) (by kernel_rfl) (by simp) ?_
        refine (AllReadyH.cons (o := ⟨some 32, _, _, _, _, _⟩) rfl ?_ AllReadyH.nil)
        · intro K hK
          refine step_load_frame rfl (.tmp 3) rfl rfl hS.fr.fr ?_
          refine hK.out _ _ trivial (fun _ => ?_)
          clear hK K
          try simp only [Act.put, List.setIfInBounds_toArray, List.set_cons_zero, List.set_cons_succ]
          refine wpAnyH_ready (rs := [2]) (by kernel_rfl) (by simp) ?_
          refine (AllReadyH.cons (o := ⟨some 33, _, _, _, _, _⟩) rfl ?_ AllReadyH.nil)
          · intro K hK
            go_simp
            with_reducible refine (jr v0 (hOw.isB (by omega))).mono ?_
            rintro e v58 ⟨rfl, hb⟩
            have hS := hS.below hb
            have hOw := hOw.below hb hOw.lt
            go_wp2_with fail
            refine hK.out _ _ trivial (fun _ => ?_)
            clear hK K hb
            try simp only [Act.put, List.setIfInBounds_toArray, List.set_cons_zero, List.set_cons_succ]
            refine wpAnyH_take (i := 6) (oi := ⟨some 37, _, _, _, _, _⟩) (v := .int .i64 ((R : Int) + (P.length : Int))) rfl (by kernel_rfl) (by kernel_rfl) (by kernel_rfl) (fun _ _ _ h => h) (Or.inl ⟨by rfl, ?_⟩) trivial ?_
            · intro w hSw; go_simp; try simp only [W6]
            try simp only [Act.put, List.setIfInBounds_toArray, List.set_cons_zero, List.set_cons_succ]
            refine wpAnyH_ready (rs := [8]) (by kernel_rfl) (by simp) ?_
            refine (AllReadyH.cons (o := ⟨some 39, _, _, _, _, _⟩) rfl ?_ AllReadyH.nil)
            · intro K hK
              go_simp
              with_reducible refine (next_any g 3 v58 hS.tape (by decide) (by decide)).mono ?_
              rintro e v59 ⟨x, rfl, hx, hTn, hOn⟩
              have hS := hS.call hTn hOn
              have hOw := hOw.only hOn (by omega)
              have W12x := W12 x
              obtain ⟨L0, hL0, W13x⟩ := W13 x
              go_wp2_with fail
              refine hK.out _ _ trivial (fun _ => ?_)
              clear hK K hTn hOn
              try simp only [Act.put, List.setIfInBounds_toArray, List.set_cons_zero, List.set_cons_succ]
              refine wpAnyH_ready (rs := [10]) (by kernel_rfl) (by simp) ?_
              refine (AllReadyH.cons (o := ⟨some 41, _, _, _, _, _⟩) rfl ?_ AllReadyH.nil)
              · intro K hK
                go_simp
                with_reducible refine (jr v59 (hOw.isB (by omega))).mono ?_
                rintro e v60 ⟨rfl, hb⟩
                have hS := hS.below hb
                have hOw := hOw.below hb hOw.lt
                go_wp2_with fail
                refine hK.out _ _ trivial (fun _ => ?_)
                clear hK K hb
                try simp only [Act.put, List.setIfInBounds_toArray, List.set_cons_zero, List.set_cons_succ]
                refine wpAnyH_take (i := 11) (oi := ⟨some 42, _, _, _, _, _⟩) (v := .int .i64 (1 + (R : Int))) rfl (by kernel_rfl) (by kernel_rfl) (by kernel_rfl) (fun _ _ _ h => h) (Or.inl ⟨by rfl, ?_⟩) trivial ?_
                · intro w hSw; go_simp; try simp only [W11]
                try simp only [Act.put, List.setIfInBounds_toArray, List.set_cons_zero, List.set_cons_succ]
                refine wpAnyH_take (i := 12) (oi := ⟨some 43, _, _, _, _, _⟩) (v := .int .i64 ((x : Int) % (1 + (R : Int)))) rfl (by kernel_rfl) (by kernel_rfl) (by kernel_rfl) (fun _ _ _ h => h) (Or.inl ⟨by rfl, ?_⟩) trivial ?_
                · intro w hSw; go_simp; try simp only [hR0, if_false, W12x]
                try simp only [Act.put, List.setIfInBounds_toArray, List.set_cons_zero, List.set_cons_succ]
                refine wpAnyH_take (i := 13) (oi := ⟨some 44, _, _, _, _, _⟩) (v := .int .i64 (L0 : Int)) rfl (by kernel_rfl) (by kernel_rfl) (by kernel_rfl) (fun _ _ _ h => h) (Or.inl ⟨by rfl, ?_⟩) trivial ?_
                · intro w hSw; go_simp; try simp only [W13x]
                try simp only [Act.put, List.setIfInBounds_toArray, List.set_cons_zero, List.set_cons_succ]
                refine wpAnyH_ready (rs := [14]) (by kernel_rfl) (by simp) ?_
                refine (AllReadyH.cons (o := ⟨some 45, _, _, _, _, _⟩) rfl ?_ AllReadyH.nil)
                · intro K hK
                  go_simp
                  with_reducible refine (fill_any g (L0 : Int) v60 hS.tape (by omega) (by omega)).mono ?_
                  rintro e v61 ⟨k2, L, rfl, hk2, hL, hOL, hTn, hOn⟩
                  have HL := hid hL
                  clear hL
                  have hk5 := Nat.lt_of_lt_of_le hS.fr.lt hk2
                  have hS := hS.call hTn hOn
                  go_wp2_with fail
                  refine hK.out _ _ trivial (fun _ => ?_)
                  clear hK K hTn hOn
                  try simp only [Act.put, List.setIfInBounds_toArray, List.set_cons_zero, List.set_cons_succ]
                  refine wpAnyH_take (i := 15) (oi := ⟨some 46, _, _, _, _, _⟩) (v := ?_) rfl (by kernel_rfl) (by kernel_rfl) (by kernel_rfl) (fun _ _ _ h => h) (Or.inl ⟨by rfl, ?_⟩) trivial ?_
                  rotate_left
                  · intro w hSw; go_simp; try with_reducible rfl
                  try simp only [Act.put, List.setIfInBounds_toArray, List.set_cons_zero, List.set_cons_succ]
                  refine wpAnyH_ready (rs := [16]) (by kernel_rfl) (by simp) ?_
                  refine (AllReadyH.cons (o := ⟨none, _, _, _, _, _⟩) rfl ?_ AllReadyH.nil)
                  · intro K hK
                    have c14 := hS.fr.fr.cells.2.2.2.2.2.2.2.2.2.2.2.2.2.2.1
                    have f14 := hS.fr.frozen 14
                    go_simp
                    refine hK.out _ _ trivial (fun _ => ?_)
                    clear hK K
                    try simp only [Act.put, List.setIfInBounds_toArray, List.set_cons_zero, List.set_cons_succ]
                    have hS2 := hS.set 14 (.slice (some ⟨k2, 0, none⟩) L.length L.length) h (.slice (some ⟨k2, 0, none⟩) L.length L.length) (.slice none 0 0) rfl
                    have hOL2 := hOL.only (Only.set b5 14 _ (.slice (some ⟨k2, 0, none⟩) L.length L.length)) (by omega)
                    refine wpAnyH_done (by kernel_rfl) ?_ _
                    generalize World.setCell _ _ _ = wq at hS2 hOL2 ⊢
                    have hF := hS2.fr.fr
                    have hK := hS2.res
                    go_wp2_with (first | ((with_reducible refine wpList_load_frame (op := ⟨some 47, _, _, _, _, _⟩) ?_ (.tmp 3) ?_ ?_ hF ?_); (· exact rfl); (· exact rfl); (· exact rfl)) | ((with_reducible refine wpList_store_frame (op := ⟨none, _, _, _, _, _⟩) ?_ (.tmp 2) (.tmp 47) ?_ ?_ (h := h) (p := .slice (some ⟨k2, 0, none⟩) L.length L.length) (m := .slice none 0 0) ?_ hK ?_ ?_ ?_); (· exact rfl); (· exact rfl); (· exact rfl); (· exact rfl); (· exact rfl); (· exact rfl); intro wz hRz hOz))
                    exact bodyPost_ret (results_frame rfl rfl hRz.out) rfl (HFIN.out _ _ _ _ _ L [] hS2 hOz hok (HV2 _ (by rw [HL.out]; omega)) (hOL2.gr (by omega) (by rw [HL.out]; omega)) (Gr.nil _ _))
    · intro K hK
      refine step_load_frame rfl (.tmp 3) rfl rfl hS.fr.fr ?_
      refine hK.out _ _ trivial (fun _ => ?_)
      clear hK K
      try simp only [Act.put, List.setIfInBounds_toArray, List.set_cons_zero, List.set_cons_succ]
      refine wpAnyH_ready (rs := [1, 4]) (by kernel_rfl) (by simp) ?_
      refine (AllReadyH.cons (o := ⟨some 32, _, _, _, _, _⟩) rfl ?_ (AllReadyH.cons (o := ⟨some 35, _, _, _, _, _⟩) rfl ?_ AllReadyH.nil))
      · intro K hK
        refine step_load_frame rfl (.tmp 3) rfl rfl hS.fr.fr ?_
        refine hK.out _ _ trivial (fun _ => ?_)
        clear hK K
        try simp only [Act.put, List.setIfInBounds_toArray, List.set_cons_zero, List.set_cons_succ]
        refine wpAnyH_ready (rs := [2, 4]) (by kernel_rfl) (by simp) ?_
        refine (AllReadyH.cons (o := ⟨some 33, _, _, _, _, _⟩) rfl ?_ (AllReadyH.cons (o := ⟨some 35, _, _, _, _, _⟩) rfl ?_ AllReadyH.nil))
        · intro K hK
          go_simp
          with_reducible refine (jr v0 (hOw.isB (by omega))).mono ?_
          rintro e v62 ⟨rfl, hb⟩
          have hS := hS.below hb
          have hOw := hOw.below hb hOw.lt
          go_wp2_with fail
          refine hK.out _ _ trivial (fun _ => ?_)
          clear hK K hb
          try simp only [Act.put, List.setIfInBounds_toArray, List.set_cons_zero, List.set_cons_succ]
          refine wpAnyH_ready (rs := [4, 8]) (by kernel_rfl) (by simp) ?_
          refine (AllReadyH.cons (o := ⟨some 35, _, _, _, _, _⟩) rfl ?_ (AllReadyH.cons (o := ⟨some 39, _, _, _, _, _⟩) rfl ?_ AllReadyH.nil))
          · intro K hK
            have c14 := hS.fr.fr.cells.2.2.2.2.2.2.2.2.2.2.2.2.2.2.1
            go_simp
            refine hK.out _ _ trivial (fun _ => ?_)
            clear hK K c14
            try simp only [Act.put, List.setIfInBounds_toArray, List.set_cons_zero, List.set_cons_succ]
            refine wpAnyH_take (i := 5) (oi := ⟨some 36, _, _, _, _, _⟩) (v := .int .i64 (P.length : Int)) rfl (by kernel_rfl) (by kernel_rfl) (by kernel_rfl) (fun _ _ _ h => h) (Or.inl ⟨by rfl, ?_⟩) trivial ?_
            · intro w hSw; go_simp; try rfl
            try simp only [Act.put, List.setIfInBounds_toArray, List.set_cons_zero, List.set_cons_succ]
            refine wpAnyH_take (i := 6) (oi := ⟨some 37, _, _, _, _, _⟩) (v := .int .i64 ((R : Int) + (P.length : Int))) rfl (by kernel_rfl) (by kernel_rfl) (by kernel_rfl) (fun _ _ _ h => h) (Or.inl ⟨by rfl, ?_⟩) trivial ?_
            · intro w hSw; go_simp; try simp only [W6]
            try simp only [Act.put, List.setIfInBounds_toArray, List.set_cons_zero, List.set_cons_succ]
            refine wpAnyH_ready (rs := [8]) (by kernel_rfl) (by simp) ?_
            refine (AllReadyH.cons (o := ⟨some 39, _, _, _, _, _⟩) rfl ?_ AllReadyH.nil)
            · intro K hK
              go_simp
              with_reducible refine (next_any g 3 v62 hS.tape (by decide) (by decide)).mono ?_
              rintro e v63 ⟨x, rfl, hx, hTn, hOn⟩
              have hS := hS.call hTn hOn
              have hOw := hOw.only hOn (by omega)
              have W12x := W12 x
              obtain ⟨L0, hL0, W13x⟩ := W13 x
              go_wp2_with fail
              refine hK.out _ _ trivial (fun _ => ?_)
              clear hK K hTn hOn
              try simp only [Act.put, List.setIfInBounds_toArray, List.set_cons_zero, List.set_cons_succ]
              refine wpAnyH_ready (rs := [10]) (by kernel_rfl) (by simp) ?_
              refine (AllReadyH.cons (o := ⟨some 41, _, _, _, _, _⟩) rfl ?_ AllReadyH.nil)
              · intro K hK
                go_simp
                with_reducible refine (jr v63 (hOw.isB (by omega))).mono ?_
                rintro e v64 ⟨rfl, hb⟩
                have hS := hS.below hb
                have hOw := hOw.below hb hOw.lt
                go_wp2_with fail
                refine hK.out _ _ trivial (fun _ => ?_)
                clear hK K hb
                try simp only [Act.put, List.setIfInBounds_toArray, List.set_cons_zero, List.set_cons_succ]
                refine wpAnyH_take (i := 11) (oi := ⟨some 42, _, _, _, _, _⟩) (v := .int .i64 (1 + (R : Int))) rfl (by kernel_rfl) (by kernel_rfl) (by kernel_rfl) (fun _ _ _ h => h) (Or.inl ⟨by rfl, ?_⟩) trivial ?_
                · intro w hSw; go_simp; try simp only [W11]
                try simp only [Act.put, List.setIfInBounds_toArray, List.set_cons_zero, List.set_cons_succ]
                refine wpAnyH_take (i := 12) (oi := ⟨some 43, _, _, _, _, _⟩) (v := .int .i64 ((x : Int) % (1 + (R : Int)))) rfl (by kernel_rfl) (by kernel_rfl) (by kernel_rfl) (fun _ _ _ h => h) (Or.inl ⟨by rfl, ?_⟩) trivial ?_
                · intro w hSw; go_simp; try simp only [hR0, if_false, W12x]
                try simp only [Act.put, List.setIfInBounds_toArray, List.set_cons_zero, List.set_cons_succ]
                refine wpAnyH_take (i := 13) (oi := ⟨some 44, _, _, _, _, _⟩) (v := .int .i64 (L0 : Int)) rfl (by kernel_rfl) (by kernel_rfl) (by kernel_rfl) (fun _ _ _ h => h) (Or.inl ⟨by rfl, ?_⟩) trivial ?_
                · intro w hSw; go_simp; try simp only [W13x]
                try simp only [Act.put, List.setIfInBounds_toArray, List.set_cons_zero, List.set_cons_succ]
                refine wpAnyH_ready (rs := [14]) (by kernel_rfl) (by simp) ?_
                refine (AllReadyH.cons (o := ⟨some 45, _, _, _, _, _⟩) rfl ?_ AllReadyH.nil)
                · intro K hK
                  go_simp
                  with_reducible refine (fill_any g (L0 : Int) v64 hS.tape (by omega) (by omega)).mono ?_
                  rintro e v65 ⟨k2, L, rfl, hk2, hL, hOL, hTn, hOn⟩
                  have HL := hid hL
                  clear hL
                  have hk5 := Nat.lt_of_lt_of_le hS.fr.lt hk2
                  have hS := hS.call hTn hOn
                  go_wp2_with fail
                  refine hK.out _ _ trivial (fun _ => ?_)
                  clear hK K hTn hOn
                  try simp only [Act.put, List.setIfInBounds_toArray, List.set_cons_zero, List.set_cons_succ]
                  refine wpAnyH_take (i := 15) (oi := ⟨some 46, _, _, _, _, _⟩) (v := ?_) rfl (by kernel_rfl) (by kernel_rfl) (by kernel_rfl) (fun _ _ _ h => h) (Or.inl ⟨by rfl, ?_⟩) trivial ?_
                  rotate_left
                  · intro w hSw; go_simp; try with_reducible rfl
                  try simp only [Act.put, List.setIfInBounds_toArray, List.set_cons_zero, List.set_cons_succ]
                  refine wpAnyH_ready (rs := [16]) (by kernel_rfl) (by simp) ?_
                  refine (AllReadyH.cons (o := ⟨none, _, _, _, _, _⟩) rfl ?_ AllReadyH.nil)
                  · intro K hK
                    have c14 := hS.fr.fr.cells.2.2.2.2.2.2.2.2.2.2.2.2.2.2.1
                    have f14 := hS.fr.frozen 14
                    go_simp
                    refine hK.out _ _ trivial (fun _ => ?_)
                    clear hK K
                    try simp only [Act.put, List.setIfInBounds_toArray, List.set_cons_zero, List.set_cons_succ]
                    have hS2 := hS.set 14 (.slice (some ⟨k2, 0, none⟩) L.length L.length) h (.slice (some ⟨k2, 0, none⟩) L.length L.length) (.slice none 0 0) rfl
                    have hOL2 := hOL.only (Only.set b5 14 _ (.slice (some ⟨k2, 0, none⟩) L.length L.length)) (by omega)
                    refine wpAnyH_done (by kernel_rfl) ?_ _
                    generalize World.setCell _ _ _ = wq at hS2 hOL2 ⊢
                    have hF := hS2.fr.fr
                    have hK := hS2.res
                    go_wp2_with (first | ((with_reducible refine wpList_load_frame (op := ⟨some 47, _, _, _, _, _⟩) ?_ (.tmp 3) ?_ ?_ hF ?_); (· exact rfl); (· exact rfl); (· exact rfl)) | ((with_reducible refine wpList_store_frame (op := ⟨none, _, _, _, _, _⟩) ?_ (.tmp 2) (.tmp 47) ?_ ?_ (h := h) (p := .slice (some ⟨k2, 0, none⟩) L.length L.length) (m := .slice none 0 0) ?_ hK ?_ ?_ ?_); (· exact rfl); (· exact rfl); (· exact rfl); (· exact rfl); (· exact rfl); (· exact rfl); intro wz hRz hOz))
                    exact bodyPost_ret (results_frame rfl rfl hRz.out) rfl (HFIN.out _ _ _ _ _ L [] hS2 hOz hok (HV2 _ (by rw [HL.out]; omega)) (hOL2.gr (by omega) (by rw [HL.out]; omega)) (Gr.nil _ _))
          · intro K hK
            go_simp
            with_reducible refine (next_any g 3 v62 hS.tape (by decide) (by decide)).mono ?_
            rintro e v66 ⟨x, rfl, hx, hTn, hOn⟩
            have hS := hS.call hTn hOn
            have hOw := hOw.only hOn (by omega)
            have W12x := W12 x
            obtain ⟨L0, hL0, W13x⟩ := W13 x
            go_wp2_with fail
            refine hK.out _ _ trivial (fun _ => ?_)
            clear hK K hTn hOn
            try simp only [Act.put, List.setIfInBounds_toArray, List.set_cons_zero, List.set_cons_succ]
            refine wpAnyH_ready (rs := [4, 10]) (by kernel_rfl) (by simp) ?_
            refine (AllReadyH.cons (o := ⟨some 35, _, _, _, _, _⟩) rfl ?_ (AllReadyH.cons (o := ⟨some 41, _, _, _, _, _⟩) rfl ?_ AllReadyH.nil))
            · intro K hK
              have c14 := hS.fr.fr.cells.2.2.2.2.2.2.2.2.2.2.2.2.2.2.1
              go_simp
              refine hK.out _ _ trivial (fun _ => ?_)
              clear hK K c14
              try simp only [Act.put, List.setIfInBounds_toArray, List.set_cons_zero, List.set_cons_succ]
              refine wpAnyH_take (i := 5) (oi := ⟨some 36, _, _, _, _, _⟩) (v := .int .i64 (P.length : Int)) rfl (by kernel_rfl) (by kernel_rfl) (by kernel_rfl) (fun _ _ _ h => h) (Or.inl ⟨by rfl, ?_⟩) trivial ?_
              · intro w hSw; go_simp; try rfl
              try simp only [Act.put, List.setIfInBounds_toArray, List.set_cons_zero, List.set_cons_succ]
              refine wpAnyH_take (i := 6) (oi := ⟨some 37, _, _, _, _, _⟩) (v := .int .i64 ((R : Int) + (P.length : Int))) rfl (by kernel_rfl) (by kernel_rfl) (by kernel_rfl) (fun _ _ _ h => h) (Or.inl ⟨by rfl, ?_⟩) trivial ?_
              · intro w hSw; go_simp; try simp only [W6]
              try simp only [Act.put, List.setIfInBounds_toArray, List.set_cons_zero, List.set_cons_succ]
              refine wpAnyH_ready (rs := [10]) (by kernel_rfl) (by simp) ?_
              refine (AllReadyH.cons (o := ⟨some 41, _, _, _, _, _⟩) rfl ?_ AllReadyH.nil)
              · intro K hK
                go_simp
                with_reducible refine (jr v66 (hOw.isB (by omega))).mono ?_
                rintro e v67 ⟨rfl, hb⟩
                have hS := hS.below hb
                have hOw := hOw.below hb hOw.lt
                go_wp2_with fail
                refine hK.out _ _ trivial (fun _ => ?_)
                clear hK K hb
                try simp only [Act.put, List.setIfInBounds_toArray, List.set_cons_zero, List.set_cons_succ]
                refine wpAnyH_take (i := 11) (oi := ⟨some 42, _, _, _, _, _⟩) (v := .int .i64 (1 + (R : Int))) rfl (by kernel_rfl) (by kernel_rfl) (by kernel_rfl) (fun _ _ _ h => h) (Or.inl ⟨by rfl, ?_⟩) trivial ?_
                · intro w hSw; go_simp; try simp only [W11]
                try simp only [Act.put, List.setIfInBounds_toArray, List.set_cons_zero, List.set_cons_succ]
                refine wpAnyH_take (i := 12) (oi := ⟨some 43, _, _, _, _, _⟩) (v := .int .i64 ((x : Int) % (1 + (R : Int)))) rfl (by kernel_rfl) (by kernel_rfl) (by kernel_rfl) (fun _ _ _ h => h) (Or.inl ⟨by rfl, ?_⟩) trivial ?_
                · intro w hSw; go_simp; try simp only [hR0, if_false, W12x]
                try simp only [Act.put, List.setIfInBounds_toArray, List.set_cons_zero, List.set_cons_succ]
                refine wpAnyH_take (i := 13) (oi := ⟨some 44, _, _, _, _, _⟩) (v := .int .i64 (L0 : Int)) rfl (by kernel_rfl) (by kernel_rfl) (by kernel_rfl) (fun _ _ _ h => h) (Or.inl ⟨by rfl, ?_⟩) trivial ?_
                · intro w hSw; go_simp; try simp only [W13x]
                try simp only [Act.put, List.setIfInBounds_toArray, List.set_cons_zero, List.set_cons_succ]
                refine wpAnyH_ready (rs := [14]) (by kernel_rfl) (by simp) ?_
                refine (AllReadyH.cons (o := ⟨some 45, _, _, _, _, _⟩) rfl ?_ AllReadyH.nil)
                · intro K hK
                  go_simp
                  with_reducible refine (fill_any g (L0 : Int) v67 hS.tape (by omega) (by omega)).mono ?_
                  rintro e v68 ⟨k2, L, rfl, hk2, hL, hOL, hTn, hOn⟩
                  have HL := hid hL
                  clear hL
                  have hk5 := Nat.lt_of_lt_of_le hS.fr.lt hk2
                  have hS := hS.call hTn hOn
                  go_wp2_with fail
                  refine hK.out _ _ trivial (fun _ => ?_)
                  clear hK K hTn hOn
                  try simp only [Act.put, List.setIfInBounds_toArray, List.set_cons_zero, List.set_cons_succ]
                  refine wpAnyH_take (i := 15) (oi := ⟨some 46, _, _, _, _, _⟩) (v := ?_) rfl (by kernel_rfl) (by kernel_rfl) (by kernel_rfl) (fun _ _ _ h => h) (Or.inl ⟨by rfl, ?_⟩) trivial ?_
                  rotate_left
                  · intro w hSw; go_simp; try with_reducible rfl
                  try simp only [Act.put, List.setIfInBounds_toArray, List.set_cons_zero, List.set_cons_succ]
                  refine wpAnyH_ready (rs := [16]) (by kernel_rfl) (by simp) ?_
                  refine (AllReadyH.cons (o := ⟨none, _, _, _, _, _⟩) rfl ?_ AllReadyH.nil)
                  · intro K hK
                    have c14 := hS.fr.fr.cells.2.2.2.2.2.2.2.2.2.2.2.2.2.2.1
                    have f14 := hS.fr.frozen 14
                    go_simp
                    refine hK.out _ _ trivial (fun _ => ?_)
                    clear hK K
                    try simp only [Act.put, List.setIfInBounds_toArray, List.set_cons_zero, List.set_cons_succ]
                    have hS2 := hS.set 14 (.slice (some ⟨k2, 0, none⟩) L.length L.length) h (.slice (some ⟨k2, 0, none⟩) L.length L.length) (.slice none 0 0) rfl
                    have hOL2 := hOL.only (Only.set b5 14 _ (.slice (some ⟨k2, 0, none⟩) L.length L.length)) (by omega)
                    refine wpAnyH_done (by kernel_rfl) ?_ _
                    generalize World.setCell _ _ _ = wq at hS2 hOL2 ⊢
                    have hF := hS2.fr.fr
                    have hK := hS2.res
                    go_wp2_with (first | ((with_reducible refine wpList_load_frame (op := ⟨some 47, _, _, _, _, _⟩) ?_ (.tmp 3) ?_ ?_ hF ?_); (· exact rfl); (· exact rfl); (· exact rfl)) | ((with_reducible refine wpList_store_frame (op := ⟨none, _, _, _, _, _⟩) ?_ (.tmp 2) (.tmp 47) ?_ ?_ (h := h) (p := .slice (some ⟨k2, 0, none⟩) L.length L.length) (m := .slice none 0 0) ?_ hK ?_ ?_ ?_); (· exact rfl); (· exact rfl); (· exact rfl); (· exact rfl); (· exact rfl); (· exact rfl); intro wz hRz hOz))
                    exact bodyPost_ret (results_frame rfl rfl hRz.out) rfl (HFIN.out _ _ _ _ _ L [] hS2 hOz hok (HV2 _ (by rw [HL.out]; omega)) (hOL2.gr (by omega) (by rw [HL.out]; omega)) (Gr.nil _ _))
            · intro K hK
              go_simp
              with_reducible refine (jr v66 (hOw.isB (by omega))).mono ?_
              rintro e v69 ⟨rfl, hb⟩
              have hS := hS.below hb
              have hOw := hOw.below hb hOw.lt
              go_wp2_with fail
              refine hK.out _ _ trivial (fun _ => ?_)
              clear hK K hb
              try simp only [Act.put, List.setIfInBounds_toArray, List.set_cons_zero, List.set_cons_succ]
              refine wpAnyH_take (i := 11) (oi := ⟨some 42, _, _, _, _, _⟩) (v := .int .i64 (1 + (R : Int))) rfl (by kernel_rfl) (by kernel_rfl) (by kernel_rfl) (fun _ _ _ h => h) (Or.inl ⟨by rfl, ?_⟩) trivial ?_
              · intro w hSw; go_simp; try simp only [W11]
              try simp only [Act.put, List.setIfInBounds_toArray, List.set_cons_zero, List.set_cons_succ]
              refine wpAnyH_take (i := 12) (oi := ⟨some 43, _, _, _, _, _⟩) (v := .int .i64 ((x : Int) % (1 + (R : Int)))) rfl (by kernel_rfl) (by kernel_rfl) (by kernel_rfl) (fun _ _ _ h => h) (Or.inl ⟨by rfl, ?_⟩) trivial ?_
              · intro w hSw; go_simp; try simp only [hR0, if_false, W12x]
              try simp only [Act.put, List.setIfInBounds_toArray, List.set_cons_zero, List.set_cons_succ]
              refine wpAnyH_ready (rs := [4]) (by kernel_rfl) (by simp) ?_
              refine (AllReadyH.cons (o := ⟨some 35, _, _, _, _, _⟩) rfl ?_ AllReadyH.nil)
              · intro K hK
                have c14 := hS.fr.fr.cells.2.2.2.2.2.2.2.2.2.2.2.2.2.2.1
                go_simp
                refine hK.out _ _ trivial (fun _ => ?_)
                clear hK K c14
                try simp only [Act.put, List.setIfInBounds_toArray, List.set_cons_zero, List.set_cons_succ]
                refine wpAnyH_take (i := 5) (oi := ⟨some 36, _, _, _, _, _⟩) (v := .int .i64 (P.length : Int)) rfl (by kernel_rfl) (by kernel_rfl) (by kernel_rfl) (fun _ _ _ h => h) (Or.inl ⟨by rfl, ?_⟩) trivial ?_
                · intro w hSw; go_simp; try rfl
                try simp only [Act.put, List.setIfInBounds_toArray, List.set_cons_zero, List.set_cons_succ]
                refine wpAnyH_take (i := 6) (oi := ⟨some 37, _, _, _, _, _⟩) (v := .int .i64 ((R : Int) + (P.length : Int))) rfl (by kernel_rfl) (by kernel_rfl) (by kernel_rfl) (fun _ _ _ h => h) (Or.inl ⟨by rfl, ?_⟩) trivial ?_
                · intro w hSw; go_simp; try simp only [W6]
                try simp only [Act.put, List.setIfInBounds_toArray, List.set_cons_zero, List.set_cons_succ]
                refine wpAnyH_take (i := 13) (oi := ⟨some 44, _, _, _, _, _⟩) (v := .int .i64 (L0 : Int)) rfl (by kernel_rfl) (by kernel_rfl) (by kernel_rfl) (fun _ _ _ h => h) (Or.inl ⟨by rfl, ?_⟩) trivial ?_
                · intro w hSw; go_simp; try simp only [W13x]
                try simp only [Act.put, List.setIfInBounds_toArray, List.set_cons_zero, List.set_cons_succ]
                refine wpAnyH_ready (rs := [14]) (by kernel_rfl) (by simp) ?_
                refine (AllReadyH.cons (o := ⟨some 45, _, _, _, _, _⟩) rfl ?_ AllReadyH.nil)
                · intro K hK
                  go_simp
                  with_reducible refine (fill_any g (L0 : Int) v69 hS.tape (by omega) (by omega)).mono ?_
                  rintro e v70 ⟨k2, L, rfl, hk2, hL, hOL, hTn, hOn⟩
                  have HL := hid hL
                  clear hL
                  have hk5 := Nat.lt_of_lt_of_le hS.fr.lt hk2
                  have hS := hS.call hTn hOn
                  go_wp2_with fail
                  refine hK.out _ _ trivial (fun _ => ?_)
                  clear hK K hTn hOn
                  try simp only [Act.put, List.setIfInBounds_toArray, List.set_cons_zero, List.set_cons_succ]
                  refine wpAnyH_take (i := 15) (oi := ⟨some 46, _, _, _, _, _⟩) (v := ?_) rfl (by kernel_rfl) (by kernel_rfl) (by kernel_rfl) (fun _ _ _ h => h) (Or.inl ⟨by rfl, ?_⟩) trivial ?_
                  rotate_left
                  · intro w hSw; go_simp; try with_reducible rfl
                  try simp only [Act.put, List.setIfInBounds_toArray, List.set_cons_zero, List.set_cons_succ]
                  refine wpAnyH_ready (rs := [16]) (by kernel_rfl) (by simp) ?_
                  refine (AllReadyH.cons (o := ⟨none, _, _, _, _, _⟩) rfl ?_ AllReadyH.nil)
                  · intro K hK
                    have c14 := hS.fr.fr.cells.2.2.2.2.2.2.2.2.2.2.2.2.2.2.1
                    have f14 := hS.fr.frozen 14
                    go_simp
                    refine hK.out _ _ trivial (fun _ => ?_)
                    clear hK K
                    try simp only [Act.put, List.setIfInBounds_toArray, List.set_cons_zero, List.set_cons_succ]
                    have hS2 := hS.set 14 (.slice (some ⟨k2, 0, none⟩) L.length L.length) h (.slice (some ⟨k2, 0, none⟩) L.length L.length) (.slice none 0 0) rfl
                    have hOL2 := hOL.only (Only.set b5 14 _ (.slice (some ⟨k2, 0, none⟩) L.length L.length)) (by omega)
                    refine wpAnyH_done (by kernel_rfl) ?_ _
                    generalize World.setCell _ _ _ = wq at hS2 hOL2 ⊢
                    have hF := hS2.fr.fr
                    have hK := hS2.res
                    go_wp2_with (first | ((with_reducible refine wpList_load_frame (op := ⟨some 47, _, _, _, _, _⟩) ?_ (.tmp 3) ?_ ?_ hF ?_); (· exact rfl); (· exact rfl); (· exact rfl)) | ((with_reducible refine wpList_store_frame (op := ⟨none, _, _, _, _, _⟩) ?_ (.tmp 2) (.tmp 47) ?_ ?_ (h := h) (p := .slice (some ⟨k2, 0, none⟩) L.length L.length) (m := .slice none 0 0) ?_ hK ?_ ?_ ?_); (· exact rfl); (· exact rfl); (· exact rfl); (· exact rfl); (· exact rfl); (· exact rfl); intro wz hRz hOz))
                    exact bodyPost_ret (results_frame rfl rfl hRz.out) rfl (HFIN.out _ _ _ _ _ L [] hS2 hOz hok (HV2 _ (by rw [HL.out]; omega)) (hOL2.gr (by omega) (by rw [HL.out]; omega)) (Gr.nil _ _))
        · intro K hK
          have c14 := hS.fr.fr.cells.2.2.2.2.2.2.2.2.2.2.2.2.2.2.1
          go_simp
          refine hK.out _ _ trivial (fun _ => ?_)
          clear hK K c14
          try simp only [Act.put, List.setIfInBounds_toArray, List.set_cons_zero, List.set_cons_succ]
          refine wpAnyH_take (i := 5) (oi := ⟨some 36, _, _, _, _, _⟩) (v := .int .i64 (P.length : Int)) rfl (by kernel_rfl) (by kernel_rfl) (by kernel_rfl) (fun _ _ _ h => h) (Or.inl ⟨by rfl, ?_⟩) trivial ?_
          · intro w hSw; go_simp; try rfl
          try simp only [Act.put, List.setIfInBounds_toArray, List.set_cons_zero, List.set_cons_succ]
          refine wpAnyH_ready (rs := [2]) (by kernel_rfl) (by simp) ?_
          refine (AllReadyH.cons (o := ⟨some 33, _, _, _, _, _⟩) rfl ?_ AllReadyH.nil)
          · intro K hK
            go_simp
            with_reducible refine (jr v0 (hOw.isB (by omega))).mono ?_
            rintro e v71 ⟨rfl, hb⟩
            have hS := hS.below hb
            have hOw := hOw.below hb hOw.lt
            go_wp2_with fail
            refine hK.out _ _ trivial (fun _ => ?_)
            clear hK K hb
            try simp only [Act.put, List.setIfInBounds_toArray, List.set_cons_zero, List.set_cons_succ]
            refine wpAnyH_take (i := 6) (oi := ⟨some 37, _, _, _, _, _⟩) (v := .int .i64 ((R : Int) + (P.length : Int))) rfl (by kernel_rfl) (by kernel_rfl) (by kernel_rfl) (fun _ _ _ h => h) (Or.inl ⟨by rfl, ?_⟩) trivial ?_
            · intro w hSw; go_simp; try simp only [W6]
            try simp only [Act.put, List.setIfInBounds_toArray, List.set_cons_zero, List.set_cons_succ]
            refine wpAnyH_ready (rs := [8]) (by kernel_rfl) (by simp) ?_
            refine (AllReadyH.cons (o := ⟨some 39, _, _, _, _, _⟩) rfl ?_ AllReadyH.nil)
            · intro K hK
              go_simp
              with_reducible refine (next_any g 3 v71 hS.tape (by decide) (by decide)).mono ?_
              rintro e v72 ⟨x, rfl, hx, hTn, hOn⟩
              have hS := hS.call hTn hOn
              have hOw := hOw.only hOn (by omega)
              have W12x := W12 x
              obtain ⟨L0, hL0, W13x⟩ := W13 x
              go_wp2_with fail
              refine hK.out _ _ trivial (fun _ => ?_)
              clear hK K hTn hOn
              try simp only [Act.put, List.setIfInBounds_toArray, List.set_cons_zero, List.set_cons_succ]
              refine wpAnyH_ready (rs := [10]) (by kernel_rfl) (by simp) ?_
              refine (AllReadyH.cons (o := ⟨some 41, _, _, _, _, _⟩) rfl ?_ AllReadyH.nil)
              · intro K hK
                go_simp
                with_reducible refine (jr v72 (hOw.isB (by omega))).mono ?_
                rintro e v73 ⟨rfl, hb⟩
                have hS := hS.below hb
                have hOw := hOw.below hb hOw.lt
                go_wp2_with fail
                refine hK.out _ _ trivial (fun _ => ?_)
                clear hK K hb
                try simp only [Act.put, List.setIfInBounds_toArray, List.set_cons_zero, List.set_cons_succ]
                refine wpAnyH_take (i := 11) (oi := ⟨some 42, _, _, _, _, _⟩) (v := .int .i64 (1 + (R : Int))) rfl (by kernel_rfl) (by kernel_rfl) (by kernel_rfl) (fun _ _ _ h => h) (Or.inl ⟨by rfl, ?_⟩) trivial ?_
                · intro w hSw; go_simp; try simp only [W11]
                try simp only [Act.put, List.setIfInBounds_toArray, List.set_cons_zero, List.set_cons_succ]
                refine wpAnyH_take (i := 12) (oi := ⟨some 43, _, _, _, _, _⟩) (v := .int .i64 ((x : Int) % (1 + (R : Int)))) rfl (by kernel_rfl) (by kernel_rfl) (by kernel_rfl) (fun _ _ _ h => h) (Or.inl ⟨by rfl, ?_⟩) trivial ?_
                · intro w hSw; go_simp; try simp only [hR0, if_false, W12x]
                try simp only [Act.put, List.setIfInBounds_toArray, List.set_cons_zero, List.set_cons_succ]
                refine wpAnyH_take (i := 13) (oi := ⟨some 44, _, _, _, _, _⟩) (v := .int .i64 (L0 : Int)) rfl (by kernel_rfl) (by kernel_rfl) (by kernel_rfl) (fun _ _ _ h => h) (Or.inl ⟨by rfl, ?_⟩) trivial ?_
                · intro w hSw; go_simp; try simp only [W13x]
                try simp only [Act.put, List.setIfInBounds_toArray, List.set_cons_zero, List.set_cons_succ]
                refine wpAnyH_ready (rs := [14]) (by kernel_rfl) (by simp) ?_
                refine (AllReadyH.cons (o := ⟨some 45, _, _, _, _, _⟩) rfl ?_ AllReadyH.nil)
                · intro K hK
                  go_simp
                  with_reducible refine (fill_any g (L0 : Int) v73 hS.tape (by omega) (by omega)).mono ?_
                  rintro e v74 ⟨k2, L, rfl, hk2, hL, hOL, hTn, hOn⟩
                  have HL := hid hL
                  clear hL
                  have hk5 := Nat.lt_of_lt_of_le hS.fr.lt hk2
                  have hS := hS.call hTn hOn
                  go_wp2_with fail
                  refine hK.out _ _ trivial (fun _ => ?_)
                  clear hK K hTn hOn
                  try simp only [Act.put, List.setIfInBounds_toArray, List.set_cons_zero, List.set_cons_succ]
                  refine wpAnyH_take (i := 15) (oi := ⟨some 46, _, _, _, _, _⟩) (v := ?_) rfl (by kernel_rfl) (by kernel_rfl) (by kernel_rfl) (fun _ _ _ h => h) (Or.inl ⟨by rfl, ?_⟩) trivial ?_
                  rotate_left
                  · intro w hSw; go_simp; try with_reducible rfl
                  try simp only [Act.put, List.setIfInBounds_toArray, List.set_cons_zero, List.set_cons_succ]
                  refine wpAnyH_ready (rs := [16]) (by kernel_rfl) (by simp) ?_
                  refine (AllReadyH.cons (o := ⟨none, _, _, _, _, _⟩) rfl ?_ AllReadyH.nil)
                  · intro K hK
                    have c14 := hS.fr.fr.cells.2.2.2.2.2.2.2.2.2.2.2.2.2.2.1
                    have f14 := hS.fr.frozen 14
                    go_simp
                    refine hK.out _ _ trivial (fun _ => ?_)
                    clear hK K
                    try simp only [Act.put, List.setIfInBounds_toArray, List.set_cons_zero, List.set_cons_succ]
                    have hS2 := hS.set 14 (.slice (some ⟨k2, 0, none⟩) L.length L.length) h (.slice (some ⟨k2, 0, none⟩) L.length L.length) (.slice none 0 0) rfl
                    have hOL2 := hOL.only (Only.set b5 14 _ (.slice (some ⟨k2, 0, none⟩) L.length L.length)) (by omega)
                    refine wpAnyH_done (by kernel_rfl) ?_ _
                    generalize World.setCell _ _ _ = wq at hS2 hOL2 ⊢
                    have hF := hS2.fr.fr
                    have hK := hS2.res
                    go_wp2_with (first | ((with_reducible refine wpList_load_frame (op := ⟨some 47, _, _, _, _, _⟩) ?_ (.tmp 3) ?_ ?_ hF ?_); (· exact rfl); (· exact rfl); (· exact rfl)) | ((with_reducible refine wpList_store_frame (op := ⟨none, _, _, _, _, _⟩) ?_ (.tmp 2) (.tmp 47) ?_ ?_ (h := h) (p := .slice (some ⟨k2, 0, none⟩) L.length L.length) (m := .slice none 0 0) ?_ hK ?_ ?_ ?_); (· exact rfl); (· exact rfl); (· exact rfl); (· exact rfl); (· exact rfl); (· exact rfl); intro wz hRz hOz))
                    exact bodyPost_ret (results_frame rfl rfl hRz.out) rfl (HFIN.out _ _ _ _ _ L [] hS2 hOz hok (HV2 _ (by rw [HL.out]; omega)) (hOL2.gr (by omega) (by rw [HL.out]; omega)) (Gr.nil _ _))
      · intro K hK
        have c14 := hS.fr.fr.cells.2.2.2.2.2.2.2.2.2.2.2.2.2.2.1
        go_simp
        refine hK.out _ _ trivial (fun _ => ?_)
        clear hK K c14
        try simp only [Act.put, List.setIfInBounds_toArray, List.set_cons_zero, List.set_cons_succ]
        refine wpAnyH_take (i := 5) (oi := ⟨some 36, _, _, _, _, _⟩) (v := .int .i64 (P.length : Int)) rfl (by kernel_rfl) (by kernel_rfl) (by kernel_rfl) (fun _ _ _ h => h) (Or.inl ⟨by rfl, ?_⟩) trivial ?_
        · intro w hSw; go_simp; try rfl
        try simp only [Act.put, List.setIfInBounds_toArray, List.set_cons_zero, List.set_cons_succ]
        refine wpAnyH_ready (rs := [1]) (by kernel_rfl) (by simp) ?_
        refine (AllReadyH.cons (o := ⟨some 32, _, _, _, _, _⟩) rfl ?_ AllReadyH.nil)
        · intro K hK
          refine step_load_frame rfl (.tmp 3) rfl rfl hS.fr.fr ?_
          refine hK.out _ _ trivial (fun _ => ?_)
          clear hK K
          try simp only [Act.put, List.setIfInBounds_toArray, List.set_cons_zero, List.set_cons_succ]
          refine wpAnyH_ready (rs := [2]) (by kernel_rfl) (by simp) ?_
          refine (AllReadyH.cons (o := ⟨some 33, _, _, _, _, _⟩) rfl ?_ AllReadyH.nil)
          · intro K hK
            go_simp
            with_reducible refine (jr v0 (hOw.isB (by omega))).mono ?_
            rintro e v75 ⟨rfl, hb⟩
            have hS := hS.below hb
            have hOw := hOw.below hb hOw.lt
            go_wp2_with fail
            refine hK.out _ _ trivial (fun _ => ?_)
            clear hK K hb
            try simp only [Act.put, List.setIfInBounds_toArray, List.set_cons_zero, List.set_cons_succ]
            refine wpAnyH_take (i := 6) (oi := ⟨some 37, _, _, _, _, _⟩) (v := .int .i64 ((R : Int) + (P.length : Int))) rfl (by kernel_rfl) (by kernel_rfl) (by kernel_rfl) (fun _ _ _ h => h) (Or.inl ⟨by rfl, ?_⟩) trivial ?_
            · intro w hSw; go_simp; try simp only [W6]
            try simp only [Act.put, List.setIfInBounds_toArray, List.set_cons_zero, List.set_cons_succ]
            refine wpAnyH_ready (rs := [8]) (by kernel_rfl) (by simp) ?_
            refine (AllReadyH.cons (o := ⟨some 39, _, _, _, _, _⟩) rfl ?_ AllReadyH.nil)
            · intro K hK
              go_simp
              with_reducible refine (next_any g 3 v75 hS.tape (by decide) (by decide)).mono ?_
              rintro e v76 ⟨x, rfl, hx, hTn, hOn⟩
              have hS := hS.call hTn hOn
              have hOw := hOw.only hOn (by omega)
              have W12x := W12 x
              obtain ⟨L0, hL0, W13x⟩ := W13 x
              go_wp2_with fail
              refine hK.out _ _ trivial (fun _ => ?_)
              clear hK K hTn hOn
              try simp only [Act.put, List.setIfInBounds_toArray, List.set_cons_zero, List.set_cons_succ]
              refine wpAnyH_ready (rs := [10]) (by kernel_rfl) (by simp) ?_
              refine (AllReadyH.cons (o := ⟨some 41, _, _, _, _, _⟩) rfl ?_ AllReadyH.nil)
              · intro K hK
                go_simp
                with_reducible refine (jr v76 (hOw.isB (by omega))).mono ?_
                rintro e v77 ⟨rfl, hb⟩
                have hS := hS.below hb
                have hOw := hOw.below hb hOw.lt
                go_wp2_with fail
                refine hK.out _ _ trivial (fun _ => ?_)
                clear hK K hb
                try simp only [Act.put, List.setIfInBounds_toArray, List.set_cons_zero, List.set_cons_succ]
                refine wpAnyH_take (i := 11) (oi := ⟨some 42, _, _, _, _, _⟩) (v := .int .i64 (1 + (R : Int))) rfl (by kernel_rfl) (by kernel_rfl) (by kernel_rfl) (fun _ _ _ h => h) (Or.inl ⟨by rfl, ?_⟩) trivial ?_
                · intro w hSw; go_simp; try simp only [W11]
                try simp only [Act.put, List.setIfInBounds_toArray, List.set_cons_zero, List.set_cons_succ]
                refine wpAnyH_take (i := 12) (oi := ⟨some 43, _, _, _, _, _⟩) (v := .int .i64 ((x : Int) % (1 + (R : Int)))) rfl (by kernel_rfl) (by kernel_rfl) (by kernel_rfl) (fun _ _ _ h => h) (Or.inl ⟨by rfl, ?_⟩) trivial ?_
                · intro w hSw; go_simp; try simp only [hR0, if_false, W12x]
                try simp only [Act.put, List.setIfInBounds_toArray, List.set_cons_zero, List.set_cons_succ]
                refine wpAnyH_take (i := 13) (oi := ⟨some 44, _, _, _, _, _⟩) (v := .int .i64 (L0 : Int)) rfl (by kernel_rfl) (by kernel_rfl) (by kernel_rfl) (fun _ _ _ h => h) (Or.inl ⟨by rfl, ?_⟩) trivial ?_
                · intro w hSw; go_simp; try simp only [W13x]
                try simp only [Act.put, List.setIfInBounds_toArray, List.set_cons_zero, List.set_cons_succ]
                refine wpAnyH_ready (rs := [14]) (by kernel_rfl) (by simp) ?_
                refine (AllReadyH.cons (o := ⟨some 45, _, _, _, _, _⟩) rfl ?_ AllReadyH.nil)
                · intro K hK
                  go_simp
                  with_reducible refine (fill_any g (L0 : Int) v77 hS.tape (by omega) (by omega)).mono ?_
                  rintro e v78 ⟨k2, L, rfl, hk2, hL, hOL, hTn, hOn⟩
                  have HL := hid hL
                  clear hL
                  have hk5 := Nat.lt_of_lt_of_le hS.fr.lt hk2
                  have hS := hS.call hTn hOn
                  go_wp2_with fail
                  refine hK.out _ _ trivial (fun _ => ?_)
                  clear hK K hTn hOn
                  try simp only [Act.put, List.setIfInBounds_toArray, List.set_cons_zero, List.set_cons_succ]
                  refine wpAnyH_take (i := 15) (oi := ⟨some 46, _, _, _, _, _⟩) (v := ?_) rfl (by kernel_rfl) (by kernel_rfl) (by kernel_rfl) (fun _ _ _ h => h) (Or.inl ⟨by rfl, ?_⟩) trivial ?_
                  rotate_left
                  · intro w hSw; go_simp; try with_reducible rfl
                  try simp only [Act.put, List.setIfInBounds_toArray, List.set_cons_zero, List.set_cons_succ]
                  refine wpAnyH_ready (rs := [16]) (by kernel_rfl) (by simp) ?_
                  refine (AllReadyH.cons (o := ⟨none, _, _, _, _, _⟩) rfl ?_ AllReadyH.nil)
                  · intro K hK
                    have c14 := hS.fr.fr.cells.2.2.2.2.2.2.2.2.2.2.2.2.2.2.1
                    have f14 := hS.fr.frozen 14
                    go_simp
                    refine hK.out _ _ trivial (fun _ => ?_)
                    clear hK K
                    try simp only [Act.put, List.setIfInBounds_toArray, List.set_cons_zero, List.set_cons_succ]
                    have hS2 := hS.set 14 (.slice (some ⟨k2, 0, none⟩) L.length L.length) h (.slice (some ⟨k2, 0, none⟩) L.length L.length) (.slice none 0 0) rfl
                    have hOL2 := hOL.only (Only.set b5 14 _ (.slice (some ⟨k2, 0, none⟩) L.length L.length)) (by omega)
                    refine wpAnyH_done (by kernel_rfl) ?_ _
                    generalize World.setCell _ _ _ = wq at hS2 hOL2 ⊢
                    have hF := hS2.fr.fr
                    have hK := hS2.res
                    go_wp2_with (first | ((with_reducible refine wpList_load_frame (op := ⟨some 47, _, _, _, _, _⟩) ?_ (.tmp 3) ?_ ?_ hF ?_); (· exact rfl); (· exact rfl); (· exact rfl)) | ((with_reducible refine wpList_store_frame (op := ⟨none, _, _, _, _, _⟩) ?_ (.tmp 2) (.tmp 47) ?_ ?_ (h := h) (p := .slice (some ⟨k2, 0, none⟩) L.length L.length) (m := .slice none 0 0) ?_ hK ?_ ?_ ?_); (· exact rfl); (· exact rfl); (· exact rfl); (· exact rfl); (· exact rfl); (· exact rfl); intro wz hRz hOz))
                    exact bodyPost_ret (results_frame rfl rfl hRz.out) rfl (HFIN.out _ _ _ _ _ L [] hS2 hOz hok (HV2 _ (by rw [HL.out]; omega)) (hOL2.gr (by omega) (by rw [HL.out]; omega)) (Gr.nil _ _))
  · have hF := hS.fr.fr
    have hK := hS.res
    go_wp2_with (first | ((with_reducible refine wpList_load_frame (op := ⟨some 47, _, _, _, _, _⟩) ?_ (.tmp 3) ?_ ?_ hF ?_); (· exact rfl); (· exact rfl); (· exact rfl)) | ((with_reducible refine wpList_store_frame (op := ⟨none, _, _, _, _, _⟩) ?_ (.tmp 2) (.tmp 47) ?_ ?_ (h := h) (p := .slice (some ⟨k, 0, none⟩) P.length P.length) (m := .slice none 0 0) ?_ hK ?_ ?_ ?_); (· exact rfl); (· exact rfl); (· exact rfl); (· exact rfl); (· exact rfl); (· exact rfl); intro wz hRz hOz))
    exact bodyPost_ret (results_frame rfl rfl hRz.out) rfl (HFIN.out _ _ _ _ _ P [] hS hOz hok hv0 (hOw.gr (by omega) (by omega)) (Gr.nil _ _))
end Go.Proofs.Ytmbiophckeiehaa
