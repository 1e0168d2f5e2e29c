/-
  The reference's parse of a frame's bytes.
-/
import Derived.Test.YtmbiophckeiehaaRefRead
import Derived.Test.YtmbiophckeiehaaDec
import Derived.Test.YtmbiophckeiehaaAf
import Derived.BigRegion
import Derived.Deep.DeepCutAuto
namespace Go.Proofs.Ytmbiophckeiehaa
open Go.RowKit
set_option linter.unusedSimpArgs false
set_option linter.unusedVariables false

theorem and_flag8 (f : Nat) (hf : f < 256) : (bits .and .u8 (f : Int) 32 != 0) = decide (f / 32 % 2 = 1) ∧ (bits .and .u8 (f : Int) 16 != 0) = decide (f / 16 % 2 = 1) ∧ (bits .and .u8 (f : Int) 8 != 0) = decide (f / 8 % 2 = 1) := by
  have h : ∀ f : Fin 256, (bits .and .u8 (f.val : Int) 32 != 0) = decide (f.val / 32 % 2 = 1) ∧ (bits .and .u8 (f.val : Int) 16 != 0) = decide (f.val / 16 % 2 = 1) ∧ (bits .and .u8 (f.val : Int) 8 != 0) = decide (f.val / 8 % 2 = 1) := by decide +kernel
  exact h ⟨f, hf⟩
theorem refUint_at (a : Option Addr) (len cap : Nat) (l : List UInt8) (i n : Nat) (z y : Int) (w : World) (hz : z = i) (hy : y = n) (hb : IsB w a len cap l) (h1 : 1 ≤ n) (h8 : n ≤ 8) (hi : i ≤ 1099511627776) :
    Calls Try.prog 70 #[.slice a len cap, .int .i64 z, .int .i64 y] w (Ret (.tuple #[.int .u64 (numV (l.drop i) n), .bool (numOk (l.drop i) n)]) w) := by
  subst hz hy
  exact refUint_any a len cap l i n w hb h1 h8 hi
theorem rread_at (a : Option Addr) (len cap : Nat) (l : List UInt8) (i m : Nat) (z y : Int) (w : World) (hz : z = i) (hy : y = m) (hb : IsB w a len cap l) (hi : i ≤ 109951162777) (hm : m < 4) :
    Calls Try.prog 71 #[.slice a len cap, .int .i64 z, .int .i64 y] w (RetRA l i m w) := by
  subst hz hy
  exact rread_any a len cap l i m w hb hi hm

theorem step_store_frameK {ops : Array Oper} {o : Oper} {a : Act} {w : World} {K : Act → World → Prop} {Q : Exit → Act → World → Prop} {E : Prop} {g : Nat} {h0 h : Hd} {p0 m0 p m : Value} (hgd : o.guard = none) (x y : Operand) (ho : o.op = .store 31 x y)
    (hx : a.eval x = .pointer (some ⟨g, 0, none⟩)) (hy : a.eval y = fv h p m) (hK : Fk w g h0 p0 m0) (hp : OneC p) (hm : OneC m)
    (hh : ∀ w', Hid (Fk w' g h p m) → Only g w w' → K (a.put o.dst undef) w') :
    if Region.wanted o (yielded ops a.tmps) = true then Oper.wp Try.prog o a w K Q else E := by
  rw [if_pos (by simp [Region.wanted, hgd])]
  refine wp_store_mid 31 x y ho g 0 (fvl h p m).toArray hx hy hK.there frame_info (all_oneCell_toArray (fvl_one h p m hp hm)) ?_
  exact hh _ (hid (hK.whole h p m)) (only_cells _ _ _ _ (Only.refl g w))

theorem slice_mid_at {w : World} {a : Option Addr} {len cap : Nat} {l : List UInt8} (h : IsB w a len cap l) (i k : Nat) (z y : Int) (hz : z = (i : Int)) (hy : y = (k : Int)) (hi : i ≤ k) (hk : k ≤ len) :
    ∃ p r c, (∀ W, (Instr.slice 29 (.slice a len cap) (some (.int .i64 z)) (some (.int .i64 y)) none).run Try.prog W = .ok (.slice p r c) W) ∧ IsB w p r c ((l.drop i).take (k - i)) ∧ r ≤ len := by
  subst hz hy
  obtain ⟨p, h1, h2⟩ := slice_mid h i k hi hk
  exact ⟨p, _, _, h1, h2, by omega⟩
theorem slice_tail_at {w : World} {a : Option Addr} {len cap : Nat} {l : List UInt8} (h : IsB w a len cap l) (k : Nat) (y : Int) (hy : y = (k : Int)) (hk : k ≤ len) :
    ∃ p r c, (∀ W, (Instr.slice 29 (.slice a len cap) (some (.int .i64 y)) none none).run Try.prog W = .ok (.slice p r c) W) ∧ IsB w p r c (l.drop k) ∧ r ≤ len := by
  subst hy
  obtain ⟨p, h1, h2⟩ := slice_tail h k hk
  exact ⟨p, _, _, h1, h2, by omega⟩

/-- where parse stands: the result's block, the frame's -/
structure PS (w wi : World) (b4 : Nat) (hd : Hd) (p m : Value) : Prop where
  below : Below w.heap.size w wi
  res : Fk wi w.heap.size zH (.slice none 0 0) (.slice none 0 0)
  fr : Fk wi b4 hd p m
  lt : w.heap.size < b4
theorem PS.size {w wi : World} {b4 : Nat} {hd : Hd} {p m : Value} (h : PS w wi b4 hd p m) : b4 < wi.heap.size := h.fr.lt
theorem PS.call {w wi wj : World} {b4 : Nat} {hd : Hd} {p m : Value} (h : PS w wi b4 hd p m) (hB : Below wi.heap.size wi wj) : PS w wj b4 hd p m :=
  ⟨h.below.trans (hB.mono h.below.size), h.res.below hB h.res.lt, h.fr.below hB h.fr.lt, h.lt⟩
theorem PS.only {w wi wj : World} {b4 : Nat} {hd hd' : Hd} {p m p' m' : Value} (h : PS w wi b4 hd p m) (hO : Only b4 wi wj) (hK : Fk wj b4 hd' p' m') : PS w wj b4 hd' p' m' := by
  have h1 := h.lt
  exact ⟨h.below.trans (hO.below (by omega) h.below.size), h.res.only hO h.res.lt (by omega), hK, h1⟩
theorem PS.set {w wi : World} {b4 : Nat} {hd : Hd} {p m : Value} (h : PS w wi b4 hd p m) (j : Nat) (v : Value) (hd' : Hd) (p' m' : Value) (hs : (fvl hd p m).toArray.setIfInBounds j v = (fvl hd' p' m').toArray) : PS w (wi.setCell ⟨b4, j, none⟩ v) b4 hd' p' m' :=
  h.only (Only.set b4 j wi v) (h.fr.set j v hs)

theorem results_par {fn : Func} {t u : Tmp} (hr : fn.results = #[.cell t 31, .tmp u]) {tmps : Array Value} {w : World} {g : Nat} {h : Hd} {p m : Value} {v : Value} (hp : tmps.getD t undef = .pointer (some ⟨g, 0, none⟩)) (hq : tmps.getD u undef = v) (hR : Fr w g h p m) :
    (results fn tmps).run Try.prog w = .ok (.tuple #[fv h p m, v]) w := by
  have hload := run_loadVar_mid (P := Try.prog) w g 0 31 (fvl h p m) _ hR Try.underlying31 rfl frame_info
  unfold results
  rw [hr]
  have hp' : tmps[t]?.getD undef = .pointer (some ⟨g, 0, none⟩) := by simpa using hp
  have hq' : tmps[u]?.getD undef = v := by simpa using hq
  simp [hp', hq', asAddr, hload]
  rfl

/-- the frame that parse makes -/
def parH (T : List UInt8) : Hd :=
  ⟨(kindN T : Int), decide (firstN T / 32 % 2 = 1), decide (firstN T / 16 % 2 = 1), secB T, (seqN T : Int),
   if kindN T = 2 then 0 else (numV (T.drop 3) 2 : Int),
   if kindN T = 2 then 0 else (dmOf (modesN T) : Int), if kindN T = 2 then 0 else adS (dmOf (modesN T)) (numV (T.drop 5) (asz (dmOf (modesN T) : Nat))), if kindN T = 2 then 0 else adX (dmOf (modesN T)) (numV (T.drop 5) (asz (dmOf (modesN T) : Nat))),
   if kindN T = 2 then 0 else (smOf (modesN T) : Int), if kindN T = 2 then 0 else adS (smOf (modesN T)) (numV (T.drop (5 + asz (dmOf (modesN T) : Nat))) (asz (smOf (modesN T) : Nat))), if kindN T = 2 then 0 else adX (smOf (modesN T)) (numV (T.drop (5 + asz (dmOf (modesN T) : Nat))) (asz (smOf (modesN T) : Nat))),
   if secB T then (numV (T.drop (p7 T)) 4 : Int) else 0, if secB T then (numV (T.drop (p7 T + 4)) 1 : Int) else 0⟩
theorem par_eq (T : List UInt8) (h3 : 3 ≤ T.length) (hp : pok T = true) : readH T = parH T := by
  unfold pok at hp
  rw [Bool.and_eq_true] at hp
  obtain ⟨ha, hs⟩ := hp
  obtain ⟨_, _, e3, _⟩ := par_start T h3
  unfold readH parH
  by_cases hk : kindN T = 2
  · simp only [hk, if_true]
    cases hse : secB T
    · simp only [Bool.false_eq_true, if_false]
    · obtain ⟨q1, q2, _⟩ := par_secure T h3 ha hse hs
      simp only [if_true, q1, q2]
  · obtain ⟨e4, e5, _⟩ := par_addrs T h3 hk ha
    simp only [hk, if_false, e3, e4, e5]
    cases hse : secB T
    · simp only [Bool.false_eq_true, if_false]
    · obtain ⟨q1, q2, _⟩ := par_secure T h3 ha hse hs
      simp only [if_true, q1, q2]

/-- what parse answers -/
def RetPar (l : List UInt8) (w : World) (e : Ending) (w' : World) : Prop :=
  ∃ h p m, e = .returned (.tuple #[fv h p m, .bool (pok l)]) ∧ OneC p ∧ OneC m ∧ (pok l = true → h = readH l ∧ Gr w' w.heap.size p (readP l) ∧ Gr w' w.heap.size m (readM l)) ∧ Below w.heap.size w w'

set_option maxHeartbeats 8000000 in
set_option maxRecDepth 100000 in
theorem parse_any (a : Option Addr) (len cap : Nat) (l : List UInt8) (w : World) (hb : IsB w a len cap l) (h5 : 5 ≤ len) (hmx : len ≤ 127) :
    Calls Try.prog 56 #[.slice a len cap] w (RetPar (txt l) w) := by
  have hlen := hb.length
  have hK0 : Fk (w.alloc (.cells #[.int .i64 0, .bool false, .bool false, .bool false, .int .u8 0, .int .u16 0, .int .i64 0, .int .u16 0, .int .u64 0, .int .i64 0, .int .u16 0, .int .u64 0, .int .u32 0, .int .u8 0, .slice none 0 0, .slice none 0 0] 31)) w.heap.size zH (.slice none 0 0) (.slice none 0 0) := Fk.new w zH (.slice none 0 0) (.slice none 0 0)
  have hB := (Below.refl w.heap.size w).alloc (Nat.le_refl _) (.cells #[.int .i64 0, .bool false, .bool false, .bool false, .int .u8 0, .int .u16 0, .int .i64 0, .int .u16 0, .int .u64 0, .int .i64 0, .int .u16 0, .int .u64 0, .int .u32 0, .int .u8 0, .slice none 0 0, .slice none 0 0] 31)
  obtain ⟨k, hk⟩ : ∃ k, len = k + 2 := ⟨len - 2, by omega⟩
  subst hk
  have hT := hb.take k (by omega)
  have htx : l.take k = txt l := by unfold txt; rw [hlen]; rfl
  rw [htx] at hT
  obtain ⟨q, hq, hqI0, _⟩ := slice_head2 hb k (by omega)
  rw [htx] at hqI0
  have hqI := hqI0.below hB
  generalize txt l = T at *
  have hTl := hqI0.length
  clear htx hT
  obtain ⟨e1, e2, e3, eF, eM, eS⟩ := par_start T (by omega)
  clear e1 e2 e3
  obtain ⟨b, off, rfl, hblt, hc⟩ := hqI0.some (by omega)
  have hPE := hid (par_eq T (by omega))
  have hPS := hid (par_secure T (by omega))
  have hPO := hid (par_open T (by omega))
  have hPR := hid (par_rest T (by omega))
  obtain ⟨x0, hx0⟩ : ∃ x, x = T.getD 0 0 := ⟨_, rfl⟩
  obtain ⟨x1, hx1⟩ : ∃ x, x = T.getD 1 0 := ⟨_, rfl⟩
  obtain ⟨x2, hx2⟩ : ∃ x, x = T.getD 2 0 := ⟨_, rfl⟩
  have cc0 := hc 0 (by omega)
  have cc1 := hc 1 (by omega)
  have cc2 := hc 2 (by omega)
  rw [← hx0, Nat.add_zero] at cc0
  rw [← hx1] at cc1
  rw [← hx2] at cc2
  rw [← hx0] at eF
  rw [← hx1] at eM
  rw [← hx2] at eS
  have u0 := x0.toNat_lt
  have u1 := x1.toNat_lt
  have u2 := x2.toNat_lt
  obtain ⟨a32, a16, a8⟩ := and_flag8 x0.toNat u0
  replace a32 : (bits .and .u8 (x0.toNat : Int) 32 != 0) = decide (firstN T / 32 % 2 = 1) := by rw [eF]; exact a32
  replace a16 : (bits .and .u8 (x0.toNat : Int) 16 != 0) = decide (firstN T / 16 % 2 = 1) := by rw [eF]; exact a16
  replace a8 : (bits .and .u8 (x0.toNat : Int) 8 != 0) = secB T := by rw [a8]; unfold secB; rw [eF]
  have ws : ∀ n : Nat, n < 256 → IntKind.i64.wrap (n : Int) = (n : Int) := by
    intro n hn; simp [IntKind.wrap, IntKind.bits, IntKind.signed]; omega
  have w0 := ws x0.toNat u0
  have w1' := ws x1.toNat u1
  have hkk : IntKind.i64.wrap ((x0.toNat : Int) / 64) = (kindN T : Int) := by
    have : (x0.toNat : Int) / 64 = ((x0.toNat / 64 : Nat) : Int) := rfl
    rw [this, ws _ (by omega)]; unfold kindN; rw [eF]
  have hdd : IntKind.i64.wrap ((x1.toNat : Int) / 64) = (dmOf (modesN T) : Int) := by
    have : (x1.toNat : Int) / 64 = ((x1.toNat / 64 : Nat) : Int) := rfl
    rw [this, ws _ (by omega)]; unfold dmOf; rw [eM]; omega
  have hsm : (x1.toNat : Int) / 16 % 4 = (smOf (modesN T) : Int) := by
    unfold smOf; rw [eM]; rfl
  rw [← eS] at cc2
  clear hx0 hx1 hx2 hc eF eM eS ws
  have hwl : w.heap.size < (w.alloc (.cells #[.int .i64 0, .bool false, .bool false, .bool false, .int .u8 0, .int .u16 0, .int .i64 0, .int .u16 0, .int .u64 0, .int .i64 0, .int .u16 0, .int .u64 0, .int .u32 0, .int .u8 0, .slice none 0 0, .slice none 0 0] 31)).heap.size := by simp
  have k0 : 0 < k := by omega
  have k1 : 1 < k := by omega
  have k2 : 2 < k := by omega
  have k1i : (1 : Int) < (k : Int) := by omega
  have k2i : (2 : Int) < (k : Int) := by omega
  unfold RetPar
  go_enter Try.func56, Try.ntmps56
  go_wp2_with fail
  generalize w.alloc _ = w1 at *
  have cc0 : w1.cell? ⟨b, off, none⟩ = _ := (hB.cell (p := ⟨b, off, none⟩) hblt).trans cc0
  have cc1 : w1.cell? ⟨b, off + 1, none⟩ = _ := (hB.cell (p := ⟨b, off + 1, none⟩) hblt).trans cc1
  have cc2 : w1.cell? ⟨b, off + 2, none⟩ = _ := (hB.cell (p := ⟨b, off + 2, none⟩) hblt).trans cc2
  have hb1 := Nat.lt_of_lt_of_le hblt hB.size
  refine wp_region_held_drew (S := fun w' => Below w1.heap.size w1 w') (by kernel_rfl) (below_drewN (Below.refl _ _) 1) (fun hHeld => ?_)
  refine wpAnyH_take (i := 0) (oi := ⟨some 20, _, _, _, _, _⟩) (v := ?_) rfl (by kernel_rfl) (by kernel_rfl) (by kernel_rfl) (fun _ _ _ h => h) (Or.inl ⟨by rfl, ?_⟩) hHeld ?_
  rotate_left
  · intro w hSw; go_simp; try with_reducible rfl
  try simp only [Act.put, List.setIfInBounds_toArray, List.set_cons_zero, List.set_cons_succ]
  refine wpAnyH_take (i := 1) (oi := ⟨some 21, _, _, _, _, _⟩) (v := ?_) rfl (by kernel_rfl) (by kernel_rfl) (by kernel_rfl) (fun _ _ _ h => h) (Or.inl ⟨by rfl, ?_⟩) hHeld ?_
  rotate_left
  · intro w hSw; go_simp; try with_reducible rfl
  try simp only [Act.put, List.setIfInBounds_toArray, List.set_cons_zero, List.set_cons_succ]
  refine wpAnyH_take (i := 2) (oi := ⟨some 22, _, _, _, _, _⟩) (v := ?_) rfl (by kernel_rfl) (by kernel_rfl) (by kernel_rfl) (fun _ _ _ h => h) (Or.inl ⟨by rfl, ?_⟩) hHeld ?_
  rotate_left
  · intro w hSw; have cx := (hSw.cell (p := ⟨b, off, none⟩) hb1).trans cc0; go_simp; try with_reducible rfl
  try simp only [Act.put, List.setIfInBounds_toArray, List.set_cons_zero, List.set_cons_succ]
  refine wpAnyH_take (i := 3) (oi := ⟨some 23, _, _, _, _, _⟩) (v := ?_) rfl (by kernel_rfl) (by kernel_rfl) (by kernel_rfl) (fun _ _ _ h => h) (Or.inl ⟨by rfl, ?_⟩) hHeld ?_
  rotate_left
  · intro w hSw; go_simp; try with_reducible rfl
  try simp only [Act.put, List.setIfInBounds_toArray, List.set_cons_zero, List.set_cons_succ]
  refine wpAnyH_take (i := 4) (oi := ⟨some 24, _, _, _, _, _⟩) (v := ?_) rfl (by kernel_rfl) (by kernel_rfl) (by kernel_rfl) (fun _ _ _ h => h) (Or.inl ⟨by rfl, ?_⟩) hHeld ?_
  rotate_left
  · intro w hSw; go_simp; try with_reducible rfl
  try simp only [Act.put, List.setIfInBounds_toArray, List.set_cons_zero, List.set_cons_succ]
  refine wpAnyH_take (i := 5) (oi := ⟨some 25, _, _, _, _, _⟩) (v := ?_) rfl (by kernel_rfl) (by kernel_rfl) (by kernel_rfl) (fun _ _ _ h => h) (Or.inl ⟨by rfl, ?_⟩) hHeld ?_
  rotate_left
  · intro w hSw; go_simp; try with_reducible rfl
  try simp only [Act.put, List.setIfInBounds_toArray, List.set_cons_zero, List.set_cons_succ]
  refine wpAnyH_take (i := 6) (oi := ⟨some 26, _, _, _, _, _⟩) (v := ?_) rfl (by kernel_rfl) (by kernel_rfl) (by kernel_rfl) (fun _ _ _ h => h) (Or.inl ⟨by rfl, ?_⟩) hHeld ?_
  rotate_left
  · intro w hSw; go_simp; try with_reducible rfl
  try simp only [Act.put, List.setIfInBounds_toArray, List.set_cons_zero, List.set_cons_succ]
  refine wpAnyH_take (i := 7) (oi := ⟨some 27, _, _, _, _, _⟩) (v := ?_) rfl (by kernel_rfl) (by kernel_rfl) (by kernel_rfl) (fun _ _ _ h => h) (Or.inl ⟨by rfl, ?_⟩) hHeld ?_
  rotate_left
  · intro w hSw; have cx := (hSw.cell (p := ⟨b, off, none⟩) hb1).trans cc0; go_simp; try with_reducible rfl
  try simp only [Act.put, List.setIfInBounds_toArray, List.set_cons_zero, List.set_cons_succ]
  refine wpAnyH_take (i := 8) (oi := ⟨some 28, _, _, _, _, _⟩) (v := ?_) rfl (by kernel_rfl) (by kernel_rfl) (by kernel_rfl) (fun _ _ _ h => h) (Or.inl ⟨by rfl, ?_⟩) hHeld ?_
  rotate_left
  · intro w hSw; go_simp; try with_reducible rfl
  try simp only [Act.put, List.setIfInBounds_toArray, List.set_cons_zero, List.set_cons_succ]
  refine wpAnyH_take (i := 9) (oi := ⟨some 29, _, _, _, _, _⟩) (v := ?_) rfl (by kernel_rfl) (by kernel_rfl) (by kernel_rfl) (fun _ _ _ h => h) (Or.inl ⟨by rfl, ?_⟩) hHeld ?_
  rotate_left
  · intro w hSw; go_simp; try with_reducible rfl
  try simp only [Act.put, List.setIfInBounds_toArray, List.set_cons_zero, List.set_cons_succ]
  refine wpAnyH_take (i := 10) (oi := ⟨some 30, _, _, _, _, _⟩) (v := ?_) rfl (by kernel_rfl) (by kernel_rfl) (by kernel_rfl) (fun _ _ _ h => h) (Or.inl ⟨by rfl, ?_⟩) hHeld ?_
  rotate_left
  · intro w hSw; go_simp; try with_reducible rfl
  try simp only [Act.put, List.setIfInBounds_toArray, List.set_cons_zero, List.set_cons_succ]
  refine wpAnyH_take (i := 11) (oi := ⟨some 31, _, _, _, _, _⟩) (v := ?_) rfl (by kernel_rfl) (by kernel_rfl) (by kernel_rfl) (fun _ _ _ h => h) (Or.inl ⟨by rfl, ?_⟩) hHeld ?_
  rotate_left
  · intro w hSw; go_simp; try with_reducible rfl
  try simp only [Act.put, List.setIfInBounds_toArray, List.set_cons_zero, List.set_cons_succ]
  refine wpAnyH_take (i := 12) (oi := ⟨some 32, _, _, _, _, _⟩) (v := ?_) rfl (by kernel_rfl) (by kernel_rfl) (by kernel_rfl) (fun _ _ _ h => h) (Or.inl ⟨by rfl, ?_⟩) hHeld ?_
  rotate_left
  · intro w hSw; have cx := (hSw.cell (p := ⟨b, off, none⟩) hb1).trans cc0; go_simp; try with_reducible rfl
  try simp only [Act.put, List.setIfInBounds_toArray, List.set_cons_zero, List.set_cons_succ]
  refine wpAnyH_take (i := 13) (oi := ⟨some 33, _, _, _, _, _⟩) (v := ?_) rfl (by kernel_rfl) (by kernel_rfl) (by kernel_rfl) (fun _ _ _ h => h) (Or.inl ⟨by rfl, ?_⟩) hHeld ?_
  rotate_left
  · intro w hSw; go_simp; try with_reducible rfl
  try simp only [Act.put, List.setIfInBounds_toArray, List.set_cons_zero, List.set_cons_succ]
  refine wpAnyH_take (i := 14) (oi := ⟨some 34, _, _, _, _, _⟩) (v := ?_) rfl (by kernel_rfl) (by kernel_rfl) (by kernel_rfl) (fun _ _ _ h => h) (Or.inl ⟨by rfl, ?_⟩) hHeld ?_
  rotate_left
  · intro w hSw; go_simp; try with_reducible rfl
  try simp only [Act.put, List.setIfInBounds_toArray, List.set_cons_zero, List.set_cons_succ]
  refine wpAnyH_take (i := 15) (oi := ⟨some 35, _, _, _, _, _⟩) (v := ?_) rfl (by kernel_rfl) (by kernel_rfl) (by kernel_rfl) (fun _ _ _ h => h) (Or.inl ⟨by rfl, ?_⟩) hHeld ?_
  rotate_left
  · intro w hSw; go_simp; try with_reducible rfl
  try simp only [Act.put, List.setIfInBounds_toArray, List.set_cons_zero, List.set_cons_succ]
  refine wpAnyH_take (i := 16) (oi := ⟨some 36, _, _, _, _, _⟩) (v := ?_) rfl (by kernel_rfl) (by kernel_rfl) (by kernel_rfl) (fun _ _ _ h => h) (Or.inl ⟨by rfl, ?_⟩) hHeld ?_
  rotate_left
  · intro w hSw; go_simp; try with_reducible rfl
  try simp only [Act.put, List.setIfInBounds_toArray, List.set_cons_zero, List.set_cons_succ]
  refine wpAnyH_take (i := 17) (oi := ⟨some 37, _, _, _, _, _⟩) (v := ?_) rfl (by kernel_rfl) (by kernel_rfl) (by kernel_rfl) (fun _ _ _ h => h) (Or.inl ⟨by rfl, ?_⟩) hHeld ?_
  rotate_left
  · intro w hSw; have cx := (hSw.cell (p := ⟨b, off, none⟩) hb1).trans cc0; go_simp; try with_reducible rfl
  try simp only [Act.put, List.setIfInBounds_toArray, List.set_cons_zero, List.set_cons_succ]
  refine wpAnyH_take (i := 18) (oi := ⟨some 38, _, _, _, _, _⟩) (v := ?_) rfl (by kernel_rfl) (by kernel_rfl) (by kernel_rfl) (fun _ _ _ h => h) (Or.inl ⟨by rfl, ?_⟩) hHeld ?_
  rotate_left
  · intro w hSw; go_simp; try with_reducible rfl
  try simp only [Act.put, List.setIfInBounds_toArray, List.set_cons_zero, List.set_cons_succ]
  refine wpAnyH_take (i := 19) (oi := ⟨some 39, _, _, _, _, _⟩) (v := ?_) rfl (by kernel_rfl) (by kernel_rfl) (by kernel_rfl) (fun _ _ _ h => h) (Or.inl ⟨by rfl, ?_⟩) hHeld ?_
  rotate_left
  · intro w hSw; go_simp; try with_reducible rfl
  try simp only [Act.put, List.setIfInBounds_toArray, List.set_cons_zero, List.set_cons_succ]
  refine wpAnyH_take (i := 20) (oi := ⟨some 40, _, _, _, _, _⟩) (v := ?_) rfl (by kernel_rfl) (by kernel_rfl) (by kernel_rfl) (fun _ _ _ h => h) (Or.inl ⟨by rfl, ?_⟩) hHeld ?_
  rotate_left
  · intro w hSw; go_simp; try with_reducible rfl
  try simp only [Act.put, List.setIfInBounds_toArray, List.set_cons_zero, List.set_cons_succ]
  refine wpAnyH_take (i := 21) (oi := ⟨some 41, _, _, _, _, _⟩) (v := ?_) rfl (by kernel_rfl) (by kernel_rfl) (by kernel_rfl) (fun _ _ _ h => h) (Or.inl ⟨by rfl, ?_⟩) hHeld ?_
  rotate_left
  · intro w hSw; go_simp; try with_reducible rfl
  try simp only [Act.put, List.setIfInBounds_toArray, List.set_cons_zero, List.set_cons_succ]
  refine wpAnyH_take (i := 22) (oi := ⟨some 42, _, _, _, _, _⟩) (v := ?_) rfl (by kernel_rfl) (by kernel_rfl) (by kernel_rfl) (fun _ _ _ h => h) (Or.inl ⟨by rfl, ?_⟩) hHeld ?_
  rotate_left
  · intro w hSw; have cx := (hSw.cell (p := ⟨b, off + 2, none⟩) hb1).trans cc2; go_simp; try with_reducible rfl
  try simp only [Act.put, List.setIfInBounds_toArray, List.set_cons_zero, List.set_cons_succ]
  refine wpAnyH_take (i := 23) (oi := ⟨some 43, _, _, _, _, _⟩) (v := ?_) rfl (by kernel_rfl) (by kernel_rfl) (by kernel_rfl) (fun _ _ _ h => h) (Or.inl ⟨by rfl, ?_⟩) hHeld ?_
  rotate_left
  · intro w hSw; go_simp; try with_reducible rfl
  try simp only [Act.put, List.setIfInBounds_toArray, List.set_cons_zero, List.set_cons_succ]
  refine wpAnyH_ready (rs := [24]) (by kernel_rfl) (by simp) ?_
  refine AllReadyH.cons (o := ⟨some 4, _, _, _, _, _⟩) rfl (fun K hK => ?_) AllReadyH.nil
  go_simp
  have hdr := below_drewN (Below.refl w1.heap.size w1) 1
  have hx4 := (Below.refl w1.heap.size (w1.drewN 1)).alloc (Nat.le_refl _) (.cells #[.int .i64 0, .bool false, .bool false, .bool false, .int .u8 0, .int .u16 0, .int .i64 0, .int .u16 0, .int .u64 0, .int .i64 0, .int .u16 0, .int .u64 0, .int .u32 0, .int .u8 0, .slice none 0 0, .slice none 0 0] 31)
  have hK4 : Fk ((w1.drewN 1).alloc (.cells #[.int .i64 0, .bool false, .bool false, .bool false, .int .u8 0, .int .u16 0, .int .i64 0, .int .u16 0, .int .u64 0, .int .i64 0, .int .u16 0, .int .u64 0, .int .u32 0, .int .u8 0, .slice none 0 0, .slice none 0 0] 31)) w1.heap.size zH (.slice none 0 0) (.slice none 0 0) := Fk.new (w1.drewN 1) zH (.slice none 0 0) (.slice none 0 0)
  have hB4 := hdr.trans hx4
  clear hHeld
  refine hK.out _ _ (hB4) (fun hHeld => ?_)
  clear hK K
  try simp only [Act.put, List.setIfInBounds_toArray, List.set_cons_zero, List.set_cons_succ]
  refine wpAnyH_ready (rs := [25]) (by kernel_rfl) (by simp) ?_
  refine AllReadyH.cons (o := ⟨none, _, _, _, _, _⟩) rfl (fun K hK => ?_) AllReadyH.nil
  refine step_store_frameK rfl (.tmp 4) (.tmp 43) rfl rfl (h := ⟨(kindN T : Int), decide (firstN T / 32 % 2 = 1), decide (firstN T / 16 % 2 = 1), secB T, (seqN T : Int), 0, 0, 0, 0, 0, 0, 0, 0, 0⟩) (p := .slice none 0 0) (m := .slice none 0 0) rfl hK4 rfl rfl ?_
  intro w5 hK5 hO5
  have hB5 := hB4.trans (hO5.below (Nat.le_refl _) hB4.size)
  clear hHeld
  refine hK.out _ _ (hB5) (fun hHeld => ?_)
  clear hK K
  try simp only [Act.put, List.setIfInBounds_toArray, List.set_cons_zero, List.set_cons_succ]
  refine wpAnyH_done (by kernel_rfl) ?_ _
  have hK5 := hK5.out
  have hS : PS w w5 w1.heap.size ⟨(kindN T : Int), decide (firstN T / 32 % 2 = 1), decide (firstN T / 16 % 2 = 1), secB T, (seqN T : Int), 0, 0, 0, 0, 0, 0, 0, 0, 0⟩ (.slice none 0 0) (.slice none 0 0) := ⟨hB.trans (hB5.mono hB.size), hK0.below hB5 hK0.lt, hK5, by omega⟩
  generalize hb4d : w1.heap.size = b4 at hS ⊢
  have hb4 := hS.lt
  clear hb4d hK5 hK4 hB5 hB4 hHeld hO5 hdr hx4 cc0 cc1 cc2 hK0 hb1 a32 a16 a8 hkk w0 hqI
  clear hwl hB
  have HH : Hid (parH T = ⟨(kindN T : Int), decide (firstN T / 32 % 2 = 1), decide (firstN T / 16 % 2 = 1), secB T, (seqN T : Int),
   if kindN T = 2 then 0 else (numV (T.drop 3) 2 : Int),
   if kindN T = 2 then 0 else (dmOf (modesN T) : Int), if kindN T = 2 then 0 else adS (dmOf (modesN T)) (numV (T.drop 5) (asz (dmOf (modesN T) : Nat))), if kindN T = 2 then 0 else adX (dmOf (modesN T)) (numV (T.drop 5) (asz (dmOf (modesN T) : Nat))),
   if kindN T = 2 then 0 else (smOf (modesN T) : Int), if kindN T = 2 then 0 else adS (smOf (modesN T)) (numV (T.drop (5 + asz (dmOf (modesN T) : Nat))) (asz (smOf (modesN T) : Nat))), if kindN T = 2 then 0 else adX (smOf (modesN T)) (numV (T.drop (5 + asz (dmOf (modesN T) : Nat))) (asz (smOf (modesN T) : Nat))),
   if secB T then (numV (T.drop (p7 T)) 4 : Int) else 0, if secB T then (numV (T.drop (p7 T + 4)) 1 : Int) else 0⟩) := hid rfl
  have HPK : Hid (pok T = (aok T && sok T)) := hid rfl
  have HA : Hid (aok T = (decide (kindN T = 2) || (numOk (T.drop 3) 2 && okA T 5 (dmOf (modesN T)) && okA T (5 + asz (dmOf (modesN T) : Nat)) (smOf (modesN T))))) := hid rfl
  have HSO : Hid (sok T = (!secB T || (numOk (T.drop (p7 T)) 4 && numOk (T.drop (p7 T + 4)) 1 && decide (p7 T + 9 ≤ T.length)))) := hid rfl
  have HP7 : p7 T = if kindN T = 2 then 3 else 5 + asz (dmOf (modesN T) : Nat) + asz (smOf (modesN T) : Nat) := rfl
  have dl := dm_lt (modesN T)
  have sl := sm_lt (modesN T)
  have ad8 := asz_le (dmOf (modesN T) : Nat)
  have as8 := asz_le (smOf (modesN T) : Nat)
  have m5 := fun w' h => refUint_any (some ⟨b, off, none⟩) k cap T 3 2 w' h (by omega) (by omega) (by omega)
  have m6 := fun w' h => rread_any (some ⟨b, off, none⟩) k cap T 5 (dmOf (modesN T)) w' h (by omega) dl
  have m7 := fun w' h => rread_any (some ⟨b, off, none⟩) k cap T (5 + asz (dmOf (modesN T) : Nat)) (smOf (modesN T)) w' h (by omega) sl
  have p7le : p7 T ≤ 21 := by rw [HP7]; split <;> omega
  have m8 := fun z w' (hz : z = ((p7 T : Nat) : Int)) h => refUint_at (some ⟨b, off, none⟩) k cap T (p7 T) 4 z 4 w' hz rfl h (by omega) (by omega) (by omega)
  have m9 := fun z w' (hz : z = ((p7 T + 4 : Nat) : Int)) h => refUint_at (some ⟨b, off, none⟩) k cap T (p7 T + 4) 1 z 1 w' hz rfl h (by omega) (by omega) (by omega)
  unfold RetRA rdA at m6 m7
  have g5 : numV (T.drop 3) 2 < 65536 := numV_lt _ 2
  have g7 : numV (T.drop (p7 T)) 4 < 4294967296 := numV_lt _ 4
  have g8 : numV (T.drop (p7 T + 4)) 1 < 256 := numV_lt _ 1
  have e5 := numV_u64 (T.drop 5) (asz (dmOf (modesN T) : Nat))
  generalize secB T = SE at *
  generalize seqN T = sq at *
  generalize decide (firstN T / 32 % 2 = 1) = AR at *
  generalize decide (firstN T / 16 % 2 = 1) = PE at *
  generalize numV (T.drop 5) (asz (dmOf (modesN T) : Nat)) = y1 at *
  generalize numV (T.drop (5 + asz (dmOf (modesN T) : Nat))) (asz (smOf (modesN T) : Nat)) = y2 at *
  generalize okA T 5 (dmOf (modesN T)) = o2 at *
  generalize okA T (5 + asz (dmOf (modesN T) : Nat)) (smOf (modesN T)) = o3 at *
  generalize asz ((dmOf (modesN T) : Nat) : Int) = zd at *
  generalize asz ((smOf (modesN T) : Nat) : Int) = zs at *
  generalize dmOf (modesN T) = d at *
  generalize smOf (modesN T) = s at *
  generalize kindN T = kk at *
  generalize numV (T.drop 3) 2 = pn at *
  generalize numOk (T.drop 3) 2 = o1 at *
  generalize numV (T.drop (p7 T)) 4 = ct at *
  generalize numOk (T.drop (p7 T)) 4 = o4 at *
  generalize numV (T.drop (p7 T + 4)) 1 = ky at *
  generalize numOk (T.drop (p7 T + 4)) 1 = o5 at *
  generalize p7 T = P7 at *
  have w5' : IntKind.u16.wrap (pn : Int) = (pn : Int) := by simp [IntKind.wrap, IntKind.bits, IntKind.signed]; omega
  have w7' : IntKind.u32.wrap (ct : Int) = (ct : Int) := by simp [IntKind.wrap, IntKind.bits, IntKind.signed]; omega
  have w8' : IntKind.u8.wrap (ky : Int) = (ky : Int) := by simp [IntKind.wrap, IntKind.bits, IntKind.signed]; omega
  have op1 : OneC (.slice none 0 0) := rfl
  have hPSF : Hid (aok T = true → SE = true → sok T = true → readP T = (T.drop (P7 + 5)).take (T.length - 4 - (P7 + 5)) ∧ readM T = T.drop (T.length - 4)) := hid (fun h1 h2 h3 => ⟨(hPS.out h1 h2 h3).2.2.1, (hPS.out h1 h2 h3).2.2.2.1⟩)
  have hPOF : Hid (aok T = true → SE = false → readP T = T.drop P7 ∧ readM T = []) := hPO
  clear hPS hPO
  by_cases hk : kk = 2
  · rw [if_pos hk] at HP7
    have ha : aok T = true := by rw [HA.out, hk]; rfl
    have hk2 : ((kk : Int) != 2) = false := by simp; omega
    have c0 := hS.fr.fr.cells.1
    dsimp only at c0
    cases SE
    · have c3 := hS.fr.fr.cells.2.2.2.1
      dsimp only at c3
      obtain ⟨hq1, hq2⟩ := hPOF.out ha (by first | rfl | trivial)
      rw [HP7] at hq1
      have h9 : 3 ≤ k := by omega
      obtain ⟨sp, rp, kp, hsp, hIp0, hrp⟩ := slice_mid_at hqI0 3 k (3) ((k : Int)) (by omega) (by omega) (by omega) (by omega)
      obtain ⟨sm, rm, km, hsm, hIm0, hrm⟩ := slice_tail_at hqI0 k ((k : Int)) (by omega) (by omega)
      obtain ⟨Lp, hLp⟩ : ∃ L, L = (T.drop 3).take (k - 3) := ⟨_, rfl⟩
      obtain ⟨Lm, hLm⟩ : ∃ L, L = T.drop k := ⟨_, rfl⟩
      rw [← hLp] at hIp0
      rw [← hLm] at hIm0
      replace hLp := hid hLp
      replace hLm := hid hLm
      go_upto_region 21 with (fail)
      have hnp : Below w5.heap.size w5 (w5.alloc (.cells #[] 5)) := (Below.refl _ _).alloc (Nat.le_refl _) _
      have hIp := hIp0.below (hS.below.trans (hnp.mono hS.below.size))
      go_upto_region 22 with ((with_reducible refine wpList_append_bytes (o := ⟨some 141, _, _, _, _, _⟩) rfl (.tmp 136) (.tmp 140) rfl (.slice (some ⟨w5.heap.size, 0, none⟩) 0 0) rfl sp rp kp rfl w5.heap.size [] Lp (gr_new w5 _ (Nat.le_refl _)) hIp (by simp; omega) w5 hnp (by simp) ?_); intro vp w6 hGp hBp hNp; replace hGp : Hid (Gr w6 w5.heap.size vp Lp) := hid hGp.out; obtain ⟨ap, cp, rfl⟩ := hGp.out.form; have hSp := hS.call hBp; have c14 := hSp.fr.fr.cells.2.2.2.2.2.2.2.2.2.2.2.2.2.2.1; have f14 := hSp.fr.frozen 14)
      have hGp : Gr _ w5.heap.size _ Lp := ownsRow_setCell_below (a := ⟨b4, 14, none⟩) hGp.out hS.size (.slice ap Lp.length cp)
      have hSn := hSp.set 14 (.slice ap Lp.length cp) ⟨(kk : Int), AR, PE, false, (sq : Int), 0, 0, 0, 0, 0, 0, 0, 0, 0⟩ (.slice ap Lp.length cp) (.slice none 0 0) rfl
      have hGp := hGp.mono (C := b4 + 1) hS.size
      clear hS hSp c14 f14 hnp hIp hIp0 hBp hNp
      have hS := hSn
      clear hSn
      generalize World.setCell _ _ _ = w7 at hS hGp ⊢
      have hnm : Below w7.heap.size w7 (w7.alloc (.cells #[] 5)) := (Below.refl _ _).alloc (Nat.le_refl _) _
      have hIm := hIm0.below (hS.below.trans (hnm.mono hS.below.size))
      go_upto_region 23 with ((with_reducible refine wpList_append_bytes (o := ⟨some 147, _, _, _, _, _⟩) rfl (.tmp 143) (.tmp 146) rfl (.slice (some ⟨w7.heap.size, 0, none⟩) 0 0) rfl sm rm km rfl w7.heap.size [] Lm (gr_new w7 _ (Nat.le_refl _)) hIm (by simp; omega) w7 hnm (by simp) ?_); intro vm w8 hGm hBm hNm; replace hGm : Hid (Gr w8 w7.heap.size vm Lm) := hid hGm.out; obtain ⟨am, cm, rfl⟩ := hGm.out.form; have hSm := hS.call hBm; have c15 := hSm.fr.fr.cells.2.2.2.2.2.2.2.2.2.2.2.2.2.2.2; have f15 := hSm.fr.frozen 15)
      have hGp := (hGp.below hBm)
      have hGp : Gr _ (b4 + 1) _ Lp := ownsRow_setCell_below (a := ⟨b4, 15, none⟩) hGp (Nat.lt_succ_self b4) (.slice am Lm.length cm)
      have hGm : Gr _ w7.heap.size _ Lm := ownsRow_setCell_below (a := ⟨b4, 15, none⟩) hGm.out hS.size (.slice am Lm.length cm)
      have hGm := hGm.mono (C := b4 + 1) hS.size
      have hSn := hSm.set 15 (.slice am Lm.length cm) ⟨(kk : Int), AR, PE, false, (sq : Int), 0, 0, 0, 0, 0, 0, 0, 0, 0⟩ (.slice ap Lp.length cp) (.slice am Lm.length cm) rfl
      clear hS hSm c15 f15 hnm hIm hIm0 hBm hNm
      have hS := hSn
      clear hSn
      generalize World.setCell _ _ _ = w9 at hS hGp hGm ⊢
      have hF := hS.fr.fr
      have hR0 := hS.res
      go_wp2_with (first | ((with_reducible refine wpList_load_frame (op := ⟨some 149, _, _, _, _, _⟩) ?_ (.tmp 4) ?_ ?_ hF ?_); (· exact rfl); (· exact rfl); (· exact rfl)) | ((with_reducible refine wpList_store_frame (op := ⟨none, _, _, _, _, _⟩) ?_ (.tmp 2) (.tmp 149) ?_ ?_ (h := ⟨(kk : Int), AR, PE, false, (sq : Int), 0, 0, 0, 0, 0, 0, 0, 0, 0⟩) (p := (.slice ap Lp.length cp)) (m := (.slice am Lm.length cm)) ?_ hR0 ?_ ?_ ?_); (· exact rfl); (· exact rfl); (· exact rfl); (· exact rfl); (· exact rfl); (· exact rfl); intro wz hRz hOz))
      have hpt : pok T = true := by rw [HPK.out, ha, HSO.out]; rfl
      refine bodyPost_ret (results_par (v := .bool true) rfl rfl rfl hRz.out) rfl ⟨⟨(kk : Int), AR, PE, false, (sq : Int), 0, 0, 0, 0, 0, 0, 0, 0, 0⟩, .slice ap Lp.length cp, .slice am Lm.length cm, by rw [hpt], oneC_slice _ _ _, oneC_slice _ _ _, fun _ => ⟨?_, ?_, ?_⟩, hS.below.trans (hOz.below (Nat.le_refl _) hS.below.size)⟩
      · rw [hPE.out hpt, HH.out]; simp only [hk, if_true, if_false, Bool.false_eq_true, reduceCtorEq]
      · have := (Gr.only hGp hOz (by omega)).mono (C := w.heap.size) (by omega)
        refine Eq.mp ?_ this
        congr 1
        rw [hLp.out]
        try rw [hq1]
        first | exact List.take_of_length_le (by rw [List.length_drop]; omega) | rw [hTl] | rfl
      · have := (Gr.only hGm hOz (by omega)).mono (C := w.heap.size) (by omega)
        refine Eq.mp ?_ this
        congr 1
        rw [hLm.out]
        try rw [hq2]
        first | exact List.drop_of_length_le (by omega) | rw [hTl] | rfl
    · have c3 := hS.fr.fr.cells.2.2.2.1
      dsimp only at c3
      go_wp2_with fail
      clear c3
      with_reducible refine (m8 3 _ (by omega) (hqI0.below hS.below)).mono ?_
      rintro e w' ⟨rfl, rfl⟩
      go_wp2_with fail
      with_reducible refine (m9 (7) _ (by omega) (hqI0.below hS.below)).mono ?_
      rintro e w' ⟨rfl, rfl⟩
      cases o4
      · have hpf : pok T = false := by rw [HPK.out, ha, HSO.out]; first | rfl | (simp; omega)
        have hF := hS.fr.fr
        have hR0 := hS.res
        go_wp2_with (first | ((with_reducible refine wpList_load_frame (op := ⟨some 125, _, _, _, _, _⟩) ?_ (.tmp 4) ?_ ?_ hF ?_); (· exact rfl); (· exact rfl); (· exact rfl)) | ((with_reducible refine wpList_store_frame (op := ⟨none, _, _, _, _, _⟩) ?_ (.tmp 2) (.tmp 125) ?_ ?_ (h := ⟨(kk : Int), AR, PE, true, (sq : Int), 0, 0, 0, 0, 0, 0, 0, 0, 0⟩) (p := .slice none 0 0) (m := .slice none 0 0) ?_ hR0 ?_ ?_ ?_); (· exact rfl); (· exact rfl); (· exact rfl); (· exact rfl); (· exact rfl); (· exact rfl); intro wz hRz hOz))
        refine bodyPost_ret (results_par (v := .bool false) rfl rfl rfl hRz.out) rfl ?_
        first | exact ⟨⟨(kk : Int), AR, PE, true, (sq : Int), 0, 0, 0, 0, 0, 0, 0, 0, 0⟩, .slice none 0 0, .slice none 0 0, rfl, op1, op1, hS.below.trans (hOz.below (Nat.le_refl _) hS.below.size)⟩ | exact ⟨⟨(kk : Int), AR, PE, true, (sq : Int), 0, 0, 0, 0, 0, 0, 0, 0, 0⟩, .slice none 0 0, .slice none 0 0, by rw [hpf], op1, op1, fun h => absurd h (by rw [hpf]; decide), hS.below.trans (hOz.below (Nat.le_refl _) hS.below.size)⟩
      cases o5
      · have hpf : pok T = false := by rw [HPK.out, ha, HSO.out]; first | rfl | (simp; omega)
        have hF := hS.fr.fr
        have hR0 := hS.res
        go_wp2_with (first | ((with_reducible refine wpList_load_frame (op := ⟨some 125, _, _, _, _, _⟩) ?_ (.tmp 4) ?_ ?_ hF ?_); (· exact rfl); (· exact rfl); (· exact rfl)) | ((with_reducible refine wpList_store_frame (op := ⟨none, _, _, _, _, _⟩) ?_ (.tmp 2) (.tmp 125) ?_ ?_ (h := ⟨(kk : Int), AR, PE, true, (sq : Int), 0, 0, 0, 0, 0, 0, 0, 0, 0⟩) (p := .slice none 0 0) (m := .slice none 0 0) ?_ hR0 ?_ ?_ ?_); (· exact rfl); (· exact rfl); (· exact rfl); (· exact rfl); (· exact rfl); (· exact rfl); intro wz hRz hOz))
        refine bodyPost_ret (results_par (v := .bool false) rfl rfl rfl hRz.out) rfl ?_
        first | exact ⟨⟨(kk : Int), AR, PE, true, (sq : Int), 0, 0, 0, 0, 0, 0, 0, 0, 0⟩, .slice none 0 0, .slice none 0 0, rfl, op1, op1, hS.below.trans (hOz.below (Nat.le_refl _) hS.below.size)⟩ | exact ⟨⟨(kk : Int), AR, PE, true, (sq : Int), 0, 0, 0, 0, 0, 0, 0, 0, 0⟩, .slice none 0 0, .slice none 0 0, by rw [hpf], op1, op1, fun h => absurd h (by rw [hpf]; decide), hS.below.trans (hOz.below (Nat.le_refl _) hS.below.size)⟩
      by_cases h9 : 3 + 9 ≤ k
      rotate_left
      · have hlt : (k : Int) - 4 < 3 + 5 := by omega
        have hpf : pok T = false := by rw [HPK.out, ha, HSO.out]; first | rfl | (simp; omega)
        have hF := hS.fr.fr
        have hR0 := hS.res
        go_wp2_with (first | ((with_reducible refine wpList_load_frame (op := ⟨some 125, _, _, _, _, _⟩) ?_ (.tmp 4) ?_ ?_ hF ?_); (· exact rfl); (· exact rfl); (· exact rfl)) | ((with_reducible refine wpList_store_frame (op := ⟨none, _, _, _, _, _⟩) ?_ (.tmp 2) (.tmp 125) ?_ ?_ (h := ⟨(kk : Int), AR, PE, true, (sq : Int), 0, 0, 0, 0, 0, 0, 0, 0, 0⟩) (p := .slice none 0 0) (m := .slice none 0 0) ?_ hR0 ?_ ?_ ?_); (· exact rfl); (· exact rfl); (· exact rfl); (· exact rfl); (· exact rfl); (· exact rfl); intro wz hRz hOz))
        refine bodyPost_ret (results_par (v := .bool false) rfl rfl rfl hRz.out) rfl ?_
        first | exact ⟨⟨(kk : Int), AR, PE, true, (sq : Int), 0, 0, 0, 0, 0, 0, 0, 0, 0⟩, .slice none 0 0, .slice none 0 0, rfl, op1, op1, hS.below.trans (hOz.below (Nat.le_refl _) hS.below.size)⟩ | exact ⟨⟨(kk : Int), AR, PE, true, (sq : Int), 0, 0, 0, 0, 0, 0, 0, 0, 0⟩, .slice none 0 0, .slice none 0 0, by rw [hpf], op1, op1, fun h => absurd h (by rw [hpf]; decide), hS.below.trans (hOz.below (Nat.le_refl _) hS.below.size)⟩
      have hlt : ¬((k : Int) - 4 < 3 + 5) := by omega
      have hso : sok T = true := by rw [HSO.out, HP7]; simp; omega
      obtain ⟨hq1, hq2⟩ := hPSF.out ha (by first | rfl | trivial) hso
      rw [HP7] at hq1
      have c12 := hS.fr.fr.cells.2.2.2.2.2.2.2.2.2.2.2.2.1
      dsimp only at c12
      have f12 := hS.fr.frozen 12
      have hS2 := hS.set 12 (.int .u32 (ct : Int)) ⟨(kk : Int), AR, PE, true, (sq : Int), 0, 0, 0, 0, 0, 0, 0, (ct : Int), 0⟩ (.slice none 0 0) (.slice none 0 0) rfl
      have c13 := hS2.fr.fr.cells.2.2.2.2.2.2.2.2.2.2.2.2.2.1
      dsimp only at c13
      have f13 := hS2.fr.frozen 13
      have hS3 := hS2.set 13 (.int .u8 (ky : Int)) ⟨(kk : Int), AR, PE, true, (sq : Int), 0, 0, 0, 0, 0, 0, 0, (ct : Int), (ky : Int)⟩ (.slice none 0 0) (.slice none 0 0) rfl
      clear hS2
      go_upto_region 20 with (fail)
      clear hS
      have hS := hS3
      clear hS3 c12 f12 c13 f13
      generalize World.setCell (World.setCell _ _ _) _ _ = w6 at hS ⊢
      obtain ⟨sp, rp, kp, hsp, hIp0, hrp⟩ := slice_mid_at hqI0 8 (k - 4) (8) ((k : Int) - 4) (by omega) (by omega) (by omega) (by omega)
      obtain ⟨sm, rm, km, hsm, hIm0, hrm⟩ := slice_tail_at hqI0 (k - 4) ((k : Int) - 4) (by omega) (by omega)
      obtain ⟨Lp, hLp⟩ : ∃ L, L = (T.drop 8).take ((k - 4) - 8) := ⟨_, rfl⟩
      obtain ⟨Lm, hLm⟩ : ∃ L, L = T.drop (k - 4) := ⟨_, rfl⟩
      rw [← hLp] at hIp0
      rw [← hLm] at hIm0
      replace hLp := hid hLp
      replace hLm := hid hLm
      go_upto_region 21 with (fail)
      have hnp : Below w6.heap.size w6 (w6.alloc (.cells #[] 5)) := (Below.refl _ _).alloc (Nat.le_refl _) _
      have hIp := hIp0.below (hS.below.trans (hnp.mono hS.below.size))
      go_upto_region 22 with ((with_reducible refine wpList_append_bytes (o := ⟨some 141, _, _, _, _, _⟩) rfl (.tmp 136) (.tmp 140) rfl (.slice (some ⟨w6.heap.size, 0, none⟩) 0 0) rfl sp rp kp rfl w6.heap.size [] Lp (gr_new w6 _ (Nat.le_refl _)) hIp (by simp; omega) w6 hnp (by simp) ?_); intro vp w7 hGp hBp hNp; replace hGp : Hid (Gr w7 w6.heap.size vp Lp) := hid hGp.out; obtain ⟨ap, cp, rfl⟩ := hGp.out.form; have hSp := hS.call hBp; have c14 := hSp.fr.fr.cells.2.2.2.2.2.2.2.2.2.2.2.2.2.2.1; have f14 := hSp.fr.frozen 14)
      have hGp : Gr _ w6.heap.size _ Lp := ownsRow_setCell_below (a := ⟨b4, 14, none⟩) hGp.out hS.size (.slice ap Lp.length cp)
      have hSn := hSp.set 14 (.slice ap Lp.length cp) ⟨(kk : Int), AR, PE, true, (sq : Int), 0, 0, 0, 0, 0, 0, 0, (ct : Int), (ky : Int)⟩ (.slice ap Lp.length cp) (.slice none 0 0) rfl
      have hGp := hGp.mono (C := b4 + 1) hS.size
      clear hS hSp c14 f14 hnp hIp hIp0 hBp hNp
      have hS := hSn
      clear hSn
      generalize World.setCell _ _ _ = w8 at hS hGp ⊢
      have hnm : Below w8.heap.size w8 (w8.alloc (.cells #[] 5)) := (Below.refl _ _).alloc (Nat.le_refl _) _
      have hIm := hIm0.below (hS.below.trans (hnm.mono hS.below.size))
      go_upto_region 23 with ((with_reducible refine wpList_append_bytes (o := ⟨some 147, _, _, _, _, _⟩) rfl (.tmp 143) (.tmp 146) rfl (.slice (some ⟨w8.heap.size, 0, none⟩) 0 0) rfl sm rm km rfl w8.heap.size [] Lm (gr_new w8 _ (Nat.le_refl _)) hIm (by simp; omega) w8 hnm (by simp) ?_); intro vm w9 hGm hBm hNm; replace hGm : Hid (Gr w9 w8.heap.size vm Lm) := hid hGm.out; obtain ⟨am, cm, rfl⟩ := hGm.out.form; have hSm := hS.call hBm; have c15 := hSm.fr.fr.cells.2.2.2.2.2.2.2.2.2.2.2.2.2.2.2; have f15 := hSm.fr.frozen 15)
      have hGp := (hGp.below hBm)
      have hGp : Gr _ (b4 + 1) _ Lp := ownsRow_setCell_below (a := ⟨b4, 15, none⟩) hGp (Nat.lt_succ_self b4) (.slice am Lm.length cm)
      have hGm : Gr _ w8.heap.size _ Lm := ownsRow_setCell_below (a := ⟨b4, 15, none⟩) hGm.out hS.size (.slice am Lm.length cm)
      have hGm := hGm.mono (C := b4 + 1) hS.size
      have hSn := hSm.set 15 (.slice am Lm.length cm) ⟨(kk : Int), AR, PE, true, (sq : Int), 0, 0, 0, 0, 0, 0, 0, (ct : Int), (ky : Int)⟩ (.slice ap Lp.length cp) (.slice am Lm.length cm) rfl
      clear hS hSm c15 f15 hnm hIm hIm0 hBm hNm
      have hS := hSn
      clear hSn
      generalize World.setCell _ _ _ = w10 at hS hGp hGm ⊢
      have hF := hS.fr.fr
      have hR0 := hS.res
      go_wp2_with (first | ((with_reducible refine wpList_load_frame (op := ⟨some 149, _, _, _, _, _⟩) ?_ (.tmp 4) ?_ ?_ hF ?_); (· exact rfl); (· exact rfl); (· exact rfl)) | ((with_reducible refine wpList_store_frame (op := ⟨none, _, _, _, _, _⟩) ?_ (.tmp 2) (.tmp 149) ?_ ?_ (h := ⟨(kk : Int), AR, PE, true, (sq : Int), 0, 0, 0, 0, 0, 0, 0, (ct : Int), (ky : Int)⟩) (p := (.slice ap Lp.length cp)) (m := (.slice am Lm.length cm)) ?_ hR0 ?_ ?_ ?_); (· exact rfl); (· exact rfl); (· exact rfl); (· exact rfl); (· exact rfl); (· exact rfl); intro wz hRz hOz))
      have hpt : pok T = true := by rw [HPK.out, ha, hso]; rfl
      refine bodyPost_ret (results_par (v := .bool true) rfl rfl rfl hRz.out) rfl ⟨⟨(kk : Int), AR, PE, true, (sq : Int), 0, 0, 0, 0, 0, 0, 0, (ct : Int), (ky : Int)⟩, .slice ap Lp.length cp, .slice am Lm.length cm, by rw [hpt], oneC_slice _ _ _, oneC_slice _ _ _, fun _ => ⟨?_, ?_, ?_⟩, hS.below.trans (hOz.below (Nat.le_refl _) hS.below.size)⟩
      · rw [hPE.out hpt, HH.out]; simp only [hk, if_true, if_false, Bool.false_eq_true, reduceCtorEq]
      · have := (Gr.only hGp hOz (by omega)).mono (C := w.heap.size) (by omega)
        refine Eq.mp ?_ this
        congr 1
        rw [hLp.out]
        try rw [hq1]
        first | exact List.take_of_length_le (by rw [List.length_drop]; omega) | rw [hTl] | rfl
      · have := (Gr.only hGm hOz (by omega)).mono (C := w.heap.size) (by omega)
        refine Eq.mp ?_ this
        congr 1
        rw [hLm.out]
        try rw [hq2]
        first | exact List.drop_of_length_le (by omega) | rw [hTl] | rfl
  · rw [if_neg hk] at HP7
    have hk2 : ((kk : Int) != 2) = true := by simp; omega
    have c0 := hS.fr.fr.cells.1
    dsimp only at c0
    go_wp2_with fail
    clear c0
    have m5' : ∀ w', IsB w' (some ⟨b, off, none⟩) k cap T → Calls Try.prog 70 #[.slice (some ⟨b, off, none⟩) k cap, .int .i64 3, .int .i64 2] w' (Ret (.tuple #[.int .u64 (pn : Int), .bool o1]) w') := fun w' h => m5 w' h
    with_reducible refine (m5' _ (hqI0.below hS.below)).mono ?_
    rintro e w' ⟨rfl, rfl⟩
    clear m5 m5'
    have c5 := hS.fr.fr.cells.2.2.2.2.2.1
    dsimp only at c5
    have f5 := hS.fr.frozen 5
    go_upto_region 8 with (fail)
    have hS := hS.set 5 (.int .u16 (pn : Int)) ⟨(kk : Int), AR, PE, SE, (sq : Int), (pn : Int), 0, 0, 0, 0, 0, 0, 0, 0⟩ (.slice none 0 0) (.slice none 0 0) rfl
    generalize World.setCell _ _ _ = w6 at hS ⊢
    clear c5 f5
    have cx1 := (hS.below.cell (p := ⟨b, off + 1, none⟩) hblt).trans cc1
    go_wp2_with fail
    have m6' : ∀ w', IsB w' (some ⟨b, off, none⟩) k cap T → Calls Try.prog 71 #[.slice (some ⟨b, off, none⟩) k cap, .int .i64 5, .int .i64 (d : Int)] w' (fun e w'' => e = .returned (.tuple #[av (d : Int) (adS d y1) (adX d y1), .int .i64 ((5 + zd : Nat) : Int), .bool o2]) ∧ Below w'.heap.size w' w'') := fun w' h => m6 w' h
    with_reducible refine (m6' _ (hqI0.below hS.below)).mono ?_
    rintro e w7 ⟨rfl, hb7⟩
    have hS := hS.call hb7
    clear hb7 m6 m6' cx1
    simp only [av]
    have th6 := hS.fr.there3 (o := 6) (by omega)
    have hK6 := hS.fr.setD (d : Int) (adS d y1) (adX d y1)
    have hO6 := only_cells (g := b4) [.int .i64 (d : Int), .int .u16 (adS d y1), .int .u64 (adX d y1)] 6 w7 w7 (Only.refl _ w7)
    have hSn : PS w _ b4 ⟨(kk : Int), AR, PE, SE, (sq : Int), (pn : Int), (d : Int), (adS d y1), (adX d y1), 0, 0, 0, 0, 0⟩ (.slice none 0 0) (.slice none 0 0) := hS.only hO6 hK6
    clear hK6 hO6 hS
    have hS := hSn
    clear hSn
    go_upto_region 9 with ((refine wpList_store_mid (op := ⟨none, _, _, _, _, _⟩) rfl 27 (.tmp 69) (.tmp 66) rfl b4 6 #[.int .i64 (d : Int), .int .u16 (adS d y1), .int .u64 (adX d y1)] rfl rfl th6 addr_info (by simp [Value.oneCell']) ?_))
    clear th6
    generalize World.setCells _ _ _ _ = w8 at hS ⊢
    have cx1 := (hS.below.cell (p := ⟨b, off + 1, none⟩) hblt).trans cc1
    go_wp2_with fail
    have m7' : ∀ w', IsB w' (some ⟨b, off, none⟩) k cap T → Calls Try.prog 71 #[.slice (some ⟨b, off, none⟩) k cap, .int .i64 (5 + (zd : Int)), .int .i64 (s : Int)] w' (fun e w'' => e = .returned (.tuple #[av (s : Int) (adS s y2) (adX s y2), .int .i64 (5 + (zd : Int) + (zs : Int)), .bool o3]) ∧ Below w'.heap.size w' w'') := fun w' h => m7 w' h
    with_reducible refine (m7' _ (hqI0.below hS.below)).mono ?_
    rintro e w9 ⟨rfl, hb9⟩
    have hS := hS.call hb9
    clear hb9 m7 m7' cx1
    simp only [av]
    have th9 := hS.fr.there3 (o := 9) (by omega)
    have hK9 := hS.fr.setS (s : Int) (adS s y2) (adX s y2)
    have hO9 := only_cells (g := b4) [.int .i64 (s : Int), .int .u16 (adS s y2), .int .u64 (adX s y2)] 9 w9 w9 (Only.refl _ w9)
    have hSn : PS w _ b4 ⟨(kk : Int), AR, PE, SE, (sq : Int), (pn : Int), (d : Int), (adS d y1), (adX d y1), (s : Int), (adS s y2), (adX s y2), 0, 0⟩ (.slice none 0 0) (.slice none 0 0) := hS.only hO9 hK9
    clear hK9 hO9 hS
    have hS := hSn
    clear hSn
    go_upto_region 10 with ((refine wpList_store_mid (op := ⟨none, _, _, _, _, _⟩) rfl 27 (.tmp 83) (.tmp 80) rfl b4 9 #[.int .i64 (s : Int), .int .u16 (adS s y2), .int .u64 (adX s y2)] rfl rfl th9 addr_info (by simp [Value.oneCell']) ?_))
    clear th9
    generalize World.setCells _ _ _ _ = w10 at hS ⊢
    by_cases hao : o1 = true ∧ o2 = true ∧ o3 = true
    · obtain ⟨rfl, rfl, rfl⟩ := hao
      have ha : aok T = true := by rw [HA.out]; simp
      cases SE
      · have c3 := hS.fr.fr.cells.2.2.2.1
        dsimp only at c3
        obtain ⟨hq1, hq2⟩ := hPOF.out ha (by first | rfl | trivial)
        rw [HP7] at hq1
        have h9 : 5 + zd + zs ≤ k := by have := hPR.out ha; rw [HP7] at this; omega
        obtain ⟨sp, rp, kp, hsp, hIp0, hrp⟩ := slice_mid_at hqI0 (5 + zd + zs) k ((5 + (zd : Int) + (zs : Int))) ((k : Int)) (by omega) (by omega) (by omega) (by omega)
        obtain ⟨sm, rm, km, hsm, hIm0, hrm⟩ := slice_tail_at hqI0 k ((k : Int)) (by omega) (by omega)
        obtain ⟨Lp, hLp⟩ : ∃ L, L = (T.drop (5 + zd + zs)).take (k - (5 + zd + zs)) := ⟨_, rfl⟩
        obtain ⟨Lm, hLm⟩ : ∃ L, L = T.drop k := ⟨_, rfl⟩
        rw [← hLp] at hIp0
        rw [← hLm] at hIm0
        replace hLp := hid hLp
        replace hLm := hid hLm
        go_upto_region 21 with (fail)
        have hnp : Below w10.heap.size w10 (w10.alloc (.cells #[] 5)) := (Below.refl _ _).alloc (Nat.le_refl _) _
        have hIp := hIp0.below (hS.below.trans (hnp.mono hS.below.size))
        go_upto_region 22 with ((with_reducible refine wpList_append_bytes (o := ⟨some 141, _, _, _, _, _⟩) rfl (.tmp 136) (.tmp 140) rfl (.slice (some ⟨w10.heap.size, 0, none⟩) 0 0) rfl sp rp kp rfl w10.heap.size [] Lp (gr_new w10 _ (Nat.le_refl _)) hIp (by simp; omega) w10 hnp (by simp) ?_); intro vp w11 hGp hBp hNp; replace hGp : Hid (Gr w11 w10.heap.size vp Lp) := hid hGp.out; obtain ⟨ap, cp, rfl⟩ := hGp.out.form; have hSp := hS.call hBp; have c14 := hSp.fr.fr.cells.2.2.2.2.2.2.2.2.2.2.2.2.2.2.1; have f14 := hSp.fr.frozen 14)
        have hGp : Gr _ w10.heap.size _ Lp := ownsRow_setCell_below (a := ⟨b4, 14, none⟩) hGp.out hS.size (.slice ap Lp.length cp)
        have hSn := hSp.set 14 (.slice ap Lp.length cp) ⟨(kk : Int), AR, PE, false, (sq : Int), (pn : Int), (d : Int), (adS d y1), (adX d y1), (s : Int), (adS s y2), (adX s y2), 0, 0⟩ (.slice ap Lp.length cp) (.slice none 0 0) rfl
        have hGp := hGp.mono (C := b4 + 1) hS.size
        clear hS hSp c14 f14 hnp hIp hIp0 hBp hNp
        have hS := hSn
        clear hSn
        generalize World.setCell _ _ _ = w12 at hS hGp ⊢
        have hnm : Below w12.heap.size w12 (w12.alloc (.cells #[] 5)) := (Below.refl _ _).alloc (Nat.le_refl _) _
        have hIm := hIm0.below (hS.below.trans (hnm.mono hS.below.size))
        go_upto_region 23 with ((with_reducible refine wpList_append_bytes (o := ⟨some 147, _, _, _, _, _⟩) rfl (.tmp 143) (.tmp 146) rfl (.slice (some ⟨w12.heap.size, 0, none⟩) 0 0) rfl sm rm km rfl w12.heap.size [] Lm (gr_new w12 _ (Nat.le_refl _)) hIm (by simp; omega) w12 hnm (by simp) ?_); intro vm w13 hGm hBm hNm; replace hGm : Hid (Gr w13 w12.heap.size vm Lm) := hid hGm.out; obtain ⟨am, cm, rfl⟩ := hGm.out.form; have hSm := hS.call hBm; have c15 := hSm.fr.fr.cells.2.2.2.2.2.2.2.2.2.2.2.2.2.2.2; have f15 := hSm.fr.frozen 15)
        have hGp := (hGp.below hBm)
        have hGp : Gr _ (b4 + 1) _ Lp := ownsRow_setCell_below (a := ⟨b4, 15, none⟩) hGp (Nat.lt_succ_self b4) (.slice am Lm.length cm)
        have hGm : Gr _ w12.heap.size _ Lm := ownsRow_setCell_below (a := ⟨b4, 15, none⟩) hGm.out hS.size (.slice am Lm.length cm)
        have hGm := hGm.mono (C := b4 + 1) hS.size
        have hSn := hSm.set 15 (.slice am Lm.length cm) ⟨(kk : Int), AR, PE, false, (sq : Int), (pn : Int), (d : Int), (adS d y1), (adX d y1), (s : Int), (adS s y2), (adX s y2), 0, 0⟩ (.slice ap Lp.length cp) (.slice am Lm.length cm) rfl
        clear hS hSm c15 f15 hnm hIm hIm0 hBm hNm
        have hS := hSn
        clear hSn
        generalize World.setCell _ _ _ = w14 at hS hGp hGm ⊢
        have hF := hS.fr.fr
        have hR0 := hS.res
        go_wp2_with (first | ((with_reducible refine wpList_load_frame (op := ⟨some 149, _, _, _, _, _⟩) ?_ (.tmp 4) ?_ ?_ hF ?_); (· exact rfl); (· exact rfl); (· exact rfl)) | ((with_reducible refine wpList_store_frame (op := ⟨none, _, _, _, _, _⟩) ?_ (.tmp 2) (.tmp 149) ?_ ?_ (h := ⟨(kk : Int), AR, PE, false, (sq : Int), (pn : Int), (d : Int), (adS d y1), (adX d y1), (s : Int), (adS s y2), (adX s y2), 0, 0⟩) (p := (.slice ap Lp.length cp)) (m := (.slice am Lm.length cm)) ?_ hR0 ?_ ?_ ?_); (· exact rfl); (· exact rfl); (· exact rfl); (· exact rfl); (· exact rfl); (· exact rfl); intro wz hRz hOz))
        have hpt : pok T = true := by rw [HPK.out, ha, HSO.out]; rfl
        refine bodyPost_ret (results_par (v := .bool true) rfl rfl rfl hRz.out) rfl ⟨⟨(kk : Int), AR, PE, false, (sq : Int), (pn : Int), (d : Int), (adS d y1), (adX d y1), (s : Int), (adS s y2), (adX s y2), 0, 0⟩, .slice ap Lp.length cp, .slice am Lm.length cm, by rw [hpt], oneC_slice _ _ _, oneC_slice _ _ _, fun _ => ⟨?_, ?_, ?_⟩, hS.below.trans (hOz.below (Nat.le_refl _) hS.below.size)⟩
        · rw [hPE.out hpt, HH.out]; simp only [hk, if_true, if_false, Bool.false_eq_true, reduceCtorEq]
        · have := (Gr.only hGp hOz (by omega)).mono (C := w.heap.size) (by omega)
          refine Eq.mp ?_ this
          congr 1
          rw [hLp.out]
          try rw [hq1]
          first | exact List.take_of_length_le (by rw [List.length_drop]; omega) | rw [hTl] | rfl
        · have := (Gr.only hGm hOz (by omega)).mono (C := w.heap.size) (by omega)
          refine Eq.mp ?_ this
          congr 1
          rw [hLm.out]
          try rw [hq2]
          first | exact List.drop_of_length_le (by omega) | rw [hTl] | rfl
      · have c3 := hS.fr.fr.cells.2.2.2.1
        dsimp only at c3
        go_wp2_with fail
        clear c3
        with_reducible refine (m8 (5 + (zd : Int) + (zs : Int)) _ (by omega) (hqI0.below hS.below)).mono ?_
        rintro e w' ⟨rfl, rfl⟩
        go_wp2_with fail
        with_reducible refine (m9 (5 + (zd : Int) + (zs : Int) + 4) _ (by omega) (hqI0.below hS.below)).mono ?_
        rintro e w' ⟨rfl, rfl⟩
        cases o4
        · have hpf : pok T = false := by rw [HPK.out, ha, HSO.out]; first | rfl | (simp; omega)
          have hF := hS.fr.fr
          have hR0 := hS.res
          go_wp2_with (first | ((with_reducible refine wpList_load_frame (op := ⟨some 125, _, _, _, _, _⟩) ?_ (.tmp 4) ?_ ?_ hF ?_); (· exact rfl); (· exact rfl); (· exact rfl)) | ((with_reducible refine wpList_store_frame (op := ⟨none, _, _, _, _, _⟩) ?_ (.tmp 2) (.tmp 125) ?_ ?_ (h := ⟨(kk : Int), AR, PE, true, (sq : Int), (pn : Int), (d : Int), (adS d y1), (adX d y1), (s : Int), (adS s y2), (adX s y2), 0, 0⟩) (p := .slice none 0 0) (m := .slice none 0 0) ?_ hR0 ?_ ?_ ?_); (· exact rfl); (· exact rfl); (· exact rfl); (· exact rfl); (· exact rfl); (· exact rfl); intro wz hRz hOz))
          refine bodyPost_ret (results_par (v := .bool false) rfl rfl rfl hRz.out) rfl ?_
          first | exact ⟨⟨(kk : Int), AR, PE, true, (sq : Int), (pn : Int), (d : Int), (adS d y1), (adX d y1), (s : Int), (adS s y2), (adX s y2), 0, 0⟩, .slice none 0 0, .slice none 0 0, rfl, op1, op1, hS.below.trans (hOz.below (Nat.le_refl _) hS.below.size)⟩ | exact ⟨⟨(kk : Int), AR, PE, true, (sq : Int), (pn : Int), (d : Int), (adS d y1), (adX d y1), (s : Int), (adS s y2), (adX s y2), 0, 0⟩, .slice none 0 0, .slice none 0 0, by rw [hpf], op1, op1, fun h => absurd h (by rw [hpf]; decide), hS.below.trans (hOz.below (Nat.le_refl _) hS.below.size)⟩
        cases o5
        · have hpf : pok T = false := by rw [HPK.out, ha, HSO.out]; first | rfl | (simp; omega)
          have hF := hS.fr.fr
          have hR0 := hS.res
          go_wp2_with (first | ((with_reducible refine wpList_load_frame (op := ⟨some 125, _, _, _, _, _⟩) ?_ (.tmp 4) ?_ ?_ hF ?_); (· exact rfl); (· exact rfl); (· exact rfl)) | ((with_reducible refine wpList_store_frame (op := ⟨none, _, _, _, _, _⟩) ?_ (.tmp 2) (.tmp 125) ?_ ?_ (h := ⟨(kk : Int), AR, PE, true, (sq : Int), (pn : Int), (d : Int), (adS d y1), (adX d y1), (s : Int), (adS s y2), (adX s y2), 0, 0⟩) (p := .slice none 0 0) (m := .slice none 0 0) ?_ hR0 ?_ ?_ ?_); (· exact rfl); (· exact rfl); (· exact rfl); (· exact rfl); (· exact rfl); (· exact rfl); intro wz hRz hOz))
          refine bodyPost_ret (results_par (v := .bool false) rfl rfl rfl hRz.out) rfl ?_
          first | exact ⟨⟨(kk : Int), AR, PE, true, (sq : Int), (pn : Int), (d : Int), (adS d y1), (adX d y1), (s : Int), (adS s y2), (adX s y2), 0, 0⟩, .slice none 0 0, .slice none 0 0, rfl, op1, op1, hS.below.trans (hOz.below (Nat.le_refl _) hS.below.size)⟩ | exact ⟨⟨(kk : Int), AR, PE, true, (sq : Int), (pn : Int), (d : Int), (adS d y1), (adX d y1), (s : Int), (adS s y2), (adX s y2), 0, 0⟩, .slice none 0 0, .slice none 0 0, by rw [hpf], op1, op1, fun h => absurd h (by rw [hpf]; decide), hS.below.trans (hOz.below (Nat.le_refl _) hS.below.size)⟩
        by_cases h9 : (5 + zd + zs) + 9 ≤ k
        rotate_left
        · have hlt : (k : Int) - 4 < (5 + (zd : Int) + (zs : Int)) + 5 := by omega
          have hpf : pok T = false := by rw [HPK.out, ha, HSO.out]; first | rfl | (simp; omega)
          have hF := hS.fr.fr
          have hR0 := hS.res
          go_wp2_with (first | ((with_reducible refine wpList_load_frame (op := ⟨some 125, _, _, _, _, _⟩) ?_ (.tmp 4) ?_ ?_ hF ?_); (· exact rfl); (· exact rfl); (· exact rfl)) | ((with_reducible refine wpList_store_frame (op := ⟨none, _, _, _, _, _⟩) ?_ (.tmp 2) (.tmp 125) ?_ ?_ (h := ⟨(kk : Int), AR, PE, true, (sq : Int), (pn : Int), (d : Int), (adS d y1), (adX d y1), (s : Int), (adS s y2), (adX s y2), 0, 0⟩) (p := .slice none 0 0) (m := .slice none 0 0) ?_ hR0 ?_ ?_ ?_); (· exact rfl); (· exact rfl); (· exact rfl); (· exact rfl); (· exact rfl); (· exact rfl); intro wz hRz hOz))
          refine bodyPost_ret (results_par (v := .bool false) rfl rfl rfl hRz.out) rfl ?_
          first | exact ⟨⟨(kk : Int), AR, PE, true, (sq : Int), (pn : Int), (d : Int), (adS d y1), (adX d y1), (s : Int), (adS s y2), (adX s y2), 0, 0⟩, .slice none 0 0, .slice none 0 0, rfl, op1, op1, hS.below.trans (hOz.below (Nat.le_refl _) hS.below.size)⟩ | exact ⟨⟨(kk : Int), AR, PE, true, (sq : Int), (pn : Int), (d : Int), (adS d y1), (adX d y1), (s : Int), (adS s y2), (adX s y2), 0, 0⟩, .slice none 0 0, .slice none 0 0, by rw [hpf], op1, op1, fun h => absurd h (by rw [hpf]; decide), hS.below.trans (hOz.below (Nat.le_refl _) hS.below.size)⟩
        have hlt : ¬((k : Int) - 4 < (5 + (zd : Int) + (zs : Int)) + 5) := by omega
        have hso : sok T = true := by rw [HSO.out, HP7]; simp; omega
        obtain ⟨hq1, hq2⟩ := hPSF.out ha (by first | rfl | trivial) hso
        rw [HP7] at hq1
        have c12 := hS.fr.fr.cells.2.2.2.2.2.2.2.2.2.2.2.2.1
        dsimp only at c12
        have f12 := hS.fr.frozen 12
        have hS2 := hS.set 12 (.int .u32 (ct : Int)) ⟨(kk : Int), AR, PE, true, (sq : Int), (pn : Int), (d : Int), (adS d y1), (adX d y1), (s : Int), (adS s y2), (adX s y2), (ct : Int), 0⟩ (.slice none 0 0) (.slice none 0 0) rfl
        have c13 := hS2.fr.fr.cells.2.2.2.2.2.2.2.2.2.2.2.2.2.1
        dsimp only at c13
        have f13 := hS2.fr.frozen 13
        have hS3 := hS2.set 13 (.int .u8 (ky : Int)) ⟨(kk : Int), AR, PE, true, (sq : Int), (pn : Int), (d : Int), (adS d y1), (adX d y1), (s : Int), (adS s y2), (adX s y2), (ct : Int), (ky : Int)⟩ (.slice none 0 0) (.slice none 0 0) rfl
        clear hS2
        go_upto_region 20 with (fail)
        clear hS
        have hS := hS3
        clear hS3 c12 f12 c13 f13
        generalize World.setCell (World.setCell _ _ _) _ _ = w11 at hS ⊢
        obtain ⟨sp, rp, kp, hsp, hIp0, hrp⟩ := slice_mid_at hqI0 (5 + zd + zs + 5) (k - 4) (5 + (zd : Int) + (zs : Int) + 5) ((k : Int) - 4) (by omega) (by omega) (by omega) (by omega)
        obtain ⟨sm, rm, km, hsm, hIm0, hrm⟩ := slice_tail_at hqI0 (k - 4) ((k : Int) - 4) (by omega) (by omega)
        obtain ⟨Lp, hLp⟩ : ∃ L, L = (T.drop (5 + zd + zs + 5)).take ((k - 4) - (5 + zd + zs + 5)) := ⟨_, rfl⟩
        obtain ⟨Lm, hLm⟩ : ∃ L, L = T.drop (k - 4) := ⟨_, rfl⟩
        rw [← hLp] at hIp0
        rw [← hLm] at hIm0
        replace hLp := hid hLp
        replace hLm := hid hLm
        go_upto_region 21 with (fail)
        have hnp : Below w11.heap.size w11 (w11.alloc (.cells #[] 5)) := (Below.refl _ _).alloc (Nat.le_refl _) _
        have hIp := hIp0.below (hS.below.trans (hnp.mono hS.below.size))
        go_upto_region 22 with ((with_reducible refine wpList_append_bytes (o := ⟨some 141, _, _, _, _, _⟩) rfl (.tmp 136) (.tmp 140) rfl (.slice (some ⟨w11.heap.size, 0, none⟩) 0 0) rfl sp rp kp rfl w11.heap.size [] Lp (gr_new w11 _ (Nat.le_refl _)) hIp (by simp; omega) w11 hnp (by simp) ?_); intro vp w12 hGp hBp hNp; replace hGp : Hid (Gr w12 w11.heap.size vp Lp) := hid hGp.out; obtain ⟨ap, cp, rfl⟩ := hGp.out.form; have hSp := hS.call hBp; have c14 := hSp.fr.fr.cells.2.2.2.2.2.2.2.2.2.2.2.2.2.2.1; have f14 := hSp.fr.frozen 14)
        have hGp : Gr _ w11.heap.size _ Lp := ownsRow_setCell_below (a := ⟨b4, 14, none⟩) hGp.out hS.size (.slice ap Lp.length cp)
        have hSn := hSp.set 14 (.slice ap Lp.length cp) ⟨(kk : Int), AR, PE, true, (sq : Int), (pn : Int), (d : Int), (adS d y1), (adX d y1), (s : Int), (adS s y2), (adX s y2), (ct : Int), (ky : Int)⟩ (.slice ap Lp.length cp) (.slice none 0 0) rfl
        have hGp := hGp.mono (C := b4 + 1) hS.size
        clear hS hSp c14 f14 hnp hIp hIp0 hBp hNp
        have hS := hSn
        clear hSn
        generalize World.setCell _ _ _ = w13 at hS hGp ⊢
        have hnm : Below w13.heap.size w13 (w13.alloc (.cells #[] 5)) := (Below.refl _ _).alloc (Nat.le_refl _) _
        have hIm := hIm0.below (hS.below.trans (hnm.mono hS.below.size))
        go_upto_region 23 with ((with_reducible refine wpList_append_bytes (o := ⟨some 147, _, _, _, _, _⟩) rfl (.tmp 143) (.tmp 146) rfl (.slice (some ⟨w13.heap.size, 0, none⟩) 0 0) rfl sm rm km rfl w13.heap.size [] Lm (gr_new w13 _ (Nat.le_refl _)) hIm (by simp; omega) w13 hnm (by simp) ?_); intro vm w14 hGm hBm hNm; replace hGm : Hid (Gr w14 w13.heap.size vm Lm) := hid hGm.out; obtain ⟨am, cm, rfl⟩ := hGm.out.form; have hSm := hS.call hBm; have c15 := hSm.fr.fr.cells.2.2.2.2.2.2.2.2.2.2.2.2.2.2.2; have f15 := hSm.fr.frozen 15)
        have hGp := (hGp.below hBm)
        have hGp : Gr _ (b4 + 1) _ Lp := ownsRow_setCell_below (a := ⟨b4, 15, none⟩) hGp (Nat.lt_succ_self b4) (.slice am Lm.length cm)
        have hGm : Gr _ w13.heap.size _ Lm := ownsRow_setCell_below (a := ⟨b4, 15, none⟩) hGm.out hS.size (.slice am Lm.length cm)
        have hGm := hGm.mono (C := b4 + 1) hS.size
        have hSn := hSm.set 15 (.slice am Lm.length cm) ⟨(kk : Int), AR, PE, true, (sq : Int), (pn : Int), (d : Int), (adS d y1), (adX d y1), (s : Int), (adS s y2), (adX s y2), (ct : Int), (ky : Int)⟩ (.slice ap Lp.length cp) (.slice am Lm.length cm) rfl
        clear hS hSm c15 f15 hnm hIm hIm0 hBm hNm
        have hS := hSn
        clear hSn
        generalize World.setCell _ _ _ = w15 at hS hGp hGm ⊢
        have hF := hS.fr.fr
        have hR0 := hS.res
        go_wp2_with (first | ((with_reducible refine wpList_load_frame (op := ⟨some 149, _, _, _, _, _⟩) ?_ (.tmp 4) ?_ ?_ hF ?_); (· exact rfl); (· exact rfl); (· exact rfl)) | ((with_reducible refine wpList_store_frame (op := ⟨none, _, _, _, _, _⟩) ?_ (.tmp 2) (.tmp 149) ?_ ?_ (h := ⟨(kk : Int), AR, PE, true, (sq : Int), (pn : Int), (d : Int), (adS d y1), (adX d y1), (s : Int), (adS s y2), (adX s y2), (ct : Int), (ky : Int)⟩) (p := (.slice ap Lp.length cp)) (m := (.slice am Lm.length cm)) ?_ hR0 ?_ ?_ ?_); (· exact rfl); (· exact rfl); (· exact rfl); (· exact rfl); (· exact rfl); (· exact rfl); intro wz hRz hOz))
        have hpt : pok T = true := by rw [HPK.out, ha, hso]; rfl
        refine bodyPost_ret (results_par (v := .bool true) rfl rfl rfl hRz.out) rfl ⟨⟨(kk : Int), AR, PE, true, (sq : Int), (pn : Int), (d : Int), (adS d y1), (adX d y1), (s : Int), (adS s y2), (adX s y2), (ct : Int), (ky : Int)⟩, .slice ap Lp.length cp, .slice am Lm.length cm, by rw [hpt], oneC_slice _ _ _, oneC_slice _ _ _, fun _ => ⟨?_, ?_, ?_⟩, hS.below.trans (hOz.below (Nat.le_refl _) hS.below.size)⟩
        · rw [hPE.out hpt, HH.out]; simp only [hk, if_true, if_false, Bool.false_eq_true, reduceCtorEq]
        · have := (Gr.only hGp hOz (by omega)).mono (C := w.heap.size) (by omega)
          refine Eq.mp ?_ this
          congr 1
          rw [hLp.out]
          try rw [hq1]
          first | exact List.take_of_length_le (by rw [List.length_drop]; omega) | rw [hTl] | rfl
        · have := (Gr.only hGm hOz (by omega)).mono (C := w.heap.size) (by omega)
          refine Eq.mp ?_ this
          congr 1
          rw [hLm.out]
          try rw [hq2]
          first | exact List.drop_of_length_le (by omega) | rw [hTl] | rfl
    · have ha : aok T = false := by
        rw [HA.out, decide_eq_false hk]
        revert hao
        cases o1 <;> cases o2 <;> cases o3 <;> simp
      cases o1 <;> cases o2 <;> cases o3
      rotate_right
      · exact absurd ⟨rfl, rfl, rfl⟩ hao
      all_goals
        have hpf : pok T = false := by rw [HPK.out, ha]; rfl
        have hF := hS.fr.fr
        have hR0 := hS.res
        go_wp2_with (first | ((with_reducible refine wpList_load_frame (op := ⟨some 94, _, _, _, _, _⟩) ?_ (.tmp 4) ?_ ?_ hF ?_); (· exact rfl); (· exact rfl); (· exact rfl)) | ((with_reducible refine wpList_store_frame (op := ⟨none, _, _, _, _, _⟩) ?_ (.tmp 2) (.tmp 94) ?_ ?_ (h := ⟨(kk : Int), AR, PE, SE, (sq : Int), (pn : Int), (d : Int), (adS d y1), (adX d y1), (s : Int), (adS s y2), (adX s y2), 0, 0⟩) (p := .slice none 0 0) (m := .slice none 0 0) ?_ hR0 ?_ ?_ ?_); (· exact rfl); (· exact rfl); (· exact rfl); (· exact rfl); (· exact rfl); (· exact rfl); intro wz hRz hOz))
        refine bodyPost_ret (results_par (v := .bool false) rfl rfl rfl hRz.out) rfl ?_
        first | exact ⟨⟨(kk : Int), AR, PE, SE, (sq : Int), (pn : Int), (d : Int), (adS d y1), (adX d y1), (s : Int), (adS s y2), (adX s y2), 0, 0⟩, .slice none 0 0, .slice none 0 0, rfl, op1, op1, hS.below.trans (hOz.below (Nat.le_refl _) hS.below.size)⟩ | exact ⟨⟨(kk : Int), AR, PE, SE, (sq : Int), (pn : Int), (d : Int), (adS d y1), (adX d y1), (s : Int), (adS s y2), (adX s y2), 0, 0⟩, .slice none 0 0, .slice none 0 0, by rw [hpf], op1, op1, fun h => absurd h (by rw [hpf]; decide), hS.below.trans (hOz.below (Nat.le_refl _) hS.below.size)⟩
end Go.Proofs.Ytmbiophckeiehaa
