/-
  The reference's read of a link address.
-/
import Derived.Test.YtmbiophckeiehaaRefUint
import Derived.Test.YtmbiophckeiehaaParMath
import Derived.BigRegion
import Derived.Deep.DeepCutAuto
namespace Go.Proofs.Ytmbiophckeiehaa
open Go.RowKit
set_option linter.unusedSimpArgs false
set_option linter.unusedVariables false

theorem results_addr3 {fn : Func} {t u s : Tmp} (hr : fn.results = #[.cell t 27, .tmp u, .tmp s]) {tmps : Array Value} {w : World} {g : Nat} {m x e : Int} {p q : Value} (hp : tmps.getD t undef = .pointer (some ⟨g, 0, none⟩)) (hq : tmps.getD u undef = p) (hs : tmps.getD s undef = q) (hR : Ar w g m x e) :
    (results fn tmps).run Try.prog w = .ok (.tuple #[av m x e, p, q]) w := by
  have hload := run_loadVar_mid (P := Try.prog) w g 0 27 (avl m x e) _ hR Try.underlying27 rfl addr_info
  unfold results
  rw [hr]
  have hp' : tmps[t]?.getD undef = .pointer (some ⟨g, 0, none⟩) := by simpa using hp
  have hq' : tmps[u]?.getD undef = p := by simpa using hq
  have hs' : tmps[s]?.getD undef = q := by simpa using hs
  simp [hp', hq', hs', asAddr, hload]
  rfl

/-- block g is the call's own and holds a link address -/
def Ak (w : World) (g : Nat) (m s e : Int) : Prop := w.heap[g]? = some (.cells #[.int .i64 m, .int .u16 s, .int .u64 e] 27 (0, 0))
theorem Ak.set {w : World} {g : Nat} {m s e m' s' e' : Int} (h : Ak w g m s e) (j : Nat) (v : Value) (hs : (#[.int .i64 m, .int .u16 s, .int .u64 e] : Array Value).setIfInBounds j v = #[.int .i64 m', .int .u16 s', .int .u64 e']) : Ak (w.setCell ⟨g, j, none⟩ v) g m' s' e' := by
  have := heap_setCell_same w g j _ 27 v h
  unfold Ak
  rw [this, hs]
theorem Ak.only {w w' : World} {g k : Nat} {m s e : Int} (h : Ak w g m s e) (hO : Only k w w') (hg : g < w.heap.size) (hk : g ≠ k) : Ak w' g m s e := by
  unfold Ak; rw [hO.block g hg hk]; exact h
theorem Ak.lt {w : World} {g : Nat} {m s e : Int} (h : Ak w g m s e) : g < w.heap.size := (Array.getElem?_eq_some_iff.1 h).1
theorem Ak.frozen {w : World} {g : Nat} {m s e : Int} (h : Ak w g m s e) (j : Nat) : w.frozen? ⟨g, j, none⟩ = false := frozen_of_row w g j _ _ h
theorem wpList_store_addrK {ops : Array Oper} {rest : List Oper} {op : Oper} {a : Act} {w : World} {Q : Exit → Act → World → Prop} {g : Nat} {m0 s0 e0 m s e : Int} (hgd : op.guard = none) (x y : Operand) (ho : op.op = .store 27 x y)
    (hx : a.eval x = .pointer (some ⟨g, 0, none⟩)) (hy : a.eval y = .agg #[.int .i64 m, .int .u16 s, .int .u64 e]) (hK : Ak w g m0 s0 e0)
    (h : ∀ w', Hid (Ak w' g m s e) → Only g w w' → wpList Try.prog ops Q rest (a.put op.dst undef) w') : wpList Try.prog ops Q (op :: rest) a w := by
  refine wpList_store_mid hgd 27 x y ho g 0 #[.int .i64 m, .int .u16 s, .int .u64 e] hx hy (there_addr hK) addr_info (by simp [Value.oneCell']) ?_
  refine h _ (hid ?_) (only_cells _ _ _ _ (Only.refl g w))
  have e1 := hK.set (m' := m) (s' := s0) (e' := e0) 0 (.int .i64 m) rfl
  have e2 := e1.set (m' := m) (s' := s) (e' := e0) 1 (.int .u16 s) rfl
  exact e2.set (m' := m) (s' := s) (e' := e) 2 (.int .u64 e) rfl

/-- what read answers -/
def RetRA (l : List UInt8) (at' m : Nat) (w : World) (e : Ending) (w' : World) : Prop :=
  e = .returned (.tuple #[rdA m (numV (l.drop at') (asz (m : Int))), .int .i64 ((at' + asz (m : Int) : Nat) : Int), .bool (okA l at' m)]) ∧ Below w.heap.size w w'

set_option maxHeartbeats 4000000 in
set_option maxRecDepth 100000 in
theorem rread_any (a : Option Addr) (len cap : Nat) (l : List UInt8) (i m : Nat) (w : World) (hb : IsB w a len cap l) (hi : i ≤ 109951162777) (hm : m < 4) :
    Calls Try.prog 71 #[.slice a len cap, .int .i64 i, .int .i64 m] w (RetRA l i m w) := by
  have hA : Ak (w.alloc (.cells #[.int .i64 0, .int .u16 0, .int .u64 0] 27)) w.heap.size 0 0 0 := heap_alloc_new w _
  have hB1 : Ak ((w.alloc (.cells #[.int .i64 0, .int .u16 0, .int .u64 0] 27)).alloc (.cells #[.int .i64 0, .int .u16 0, .int .u64 0] 27)) (w.heap.size + 1) 0 0 0 := by
    have := heap_alloc_new (w.alloc (.cells #[.int .i64 0, .int .u16 0, .int .u64 0] 27)) (.cells #[.int .i64 0, .int .u16 0, .int .u64 0] 27)
    rw [World.size_alloc] at this
    exact this
  have hx := (Below.refl (w.heap.size + 1) (w.alloc (.cells #[.int .i64 0, .int .u16 0, .int .u64 0] 27))).alloc (by simp) (.cells #[.int .i64 0, .int .u16 0, .int .u64 0] 27)
  have hA : Ak ((w.alloc (.cells #[.int .i64 0, .int .u16 0, .int .u64 0] 27)).alloc (.cells #[.int .i64 0, .int .u16 0, .int .u64 0] 27)) w.heap.size 0 0 0 := by
    unfold Ak; rw [hx.block _ (Nat.lt_succ_self _)]; exact hA
  have hB := two_below w (.cells #[.int .i64 0, .int .u16 0, .int .u64 0] 27) (.cells #[.int .i64 0, .int .u16 0, .int .u64 0] 27)
  have hJ := hb.below hB
  have hs2 : ((w.alloc (.cells #[.int .i64 0, .int .u16 0, .int .u64 0] 27)).alloc (.cells #[.int .i64 0, .int .u16 0, .int .u64 0] 27)).heap.size = w.heap.size + 2 := by simp
  have hb0 := hb
  clear hx hb
  unfold RetRA
  go_enter Try.func71, Try.ntmps71
  go_upto_region 2 with ((with_reducible refine wpList_store_addrK (op := ⟨none, _, _, _, _, _⟩) ?_ (.tmp 9) (.tmp 15) ?_ ?_ (m := (m : Int)) (s := 0) (e := 0) ?_ hB1 ?_); (· exact rfl); (· exact rfl); (· exact rfl); (· exact rfl); intro w3 hK3 hO3)
  have hA3 := hA.only hO3 (by omega) (by omega)
  have hJ3 := hJ.only hO3 (fun q hq hc => by have := ((hb0.cells q hq).1 hc).2; omega)
  have hB3 := hB.trans (hO3.below (by omega) (by omega))
  clear hJ hB hB1 hO3 hs2
  generalize (w.alloc _).alloc _ = w2 at *
  clear hA
  have hA := hA3
  have hJ := hJ3
  have hB := hB3
  clear hA3 hJ3 hB3
  have hth := there_addr hA
  have hF := Ar.of_heap hK3.out
  have hlt := hK3.out.lt
  have j2 : ∀ w', IsB w' a len cap l → Calls Try.prog 70 #[.slice a len cap, .int .i64 i, .int .i64 2] w' (Ret (.tuple #[.int .u64 (numV (l.drop i) 2), .bool (numOk (l.drop i) 2)]) w') := fun w' h => refUint_any a len cap l i 2 w' h (by omega) (by omega) (by omega)
  have j8 : ∀ w', IsB w' a len cap l → Calls Try.prog 70 #[.slice a len cap, .int .i64 i, .int .i64 8] w' (Ret (.tuple #[.int .u64 (numV (l.drop i) 8), .bool (numOk (l.drop i) 8)]) w') := fun w' h => refUint_any a len cap l i 8 w' h (by omega) (by omega) (by omega)
  rcases (by omega : m = 0 ∨ m = 1 ∨ m = 2 ∨ m = 3) with rfl | rfl | rfl | rfl
  · clear j2 j8
    go_wp2_with (first | ((with_reducible refine wpList_load_addr (op := ⟨some 19, _, _, _, _, _⟩) ?_ (.tmp 9) ?_ ?_ hF ?_); (· exact rfl); (· exact rfl); (· exact rfl)) | ((with_reducible refine wpList_store_addr (op := ⟨none, _, _, _, _, _⟩) ?_ (.tmp 6) (.tmp 19) ?_ ?_ (m := 0) (s := 0) (e := 0) ?_ hth ?_); (· exact rfl); (· exact rfl); (· exact rfl); (· exact rfl); intro w4 hR4 hO4))
    exact bodyPost_ret (results_addr3 (p := .int .i64 i) (q := .bool true) rfl rfl rfl rfl hR4.out) rfl ⟨by rw [show asz ((0 : Nat) : Int) = 0 from rfl, numV_zero]; rfl, hB.trans (hO4.below (Nat.le_refl _) hB.size)⟩
  · clear j2 j8
    go_wp2_with (first | ((with_reducible refine wpList_load_addr (op := ⟨some 50, _, _, _, _, _⟩) ?_ (.tmp 9) ?_ ?_ hF ?_); (· exact rfl); (· exact rfl); (· exact rfl)) | ((with_reducible refine wpList_store_addr (op := ⟨none, _, _, _, _, _⟩) ?_ (.tmp 6) (.tmp 50) ?_ ?_ (m := 1) (s := 0) (e := 0) ?_ hth ?_); (· exact rfl); (· exact rfl); (· exact rfl); (· exact rfl); intro w4 hR4 hO4))
    exact bodyPost_ret (results_addr3 (p := .int .i64 i) (q := .bool false) rfl rfl rfl rfl hR4.out) rfl ⟨by rw [show asz ((1 : Nat) : Int) = 0 from rfl, numV_zero]; rfl, hB.trans (hO4.below (Nat.le_refl _) hB.size)⟩
  · have hv : numV (l.drop i) 2 < 65536 := numV_lt (l.drop i) 2
    have HE : Hid (rdA 2 (numV (l.drop i) (asz ((2 : Nat) : Int))) = av 2 (numV (l.drop i) 2 : Int) 0) := hid rfl
    have HO : Hid (okA l i 2 = numOk (l.drop i) 2) := hid rfl
    clear j8
    go_wp2_with fail
    with_reducible refine (j2 _ hJ).mono ?_
    rintro e4 w4 ⟨rfl, rfl⟩
    generalize numV (l.drop i) 2 = v at *
    generalize numOk (l.drop i) 2 = ok at *
    have hw : IntKind.u16.wrap (v : Int) = (v : Int) := by simp [IntKind.wrap, IntKind.bits, IntKind.signed]; omega
    have c1 := hF.cells.2.1
    have f1 := hK3.out.frozen 1
    have hF := Ar.of_heap (hK3.out.set (m' := 2) (s' := v) (e' := 0) 1 (.int .u16 v) rfl)
    have hA := hA.only (Only.set (w.heap.size + 1) 1 w3 (.int .u16 v)) hA.lt (by omega)
    have hth := there_addr hA
    have hB := hB.setCell (p := ⟨w.heap.size + 1, 1, none⟩) (Nat.le_succ _) (.int .u16 v)
    go_wp2_with (first | ((with_reducible refine wpList_load_addr (op := ⟨some 32, _, _, _, _, _⟩) ?_ (.tmp 9) ?_ ?_ hF ?_); (· exact rfl); (· exact rfl); (· exact rfl)) | ((with_reducible refine wpList_store_addr (op := ⟨none, _, _, _, _, _⟩) ?_ (.tmp 6) (.tmp 32) ?_ ?_ (m := 2) (s := (v : Int)) (e := 0) ?_ hth ?_); (· exact rfl); (· exact rfl); (· exact rfl); (· exact rfl); intro w4 hR4 hO4))
    exact bodyPost_ret (results_addr3 (p := .int .i64 ((i + 2 : Nat) : Int)) (q := .bool ok) rfl rfl rfl rfl hR4.out) rfl ⟨by rw [HE.out, HO.out]; rfl, hB.trans (hO4.below (Nat.le_refl _) hB.size)⟩
  · have HE : Hid (rdA 3 (numV (l.drop i) (asz ((3 : Nat) : Int))) = av 3 0 (numV (l.drop i) 8 : Int)) := hid rfl
    have HO : Hid (okA l i 3 = numOk (l.drop i) 8) := hid rfl
    clear j2
    go_wp2_with fail
    with_reducible refine (j8 _ hJ).mono ?_
    rintro e4 w4 ⟨rfl, rfl⟩
    generalize numV (l.drop i) 8 = v at *
    generalize numOk (l.drop i) 8 = ok at *
    have c2 := hF.cells.2.2
    have f2 := hK3.out.frozen 2
    have hF := Ar.of_heap (hK3.out.set (m' := 3) (s' := 0) (e' := v) 2 (.int .u64 v) rfl)
    have hA := hA.only (Only.set (w.heap.size + 1) 2 w3 (.int .u64 v)) hA.lt (by omega)
    have hth := there_addr hA
    have hB := hB.setCell (p := ⟨w.heap.size + 1, 2, none⟩) (Nat.le_succ _) (.int .u64 v)
    go_wp2_with (first | ((with_reducible refine wpList_load_addr (op := ⟨some 46, _, _, _, _, _⟩) ?_ (.tmp 9) ?_ ?_ hF ?_); (· exact rfl); (· exact rfl); (· exact rfl)) | ((with_reducible refine wpList_store_addr (op := ⟨none, _, _, _, _, _⟩) ?_ (.tmp 6) (.tmp 46) ?_ ?_ (m := 3) (s := 0) (e := (v : Int)) ?_ hth ?_); (· exact rfl); (· exact rfl); (· exact rfl); (· exact rfl); intro w4 hR4 hO4))
    exact bodyPost_ret (results_addr3 (p := .int .i64 ((i + 8 : Nat) : Int)) (q := .bool ok) rfl rfl rfl rfl hR4.out) rfl ⟨by rw [HE.out, HO.out]; rfl, hB.trans (hO4.below (Nat.le_refl _) hB.size)⟩
end Go.Proofs.Ytmbiophckeiehaa
