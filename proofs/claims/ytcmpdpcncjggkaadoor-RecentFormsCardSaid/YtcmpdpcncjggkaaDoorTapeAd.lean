/-
  Link addresses in blocks, and off the tape.
-/
import Derived.Test.YtcmpdpcncjggkaaDoorTapeNew
import Derived.Test.YtcmpdpcncjggkaaDoorAdV
import Derived.Deep.MidRow
import Derived.Deep.RegionHeld3
import Derived.Deep.RegionLaw
namespace Go.Proofs.YtcmpdpcncjggkaaDoor
open Go.RowKit
set_option linter.unusedSimpArgs false
set_option linter.unusedVariables false

def avl (m s e : Int) : List Value := [.int .i64 m, .int .u16 s, .int .u64 e]
/-- the first cells of block g are a link address -/
def Ar (w : World) (g : Nat) (m s e : Int) : Prop := w.rangeAt g 0 (avl m s e)
theorem addr_info : (Tryd.prog.info? 28).map (·.size) = some 3 := by kernel_rfl
theorem Ar.of_heap {w : World} {g : Nat} {m s e : Int} {fr : Nat × Nat} (h : w.heap[g]? = some (.cells #[.int .i64 m, .int .u16 s, .int .u64 e] 28 fr)) : Ar w g m s e := by
  intro j v hj
  rw [cell_of_row w g (0 + j) _ 28 _ h]
  simpa [avl] using hj
theorem Ar.below {w w' : World} {g B : Nat} {m s e : Int} (h : Ar w g m s e) (hb : Below B w w') (hg : g < B) : Ar w' g m s e := by
  intro j v hj
  rw [hb.cell (p := ⟨g, 0 + j, none⟩) hg]; exact h j v hj
theorem Ar.only {w w' : World} {g k : Nat} {m s e : Int} (h : Ar w g m s e) (hO : Only k w w') (hg : g < w.heap.size) (hk : g ≠ k) : Ar w' g m s e := by
  intro j v hj
  rw [World.cell?_of_block (w := w) (a := ⟨g, 0 + j, none⟩) (hO.block g hg hk)]; exact h j v hj
theorem Ar.drew {w : World} {g : Nat} {m s e : Int} (h : Ar w g m s e) : Ar w.drew g m s e := h
theorem Ar.cells {w : World} {g : Nat} {m s e : Int} (h : Ar w g m s e) : w.cell? ⟨g, 0, none⟩ = some (.int .i64 m) ∧ w.cell? ⟨g, 1, none⟩ = some (.int .u16 s) ∧ w.cell? ⟨g, 2, none⟩ = some (.int .u64 e) :=
  ⟨h 0 _ rfl, h 1 _ rfl, h 2 _ rfl⟩

theorem only_cells {g : Nat} : ∀ (vs : List Value) (o : Nat) (w0 w : World), Only g w0 w → Only g w0 (w.setCells g o vs)
  | [], _, _, _, h => h
  | v :: r, o, w0, w, h => by
    rw [World.setCells]
    exact only_cells r (o + 1) w0 _ (h.trans (Only.set g o w v))

theorem wpList_store_addr {ops : Array Oper} {rest : List Oper} {op : Oper} {a : Act} {w : World} {Q : Exit → Act → World → Prop} {g : Nat} {m s e : Int} (hgd : op.guard = none) (x y : Operand) (ho : op.op = .store 28 x y)
    (hx : a.eval x = .pointer (some ⟨g, 0, none⟩)) (hy : a.eval y = .agg #[.int .i64 m, .int .u16 s, .int .u64 e]) (hth : w.there g 0 3)
    (h : ∀ w', Hid (Ar w' g m s e) → Only g w w' → wpList Tryd.prog ops Q rest (a.put op.dst undef) w') : wpList Tryd.prog ops Q (op :: rest) a w := by
  refine wpList_store_mid hgd 28 x y ho g 0 #[.int .i64 m, .int .u16 s, .int .u64 e] hx hy hth addr_info (by simp [Value.oneCell']) ?_
  exact h _ (hid (World.rangeAt_setCells_same w g 0 _ hth)) (only_cells _ _ _ _ (Only.refl g w))

theorem wpList_load_addr {ops : Array Oper} {rest : List Oper} {op : Oper} {a : Act} {w : World} {Q : Exit → Act → World → Prop} {g : Nat} {m s e : Int} (hgd : op.guard = none) (x : Operand) (ho : op.op = .load 28 x)
    (hx : a.eval x = .pointer (some ⟨g, 0, none⟩)) (hK : Ar w g m s e)
    (h : wpList Tryd.prog ops Q rest (a.put op.dst (av m s e)) w) : wpList Tryd.prog ops Q (op :: rest) a w :=
  wpList_load_mid hgd 28 x ho g 0 hx (avl m s e) _ hK Tryd.underlying28 rfl addr_info h

theorem there_addr {w : World} {g : Nat} {m s e : Int} (h : w.heap[g]? = some (.cells #[.int .i64 m, .int .u16 s, .int .u64 e] 28 (0, 0))) : w.there g 0 3 := by
  intro j hj
  refine ⟨?_, frozen_of_row w g (0 + j) _ _ h⟩
  rw [cell_of_row w g (0 + j) _ 28 _ h]
  rcases (by omega : j = 0 ∨ j = 1 ∨ j = 2) with rfl | rfl | rfl <;> rfl

theorem results_addr {fn : Func} {t : Tmp} (hr : fn.results = #[.cell t 28]) {tmps : Array Value} {w : World} {g : Nat} {m s e : Int} (hp : tmps.getD t undef = .pointer (some ⟨g, 0, none⟩)) (hR : Ar w g m s e) :
    (results fn tmps).run Tryd.prog w = .ok (av m s e) w := by
  have hload := run_loadVar_mid (P := Tryd.prog) w g 0 28 (avl m s e) _ hR Tryd.underlying28 rfl addr_info
  unfold results
  rw [hr]
  have hp' : tmps[t]?.getD undef = .pointer (some ⟨g, 0, none⟩) := by simpa using hp
  simp [hp', asAddr, hload]
  rfl

/-- the fields of a link address are numbers of their kinds -/
def Ad3 (m s e : Int) : Prop := I64 m ∧ (0 ≤ s ∧ s < 65536) ∧ U64 e
def RetAddr (g : Nat) (w : World) (e : Ending) (w' : World) : Prop :=
  ∃ m s x, e = .returned (av m s x) ∧ Ad3 m s x ∧ TapeAt w' g ∧ Only g w w'

theorem only_two {g k : Nat} {w a b : World} (h : Only g w a) (h2 : Only k a b) (hk : w.heap.size ≤ k) : Only g w b :=
  ⟨h2.os.trans h.os, h2.tape.trans h.tape, h2.output.trans h.output, Nat.le_trans h.size h2.size, fun i hi hn => (h2.block i (Nat.lt_of_lt_of_le hi h.size) (by omega)).trans (h.block i hi hn)⟩

set_option maxHeartbeats 1600000 in
set_option maxRecDepth 100000 in
theorem device_any (g : Nat) (w : World) (hT : TapeAt w g) :
    Calls Tryd.prog 15 #[.pointer (some ⟨g, 0, none⟩)] w (RetAddr g w) := by
  have hlt := hT.lt
  have hT1 := hT.below ((Below.refl w.heap.size w).alloc (Nat.le_refl _) (.cells #[.int .i64 0, .int .u16 0, .int .u64 0] 28))
  go_enter Tryd.func15, Tryd.ntmps15
  go_wp2_with fail
  have hO1 := Only.ofBelow g ((Below.refl w.heap.size w).alloc (Nat.le_refl _) (.cells #[.int .i64 0, .int .u16 0, .int .u64 0] 28))
  have cA : (w.alloc (.cells #[.int .i64 0, .int .u16 0, .int .u64 0] 28)).heap[w.heap.size]? = some (.cells #[.int .i64 0, .int .u16 0, .int .u64 0] 28 (0, 0)) := heap_alloc_new w _
  have hsz : (w.alloc (.cells #[.int .i64 0, .int .u16 0, .int .u64 0] 28)).heap.size = w.heap.size + 1 := by simp
  generalize w.alloc (.cells #[.int .i64 0, .int .u16 0, .int .u64 0] 28) = w1 at hT1 hO1 cA hsz ⊢
  with_reducible refine (next_any g 5 w1 hT1 (by omega) (by omega)).mono ?_
  rintro e w2 ⟨v, rfl, hv, hT2, hO2⟩
  go_wp2_with fail
  with_reducible refine (bool_any g 2 w2 hT2 (by omega) (by omega)).mono ?_
  rintro e w3 ⟨b, rfl, hT3, hO3⟩
  have hO13 := hO2.trans hO3
  have cA3 : w3.heap[w.heap.size]? = some (.cells #[.int .i64 0, .int .u16 0, .int .u64 0] 28 (0, 0)) := (hO13.block _ (by omega) (by omega)).trans cA
  have th := there_addr cA3
  have hO := hO1.trans hO13
  have hq : IntKind.u64.wrap (v : Int) = (v : Int) := by rw [u64_wrap_nat]; congr 1; omega
  have hq2 : IntKind.u16.wrap (v : Int) = (v : Int) := by simp [IntKind.wrap, IntKind.bits, IntKind.signed]; omega
  clear cA cA3 hT1 hO1 hT2 hO2 hO3 hO13
  cases b
  · go_wp2_with (with_reducible refine wpList_store_addr (op := ⟨none, _, _, _, _, _⟩) rfl (.tmp 2) (.tmp 14) rfl rfl rfl th ?_; intro w4 hR4 hO4)
    refine bodyPost_ret (results_addr rfl rfl hR4.out) rfl ⟨_, _, _, rfl, ⟨by unfold I64; omega, by omega, by unfold U64; omega⟩, hT3.only hO4 (by omega), only_two hO hO4 (Nat.le_refl _)⟩
  · go_wp2_with (with_reducible refine wpList_store_addr (op := ⟨none, _, _, _, _, _⟩) rfl (.tmp 2) (.tmp 11) rfl rfl rfl th ?_; intro w4 hR4 hO4)
    refine bodyPost_ret (results_addr rfl rfl hR4.out) rfl ⟨_, _, _, rfl, ⟨by unfold I64; omega, by omega, by unfold U64; omega⟩, hT3.only hO4 (by omega), only_two hO hO4 (Nat.le_refl _)⟩

set_option maxHeartbeats 1600000 in
set_option maxRecDepth 100000 in
theorem taddr_any (g : Nat) (w : World) (hT : TapeAt w g) :
    Calls Tryd.prog 10 #[.pointer (some ⟨g, 0, none⟩)] w (RetAddr g w) := by
  have hlt := hT.lt
  have hT1 := hT.below ((Below.refl w.heap.size w).alloc (Nat.le_refl _) (.cells #[.int .i64 0, .int .u16 0, .int .u64 0] 28))
  go_enter Tryd.func10, Tryd.ntmps10
  go_wp2_with fail
  have hO1 := Only.ofBelow g ((Below.refl w.heap.size w).alloc (Nat.le_refl _) (.cells #[.int .i64 0, .int .u16 0, .int .u64 0] 28))
  have cA : (w.alloc (.cells #[.int .i64 0, .int .u16 0, .int .u64 0] 28)).heap[w.heap.size]? = some (.cells #[.int .i64 0, .int .u16 0, .int .u64 0] 28 (0, 0)) := heap_alloc_new w _
  have hsz : (w.alloc (.cells #[.int .i64 0, .int .u16 0, .int .u64 0] 28)).heap.size = w.heap.size + 1 := by simp
  generalize w.alloc (.cells #[.int .i64 0, .int .u16 0, .int .u64 0] 28) = w1 at hT1 hO1 cA hsz ⊢
  with_reducible refine (next_any g 6 w1 hT1 (by omega) (by omega)).mono ?_
  rintro e w2 ⟨v, rfl, hv, hT2, hO2⟩
  have cA2 : w2.heap[w.heap.size]? = some (.cells #[.int .i64 0, .int .u16 0, .int .u64 0] 28 (0, 0)) := (hO2.block _ (by omega) (by omega)).trans cA
  have th := there_addr cA2
  have hO := hO1.trans hO2
  have hsz2 := hO2.size
  by_cases h4 : v = 4
  · subst h4
    go_wp2_with (with_reducible refine wpList_store_addr (op := ⟨none, _, _, _, _, _⟩) rfl (.tmp 2) (.tmp 7) rfl rfl rfl th ?_; intro w4 hR4 hO4)
    refine bodyPost_ret (results_addr rfl rfl hR4.out) rfl ⟨_, _, _, rfl, ⟨by unfold I64; omega, by omega, by unfold U64; omega⟩, hT2.only hO4 (by omega), only_two hO hO4 (Nat.le_refl _)⟩
  · by_cases h5 : v = 5
    · subst h5
      go_wp2_with (with_reducible refine wpList_store_addr (op := ⟨none, _, _, _, _, _⟩) rfl (.tmp 2) (.tmp 10) rfl rfl rfl th ?_; intro w4 hR4 hO4)
      refine bodyPost_ret (results_addr rfl rfl hR4.out) rfl ⟨_, _, _, rfl, ⟨by unfold I64; omega, by omega, by unfold U64; omega⟩, hT2.only hO4 (by omega), only_two hO hO4 (Nat.le_refl _)⟩
    · go_wp2_with fail
      with_reducible refine (device_any g w2 hT2).mono ?_
      rintro e w3 ⟨m, s, x, rfl, h3, hT3, hO3⟩
      have cA3 : w3.heap[w.heap.size]? = some (.cells #[.int .i64 0, .int .u16 0, .int .u64 0] 28 (0, 0)) := (hO3.block _ (by omega) (by omega)).trans cA2
      have th3 := there_addr cA3
      simp only [av]
      go_wp2_with (with_reducible refine wpList_store_addr (op := ⟨none, _, _, _, _, _⟩) rfl (.tmp 2) (.tmp 12) rfl rfl rfl th3 ?_; intro w4 hR4 hO4)
      exact bodyPost_ret (results_addr rfl rfl hR4.out) rfl ⟨_, _, _, rfl, h3, hT3.only hO4 (by omega), only_two (hO.trans hO3) hO4 (Nat.le_refl _)⟩
end Go.Proofs.YtcmpdpcncjggkaaDoor
