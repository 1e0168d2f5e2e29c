/-
  read: the frame that bytes are read as.
-/
import Derived.Test.YtmbiophckeiehaaRdr2
import Derived.BigRegion
import Derived.Deep.DeepCutAuto
namespace Go.Proofs.Ytmbiophckeiehaa
open Go.RowKit
set_option linter.unusedSimpArgs false
set_option linter.unusedVariables false

def zH : Hd := ⟨0, false, false, false, 0, 0, 0, 0, 0, 0, 0, 0, 0, 0⟩
theorem and_flag (f : Nat) (hf : f < 256) : (bits .and .u64 (f : Int) 32 != 0) = decide (f / 32 % 2 = 1) ∧ (bits .and .u64 (f : Int) 16 != 0) = decide (f / 16 % 2 = 1) ∧ (bits .and .u64 (f : Int) 8 != 0) = decide (f / 8 % 2 = 1) := by
  have h : ∀ f : Fin 256, (bits .and .u64 (f.val : Int) 32 != 0) = decide (f.val / 32 % 2 = 1) ∧ (bits .and .u64 (f.val : Int) 16 != 0) = decide (f.val / 16 % 2 = 1) ∧ (bits .and .u64 (f.val : Int) 8 != 0) = decide (f.val / 8 % 2 = 1) := by decide +kernel
  exact h ⟨f, hf⟩

theorem Fk.set {w : World} {g : Nat} {h h' : Hd} {p m p' m' : Value} (e : Fk w g h p m) (j : Nat) (v : Value) (hs : (fvl h p m).toArray.setIfInBounds j v = (fvl h' p' m').toArray) : Fk (w.setCell ⟨g, j, none⟩ v) g h' p' m' := by
  have := heap_setCell_same w g j _ 31 v e
  unfold Fk
  rw [this, hs]
theorem Fk.there3 {w : World} {g o : Nat} {h : Hd} {p m : Value} (e : Fk w g h p m) (ho : o ≤ 13) : w.there g o 3 := by
  intro j hj
  refine ⟨?_, e.frozen (o + j)⟩
  rw [cell_of_row w g (o + j) _ _ _ e]
  simp [fvl]; omega
theorem Fk.setD {w : World} {g : Nat} {h : Hd} {p m : Value} (e : Fk w g h p m) (a s x : Int) : Fk (w.setCells g 6 [.int .i64 a, .int .u16 s, .int .u64 x]) g { h with dm := a, ds := s, dx := x } p m := by
  simp only [World.setCells]
  have h1 := e.set (h' := { h with dm := a }) (p' := p) (m' := m) 6 (.int .i64 a) rfl
  have h2 := h1.set (h' := { h with dm := a, ds := s }) (p' := p) (m' := m) 7 (.int .u16 s) rfl
  exact h2.set (h' := { h with dm := a, ds := s, dx := x }) (p' := p) (m' := m) 8 (.int .u64 x) rfl
theorem Fk.setS {w : World} {g : Nat} {h : Hd} {p m : Value} (e : Fk w g h p m) (a s x : Int) : Fk (w.setCells g 9 [.int .i64 a, .int .u16 s, .int .u64 x]) g { h with sm := a, ss := s, sx := x } p m := by
  simp only [World.setCells]
  have h1 := e.set (h' := { h with sm := a }) (p' := p) (m' := m) 9 (.int .i64 a) rfl
  have h2 := h1.set (h' := { h with sm := a, ss := s }) (p' := p) (m' := m) 10 (.int .u16 s) rfl
  exact h2.set (h' := { h with sm := a, ss := s, sx := x }) (p' := p) (m' := m) 11 (.int .u64 x) rfl
theorem rdr_new (w : World) (a : Option Addr) (len cap : Nat) (l : List UInt8) (h : IsB w a len cap l) : Rdr (w.alloc (.cells #[.slice a len cap] 74)) w.heap.size l :=
  ⟨a, len, cap, heap_alloc_new w _, h.below ((Below.refl _ _).alloc (Nat.le_refl _) _), fun x hx hc => ((h.cells x hx).1 hc).2⟩

theorem Gr.only {w w' : World} {B k : Nat} {v : Value} {l : List UInt8} (h : Gr w B v l) (hO : Only k w w') (hk : k < B) : Gr w' B v l := by
  refine ⟨h.1, ?_⟩
  rcases h.2 with h0 | ⟨g, cap, cur, hv, hB, hh, hr⟩
  · exact .inl h0
  · exact .inr ⟨g, cap, cur, hv, hB, by rw [hO.block g (Array.getElem?_eq_some_iff.1 hh).1 (by omega)]; exact hh, hr⟩

theorem lastV_all (l : List UInt8) (n : Nat) (h : l.length = n) : lastV l n = l := by unfold lastV; rw [h, Nat.sub_self]; rfl
/-- where read stands: the result's block, the reader, the frame -/
structure RS (w wi : World) (b6 : Nat) (hd : Hd) (p m : Value) (q : List UInt8) : Prop where
  below : Below w.heap.size w wi
  rdr : Rdr wi (w.heap.size + 1) q
  res : Fk wi w.heap.size zH (.slice none 0 0) (.slice none 0 0)
  fr : Fk wi b6 hd p m
  lt : w.heap.size + 1 < b6
theorem RS.size {w wi : World} {b6 : Nat} {hd : Hd} {p m : Value} {q : List UInt8} (h : RS w wi b6 hd p m q) : b6 < wi.heap.size := h.fr.lt
theorem RS.call {w wi wj : World} {b6 : Nat} {hd : Hd} {p m : Value} {q q' : List UInt8} (h : RS w wi b6 hd p m q) (hR : Rdr wj (w.heap.size + 1) q') (hO : Only (w.heap.size + 1) wi wj) : RS w wj b6 hd p m q' := by
  have h1 := h.lt
  have h2 := h.fr.lt
  exact ⟨h.below.trans (hO.below (Nat.le_succ _) h.below.size), hR, h.res.only hO h.res.lt (by omega), h.fr.only hO h2 (by omega), h1⟩
theorem RS.only {w wi wj : World} {b6 : Nat} {hd hd' : Hd} {p m p' m' : Value} {q : List UInt8} (h : RS w wi b6 hd p m q) (hO : Only b6 wi wj) (hK : Fk wj b6 hd' p' m') : RS w wj b6 hd' p' m' q := by
  have h1 := h.lt
  have h2 := h.fr.lt
  exact ⟨h.below.trans (hO.below (by omega) h.below.size), h.rdr.only hO h1, h.res.only hO h.res.lt (by omega), hK, h1⟩
theorem RS.set {w wi : World} {b6 : Nat} {hd : Hd} {p m : Value} {q : List UInt8} (h : RS w wi b6 hd p m q) (j : Nat) (v : Value) (hd' : Hd) (p' m' : Value) (hs : (fvl hd p m).toArray.setIfInBounds j v = (fvl hd' p' m').toArray) : RS w (wi.setCell ⟨b6, j, none⟩ v) b6 hd' p' m' q :=
  h.only (Only.set b6 j wi v) (h.fr.set j v hs)

/-- what read answers -/
def RetRead (l : List UInt8) (w : World) (e : Ending) (w' : World) : Prop :=
  ∃ p m, e = .returned (fv (readH l) p m) ∧ Gr w' w.heap.size p (readP l) ∧ Gr w' w.heap.size m (readM l) ∧ Below w.heap.size w w'

set_option maxHeartbeats 8000000 in
set_option maxRecDepth 100000 in
theorem read_any (a : Option Addr) (len cap : Nat) (l : List UInt8) (w : World) (hb : IsB w a len cap l) (hsm : len ≤ 1099511627776) :
    Calls Try.prog 42 #[.slice a len cap] w (RetRead l w) := by
  unfold RetRead
  have hlen := hb.length
  have h2 := Fk.new w zH (.slice none 0 0) (.slice none 0 0)
  have hB1 := (Below.refl w.heap.size w).alloc (Nat.le_refl _) (.cells #[.int .i64 0, .bool false, .bool false, .bool false, .int .u8 0, .int .u16 0, .int .i64 0, .int .u16 0, .int .u64 0, .int .i64 0, .int .u16 0, .int .u64 0, .int .u32 0, .int .u8 0, .slice none 0 0, .slice none 0 0] 31)
  have hb1 := hb.below hB1
  have hR := rdr_new (w.alloc (.cells #[.int .i64 0, .bool false, .bool false, .bool false, .int .u8 0, .int .u16 0, .int .i64 0, .int .u16 0, .int .u64 0, .int .i64 0, .int .u16 0, .int .u64 0, .int .u32 0, .int .u8 0, .slice none 0 0, .slice none 0 0] 31)) a len cap l hb1
  have hB2 := hB1.alloc hB1.size (.cells #[.slice a len cap] 74)
  have h2 := h2.below ((Below.refl (w.heap.size + 1) (w.alloc (.cells #[.int .i64 0, .bool false, .bool false, .bool false, .int .u8 0, .int .u16 0, .int .i64 0, .int .u16 0, .int .u64 0, .int .i64 0, .int .u16 0, .int .u64 0, .int .u32 0, .int .u8 0, .slice none 0 0, .slice none 0 0] 31))).alloc (by simp) (.cells #[.slice a len cap] 74)) (Nat.lt_succ_self _)
  have hs2 : ((w.alloc (.cells #[.int .i64 0, .bool false, .bool false, .bool false, .int .u8 0, .int .u16 0, .int .i64 0, .int .u16 0, .int .u64 0, .int .i64 0, .int .u16 0, .int .u64 0, .int .u32 0, .int .u8 0, .slice none 0 0, .slice none 0 0] 31)).alloc (.cells #[.slice a len cap] 74)).heap.size = w.heap.size + 2 := by simp
  rw [World.size_alloc] at hR
  go_enter Try.func42, Try.ntmps42
  go_wp2_with fail
  generalize hwd : (w.alloc _).alloc _ = w2 at *
  clear hwd hb1 hB1 hb
  have hlt := hR.lt
  have e7k : kindN l = 2 → r3 l = r7 l := fun h => by unfold r7; rw [if_pos h]
  have e7n : ¬kindN l = 2 → r6 l = r7 l := fun h => by unfold r7; rw [if_neg h]
  have m1 : ∀ w', Rdr w' (w.heap.size + 1) l → Calls Try.prog 59 #[.pointer (some ⟨w.heap.size + 1, 0, none⟩), .int .i64 1] w' (fun e w'' => e = .returned (.int .u64 (firstN l)) ∧ Rdr w'' (w.heap.size + 1) (r1 l) ∧ Only (w.heap.size + 1) w' w'') := fun w' h => number_any _ l 1 w' (by omega) h
  have m2 : ∀ w', Rdr w' (w.heap.size + 1) (r1 l) → Calls Try.prog 59 #[.pointer (some ⟨w.heap.size + 1, 0, none⟩), .int .i64 1] w' (fun e w'' => e = .returned (.int .u64 (modesN l)) ∧ Rdr w'' (w.heap.size + 1) (r2 l) ∧ Only (w.heap.size + 1) w' w'') := fun w' h => number_any _ (r1 l) 1 w' (by omega) h
  have m3 : ∀ w', Rdr w' (w.heap.size + 1) (r2 l) → Calls Try.prog 59 #[.pointer (some ⟨w.heap.size + 1, 0, none⟩), .int .i64 1] w' (fun e w'' => e = .returned (.int .u64 (seqN l)) ∧ Rdr w'' (w.heap.size + 1) (r3 l) ∧ Only (w.heap.size + 1) w' w'') := fun w' h => number_any _ (r2 l) 1 w' (by omega) h
  have m5 : ∀ w', Rdr w' (w.heap.size + 1) (r3 l) → Calls Try.prog 59 #[.pointer (some ⟨w.heap.size + 1, 0, none⟩), .int .i64 2] w' (fun e w'' => e = .returned (.int .u64 (numV (r3 l) 2)) ∧ Rdr w'' (w.heap.size + 1) (r4 l) ∧ Only (w.heap.size + 1) w' w'') := fun w' h => number_any _ (r3 l) 2 w' (by omega) h
  have m6 : ∀ w', Rdr w' (w.heap.size + 1) (r4 l) → Calls Try.prog 60 #[.pointer (some ⟨w.heap.size + 1, 0, none⟩), .int .u64 (modesN l)] w' (fun e w'' => e = .returned (.tuple #[rdA (dmOf (modesN l)) (numV (r4 l) (asz (dmOf (modesN l)))), rdA (smOf (modesN l)) (numV (r5 l) (asz (smOf (modesN l))))]) ∧ Rdr w'' (w.heap.size + 1) (r6 l) ∧ Only (w.heap.size + 1) w' w'') := fun w' h => addrs_any _ (r4 l) (modesN l) w' (numV_lt (r1 l) 1) h
  have m7 : ∀ w', Rdr w' (w.heap.size + 1) (r7 l) → Calls Try.prog 59 #[.pointer (some ⟨w.heap.size + 1, 0, none⟩), .int .i64 4] w' (fun e w'' => e = .returned (.int .u64 (numV (r7 l) 4)) ∧ Rdr w'' (w.heap.size + 1) (r8 l) ∧ Only (w.heap.size + 1) w' w'') := fun w' h => number_any _ (r7 l) 4 w' (by omega) h
  have m8 : ∀ w', Rdr w' (w.heap.size + 1) (r8 l) → Calls Try.prog 59 #[.pointer (some ⟨w.heap.size + 1, 0, none⟩), .int .i64 1] w' (fun e w'' => e = .returned (.int .u64 (numV (r8 l) 1)) ∧ Rdr w'' (w.heap.size + 1) (r9 l) ∧ Only (w.heap.size + 1) w' w'') := fun w' h => number_any _ (r8 l) 1 w' (by omega) h
  have hl9 : (r9 l).length ≤ l.length ∧ (r7 l).length ≤ l.length := by
    have h1 := numR_le l 1
    have h2 := numR_le (r1 l) 1
    have h3 := numR_le (r2 l) 1
    have h4 := numR_le (r3 l) 2
    have h5 := numR_le (r4 l) (asz (dmOf (modesN l) : Nat))
    have h6 := numR_le (r5 l) (asz (smOf (modesN l) : Nat))
    have h8 := numR_le (r7 l) 4
    have h9 := numR_le (r8 l) 1
    have d1 : (r1 l).length ≤ l.length := h1
    have d2 : (r2 l).length ≤ (r1 l).length := h2
    have d3 : (r3 l).length ≤ (r2 l).length := h3
    have d4 : (r4 l).length ≤ (r3 l).length := h4
    have d5 : (r5 l).length ≤ (r4 l).length := h5
    have d6 : (r6 l).length ≤ (r5 l).length := h6
    have d8 : (r8 l).length ≤ (r7 l).length := h8
    have d9 : (r9 l).length ≤ (r8 l).length := h9
    have h7 : (r7 l).length ≤ l.length := by
      by_cases hk : kindN l = 2
      · rw [← e7k hk]; omega
      · rw [← e7n hk]; omega
    exact ⟨by omega, h7⟩
  obtain ⟨hl9a, hl9b⟩ := hl9
  have m9 : ∀ w', Rdr w' (w.heap.size + 1) (r9 l) → Calls Try.prog 61 #[.pointer (some ⟨w.heap.size + 1, 0, none⟩), .int .i64 4] w' (fun e w'' => ∃ v, e = .returned v ∧ Gr w'' w'.heap.size v (lastV (r9 l) 4) ∧ Rdr w'' (w.heap.size + 1) (lastR (r9 l) 4) ∧ Only (w.heap.size + 1) w' w'') := fun w' h => last_any _ (r9 l) 4 w' (by omega) (by omega) h
  have hlR : (lastR (r9 l) 4).length ≤ l.length := by unfold lastR; rw [List.length_take]; omega
  have g1 : firstN l < 256 := numV_lt l 1
  have g3 : seqN l < 256 := numV_lt (r2 l) 1
  have g5 : numV (r3 l) 2 < 65536 := numV_lt (r3 l) 2
  have g7 : numV (r7 l) 4 < 4294967296 := numV_lt (r7 l) 4
  have g8 : numV (r8 l) 1 < 256 := numV_lt (r8 l) 1
  obtain ⟨a32, a16, a8⟩ := and_flag (firstN l) g1
  have HH : Hid (readH l = ⟨(kindN l : Int), decide (firstN l / 32 % 2 = 1), decide (firstN l / 16 % 2 = 1), secB l, (seqN l : Int),
      if kindN l = 2 then 0 else (numV (r3 l) 2 : Int), if kindN l = 2 then 0 else (dmOf (modesN l) : Int), if kindN l = 2 then 0 else adS (dmOf (modesN l)) (numV (r4 l) (asz (dmOf (modesN l) : Nat))), if kindN l = 2 then 0 else adX (dmOf (modesN l)) (numV (r4 l) (asz (dmOf (modesN l) : Nat))),
      if kindN l = 2 then 0 else (smOf (modesN l) : Int), if kindN l = 2 then 0 else adS (smOf (modesN l)) (numV (r5 l) (asz (smOf (modesN l) : Nat))), if kindN l = 2 then 0 else adX (smOf (modesN l)) (numV (r5 l) (asz (smOf (modesN l) : Nat))),
      if secB l then (numV (r7 l) 4 : Int) else 0, if secB l then (numV (r8 l) 1 : Int) else 0⟩) := hid rfl
  have HP : Hid (readP l = if secB l then lastR (r9 l) 4 else r7 l) := hid rfl
  have HM : Hid (readM l = if secB l then lastV (r9 l) 4 else []) := hid rfl
  have hkk : (firstN l : Int) / 64 = (kindN l : Int) := by unfold kindN; simp
  have hse0 : decide (firstN l / 8 % 2 = 1) = secB l := rfl
  rw [hse0] at a8
  clear hse0
  generalize secB l = SE at *
  generalize kindN l = kk at *
  generalize decide (firstN l / 32 % 2 = 1) = AR at *
  generalize decide (firstN l / 16 % 2 = 1) = PE at *
  generalize numV (r4 l) (asz (dmOf (modesN l) : Nat)) = y1 at *
  generalize numV (r5 l) (asz (smOf (modesN l) : Nat)) = y2 at *
  generalize dmOf (modesN l) = d at *
  generalize smOf (modesN l) = s at *
  generalize numV (r3 l) 2 = pn at *
  generalize numV (r7 l) 4 = ct at *
  generalize numV (r8 l) 1 = ky at *
  generalize firstN l = f1 at *
  generalize modesN l = md at *
  generalize seqN l = sq at *
  generalize r1 l = q1 at *
  generalize r2 l = q2 at *
  generalize r3 l = q3 at *
  generalize r4 l = q4 at *
  generalize r6 l = q6 at *
  generalize r7 l = q7 at *
  generalize r8 l = q8 at *
  generalize r9 l = q9 at *
  have w5 : IntKind.u16.wrap (pn : Int) = (pn : Int) := by simp [IntKind.wrap, IntKind.bits, IntKind.signed]; omega
  have w3 : IntKind.u8.wrap (sq : Int) = (sq : Int) := by simp [IntKind.wrap, IntKind.bits, IntKind.signed]; omega
  have w7 : IntKind.u32.wrap (ct : Int) = (ct : Int) := by simp [IntKind.wrap, IntKind.bits, IntKind.signed]; omega
  have w8 : IntKind.u8.wrap (ky : Int) = (ky : Int) := by simp [IntKind.wrap, IntKind.bits, IntKind.signed]; omega
  have op1 : OneC (.slice none 0 0) := rfl
  with_reducible refine (m1 _ hR).mono ?_
  rintro e w3' ⟨rfl, hR, hO⟩
  have h2 := h2.only hO (by omega) (by omega)
  have hB := hB2.trans (hO.below (Nat.le_succ _) hB2.size)
  have hs := Nat.le_trans (Nat.le_of_eq hs2.symm) hO.size
  go_wp2_with fail
  with_reducible refine (m2 _ hR).mono ?_
  rintro e w4' ⟨rfl, hR, hO⟩
  have h2 := h2.only hO (by omega) (by omega)
  have hB := hB.trans (hO.below (Nat.le_succ _) hB.size)
  have hs := Nat.le_trans hs hO.size
  go_wp2_with fail
  with_reducible refine (m3 _ hR).mono ?_
  rintro e w5' ⟨rfl, hR, hO⟩
  have h2 := h2.only hO (by omega) (by omega)
  have hB := hB.trans (hO.below (Nat.le_succ _) hB.size)
  have hs := Nat.le_trans hs hO.size
  clear hO
  have hK := Fk.new w5' ⟨(kk : Int), AR, PE, SE, (sq : Int), 0, 0, 0, 0, 0, 0, 0, 0, 0⟩ (.slice none 0 0) (.slice none 0 0)
  have hx := (Below.refl w5'.heap.size w5').alloc (Nat.le_refl _) (.cells (fvl ⟨(kk : Int), AR, PE, SE, (sq : Int), 0, 0, 0, 0, 0, 0, 0, 0, 0⟩ (.slice none 0 0) (.slice none 0 0)).toArray 31)
  have hS : RS w (w5'.alloc (.cells #[.int .i64 (kk : Int), .bool AR, .bool PE, .bool SE, .int .u8 (sq : Int), .int .u16 0, .int .i64 0, .int .u16 0, .int .u64 0, .int .i64 0, .int .u16 0, .int .u64 0, .int .u32 0, .int .u8 0, .slice none 0 0, .slice none 0 0] 31)) w5'.heap.size ⟨(kk : Int), AR, PE, SE, (sq : Int), 0, 0, 0, 0, 0, 0, 0, 0, 0⟩ (.slice none 0 0) (.slice none 0 0) q3 := ⟨hB.trans (hx.mono hB.size), hR.below hx, h2.below hx h2.lt, hK, by omega⟩
  clear hK hx hB hR h2 hs2 hB2 hlt m1 m2 m3
  go_upto_region 4 with (fail)
  generalize w5'.alloc _ = w6 at hS ⊢
  generalize hbd : w5'.heap.size = b6 at hS ⊢
  clear hbd g1 g3 a8 a32 a16 w3
  have hb6 := hS.lt
  by_cases hk : kk = 2
  · cases SE
    · rw [e7k hk] at hS
      have c0 := hS.fr.fr.cells.1
      have c3 := hS.fr.fr.cells.2.2.2.1
      dsimp only at c0 c3
      have hk2 : ((kk : Int) != 2) = false := by simp; omega
      obtain ⟨qa, qn, qc, hq1, hq2, hq3⟩ := hS.rdr
      have cq : w6.cell? ⟨w.heap.size + 1, 0, none⟩ = some (.slice qa qn qc) := by rw [cell_of_row w6 (w.heap.size + 1) 0 _ _ (0, 0) hq1]; rfl
      have hqn := hq2.length
      clear hq1 hq2 hq3
      go_wp2_with fail
      have mz := fun w' h => last_any (w.heap.size + 1) q7 qn w' (by omega) (by omega) h
      with_reducible refine (mz _ hS.rdr).mono ?_
      rintro e w7 ⟨vp, rfl, hGp, hR, hO⟩
      have hGp := hGp.mono (C := b6 + 1) hS.size
      have hS := hS.call hR hO
      clear hR hO mz cq
      obtain ⟨vpa, vpc, hvp⟩ := hGp.form
      generalize (lastV q7 qn).length = vpn at hvp
      subst hvp
      have hGp := ownsRow_setCell_below (a := ⟨b6, 14, none⟩) hGp (Nat.lt_succ_self b6) (.slice vpa vpn vpc)
      have c14 := hS.fr.fr.cells.2.2.2.2.2.2.2.2.2.2.2.2.2.2.1
      have f14 := hS.fr.frozen 14
      have hS2 := hS.set 14 (.slice vpa vpn vpc) ⟨(kk : Int), AR, PE, false, (sq : Int), 0, 0, 0, 0, 0, 0, 0, 0, 0⟩ (.slice vpa vpn vpc) (.slice none 0 0) rfl
      have hF2 := hS2.fr.fr
      have hK2 := hS2.res
      go_wp2_with (first | (refine wpList_load_frame (op := ⟨some 54, _, _, _, _, _⟩) rfl (.tmp 6) rfl rfl hF2 ?_) | (refine wpList_store_frame (op := ⟨none, _, _, _, _, _⟩) rfl (.tmp 2) (.tmp 54) rfl rfl rfl hK2 rfl rfl ?_; intro wz hRz hOz))
      have hGp := (Gr.only hGp hOz (by omega)).mono (C := w.heap.size) (by omega)

      refine bodyPost_ret (results_frame rfl rfl hRz.out) rfl ?_
      refine ⟨.slice vpa vpn vpc, .slice none 0 0, ?_, ?_, ?_, hS2.below.trans (hOz.below (Nat.le_refl _) hS2.below.size)⟩
      · rw [HH.out]; simp only [hk, if_true, if_false, Bool.false_eq_true, reduceCtorEq]
      · rw [HP.out]; simp only [if_true, if_false, Bool.false_eq_true]
        rw [lastV_all _ _ hqn] at hGp; exact hGp
      · rw [HM.out]; simp only [if_true, if_false, Bool.false_eq_true]
        exact Gr.nil _ _
    · rw [e7k hk] at hS
      have c0 := hS.fr.fr.cells.1
      have c3 := hS.fr.fr.cells.2.2.2.1
      dsimp only at c0 c3
      have hk2 : ((kk : Int) != 2) = false := by simp; omega
      go_wp2_with fail
      clear c0 c3
      with_reducible refine (m7 _ hS.rdr).mono ?_
      rintro e w7 ⟨rfl, hR, hO⟩
      have hS := hS.call hR hO
      clear hR hO
      have c12 := hS.fr.fr.cells.2.2.2.2.2.2.2.2.2.2.2.2.1
      dsimp only at c12
      have f12 := hS.fr.frozen 12
      go_wp2_with fail
      have hS := hS.set 12 (.int .u32 (ct : Int)) ⟨(kk : Int), AR, PE, true, (sq : Int), 0, 0, 0, 0, 0, 0, 0, (ct : Int), 0⟩ (.slice none 0 0) (.slice none 0 0) rfl
      generalize w7.setCell _ _ = w8 at hS ⊢
      clear c12 f12
      with_reducible refine (m8 _ hS.rdr).mono ?_
      rintro e w9 ⟨rfl, hR, hO⟩
      have hS := hS.call hR hO
      clear hR hO
      have c13 := hS.fr.fr.cells.2.2.2.2.2.2.2.2.2.2.2.2.2.1
      dsimp only at c13
      have f13 := hS.fr.frozen 13
      go_wp2_with fail
      have hS := hS.set 13 (.int .u8 (ky : Int)) ⟨(kk : Int), AR, PE, true, (sq : Int), 0, 0, 0, 0, 0, 0, 0, (ct : Int), (ky : Int)⟩ (.slice none 0 0) (.slice none 0 0) rfl
      generalize w9.setCell _ _ = w10 at hS ⊢
      clear c13 f13
      with_reducible refine (m9 _ hS.rdr).mono ?_
      rintro e w11 ⟨vm, rfl, hGm, hR, hO⟩
      have hGm := hGm.mono (C := b6 + 1) hS.size
      have hS := hS.call hR hO
      clear hR hO
      obtain ⟨vma, vmc, hvm⟩ := hGm.form
      generalize (lastV q9 4).length = vmn at hvm
      subst hvm
      have hGm := ownsRow_setCell_below (a := ⟨b6, 15, none⟩) hGm (Nat.lt_succ_self b6) (.slice vma vmn vmc)
      have c15 := hS.fr.fr.cells.2.2.2.2.2.2.2.2.2.2.2.2.2.2.2
      have f15 := hS.fr.frozen 15
      have hS2 := hS.set 15 (.slice vma vmn vmc) ⟨(kk : Int), AR, PE, true, (sq : Int), 0, 0, 0, 0, 0, 0, 0, (ct : Int), (ky : Int)⟩ (.slice none 0 0) (.slice vma vmn vmc) rfl
      obtain ⟨qa, qn, qc, hq1, hq2, hq3⟩ := hS2.rdr
      have cq : (w11.setCell ⟨b6, 15, none⟩ (.slice vma vmn vmc)).cell? ⟨w.heap.size + 1, 0, none⟩ = some (.slice qa qn qc) := by rw [cell_of_row (w11.setCell ⟨b6, 15, none⟩ (.slice vma vmn vmc)) (w.heap.size + 1) 0 _ _ (0, 0) hq1]; rfl
      have hqn := hq2.length
      clear hq1 hq2 hq3
      go_wp2_with fail
      clear hS
      have hS := hS2
      clear hS2
      generalize w11.setCell _ _ = w12 at *
      clear c15 f15
      have mz := fun w' h => last_any (w.heap.size + 1) (lastR q9 4) qn w' (by omega) (by omega) h
      with_reducible refine (mz _ hS.rdr).mono ?_
      rintro e w13 ⟨vp, rfl, hGp, hR, hO⟩
      have hGp := hGp.mono (C := b6 + 1) hS.size
      have hGm := Gr.only hGm hO (by omega)
      have hS := hS.call hR hO
      clear hR hO mz cq
      obtain ⟨vpa, vpc, hvp⟩ := hGp.form
      generalize (lastV (lastR q9 4) qn).length = vpn at hvp
      subst hvp
      have hGp := ownsRow_setCell_below (a := ⟨b6, 14, none⟩) hGp (Nat.lt_succ_self b6) (.slice vpa vpn vpc)
      have hGm := ownsRow_setCell_below (a := ⟨b6, 14, none⟩) hGm (Nat.lt_succ_self b6) (.slice vpa vpn vpc)
      have c14 := hS.fr.fr.cells.2.2.2.2.2.2.2.2.2.2.2.2.2.2.1
      have f14 := hS.fr.frozen 14
      have hS2 := hS.set 14 (.slice vpa vpn vpc) ⟨(kk : Int), AR, PE, true, (sq : Int), 0, 0, 0, 0, 0, 0, 0, (ct : Int), (ky : Int)⟩ (.slice vpa vpn vpc) (.slice vma vmn vmc) rfl
      have hF2 := hS2.fr.fr
      have hK2 := hS2.res
      go_wp2_with (first | (refine wpList_load_frame (op := ⟨some 54, _, _, _, _, _⟩) rfl (.tmp 6) rfl rfl hF2 ?_) | (refine wpList_store_frame (op := ⟨none, _, _, _, _, _⟩) rfl (.tmp 2) (.tmp 54) rfl rfl rfl hK2 rfl rfl ?_; intro wz hRz hOz))
      have hGp := (Gr.only hGp hOz (by omega)).mono (C := w.heap.size) (by omega)
      have hGm := (Gr.only hGm hOz (by omega)).mono (C := w.heap.size) (by omega)
      refine bodyPost_ret (results_frame rfl rfl hRz.out) rfl ?_
      refine ⟨.slice vpa vpn vpc, .slice vma vmn vmc, ?_, ?_, ?_, hS2.below.trans (hOz.below (Nat.le_refl _) hS2.below.size)⟩
      · rw [HH.out]; simp only [hk, if_true, if_false, Bool.false_eq_true, reduceCtorEq]
      · rw [HP.out]; simp only [if_true, if_false, Bool.false_eq_true]
        rw [lastV_all _ _ hqn] at hGp; exact hGp
      · rw [HM.out]; simp only [if_true, if_false, Bool.false_eq_true]
        exact hGm
  · cases SE
    · have c0 := hS.fr.fr.cells.1
      dsimp only at c0
      have hk2 : ((kk : Int) != 2) = true := by simp; omega
      go_wp2_with fail
      clear c0
      with_reducible refine (m5 _ hS.rdr).mono ?_
      rintro e w7 ⟨rfl, hR, hO⟩
      have hS := hS.call hR hO
      clear hR hO
      have c5 := hS.fr.fr.cells.2.2.2.2.2.1
      dsimp only at c5
      have f5 := hS.fr.frozen 5
      go_wp2_with fail
      have hS := hS.set 5 (.int .u16 (pn : Int)) ⟨(kk : Int), AR, PE, false, (sq : Int), (pn : Int), 0, 0, 0, 0, 0, 0, 0, 0⟩ (.slice none 0 0) (.slice none 0 0) rfl
      generalize w7.setCell _ _ = w8 at hS ⊢
      clear c5 f5
      with_reducible refine (m6 _ hS.rdr).mono ?_
      rintro e w9 ⟨rfl, hR, hO⟩
      have hS := hS.call hR hO
      clear hR hO
      simp only [rdA, av]
      have th6 := hS.fr.there3 (o := 6) (by omega)
      have hK6 := hS.fr.setD (d : Int) (adS d y1) (adX d y1)
      have hO6 := only_cells (g := b6) [.int .i64 (d : Int), .int .u16 (adS d y1), .int .u64 (adX d y1)] 6 w9 w9 (Only.refl _ w9)
      have th9 := hK6.there3 (o := 9) (by omega)
      have hK9 := hK6.setS (s : Int) (adS s y2) (adX s y2)
      have hO9 := hO6.trans (only_cells (g := b6) [.int .i64 (s : Int), .int .u16 (adS s y2), .int .u64 (adX s y2)] 9 _ _ (Only.refl _ _))
      have hSn : RS w _ b6 ⟨(kk : Int), AR, PE, false, (sq : Int), (pn : Int), (d : Int), (adS d y1), (adX d y1), (s : Int), (adS s y2), (adX s y2), 0, 0⟩ (.slice none 0 0) (.slice none 0 0) _ := hS.only hO9 hK9
      clear hK6 hO6 hK9 hO9 hS
      have hS := hSn
      clear hSn
      rw [e7n hk] at hS
      go_upto_region 7 with (first | (refine wpList_store_mid (op := ⟨none, _, _, _, _, _⟩) rfl 27 (.tmp 37) (.tmp 35) rfl b6 6 #[.int .i64 d, .int .u16 (adS d y1), .int .u64 (adX d y1)] rfl rfl th6 addr_info (by simp [Value.oneCell']) ?_) | (refine wpList_store_mid (op := ⟨none, _, _, _, _, _⟩) rfl 27 (.tmp 38) (.tmp 36) rfl b6 9 #[.int .i64 s, .int .u16 (adS s y2), .int .u64 (adX s y2)] rfl rfl th9 addr_info (by simp [Value.oneCell']) ?_))
      clear th6 th9
      generalize World.setCells (World.setCells _ _ _ _) _ _ _ = w10 at *
      have c3 := hS.fr.fr.cells.2.2.2.1
      dsimp only at c3
      obtain ⟨qa, qn, qc, hq1, hq2, hq3⟩ := hS.rdr
      have cq : w10.cell? ⟨w.heap.size + 1, 0, none⟩ = some (.slice qa qn qc) := by rw [cell_of_row w10 (w.heap.size + 1) 0 _ _ (0, 0) hq1]; rfl
      have hqn := hq2.length
      clear hq1 hq2 hq3
      go_wp2_with fail
      have mz := fun w' h => last_any (w.heap.size + 1) q7 qn w' (by omega) (by omega) h
      with_reducible refine (mz _ hS.rdr).mono ?_
      rintro e w11 ⟨vp, rfl, hGp, hR, hO⟩
      have hGp := hGp.mono (C := b6 + 1) hS.size
      have hS := hS.call hR hO
      clear hR hO mz cq
      obtain ⟨vpa, vpc, hvp⟩ := hGp.form
      generalize (lastV q7 qn).length = vpn at hvp
      subst hvp
      have hGp := ownsRow_setCell_below (a := ⟨b6, 14, none⟩) hGp (Nat.lt_succ_self b6) (.slice vpa vpn vpc)
      have c14 := hS.fr.fr.cells.2.2.2.2.2.2.2.2.2.2.2.2.2.2.1
      have f14 := hS.fr.frozen 14
      have hS2 := hS.set 14 (.slice vpa vpn vpc) ⟨(kk : Int), AR, PE, false, (sq : Int), (pn : Int), (d : Int), (adS d y1), (adX d y1), (s : Int), (adS s y2), (adX s y2), 0, 0⟩ (.slice vpa vpn vpc) (.slice none 0 0) rfl
      have hF2 := hS2.fr.fr
      have hK2 := hS2.res
      go_wp2_with (first | (refine wpList_load_frame (op := ⟨some 54, _, _, _, _, _⟩) rfl (.tmp 6) rfl rfl hF2 ?_) | (refine wpList_store_frame (op := ⟨none, _, _, _, _, _⟩) rfl (.tmp 2) (.tmp 54) rfl rfl rfl hK2 rfl rfl ?_; intro wz hRz hOz))
      have hGp := (Gr.only hGp hOz (by omega)).mono (C := w.heap.size) (by omega)

      refine bodyPost_ret (results_frame rfl rfl hRz.out) rfl ?_
      refine ⟨.slice vpa vpn vpc, .slice none 0 0, ?_, ?_, ?_, hS2.below.trans (hOz.below (Nat.le_refl _) hS2.below.size)⟩
      · rw [HH.out]; simp only [hk, if_true, if_false, Bool.false_eq_true, reduceCtorEq]
      · rw [HP.out]; simp only [if_true, if_false, Bool.false_eq_true]
        rw [lastV_all _ _ hqn] at hGp; exact hGp
      · rw [HM.out]; simp only [if_true, if_false, Bool.false_eq_true]
        exact Gr.nil _ _
    · have c0 := hS.fr.fr.cells.1
      dsimp only at c0
      have hk2 : ((kk : Int) != 2) = true := by simp; omega
      go_wp2_with fail
      clear c0
      with_reducible refine (m5 _ hS.rdr).mono ?_
      rintro e w7 ⟨rfl, hR, hO⟩
      have hS := hS.call hR hO
      clear hR hO
      have c5 := hS.fr.fr.cells.2.2.2.2.2.1
      dsimp only at c5
      have f5 := hS.fr.frozen 5
      go_wp2_with fail
      have hS := hS.set 5 (.int .u16 (pn : Int)) ⟨(kk : Int), AR, PE, true, (sq : Int), (pn : Int), 0, 0, 0, 0, 0, 0, 0, 0⟩ (.slice none 0 0) (.slice none 0 0) rfl
      generalize w7.setCell _ _ = w8 at hS ⊢
      clear c5 f5
      with_reducible refine (m6 _ hS.rdr).mono ?_
      rintro e w9 ⟨rfl, hR, hO⟩
      have hS := hS.call hR hO
      clear hR hO
      simp only [rdA, av]
      have th6 := hS.fr.there3 (o := 6) (by omega)
      have hK6 := hS.fr.setD (d : Int) (adS d y1) (adX d y1)
      have hO6 := only_cells (g := b6) [.int .i64 (d : Int), .int .u16 (adS d y1), .int .u64 (adX d y1)] 6 w9 w9 (Only.refl _ w9)
      have th9 := hK6.there3 (o := 9) (by omega)
      have hK9 := hK6.setS (s : Int) (adS s y2) (adX s y2)
      have hO9 := hO6.trans (only_cells (g := b6) [.int .i64 (s : Int), .int .u16 (adS s y2), .int .u64 (adX s y2)] 9 _ _ (Only.refl _ _))
      have hSn : RS w _ b6 ⟨(kk : Int), AR, PE, true, (sq : Int), (pn : Int), (d : Int), (adS d y1), (adX d y1), (s : Int), (adS s y2), (adX s y2), 0, 0⟩ (.slice none 0 0) (.slice none 0 0) _ := hS.only hO9 hK9
      clear hK6 hO6 hK9 hO9 hS
      have hS := hSn
      clear hSn
      rw [e7n hk] at hS
      go_upto_region 7 with (first | (refine wpList_store_mid (op := ⟨none, _, _, _, _, _⟩) rfl 27 (.tmp 37) (.tmp 35) rfl b6 6 #[.int .i64 d, .int .u16 (adS d y1), .int .u64 (adX d y1)] rfl rfl th6 addr_info (by simp [Value.oneCell']) ?_) | (refine wpList_store_mid (op := ⟨none, _, _, _, _, _⟩) rfl 27 (.tmp 38) (.tmp 36) rfl b6 9 #[.int .i64 s, .int .u16 (adS s y2), .int .u64 (adX s y2)] rfl rfl th9 addr_info (by simp [Value.oneCell']) ?_))
      clear th6 th9
      generalize World.setCells (World.setCells _ _ _ _) _ _ _ = w10 at *
      have c3 := hS.fr.fr.cells.2.2.2.1
      dsimp only at c3
      go_wp2_with fail
      clear c3
      with_reducible refine (m7 _ hS.rdr).mono ?_
      rintro e w11 ⟨rfl, hR, hO⟩
      have hS := hS.call hR hO
      clear hR hO
      have c12 := hS.fr.fr.cells.2.2.2.2.2.2.2.2.2.2.2.2.1
      dsimp only at c12
      have f12 := hS.fr.frozen 12
      go_wp2_with fail
      have hS := hS.set 12 (.int .u32 (ct : Int)) ⟨(kk : Int), AR, PE, true, (sq : Int), (pn : Int), (d : Int), (adS d y1), (adX d y1), (s : Int), (adS s y2), (adX s y2), (ct : Int), 0⟩ (.slice none 0 0) (.slice none 0 0) rfl
      generalize w11.setCell _ _ = w12 at hS ⊢
      clear c12 f12
      with_reducible refine (m8 _ hS.rdr).mono ?_
      rintro e w13 ⟨rfl, hR, hO⟩
      have hS := hS.call hR hO
      clear hR hO
      have c13 := hS.fr.fr.cells.2.2.2.2.2.2.2.2.2.2.2.2.2.1
      dsimp only at c13
      have f13 := hS.fr.frozen 13
      go_wp2_with fail
      have hS := hS.set 13 (.int .u8 (ky : Int)) ⟨(kk : Int), AR, PE, true, (sq : Int), (pn : Int), (d : Int), (adS d y1), (adX d y1), (s : Int), (adS s y2), (adX s y2), (ct : Int), (ky : Int)⟩ (.slice none 0 0) (.slice none 0 0) rfl
      generalize w13.setCell _ _ = w14 at hS ⊢
      clear c13 f13
      with_reducible refine (m9 _ hS.rdr).mono ?_
      rintro e w15 ⟨vm, rfl, hGm, hR, hO⟩
      have hGm := hGm.mono (C := b6 + 1) hS.size
      have hS := hS.call hR hO
      clear hR hO
      obtain ⟨vma, vmc, hvm⟩ := hGm.form
      generalize (lastV q9 4).length = vmn at hvm
      subst hvm
      have hGm := ownsRow_setCell_below (a := ⟨b6, 15, none⟩) hGm (Nat.lt_succ_self b6) (.slice vma vmn vmc)
      have c15 := hS.fr.fr.cells.2.2.2.2.2.2.2.2.2.2.2.2.2.2.2
      have f15 := hS.fr.frozen 15
      have hS2 := hS.set 15 (.slice vma vmn vmc) ⟨(kk : Int), AR, PE, true, (sq : Int), (pn : Int), (d : Int), (adS d y1), (adX d y1), (s : Int), (adS s y2), (adX s y2), (ct : Int), (ky : Int)⟩ (.slice none 0 0) (.slice vma vmn vmc) rfl
      obtain ⟨qa, qn, qc, hq1, hq2, hq3⟩ := hS2.rdr
      have cq : (w15.setCell ⟨b6, 15, none⟩ (.slice vma vmn vmc)).cell? ⟨w.heap.size + 1, 0, none⟩ = some (.slice qa qn qc) := by rw [cell_of_row (w15.setCell ⟨b6, 15, none⟩ (.slice vma vmn vmc)) (w.heap.size + 1) 0 _ _ (0, 0) hq1]; rfl
      have hqn := hq2.length
      clear hq1 hq2 hq3
      go_wp2_with fail
      clear hS
      have hS := hS2
      clear hS2
      generalize w15.setCell _ _ = w16 at *
      clear c15 f15
      have mz := fun w' h => last_any (w.heap.size + 1) (lastR q9 4) qn w' (by omega) (by omega) h
      with_reducible refine (mz _ hS.rdr).mono ?_
      rintro e w17 ⟨vp, rfl, hGp, hR, hO⟩
      have hGp := hGp.mono (C := b6 + 1) hS.size
      have hGm := Gr.only hGm hO (by omega)
      have hS := hS.call hR hO
      clear hR hO mz cq
      obtain ⟨vpa, vpc, hvp⟩ := hGp.form
      generalize (lastV (lastR q9 4) qn).length = vpn at hvp
      subst hvp
      have hGp := ownsRow_setCell_below (a := ⟨b6, 14, none⟩) hGp (Nat.lt_succ_self b6) (.slice vpa vpn vpc)
      have hGm := ownsRow_setCell_below (a := ⟨b6, 14, none⟩) hGm (Nat.lt_succ_self b6) (.slice vpa vpn vpc)
      have c14 := hS.fr.fr.cells.2.2.2.2.2.2.2.2.2.2.2.2.2.2.1
      have f14 := hS.fr.frozen 14
      have hS2 := hS.set 14 (.slice vpa vpn vpc) ⟨(kk : Int), AR, PE, true, (sq : Int), (pn : Int), (d : Int), (adS d y1), (adX d y1), (s : Int), (adS s y2), (adX s y2), (ct : Int), (ky : Int)⟩ (.slice vpa vpn vpc) (.slice vma vmn vmc) rfl
      have hF2 := hS2.fr.fr
      have hK2 := hS2.res
      go_wp2_with (first | (refine wpList_load_frame (op := ⟨some 54, _, _, _, _, _⟩) rfl (.tmp 6) rfl rfl hF2 ?_) | (refine wpList_store_frame (op := ⟨none, _, _, _, _, _⟩) rfl (.tmp 2) (.tmp 54) rfl rfl rfl hK2 rfl rfl ?_; intro wz hRz hOz))
      have hGp := (Gr.only hGp hOz (by omega)).mono (C := w.heap.size) (by omega)
      have hGm := (Gr.only hGm hOz (by omega)).mono (C := w.heap.size) (by omega)
      refine bodyPost_ret (results_frame rfl rfl hRz.out) rfl ?_
      refine ⟨.slice vpa vpn vpc, .slice vma vmn vmc, ?_, ?_, ?_, hS2.below.trans (hOz.below (Nat.le_refl _) hS2.below.size)⟩
      · rw [HH.out]; simp only [hk, if_true, if_false, Bool.false_eq_true, reduceCtorEq]
      · rw [HP.out]; simp only [if_true, if_false, Bool.false_eq_true]
        rw [lastV_all _ _ hqn] at hGp; exact hGp
      · rw [HM.out]; simp only [if_true, if_false, Bool.false_eq_true]
        exact hGm
end Go.Proofs.Ytmbiophckeiehaa
