/-
  firstToEnd, without, Record.
-/
import Derived.Test.YtcmpdpcncjggkaaDoorPru
namespace Go.Proofs.YtcmpdpcncjggkaaDoor
open Go.RowKit
set_option linter.unusedSimpArgs false
set_option linter.unusedVariables false

/-- the first one of the first n entries with the least time -/
def leastTo (l : List Ent) : Nat → Nat
  | 0 => 0
  | n + 1 => if (l.getD n dE).u < (l.getD (leastTo l n) dE).u then n else leastTo l n
theorem leastTo_lt (l : List Ent) : ∀ n, leastTo l n ≤ n - 1
  | 0 => Nat.le_refl _
  | n + 1 => by
    have := leastTo_lt l n
    rw [leastTo]; split <;> omega
def evict (p : List Ent) : List Ent := if p.length = 32 then p.take (leastTo p 32) ++ p.drop (leastTo p 32 + 1) else p
/-- what Record says -/
def recR (l : List Ent) (m s e q now : Int) : List Ent × Bool × Int :=
  if senderB m s e then
    (if (pruneR l now).2 = 0 then
      (if hasF (pruneR l now).1 m s e q then ((pruneR l now).1, false, 0)
       else (evict (pruneR l now).1 ++ [⟨m, s, e, q, min (now + 16) 1099511627776⟩], true, 0))
     else ((pruneR l now).1, false, (pruneR l now).2))
  else ([], false, 1)

set_option maxHeartbeats 4000000 in
set_option maxRecDepth 100000 in
theorem first_any (a : Option Addr) (len cap : Nat) (l : List Ent) (w : World) (hI : IsE w a len cap l) :
    Calls Tryd.prog 30 #[.slice a len cap] w (RetS (.int .i64 (leastTo l len : Nat)) w) := by
  have hle := hI.le
  have hmx := hI.max
  go_enter Tryd.func30, Tryd.ntmps30
  go_wp2_with fail
  go_loopw [3, 8] (fun u t wr => ∃ i k : Nat, i ≤ len ∧ t = .int .i64 i ∧ u = .int .i64 k ∧ Hid (k = leastTo l i) ∧ Below w.heap.size w wr) (fun _ t _ => len - (intOf t).toNat)
  case atStart => exact ⟨0, 0, Nat.zero_le _, rfl, rfl, hid rfl, Below.refl _ _⟩
  case round =>
    obtain ⟨i, k, hi, rfl, rfl, hf, hB⟩ := hrel
    by_cases hlt : i < len
    · obtain ⟨b, off, rfl, hb, hc⟩ := hI.some (by omega)
      have hk : k < len := by have := leastTo_lt l i; have := hf.out; omega
      have hK := rangeAt_below (hc i hlt) hB hb
      have hJ := rangeAt_below (hc k hk) hB hb
      clear hc
      generalize hx : l.getD i dE = x at hK
      generalize hy : l.getD k dE = y at hJ
      have HX := hid hx
      have HY := hid hy
      clear hx hy
      obtain ⟨k0, k1, k2, k3, k4⟩ := el_cells hK
      obtain ⟨j0, j1, j2, j3, j4⟩ := el_cells hJ
      have hB2 := hB.alloc hB.size (.cells #[.int .i64 x.m, .int .u16 x.s, .int .u64 x.e, .int .u8 x.q, .int .i64 x.u] 36)
      have hba := (Below.refl wr.heap.size wr).alloc (Nat.le_refl _) (.cells #[.int .i64 x.m, .int .u16 x.s, .int .u64 x.e, .int .u8 x.q, .int .i64 x.u] 36)
      have hJ2 := rangeAt_below hJ hba (Nat.lt_of_lt_of_le hb hB.size)
      obtain ⟨i0, i1, i2, i3, i4⟩ := el_cells hJ2
      have hx4 : (wr.alloc (.cells #[.int .i64 x.m, .int .u16 x.s, .int .u64 x.e, .int .u8 x.q, .int .i64 x.u] 36)).rangeAt wr.heap.size 0 (el x) := el_heap (heap_alloc_new wr _)
      obtain ⟨x0, x1, x2, x3, x4⟩ := el_cells hx4
      simp only [Nat.zero_add] at x0 x1 x2 x3 x4
      clear hK hJ hJ2 hba hx4
      by_cases hxy : x.u < y.u
      · go_wp2_with fail
        go_quiet (fail)
        go_wp2_with fail
        go_roundw
        case rel => exact ⟨i + 1, i, by omega, by go_num, rfl, hid (by rw [leastTo, ← hf.out, HX.out, HY.out, if_pos hxy]), below_drewN hB2 _⟩
        case measure => simp [intOf]; omega
      · go_wp2_with fail
        go_quiet (fail)
        go_wp2_with fail
        go_roundw
        case rel => exact ⟨i + 1, k, by omega, by go_num, rfl, hid (by rw [leastTo, ← hf.out, HX.out, HY.out, if_neg (by omega)]), below_drewN hB2 _⟩
        case measure => simp [intOf]; omega
    · obtain rfl : i = len := by omega
      go_wp2_with fail
      go_ret
      exact ⟨ret_int (by rw [hf.out]), hB⟩

/-- such a slice may be appended to: it is the call's own, or full -/
def OneE (w : World) (B : Nat) (v : Value) (l : List Ent) : Prop := GrE w B v l ∨ ∃ a, v = .slice a l.length l.length ∧ IsE w a l.length l.length l

theorem wp_append_full {w : World} {o : Oper} {a : Act} {K : Act → World → Prop} {Q : Exit → Act → World → Prop} (s x : Operand)
    (ho : o.op = .call { callee := .builtin .append, args := #[s, x], argTypes := #[22, 22] })
    (b off n : Nat) (hs : a.eval s = .slice (some ⟨b, off, none⟩) n n) (ad : Addr) (m c : Nat) (hx : a.eval x = .slice (some ad) m c)
    (B : Nat) (l k : List Ent) (hI : IsE w (some ⟨b, off, none⟩) n n l) (hb : IsE w (some ad) m c k) (hlen : n + m ≤ 1000000) (w0 : World) (hb0 : Below B w0 w) (hBw : B ≤ w.heap.size)
    (h : ∀ v' w', Hid (OneE w' B v' (l ++ k)) → Below B w0 w' → K (a.put o.dst v') w') :
    o.wp Tryd.prog a w K Q := by
  obtain ⟨i0, hi, hz0, hz1, hz2⟩ := info_parts ent_info3
  have hml := hb.length
  have hl := hI.length
  rcases Nat.eq_zero_or_pos m with h0 | h0
  · subst h0
    obtain rfl := List.eq_nil_of_length_eq_zero hml
    have hrun := run_append_room_cells (P := Tryd.prog) w 22 o.type 36 i0 Tryd.underlying22 hi b off n n ad 0 c [] (by simp) (by simp) (by simp) (Nat.le_refl _) (by simp) (by simp)
    unfold Oper.wp
    simp only [execOp, ho, resolve, invoke, builtin, hs, hx, Sem.run_bind, Sem.run_pure, Result.andThen_ok, List.map_toArray, List.map_cons, List.map_nil, hrun]
    refine h _ _ (hid (.inr ⟨some ⟨b, off, none⟩, ?_, ?_⟩)) hb0
    · simp [hl]
    · subst hl
      simpa [World.setCells] using hI
  · obtain ⟨v', w', h1, h2, h3⟩ := run_append_arg_grows (P := Tryd.prog) w 22 o.type 36 i0 (ev dE) 5 40 Tryd.underlying22 hi hz0 hz1 hz2 rfl (by decide) ⟨b, off, none⟩ n n (fl l) (by rw [length_fl, hl]) (newsE hI) ad m c (fl k) (by rw [length_fl, hml]) (newsE hb) (by omega) (by unfold maxLen; omega) (by omega)
    unfold Oper.wp
    simp only [execOp, ho, resolve, invoke, builtin, hs, hx, Sem.run_bind, Sem.run_pure, Result.andThen_ok, List.map_toArray, List.map_cons, List.map_nil, h1]
    refine h _ _ (hid (.inl ?_)) (hb0.grown h3 hBw (fun k hk => by cases hk))
    have e : n + m = (l ++ k).length := by simp [hml, hl]
    rw [e, ← fl_append] at h2
    exact GrE.mono h2 hBw

theorem step_append_full {w : World} {ops : Array Oper} {o : Oper} {a : Act} {K : Act → World → Prop} {Q : Exit → Act → World → Prop} {E : Prop} (hgd : o.guard = none) (s x : Operand)
    (ho : o.op = .call { callee := .builtin .append, args := #[s, x], argTypes := #[22, 22] })
    (b off n : Nat) (hs : a.eval s = .slice (some ⟨b, off, none⟩) n n) (ad : Addr) (m c : Nat) (hx : a.eval x = .slice (some ad) m c)
    (B : Nat) (l k : List Ent) (hI : IsE w (some ⟨b, off, none⟩) n n l) (hb : IsE w (some ad) m c k) (hlen : n + m ≤ 1000000) (w0 : World) (hb0 : Below B w0 w) (hBw : B ≤ w.heap.size)
    (h : ∀ v' w', Hid (OneE w' B v' (l ++ k)) → Below B w0 w' → K (a.put o.dst v') w') :
    if Region.wanted o (yielded ops a.tmps) = true then Oper.wp Tryd.prog o a w K Q else E := by
  rw [if_pos (by simp [Region.wanted, hgd])]
  exact wp_append_full s x ho b off n hs ad m c hx B l k hI hb hlen w0 hb0 hBw h

theorem wp_append_one {w : World} {o : Oper} {a : Act} {K : Act → World → Prop} {Q : Exit → Act → World → Prop} (s x : Operand)
    (ho : o.op = .call { callee := .builtin .append, args := #[s, x], argTypes := #[22, 22] })
    (v : Value) (hs : a.eval s = v) (ad : Addr) (m c : Nat) (hx : a.eval x = .slice (some ad) m c)
    (B : Nat) (l k : List Ent) (hO : OneE w B v l) (hb : IsE w (some ad) m c k) (hm : 0 < m) (hlen : l.length + m ≤ 1000000) (w0 : World) (hb0 : Below B w0 w) (hBw : B ≤ w.heap.size)
    (h : ∀ v' w', Hid (GrE w' B v' (l ++ k)) → Below B w0 w' → K (a.put o.dst v') w') :
    o.wp Tryd.prog a w K Q := by
  rcases hO with hG | ⟨p, rfl, hI⟩
  · exact wp_append_ents s x ho v hs (some ad) m c hx B l k hG hb hlen w0 hb0 hBw (fun v' w' h1 h2 _ => h v' w' h1 h2)
  · cases p with
    | none =>
      obtain ⟨h0, _⟩ := hI.nil rfl
      obtain rfl := List.eq_nil_of_length_eq_zero h0
      exact wp_append_ents s x ho _ hs (some ad) m c hx B [] k (GrE.nil _ _) hb hlen w0 hb0 hBw (fun v' w' h1 h2 _ => h v' w' h1 h2)
    | some p =>
      obtain ⟨i0, hi, hz0, hz1, hz2⟩ := info_parts ent_info3
      have hml := hb.length
      obtain ⟨v', w', h1, h2, h3⟩ := run_append_arg_grows (P := Tryd.prog) w 22 o.type 36 i0 (ev dE) 5 40 Tryd.underlying22 hi hz0 hz1 hz2 rfl (by decide) p l.length l.length (fl l) (by rw [length_fl]) (newsE hI) ad m c (fl k) (by rw [length_fl, hml]) (newsE hb) (by omega) (by unfold maxLen; omega) (by omega)
      unfold Oper.wp
      simp only [execOp, ho, resolve, invoke, builtin, hs, hx, Sem.run_bind, Sem.run_pure, Result.andThen_ok, List.map_toArray, List.map_cons, List.map_nil, h1]
      refine h _ _ (hid ?_) (hb0.grown h3 hBw (fun k hk => by cases hk))
      have e : l.length + m = (l ++ k).length := by simp [hml]
      rw [e, ← fl_append] at h2
      exact GrE.mono h2 hBw

theorem wpList_append_one {w : World} {ops : Array Oper} {rest : List Oper} {o : Oper} {a : Act} {Q : Exit → Act → World → Prop} (hgd : o.guard = none) (s x : Operand)
    (ho : o.op = .call { callee := .builtin .append, args := #[s, x], argTypes := #[22, 22] })
    (v : Value) (hs : a.eval s = v) (ad : Addr) (m c : Nat) (hx : a.eval x = .slice (some ad) m c)
    (B : Nat) (l k : List Ent) (hO : OneE w B v l) (hb : IsE w (some ad) m c k) (hm : 0 < m) (hlen : l.length + m ≤ 1000000) (w0 : World) (hb0 : Below B w0 w) (hBw : B ≤ w.heap.size)
    (h : ∀ v' w', Hid (GrE w' B v' (l ++ k)) → Below B w0 w' → wpList Tryd.prog ops Q rest (a.put o.dst v') w') :
    wpList Tryd.prog ops Q (o :: rest) a w :=
  wpList_plain hgd fun _ hK => wp_append_one s x ho v hs ad m c hx B l k hO hb hm hlen w0 hb0 hBw fun v' w' h1 h2 => hK _ _ (h v' w' h1 h2)
theorem step_append_one {w : World} {ops : Array Oper} {o : Oper} {a : Act} {K : Act → World → Prop} {Q : Exit → Act → World → Prop} {E : Prop} (hgd : o.guard = none) (s x : Operand)
    (ho : o.op = .call { callee := .builtin .append, args := #[s, x], argTypes := #[22, 22] })
    (v : Value) (hs : a.eval s = v) (ad : Addr) (m c : Nat) (hx : a.eval x = .slice (some ad) m c)
    (B : Nat) (l k : List Ent) (hO : OneE w B v l) (hb : IsE w (some ad) m c k) (hm : 0 < m) (hlen : l.length + m ≤ 1000000) (w0 : World) (hb0 : Below B w0 w) (hBw : B ≤ w.heap.size)
    (h : ∀ v' w', Hid (GrE w' B v' (l ++ k)) → Below B w0 w' → K (a.put o.dst v') w') :
    if Region.wanted o (yielded ops a.tmps) = true then Oper.wp Tryd.prog o a w K Q else E := by
  rw [if_pos (by simp [Region.wanted, hgd])]
  exact wp_append_one s x ho v hs ad m c hx B l k hO hb hm hlen w0 hb0 hBw h
end Go.Proofs.YtcmpdpcncjggkaaDoor
