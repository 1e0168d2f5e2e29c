import Derived.Test.YtjlogmbgapnceaaKnown03
import Derived.Test.YtjlogmbgapnceaaReg
import Derived.StillTailTactics
import Derived.RegionTactic
import Derived.Deep.RegionLaw
import Derived.Deep.RegionHeld3
namespace Go.Proofs.Ytjlogmbgapnceaa
open Go.RowKit

theorem zeros16 : #[Value.int .u8 0, .int .u8 0, .int .u8 0, .int .u8 0, .int .u8 0, .int .u8 0, .int .u8 0, .int .u8 0, .int .u8 0, .int .u8 0, .int .u8 0, .int .u8 0, .int .u8 0, .int .u8 0, .int .u8 0, .int .u8 0] = row (zeros 16) := rfl

theorem wpStill_load_key {ops : Array Oper} {w : World} {Q : Act → Prop} {rest : List Oper} {op : Oper} {a : Act} {g : Nat} {l : List UInt8} (hgd : op.guard = none) (x : Operand) (ho : op.op = .load 23 x)
    (hx : a.eval x = .pointer (some ⟨g, 0, none⟩)) (hK : Ky w g l) (hl : l.length = 16) (h : wpStill Try.prog ops w Q rest (a.put op.dst (kv l))) : wpStill Try.prog ops w Q (op :: rest) a := by
  refine wpStill_step fun K hK' => ?_
  rw [if_pos (by simp [Region.wanted, hgd])]
  have hr := hK.load hl
  unfold Oper.still
  have e : (execOp a.eval op).run Try.prog w = .ok (.value (kv l)) w := by
    unfold execOp
    simp only [ho, hx, Sem.run_bind, hr, Result.andThen_ok, Sem.run_pure]
  rw [e, Oper.stillUpon_value]
  exact hK' _ h

theorem Ky.drew {w : World} {g : Nat} {l : List UInt8} (h : Ky w g l) : Ky w.drew g l := h

/-- a guarded load of a key -/
theorem wpList_load_key_on {ops : Array Oper} {rest : List Oper} {op : Oper} {a : Act} {w : World} {Q : Exit → Act → World → Prop} {g : Nat} {l : List UInt8} (hw : Region.wanted op (yielded ops a.tmps) = true) (x : Operand) (ho : op.op = .load 23 x)
    (hx : a.eval x = .pointer (some ⟨g, 0, none⟩)) (hK : Ky w g l) (hl : l.length = 16)
    (h : wpList Try.prog ops Q rest (a.put op.dst (kv l)) w) : wpList Try.prog ops Q (op :: rest) a w := by
  unfold wpList
  rw [if_pos hw]
  exact .inl (wp_load_mid 23 x ho g 0 hx (l.map bv) _ hK.range Try.underlying23 rfl (by rw [List.length_map, hl]; exact key_info) h)

theorem splice_all (l : List UInt8) (h : l.length = 16) : splice (zeros 16) 0 l = l := by
  simp [splice, h, zeros]

theorem asc16 (w : World) : Calls Try.prog 19 #[.int .i64 16] w fun e w' => ∃ v, e = .returned v ∧ Gr w' w.heap.size v (asc 16) ∧ Below w.heap.size w w' := ascending_any 16 w (by omega)
theorem asc15 (w : World) : Calls Try.prog 19 #[.int .i64 15] w fun e w' => ∃ v, e = .returned v ∧ Gr w' w.heap.size v (asc 15) ∧ Below w.heap.size w w' := ascending_any 15 w (by omega)

/-- 'copy(k[i:], b)' as a step of a region that draws its order -/
theorem step_copy_key {w : World} {ops : Array Oper} {o : Oper} {a : Act} {K : Act → World → Prop} {Q : Exit → Act → World → Prop} {E : Prop} (hgd : o.guard = none) (d s : Operand)
    (ho : o.op = .call { callee := .builtin .copy, args := #[d, s], argTypes := #[24, 24] })
    (g off dLen dCap : Nat) (sp : Option Addr) (sLen sCap : Nat) (hd : a.eval d = .slice (some ⟨g, off, none⟩) dLen dCap) (hs : a.eval s = .slice sp sLen sCap)
    (cur l : List UInt8) (hg : Ky w g cur) (hb : IsB w sp sLen sCap l) (hfit : sLen ≤ dLen) (hlen : off + sLen ≤ cur.length) (B : Nat) (w0 : World) (hb0 : Below B w0 w) (hBg : B ≤ g)
    (h : ∀ w', Hid (Ky w' g (splice cur off l)) → Below B w0 w' → K (a.put o.dst (goInt l.length)) w') :
    if Region.wanted o (yielded ops a.tmps) = true then Oper.wp Try.prog o a w K Q else E := by
  refine step_copy_splice hgd d s 24 24 ho 5 Try.underlying24 size5 (some ⟨g, off, none⟩) sp dLen dCap sLen sCap hd hs g off (cur.map bv) 23 hg (l.map bv) ?_ ?_ ?_ ?_ B w0 hb0 hBg ?_
  · rw [List.length_map, hb.length]; exact (Nat.min_eq_left hfit).symm
  · intro hp
    refine ⟨rfl, ?_⟩
    obtain ⟨b, off, rfl, _, hc⟩ := hb.some (by rw [List.length_map, hb.length] at hp; exact hp)
    refine ⟨_, rfl, fun j v hj => ?_⟩
    have hjl : j < l.length := by
      by_cases hq : j < l.length
      · exact hq
      · simp [hq] at hj
    have hx := hc j (by rw [← hb.length]; exact hjl)
    simp [hjl, bv] at hj
    subst hj
    simp only [List.getD_eq_getElem?_getD, hjl, List.getElem?_eq_getElem, Option.getD_some] at hx
    by_cases h0 : j = 0
    · subst h0; simpa [Addr.add] using hx
    · simpa [Addr.add, h0] using hx
  · simp [hb.length]; exact hlen
  · intro v hv; simp at hv; obtain ⟨x, _, rfl⟩ := hv; rfl
  · intro w' h1 h2
    simp only [List.length_map]
    refine h w' (hid ?_) h2
    have h1 := h1.out
    unfold Ky
    rw [h1]
    simp [splice, row]

theorem sum_one (a : Option Addr) (cap : Nat) (w : World) (hb : IsB w a 15 cap (asc 15)) :
    Calls Try.prog 9 #[kv (asc 16), .slice a 15 cap] w (RetS (.int .u64 11613035633349379557) w) := by
  have h := sum_any (asc 16) a 15 cap (asc 15) w (length_asc 16) hb
  rw [sip_one] at h
  exact h
theorem sum_two (w : World) :
    Calls Try.prog 9 #[kv (asc 16), .slice none 0 0] w (RetS (.int .u64 8246050544436514353) w) := by
  have h := sum_any (asc 16) none 0 0 [] w (length_asc 16) ⟨rfl, Nat.le_refl _, by omega, by omega, fun _ => ⟨rfl, rfl⟩, by simp⟩
  rw [sip_two] at h
  exact h

set_option maxRecDepth 100000 in
set_option maxHeartbeats 2000000 in
theorem known_any (w : World) : Calls Try.prog 8 #[] w (RetS (.bool true) w) := by
  have HK := hid (Ky.zero w)
  have hB := (Below.refl w.heap.size w).alloc (Nat.le_refl _) (.cells (row (zeros 16)) 23)
  have hsz : (w.alloc (.cells (row (zeros 16)) 23)).heap.size = w.heap.size + 1 := by simp
  go_enter Try.func8, Try.ntmps8
  go_wp2_with fail
  rw [zeros16]
  generalize w.alloc (.cells (row (zeros 16)) 23) = w1 at *
  have hu := Try.underlying23
  have hi : (Try.prog.info? 23).map (·.size) = some ((asc 16).map bv).length := by rw [List.length_map, length_asc]; exact key_info
  go_region_held3 (fun w' => Below w.heap.size w w') (first | exact below_drewN hB 1 | exact hB | exact B2 | exact B3)
    (first
      | (go_at_call 19; refine (asc16 _).mono ?_; rintro e w2 ⟨v, rfl, hG, hb2⟩; obtain ⟨a, cap, rfl, J⟩ := hG.isB (by rw [length_asc]; omega); rw [length_asc] at *; have K2 := HK.out.drew.below hb2 HK.out.drew.lt; have B2 := (below_drewN hB 1).trans (hb2.mono (by simp; omega)))
      | (refine step_copy_key rfl (.tmp 2) (.tmp 3) rfl w.heap.size 0 16 16 a 16 cap rfl rfl (zeros 16) (asc 16) K2 J (Nat.le_refl _) (by rw [length_zeros]; omega) w.heap.size w B2 (Nat.le_refl _) ?_; intro w3 K3 B3))
  rw [splice_all (asc 16) (length_asc 16)] at K3
  clear HK hB hsz J hG K2 B2 hb2 hu hi
  go_wp2_with fail
  refine wp_region_held_drew (S := fun w' => Below w.heap.size w w' ∧ w'.rangeAt w.heap.size 0 ((asc 16).map bv)) (by kernel_rfl) (⟨below_drewN B3 1, K3.out.drew.range⟩) (fun hHeld => ?_)
  refine wpAnyH_key (i := 0) (oi := ⟨some 5, _, _, _, _, _⟩) rfl (by kernel_rfl) (by kernel_rfl) (by kernel_rfl) (fun _ _ _ h => h) (by rfl) (.tmp 1) rfl rfl (length_asc 16) (fun _ h => h.2) hHeld ?_
  try simp only [Act.put, List.setIfInBounds_toArray, List.set_cons_zero, List.set_cons_succ]
  refine wpAnyH_ready (rs := [1]) (by kernel_rfl) (by simp) ?_
  refine AllReadyH.cons (o := ⟨some 6, _, _, _, _, _⟩) rfl (fun K hK => ?_) AllReadyH.nil
  go_simp
  with_reducible refine (asc15 _).mono ?_
  rintro e w4 ⟨v, rfl, hG, hb4⟩
  obtain ⟨a, cap, rfl, J⟩ := hG.isB (by rw [length_asc]; omega)
  rw [length_asc] at J ⊢
  have K4 := K3.out.drew.below hb4 K3.out.drew.lt
  have B4 := (below_drewN B3 1).trans (hb4.mono B3.size)
  go_wp2_with fail
  clear hHeld
  refine hK.out _ _ (⟨B4, K4.range⟩) (fun hHeld => ?_)
  clear hK K
  try simp only [Act.put, List.setIfInBounds_toArray, List.set_cons_zero, List.set_cons_succ]
  refine wpAnyH_ready (rs := [2]) (by kernel_rfl) (by simp) ?_
  refine AllReadyH.cons (o := ⟨some 7, _, _, _, _, _⟩) rfl (fun K hK => ?_) AllReadyH.nil
  go_simp
  with_reducible refine (sum_one a cap _ J).mono ?_
  rintro e w5 ⟨rfl, hb5⟩
  have K5 := K4.below hb5 K4.lt
  have B5 := B4.trans (hb5.mono B4.size)
  go_wp2_with fail
  clear hHeld
  refine hK.out _ _ (⟨B5, K5.range⟩) (fun hHeld => ?_)
  clear hK K
  try simp only [Act.put, List.setIfInBounds_toArray, List.set_cons_zero, List.set_cons_succ]
  refine wpAnyH_take (i := 3) (oi := ⟨some 8, _, _, _, _, _⟩) (v := ?_) rfl (by kernel_rfl) (by kernel_rfl) (by kernel_rfl) (fun _ _ _ h => h) (Or.inl ⟨by rfl, ?_⟩) hHeld ?_
  rotate_left
  · intro w hSw; go_simp; try with_reducible rfl
  try simp only [Act.put, List.setIfInBounds_toArray, List.set_cons_zero, List.set_cons_succ]
  refine wpAnyH_take (i := 4) (oi := ⟨some 9, _, _, _, _, _⟩) (v := ?_) rfl (by kernel_rfl) (by kernel_rfl) (by kernel_rfl) (fun _ _ _ h => h) (Or.inl ⟨by rfl, ?_⟩) hHeld ?_
  rotate_left
  · intro w hSw; go_simp; try with_reducible rfl
  try simp only [Act.put, List.setIfInBounds_toArray, List.set_cons_zero, List.set_cons_succ]
  refine wpAnyH_key (i := 5) (oi := ⟨some 10, _, _, _, _, _⟩) rfl (by kernel_rfl) (by kernel_rfl) (by kernel_rfl) (fun _ _ _ h => h) (by rfl) (.tmp 1) rfl rfl (length_asc 16) (fun _ h => h.2) hHeld ?_
  try simp only [Act.put, List.setIfInBounds_toArray, List.set_cons_zero, List.set_cons_succ]
  refine wpAnyH_ready (rs := [6]) (by kernel_rfl) (by simp) ?_
  refine AllReadyH.cons (o := ⟨some 11, _, _, _, _, _⟩) rfl (fun K hK => ?_) AllReadyH.nil
  go_simp
  with_reducible refine (sum_two _).mono ?_
  rintro e w6 ⟨rfl, hb6⟩
  have K6 := K5.below hb6 K5.lt
  have B6 := B5.trans (hb6.mono B5.size)
  go_wp2_with fail
  clear hHeld
  refine hK.out _ _ (⟨B6, K6.range⟩) (fun hHeld => ?_)
  clear hK K
  try simp only [Act.put, List.setIfInBounds_toArray, List.set_cons_zero, List.set_cons_succ]
  refine wpAnyH_take (i := 7) (oi := ⟨some 12, _, _, _, _, _⟩) (v := ?_) rfl (by kernel_rfl) (by kernel_rfl) (by kernel_rfl) (fun _ _ _ h => h) (Or.inl ⟨by rfl, ?_⟩) hHeld ?_
  rotate_left
  · intro w hSw; go_simp; try with_reducible rfl
  try simp only [Act.put, List.setIfInBounds_toArray, List.set_cons_zero, List.set_cons_succ]
  refine wpAnyH_take (i := 8) (oi := ⟨some 13, _, _, _, _, _⟩) (v := ?_) rfl (by kernel_rfl) (by kernel_rfl) (by kernel_rfl) (fun _ _ _ h => h) (Or.inl ⟨by rfl, ?_⟩) hHeld ?_
  rotate_left
  · intro w hSw; go_simp; try with_reducible rfl
  try simp only [Act.put, List.setIfInBounds_toArray, List.set_cons_zero, List.set_cons_succ]
  refine wpAnyH_take (i := 9) (oi := ⟨some 0, _, _, _, _, _⟩) (v := ?_) rfl (by kernel_rfl) (by kernel_rfl) (by kernel_rfl) (fun _ _ _ h => h) (Or.inl ⟨by rfl, ?_⟩) hHeld ?_
  rotate_left
  · intro w hSw; go_simp; try with_reducible rfl
  try simp only [Act.put, List.setIfInBounds_toArray, List.set_cons_zero, List.set_cons_succ]
  refine wpAnyH_done (by kernel_rfl) ?_ _
  go_wp2_with fail
  go_ret
  exact ⟨rfl, B6⟩
end Go.Proofs.Ytjlogmbgapnceaa
