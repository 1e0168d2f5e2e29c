/-
  The reference's header of a frame.
-/
import Derived.Test.YtmbiophckeiehaaFp6
import Derived.Test.YtmbiophckeiehaaRefApp
import Derived.Test.YtmbiophckeiehaaAdReg
import Derived.BigRegion
import Derived.Deep.DeepCutAuto
namespace Go.Proofs.Ytmbiophckeiehaa
open Go.RowKit
set_option linter.unusedSimpArgs false
set_option linter.unusedVariables false

theorem flag_any (b : Bool) (v : Nat) (w : World) :
    Calls Try.prog 52 #[.bool b, .int .i64 v] w (Ret (.int .i64 (b2i b v)) w) := by
  cases b
  all_goals go_enter Try.func52, Try.ntmps52
  all_goals go_wp2_with fail
  all_goals go_ret
  all_goals exact ⟨rfl, rfl⟩

/-- the post: 'it returns some slice that holds l, of blocks from B on' -/
def RetGB (B : Nat) (l : List UInt8) (w : World) (e : Ending) (w' : World) : Prop := ∃ v, e = .returned v ∧ Gr w' B v l ∧ Below w.heap.size w w'

theorem rapp2 (a : Option Addr) (len cap : Nat) (l : List UInt8) (v : Int) (w : World) (hb : IsB w a len cap l) (hroom : len + 2 ≤ 140737488355328) (hu : U64 v) :
    Calls Try.prog 53 #[.slice a len cap, .int .u64 v, .int .i64 2] w (RetG (l ++ beBytes v.toNat 2) w) := by
  unfold U64 at hu
  obtain ⟨v, rfl⟩ := Int.eq_ofNat_of_zero_le hu.1
  exact refApp_any a len cap l v 2 w hb hroom (by omega) (by omega)
theorem rapp4 (a : Option Addr) (len cap : Nat) (l : List UInt8) (v : Int) (w : World) (hb : IsB w a len cap l) (hroom : len + 4 ≤ 140737488355328) (hu : U64 v) :
    Calls Try.prog 53 #[.slice a len cap, .int .u64 v, .int .i64 4] w (RetG (l ++ beBytes v.toNat 4) w) := by
  unfold U64 at hu
  obtain ⟨v, rfl⟩ := Int.eq_ofNat_of_zero_le hu.1
  exact refApp_any a len cap l v 4 w hb hroom (by omega) (by omega)
theorem rapp8 (a : Option Addr) (len cap : Nat) (l : List UInt8) (v : Int) (w : World) (hb : IsB w a len cap l) (hroom : len + 8 ≤ 140737488355328) (hu : U64 v) :
    Calls Try.prog 53 #[.slice a len cap, .int .u64 v, .int .i64 8] w (RetG (l ++ beBytes v.toNat 8) w) := by
  unfold U64 at hu
  obtain ⟨v, rfl⟩ := Int.eq_ofNat_of_zero_le hu.1
  exact refApp_any a len cap l v 8 w hb hroom (by omega) (by omega)

set_option maxHeartbeats 2000000 in
set_option maxRecDepth 100000 in
theorem raddr_app (B : Nat) (a : Option Addr) (len cap : Nat) (l : List UInt8) (m s x : Int) (w : World) (hG : Gr w B (.slice a len cap) l) (hBw : B ≤ w.heap.size) (hlen : l.length = len) (hroom : len ≤ 1000000) (h3 : Ad3 m s x) :
    Calls Try.prog 54 #[.slice a len cap, av m s x] w (RetGB B (l ++ adL m s x) w) := by
  obtain ⟨_, h5, h6⟩ := h3
  unfold U64 at h6
  subst hlen
  obtain ⟨s, rfl⟩ := Int.eq_ofNat_of_zero_le h5.1
  obtain ⟨x, rfl⟩ := Int.eq_ofNat_of_zero_le h6.1
  have hB := (Below.refl w.heap.size w).alloc (Nat.le_refl _) (.cells #[.int .i64 m, .int .u16 (s : Int), .int .u64 (x : Int)] 27)
  have hsz := hB.size
  obtain ⟨a1, c1, e1, hI⟩ := (hG.below hB).isB (by omega)
  cases e1
  have hG := hG.below hB
  simp only [av]
  by_cases h2 : m = 2
  · have hL : adL m s x = beBytes s 2 := by unfold adL; rw [if_pos h2, Int.toNat_natCast]
    have hw : IntKind.u64.wrap (s : Int) = (s : Int) := by rw [IntKind.wrap_u64]; omega
    rw [hL]
    subst h2
    go_enter Try.func54, Try.ntmps54
    go_wp2_with fail
    generalize w.alloc _ = w1 at *
    with_reducible refine (rapp2 a l.length cap l s _ hI (by omega) (by unfold U64; omega)).mono ?_
    rintro e w2 ⟨v, rfl, hGv, hb⟩
    go_wp2_with fail
    go_ret
    exact ⟨v, rfl, hGv.mono (by omega), hB.trans (hb.mono hB.size)⟩
  · by_cases h3 : m = 3
    · have hL : adL m s x = beBytes x 8 := by unfold adL; rw [if_neg h2, if_pos h3, Int.toNat_natCast]
      rw [hL]
      subst h3
      go_enter Try.func54, Try.ntmps54
      go_wp2_with fail
      generalize w.alloc _ = w1 at *
      with_reducible refine (rapp8 a l.length cap l x _ hI (by omega) (by unfold U64; omega)).mono ?_
      rintro e w2 ⟨v, rfl, hGv, hb⟩
      go_wp2_with fail
      go_ret
      exact ⟨v, rfl, hGv.mono (by omega), hB.trans (hb.mono hB.size)⟩
    · have hL : adL m s x = [] := by unfold adL; rw [if_neg h2, if_neg h3]
      rw [hL, List.append_nil]
      go_enter Try.func54, Try.ntmps54
      go_wp2_with fail
      go_ret
      exact ⟨_, rfl, hG, hB⟩

theorem Fr.dst {w : World} {g : Nat} {h : Hd} {p m : Value} (e : Fr w g h p m) : w.rangeAt g 6 (avl h.dm h.ds h.dx) := by
  intro j v hj
  have hk3 : j < 3 := (List.getElem?_eq_some_iff.1 hj).1
  have := e (6 + j) v (by rcases (by omega : j = 0 ∨ j = 1 ∨ j = 2) with rfl | rfl | rfl <;> exact hj)
  rwa [Nat.zero_add] at this
theorem Fr.src {w : World} {g : Nat} {h : Hd} {p m : Value} (e : Fr w g h p m) : w.rangeAt g 9 (avl h.sm h.ss h.sx) := by
  intro j v hj
  have hk3 : j < 3 := (List.getElem?_eq_some_iff.1 hj).1
  have := e (9 + j) v (by rcases (by omega : j = 0 ∨ j = 1 ∨ j = 2) with rfl | rfl | rfl <;> exact hj)
  rwa [Nat.zero_add] at this

set_option maxHeartbeats 8000000 in
set_option maxRecDepth 100000 in
theorem rheader_any (h : Hd) (a : Option Addr) (n c : Nat) (P : List UInt8) (m : Value) (w : World) (hv : HVal h) (hJ : IsB w a n c P) (hn : n ≤ 140737488355000) :
    Calls Try.prog 36 #[fv h (.slice a n c) m] w (RetG (headL h P) w) := by
  obtain ⟨q, hq⟩ := Int.eq_ofNat_of_zero_le hv.k.1
  obtain ⟨d, hd⟩ := Int.eq_ofNat_of_zero_le hv.dm.1
  obtain ⟨s, hsm⟩ := Int.eq_ofNat_of_zero_le hv.sm.1
  have hk4 := hv.k.2
  have hd4 := hv.dm.2
  have hs4 := hv.sm.2
  have l1 : ∀ (b : Bool) (v : Nat), b2i b v ≤ v := fun b v => by unfold b2i; split <;> omega
  have z1 := l1 h.ar 32
  have z2 := l1 h.pe 16
  have z3 := l1 h.se 8
  have f1 := fun w => flag_any h.ar 32 w
  have f2 := fun w => flag_any h.pe 16 w
  have f3 := fun w => flag_any h.se 8 w
  have e1 : ((firstB h).toNat : Int) = ((64 * q + b2i h.ar 32 + b2i h.pe 16 + b2i h.se 8 : Nat) : Int) % 256 := by
    unfold firstB
    rw [hq, UInt8.toNat_ofNat']; rfl
  have e2 : ((modesB h).toNat : Int) = ((64 * d + 16 * s : Nat) : Int) % 256 := by
    unfold modesB
    rw [hd, hsm, UInt8.toNat_ofNat']; rfl
  have HROW : Hid (row [firstB h, modesB h, UInt8.ofNat h.sq.toNat] = #[.int .u8 (64 * (q : Int) + (b2i h.ar 32 : Int) + (b2i h.pe 16 : Int) + (b2i h.se 8 : Int)), .int .u8 (64 * (d : Int) + 16 * (s : Int)), .int .u8 h.sq]) := hid (by
    rw [show 64 * (q : Int) + (b2i h.ar 32 : Int) + (b2i h.pe 16 : Int) + (b2i h.se 8 : Int) = ((firstB h).toNat : Int) from by omega, show 64 * (d : Int) + 16 * (s : Int) = ((modesB h).toNat : Int) from by omega]
    have := hv.ok.sq
    have e : Value.int .u8 h.sq = bv (UInt8.ofNat h.sq.toNat) := by
      simp only [bv, UInt8.toNat_ofNat']
      congr 1; omega
    rw [e]; rfl)
  clear e1 e2 l1
  generalize b2i h.ar 32 = y1 at *
  generalize b2i h.pe 16 = y2 at *
  generalize b2i h.se 8 = y3 at *
  have hF := (Fk.new w h (.slice a n c) m).fr
  have hB := (Below.refl w.heap.size w).alloc (Nat.le_refl _) (.cells (fvl h (.slice a n c) m).toArray 31)
  have hJ := hJ.below hB
  have c0 := hF.cells.1
  have k1 := hF.cells.2.1
  have k2 := hF.cells.2.2.1
  have k3 := hF.cells.2.2.2.1
  have c4 := hF.cells.2.2.2.2.1
  have c6 := hF.cells.2.2.2.2.2.2.1
  have c9 := hF.cells.2.2.2.2.2.2.2.2.2.1
  rw [hq] at c0
  rw [hd] at c6
  rw [hsm] at c9
  rw [show fv h (.slice a n c) m = .agg (fvl h (.slice a n c) m).toArray from rfl]
  go_enter Try.func36, Try.ntmps36
  go_upto_region 1 with (fail)
  generalize w.alloc _ = w1 at *
  go_wp2_with fail
  go_quiet ((go_at_call 52; first | exact Calls.quiet_of_same ((f1 _).mono fun e w' h => ⟨h.1, h.2.symm⟩) | exact Calls.quiet_of_same ((f2 _).mono fun e w' h => ⟨h.1, h.2.symm⟩) | exact Calls.quiet_of_same ((f3 _).mono fun e w' h => ⟨h.1, h.2.symm⟩)))
  go_upto_region 3 with (fail)
  have hdr := below_drewN (Below.refl w1.heap.size w1) nq
  have hF := hF.below hdr hF.lt
  have hJ := hJ.below hdr
  have hB := hB.trans (hdr.mono hB.size)
  have hs1 := hB.size
  have hO6 := Own.new (w1.drewN nq) [firstB h, modesB h, UInt8.ofNat h.sq.toNat]
  rw [HROW.out] at hO6
  have hx := (Below.refl (w1.drewN nq).heap.size (w1.drewN nq)).alloc (Nat.le_refl _) (.cells #[.int .u8 (64 * (q : Int) + (y1 : Int) + (y2 : Int) + (y3 : Int)), .int .u8 (64 * (d : Int) + 16 * (s : Int)), .int .u8 h.sq] 5)
  have hF := hF.below hx hF.lt
  have hJ := hJ.below hx
  have hB := hB.trans (hx.mono hB.size)
  have hG := hO6.gr hs1 (by simp)
  rw [World.heap_drewN] at hG
  clear hO6 hdr hx hs1
  obtain ⟨R6, hR6d⟩ : ∃ R, R = [firstB h, modesB h, UInt8.ofNat h.sq.toNat] := ⟨_, rfl⟩
  have hl6 : R6.length = 3 := by rw [hR6d]; rfl
  have H6 := hid hR6d
  rw [← hR6d, hl6] at hG
  clear hR6d c0 k1 k2 k3 c4 c6 c9 f1 f2 f3 HROW
  generalize (w1.drewN nq).alloc _ = w6 at *
  generalize w1.heap.size = g6 at *
  have hs := hB.size
  have HKY : Hid (row [UInt8.ofNat h.ky.toNat] = #[.int .u8 h.ky]) := hid (by
    have := hv.ok.ky
    have e : Value.int .u8 h.ky = bv (UInt8.ofNat h.ky.toNat) := by
      simp only [bv, UInt8.toNat_ofNat']
      congr 1; omega
    rw [e]; rfl)
  have hky1 : beBytes h.ky.toNat 1 = [UInt8.ofNat h.ky.toNat] := by simp [beBytes, beByte]
  have HK1 := hid hky1
  clear hky1
  have upn : U64 h.pn := by have := hv.ok.pn; unfold U64; omega
  have uct : U64 h.ct := by have := hv.ok.ct; unfold U64; omega
  have wpn : IntKind.u64.wrap h.pn = h.pn := by have := hv.ok.pn; rw [IntKind.wrap_u64]; omega
  have wct : IntKind.u64.wrap h.ct = h.ct := by have := hv.ok.ct; rw [IntKind.wrap_u64]; omega
  have ja := raddr_app
  simp only [av] at ja
  have hlP := hJ.length
  obtain ⟨v6, hv6⟩ : ∃ v, v = Value.slice (some ⟨g6, 0, none⟩) 3 3 := ⟨_, rfl⟩
  rw [← hv6] at hG ⊢
  clear hv6
  obtain ⟨xa6, xc6, ex6, hI6⟩ := hG.isB (by omega)
  subst ex6
  replace hl6 := Nat.le_of_eq hl6
  clear hq hd hsm hk4 hd4 hs4 z1 z2 z3
  by_cases hk : h.k = 2
  · cases hse : h.se
    · have c0 := hF.cells.1
      have c3 := hF.cells.2.2.2.1
      rw [hse] at c3
      rw [hk] at c0
      have hG : Gr _ w.heap.size (.slice xa6 R6.length xc6) R6 := hG
      have c14 := hF.cells.2.2.2.2.2.2.2.2.2.2.2.2.2.2.1
      go_wp2_with (with_reducible refine wpList_append_bytes (o := ⟨some 64, _, _, _, _, _⟩) rfl (.tmp 61) (.tmp 63) rfl (.slice xa6 R6.length xc6) rfl a n c rfl w.heap.size R6 P hG hJ (by omega) w hB hs ?_; intro vz wz hGz hBz _)
      go_ret
      refine ⟨vz, rfl, ?_, hBz⟩
      have e : headL h P = R6 ++ P := by
        unfold headL preL
        rw [if_pos hk, hse, HK1.out, H6.out]
        simp [List.append_assoc]
      rw [e]; exact hGz.out
    · have c0 := hF.cells.1
      have c3 := hF.cells.2.2.2.1
      rw [hse] at c3
      rw [hk] at c0
      go_wp2_with fail
      clear c3
      clear c0
      refine wp_region_held_drew (S := fun w' => Below w6.heap.size w6 w') (by kernel_rfl) (below_drewN (Below.refl _ _) 1) (fun hHeld => ?_)
      have hd0 := hHeld
      generalize w6.drew = u0 at hHeld hd0 ⊢
      refine wpAnyH_take (i := 0) (oi := ⟨some 52, _, _, _, _, _⟩) (v := ?_) rfl (by kernel_rfl) (by kernel_rfl) (by kernel_rfl) (fun _ _ _ h => h) (Or.inl ⟨by rfl, ?_⟩) hHeld ?_
      rotate_left
      · intro w hSw; have c12 := (hF.below hSw hF.lt).cells.2.2.2.2.2.2.2.2.2.2.2.2.1; have c13 := (hF.below hSw hF.lt).cells.2.2.2.2.2.2.2.2.2.2.2.2.2.1; go_simp; try with_reducible rfl
      try simp only [Act.put, List.setIfInBounds_toArray, List.set_cons_zero, List.set_cons_succ]
      refine wpAnyH_take (i := 1) (oi := ⟨some 53, _, _, _, _, _⟩) (v := ?_) rfl (by kernel_rfl) (by kernel_rfl) (by kernel_rfl) (fun _ _ _ h => h) (Or.inl ⟨by rfl, ?_⟩) hHeld ?_
      rotate_left
      · intro w hSw; have c12 := (hF.below hSw hF.lt).cells.2.2.2.2.2.2.2.2.2.2.2.2.1; have c13 := (hF.below hSw hF.lt).cells.2.2.2.2.2.2.2.2.2.2.2.2.2.1; go_simp; try with_reducible rfl
      try simp only [Act.put, List.setIfInBounds_toArray, List.set_cons_zero, List.set_cons_succ]
      refine wpAnyH_take (i := 2) (oi := ⟨some 54, _, _, _, _, _⟩) (v := ?_) rfl (by kernel_rfl) (by kernel_rfl) (by kernel_rfl) (fun _ _ _ h => h) (Or.inl ⟨by rfl, ?_⟩) hHeld ?_
      rotate_left
      · intro w hSw; have c12 := (hF.below hSw hF.lt).cells.2.2.2.2.2.2.2.2.2.2.2.2.1; have c13 := (hF.below hSw hF.lt).cells.2.2.2.2.2.2.2.2.2.2.2.2.2.1; go_simp; try with_reducible rfl
      try simp only [Act.put, List.setIfInBounds_toArray, List.set_cons_zero, List.set_cons_succ]
      refine wpAnyH_take (i := 3) (oi := ⟨some 55, _, _, _, _, _⟩) (v := ?_) rfl (by kernel_rfl) (by kernel_rfl) (by kernel_rfl) (fun _ _ _ h => h) (Or.inl ⟨by rfl, ?_⟩) hHeld ?_
      rotate_left
      · intro w hSw; have c12 := (hF.below hSw hF.lt).cells.2.2.2.2.2.2.2.2.2.2.2.2.1; have c13 := (hF.below hSw hF.lt).cells.2.2.2.2.2.2.2.2.2.2.2.2.2.1; go_simp; try with_reducible rfl
      try simp only [Act.put, List.setIfInBounds_toArray, List.set_cons_zero, List.set_cons_succ]
      refine wpAnyH_take (i := 5) (oi := ⟨some 57, _, _, _, _, _⟩) (v := ?_) rfl (by kernel_rfl) (by kernel_rfl) (by kernel_rfl) (fun _ _ _ h => h) (Or.inl ⟨by rfl, ?_⟩) hHeld ?_
      rotate_left
      · intro w hSw; have c12 := (hF.below hSw hF.lt).cells.2.2.2.2.2.2.2.2.2.2.2.2.1; have c13 := (hF.below hSw hF.lt).cells.2.2.2.2.2.2.2.2.2.2.2.2.2.1; go_simp; try with_reducible rfl
      try simp only [Act.put, List.setIfInBounds_toArray, List.set_cons_zero, List.set_cons_succ]
      refine wpAnyH_take (i := 6) (oi := ⟨some 58, _, _, _, _, _⟩) (v := ?_) rfl (by kernel_rfl) (by kernel_rfl) (by kernel_rfl) (fun _ _ _ h => h) (Or.inl ⟨by rfl, ?_⟩) hHeld ?_
      rotate_left
      · intro w hSw; have c12 := (hF.below hSw hF.lt).cells.2.2.2.2.2.2.2.2.2.2.2.2.1; have c13 := (hF.below hSw hF.lt).cells.2.2.2.2.2.2.2.2.2.2.2.2.2.1; go_simp; try with_reducible rfl
      try simp only [Act.put, List.setIfInBounds_toArray, List.set_cons_zero, List.set_cons_succ]
      refine wpAnyH_ready (rs := [4, 7]) (by kernel_rfl) (by simp) ?_
      refine AllReadyH.cons (o := ⟨some 56, _, _, _, _, _⟩) rfl ?_ (AllReadyH.cons (o := ⟨some 59, _, _, _, _, _⟩) rfl ?_ AllReadyH.nil)
      · intro K hK
        go_simp
        have hIu := hI6.below hHeld
        with_reducible refine (rapp4 xa6 R6.length xc6 R6 _ _ hIu (by omega) uct).mono ?_
        rintro e4 u4 ⟨x7, rfl, hGn, hb4⟩
        have hQ4 := hHeld.trans (hb4.mono hHeld.size)
        have hGn := hGn.mono hHeld.size
        have q8 : (beBytes h.ct.toNat 4).length ≤ 8 := by rw [length_beBytes]; omega
        have hl7 : (R6 ++ beBytes h.ct.toNat 4).length ≤ R6.length + 8 := by rw [List.length_append]; omega
        clear q8
        obtain ⟨R7, hR7⟩ : ∃ R, R = R6 ++ beBytes h.ct.toNat 4 := ⟨_, rfl⟩
        rw [← hR7] at hGn hl7
        have HR7 := hid hR7
        clear hR7
        have hGc := hGn
        clear hGn
        go_wp2_with fail
        clear hHeld
        refine hK.out _ _ hQ4 (fun hHeld => ?_)
        clear hK K
        try simp only [Act.put, List.setIfInBounds_toArray, List.set_cons_zero, List.set_cons_succ]
        refine wpAnyH_ready (rs := [7]) (by kernel_rfl) (by simp) ?_
        refine AllReadyH.cons (o := ⟨some 59, _, _, _, _, _⟩) rfl (fun K hK => ?_) AllReadyH.nil
        go_simp
        have hx := (Below.refl u4.heap.size u4).alloc (Nat.le_refl _) (.cells #[.int .u8 h.ky] 5)
        have hIk := (Own.new u4 [UInt8.ofNat h.ky.toNat]).isB (by simp)
        rw [HKY.out] at hIk
        have hGc := hGc.below hx
        have hQ7 := hQ4.trans (hx.mono hQ4.size)
        clear hHeld
        refine hK.out _ _ hQ7 (fun hHeld => ?_)
        clear hK K hx hQ4 hb4
        try simp only [Act.put, List.setIfInBounds_toArray, List.set_cons_zero, List.set_cons_succ]
        generalize hu4 : u4.heap.size = bk at *
        clear hu4
        generalize u4.alloc _ = u5 at *
        refine wpAnyH_ready (rs := [8]) (by kernel_rfl) (by simp) ?_
        refine AllReadyH.cons (o := ⟨some 60, _, _, _, _, _⟩) rfl (fun K hK => ?_) AllReadyH.nil
        refine step_append_bytes rfl (.tmp 56) (.tmp 59) rfl x7 rfl (some ⟨bk, 0, none⟩) 1 1 rfl w6.heap.size R7 [UInt8.ofNat h.ky.toNat] hGc hIk (by omega) w6 hHeld hHeld.size ?_
        intro x8 wq hGq hBq hNq
        refine hK.out _ _ hBq (fun hHeld => ?_)
        clear hK K hNq hBq
        try simp only [Act.put, List.setIfInBounds_toArray, List.set_cons_zero, List.set_cons_succ]
        refine wpAnyH_take (i := 9) (oi := ⟨some 4, _, _, _, _, _⟩) (v := ?_) rfl (by kernel_rfl) (by kernel_rfl) (by kernel_rfl) (fun _ _ _ h => h) (Or.inl ⟨by rfl, ?_⟩) hHeld ?_
        rotate_left
        · intro w hSw; go_simp; try with_reducible rfl
        try simp only [Act.put, List.setIfInBounds_toArray, List.set_cons_zero, List.set_cons_succ]
        refine wpAnyH_done (by kernel_rfl) ?_ _
        have hGn := hGq.out.mono hs
        have q8 : ([UInt8.ofNat h.ky.toNat]).length ≤ 8 := by simp
        have hl8 : (R7 ++ [UInt8.ofNat h.ky.toNat]).length ≤ R7.length + 8 := by rw [List.length_append]; omega
        clear q8
        obtain ⟨R8, hR8⟩ : ∃ R, R = R7 ++ [UInt8.ofNat h.ky.toNat] := ⟨_, rfl⟩
        rw [← hR8] at hGn hl8
        have HR8 := hid hR8
        clear hR8
        have hF := hF.below hHeld hF.lt
        have hJ := hJ.below hHeld
        have hB := hB.trans (hHeld.mono hB.size)
        have hs := hB.size
        clear hG
        have hG := hGn
        clear hGn
        have c14 := hF.cells.2.2.2.2.2.2.2.2.2.2.2.2.2.2.1
        go_wp2_with (with_reducible refine wpList_append_bytes (o := ⟨some 64, _, _, _, _, _⟩) rfl (.tmp 61) (.tmp 63) rfl x8 rfl a n c rfl w.heap.size R8 P hG hJ (by omega) w hB hs ?_; intro vz wz hGz hBz _)
        go_ret
        refine ⟨vz, rfl, ?_, hBz⟩
        have e : headL h P = R8 ++ P := by
          unfold headL preL
          rw [if_pos hk, hse, HK1.out, HR8.out, HR7.out, H6.out]
          simp [List.append_assoc]
        rw [e]; exact hGz.out
      · intro K hK
        go_simp
        have hx := (Below.refl u0.heap.size u0).alloc (Nat.le_refl _) (.cells #[.int .u8 h.ky] 5)
        have hIk := (Own.new u0 [UInt8.ofNat h.ky.toNat]).isB (by simp)
        rw [HKY.out] at hIk
        have hQ7 := hd0.trans (hx.mono hd0.size)
        clear hHeld hd0
        refine hK.out _ _ hQ7 (fun hHeld => ?_)
        clear hK K hx
        try simp only [Act.put, List.setIfInBounds_toArray, List.set_cons_zero, List.set_cons_succ]
        generalize hu4 : u0.heap.size = bk at *
        clear hu4
        generalize u0.alloc _ = u5 at *
        refine wpAnyH_ready (rs := [4]) (by kernel_rfl) (by simp) ?_
        refine AllReadyH.cons (o := ⟨some 56, _, _, _, _, _⟩) rfl (fun K hK => ?_) AllReadyH.nil
        go_simp
        have hIu := hI6.below hHeld
        with_reducible refine (rapp4 xa6 R6.length xc6 R6 _ _ hIu (by omega) uct).mono ?_
        rintro e4 u6 ⟨x7, rfl, hGn, hb4⟩
        have hQ4 := hHeld.trans (hb4.mono hHeld.size)
        have hGn := hGn.mono hHeld.size
        have q8 : (beBytes h.ct.toNat 4).length ≤ 8 := by rw [length_beBytes]; omega
        have hl7 : (R6 ++ beBytes h.ct.toNat 4).length ≤ R6.length + 8 := by rw [List.length_append]; omega
        clear q8
        obtain ⟨R7, hR7⟩ : ∃ R, R = R6 ++ beBytes h.ct.toNat 4 := ⟨_, rfl⟩
        rw [← hR7] at hGn hl7
        have HR7 := hid hR7
        clear hR7
        have hGc := hGn
        clear hGn
        have hIk := hIk.below hb4
        go_wp2_with fail
        clear hHeld hQ7
        refine hK.out _ _ hQ4 (fun hHeld => ?_)
        clear hK K
        try simp only [Act.put, List.setIfInBounds_toArray, List.set_cons_zero, List.set_cons_succ]
        clear hQ4 hb4
        refine wpAnyH_ready (rs := [8]) (by kernel_rfl) (by simp) ?_
        refine AllReadyH.cons (o := ⟨some 60, _, _, _, _, _⟩) rfl (fun K hK => ?_) AllReadyH.nil
        refine step_append_bytes rfl (.tmp 56) (.tmp 59) rfl x7 rfl (some ⟨bk, 0, none⟩) 1 1 rfl w6.heap.size R7 [UInt8.ofNat h.ky.toNat] hGc hIk (by omega) w6 hHeld hHeld.size ?_
        intro x8 wq hGq hBq hNq
        refine hK.out _ _ hBq (fun hHeld => ?_)
        clear hK K hNq hBq
        try simp only [Act.put, List.setIfInBounds_toArray, List.set_cons_zero, List.set_cons_succ]
        refine wpAnyH_take (i := 9) (oi := ⟨some 4, _, _, _, _, _⟩) (v := ?_) rfl (by kernel_rfl) (by kernel_rfl) (by kernel_rfl) (fun _ _ _ h => h) (Or.inl ⟨by rfl, ?_⟩) hHeld ?_
        rotate_left
        · intro w hSw; go_simp; try with_reducible rfl
        try simp only [Act.put, List.setIfInBounds_toArray, List.set_cons_zero, List.set_cons_succ]
        refine wpAnyH_done (by kernel_rfl) ?_ _
        have hGn := hGq.out.mono hs
        have q8 : ([UInt8.ofNat h.ky.toNat]).length ≤ 8 := by simp
        have hl8 : (R7 ++ [UInt8.ofNat h.ky.toNat]).length ≤ R7.length + 8 := by rw [List.length_append]; omega
        clear q8
        obtain ⟨R8, hR8⟩ : ∃ R, R = R7 ++ [UInt8.ofNat h.ky.toNat] := ⟨_, rfl⟩
        rw [← hR8] at hGn hl8
        have HR8 := hid hR8
        clear hR8
        have hF := hF.below hHeld hF.lt
        have hJ := hJ.below hHeld
        have hB := hB.trans (hHeld.mono hB.size)
        have hs := hB.size
        clear hG
        have hG := hGn
        clear hGn
        have c14 := hF.cells.2.2.2.2.2.2.2.2.2.2.2.2.2.2.1
        go_wp2_with (with_reducible refine wpList_append_bytes (o := ⟨some 64, _, _, _, _, _⟩) rfl (.tmp 61) (.tmp 63) rfl x8 rfl a n c rfl w.heap.size R8 P hG hJ (by omega) w hB hs ?_; intro vz wz hGz hBz _)
        go_ret
        refine ⟨vz, rfl, ?_, hBz⟩
        have e : headL h P = R8 ++ P := by
          unfold headL preL
          rw [if_pos hk, hse, HK1.out, HR8.out, HR7.out, H6.out]
          simp [List.append_assoc]
        rw [e]; exact hGz.out
  · cases hse : h.se
    · have c0 := hF.cells.1
      have c3 := hF.cells.2.2.2.1
      have c5 := hF.cells.2.2.2.2.2.1
      rw [hse] at c3
      go_wp2_with fail
      clear c0 c3 c5
      with_reducible refine (rapp2 xa6 R6.length xc6 R6 _ _ hI6 (by omega) upn).mono ?_
      rintro e7 w7 ⟨x7, rfl, hGn, hb⟩
      have hF := hF.below hb hF.lt
      have hJ := hJ.below hb
      have hGn := hGn.mono hs
      have hB := hB.trans (hb.mono hB.size)
      have hs := hB.size
      clear hb hG
      have q8 : (beBytes h.pn.toNat 2).length ≤ 8 := by rw [length_beBytes]; omega
      have hl7 : (R6 ++ beBytes h.pn.toNat 2).length ≤ R6.length + 8 := by rw [List.length_append]; omega
      clear q8
      obtain ⟨R7, hR7⟩ : ∃ R, R = R6 ++ beBytes h.pn.toNat 2 := ⟨_, rfl⟩
      rw [← hR7] at hGn hl7
      have HR7 := hid hR7
      clear hR7
      have hG := hGn
      clear hGn
      obtain ⟨xa7, xc7, ex7, hI7⟩ := hG.isB (by omega)
      subst ex7
      have c0 := hF.cells.1
      have c3 := hF.cells.2.2.2.1
      rw [hse] at c3
      go_wp2_with fail
      clear c0 c3
      refine wp_region_held_drew (S := fun w' => Below w7.heap.size w7 w') (by kernel_rfl) (below_drewN (Below.refl _ _) 1) (fun hHeld => ?_)
      refine wpAnyH_take (i := 0) (oi := ⟨some 43, _, _, _, _, _⟩) (v := ?_) rfl (by kernel_rfl) (by kernel_rfl) (by kernel_rfl) (fun _ _ _ h => h) (Or.inl ⟨by rfl, ?_⟩) hHeld ?_
      rotate_left
      · intro w hSw; go_simp; try with_reducible rfl
      try simp only [Act.put, List.setIfInBounds_toArray, List.set_cons_zero, List.set_cons_succ]
      refine wpAnyH_take (i := 1) (oi := ⟨some 44, _, _, _, _, _⟩) (v := ?_) rfl (by kernel_rfl) (by kernel_rfl) (by kernel_rfl) (fun _ _ _ h => h) (Or.inl ⟨by rfl, ?_⟩) hHeld ?_
      rotate_left
      · intro w hSw; go_simp; try with_reducible rfl
      try simp only [Act.put, List.setIfInBounds_toArray, List.set_cons_zero, List.set_cons_succ]
      refine wpAnyH_addr (g := w.heap.size) (o := 6) (m := h.dm) (s := h.ds) (e := h.dx) (i := 2) (oi := ⟨some 45, _, _, _, _, _⟩) rfl (by kernel_rfl) (by kernel_rfl) (by kernel_rfl) (fun _ _ _ h => h) (by rfl) (.tmp 44) rfl rfl  (fun _ h => (hF.below h hF.lt).dst) hHeld ?_
      try simp only [Act.put, List.setIfInBounds_toArray, List.set_cons_zero, List.set_cons_succ]
      refine wpAnyH_take (i := 4) (oi := ⟨some 47, _, _, _, _, _⟩) (v := ?_) rfl (by kernel_rfl) (by kernel_rfl) (by kernel_rfl) (fun _ _ _ h => h) (Or.inl ⟨by rfl, ?_⟩) hHeld ?_
      rotate_left
      · intro w hSw; go_simp; try with_reducible rfl
      try simp only [Act.put, List.setIfInBounds_toArray, List.set_cons_zero, List.set_cons_succ]
      refine wpAnyH_addr (g := w.heap.size) (o := 9) (m := h.sm) (s := h.ss) (e := h.sx) (i := 5) (oi := ⟨some 48, _, _, _, _, _⟩) rfl (by kernel_rfl) (by kernel_rfl) (by kernel_rfl) (fun _ _ _ h => h) (by rfl) (.tmp 47) rfl rfl  (fun _ h => (hF.below h hF.lt).src) hHeld ?_
      try simp only [Act.put, List.setIfInBounds_toArray, List.set_cons_zero, List.set_cons_succ]
      refine wpAnyH_ready (rs := [3]) (by kernel_rfl) (by simp) ?_
      refine AllReadyH.cons (o := ⟨some 46, _, _, _, _, _⟩) rfl (fun K hK => ?_) AllReadyH.nil
      go_simp
      have hP3 := hHeld
      with_reducible refine (raddr_app w.heap.size xa7 R7.length xc7 R7 h.dm h.ds h.dx _ (hG.below hHeld) (Nat.le_trans hs hHeld.size) rfl (by omega) hv.ok.d).mono ?_
      rintro e3 v3 ⟨x8, rfl, hGn, hb3⟩
      have hQ3 := hP3.trans (hb3.mono hP3.size)
      have q8 : (adL h.dm h.ds h.dx).length ≤ 8 := by rw [length_adL]; exact asz_le _
      have hl8 : (R7 ++ adL h.dm h.ds h.dx).length ≤ R7.length + 8 := by rw [List.length_append]; omega
      clear q8
      obtain ⟨R8, hR8⟩ : ∃ R, R = R7 ++ adL h.dm h.ds h.dx := ⟨_, rfl⟩
      rw [← hR8] at hGn hl8
      have HR8 := hid hR8
      clear hR8
      obtain ⟨xa8, xc8, ex8, hI8⟩ := hGn.isB (by omega)
      subst ex8
      have hG8 := hGn
      clear hGn hb3 hP3
      go_wp2_with fail
      clear hHeld
      refine hK.out _ _ (hQ3) (fun hHeld => ?_)
      clear hK K
      try simp only [Act.put, List.setIfInBounds_toArray, List.set_cons_zero, List.set_cons_succ]
      refine wpAnyH_ready (rs := [6]) (by kernel_rfl) (by simp) ?_
      refine AllReadyH.cons (o := ⟨some 49, _, _, _, _, _⟩) rfl (fun K hK => ?_) AllReadyH.nil
      go_simp
      have hP6 := hHeld
      with_reducible refine (raddr_app w.heap.size xa8 R8.length xc8 R8 h.sm h.ss h.sx _ hG8 (Nat.le_trans hs hQ3.size) rfl (by omega) hv.ok.s).mono ?_
      rintro e6 v6 ⟨x9, rfl, hGn, hb6⟩
      have hQ6 := hQ3.trans (hb6.mono hQ3.size)
      have q8 : (adL h.sm h.ss h.sx).length ≤ 8 := by rw [length_adL]; exact asz_le _
      have hl9 : (R8 ++ adL h.sm h.ss h.sx).length ≤ R8.length + 8 := by rw [List.length_append]; omega
      clear q8
      obtain ⟨R9, hR9⟩ : ∃ R, R = R8 ++ adL h.sm h.ss h.sx := ⟨_, rfl⟩
      rw [← hR9] at hGn hl9
      have HR9 := hid hR9
      clear hR9
      have hG9 := hGn
      clear hGn hb6 hP6
      go_wp2_with fail
      clear hHeld
      refine hK.out _ _ (hQ6) (fun hHeld => ?_)
      clear hK K
      try simp only [Act.put, List.setIfInBounds_toArray, List.set_cons_zero, List.set_cons_succ]
      refine wpAnyH_take (i := 7) (oi := ⟨some 4, _, _, _, _, _⟩) (v := ?_) rfl (by kernel_rfl) (by kernel_rfl) (by kernel_rfl) (fun _ _ _ h => h) (Or.inl ⟨by rfl, ?_⟩) hHeld ?_
      rotate_left
      · intro w hSw; go_simp; try with_reducible rfl
      try simp only [Act.put, List.setIfInBounds_toArray, List.set_cons_zero, List.set_cons_succ]
      refine wpAnyH_done (by kernel_rfl) ?_ _
      have hF := hF.below hHeld hF.lt
      have hJ := hJ.below hHeld
      have hB := hB.trans (hHeld.mono hB.size)
      have hs := hB.size
      clear hG hG8 hQ3 hHeld hI7 hI8
      have hG := hG9
      clear hG9
      obtain ⟨xa9, xc9, ex9, hI9⟩ := hG.isB (by omega)
      subst ex9
      have c0 := hF.cells.1
      have c3 := hF.cells.2.2.2.1
      rw [hse] at c3
      have hG : Gr _ w.heap.size (.slice xa9 R9.length xc9) R9 := hG
      have c14 := hF.cells.2.2.2.2.2.2.2.2.2.2.2.2.2.2.1
      go_wp2_with (with_reducible refine wpList_append_bytes (o := ⟨some 64, _, _, _, _, _⟩) rfl (.tmp 61) (.tmp 63) rfl (.slice xa9 R9.length xc9) rfl a n c rfl w.heap.size R9 P hG hJ (by omega) w hB hs ?_; intro vz wz hGz hBz _)
      go_ret
      refine ⟨vz, rfl, ?_, hBz⟩
      have e : headL h P = R9 ++ P := by
        unfold headL preL
        rw [if_neg hk, hse, HK1.out, HR9.out, HR8.out, HR7.out, H6.out]
        simp [List.append_assoc]
      rw [e]; exact hGz.out
    · have c0 := hF.cells.1
      have c3 := hF.cells.2.2.2.1
      have c5 := hF.cells.2.2.2.2.2.1
      rw [hse] at c3
      go_wp2_with fail
      clear c0 c3 c5
      with_reducible refine (rapp2 xa6 R6.length xc6 R6 _ _ hI6 (by omega) upn).mono ?_
      rintro e7 w7 ⟨x7, rfl, hGn, hb⟩
      have hF := hF.below hb hF.lt
      have hJ := hJ.below hb
      have hGn := hGn.mono hs
      have hB := hB.trans (hb.mono hB.size)
      have hs := hB.size
      clear hb hG
      have q8 : (beBytes h.pn.toNat 2).length ≤ 8 := by rw [length_beBytes]; omega
      have hl7 : (R6 ++ beBytes h.pn.toNat 2).length ≤ R6.length + 8 := by rw [List.length_append]; omega
      clear q8
      obtain ⟨R7, hR7⟩ : ∃ R, R = R6 ++ beBytes h.pn.toNat 2 := ⟨_, rfl⟩
      rw [← hR7] at hGn hl7
      have HR7 := hid hR7
      clear hR7
      have hG := hGn
      clear hGn
      obtain ⟨xa7, xc7, ex7, hI7⟩ := hG.isB (by omega)
      subst ex7
      have c0 := hF.cells.1
      have c3 := hF.cells.2.2.2.1
      rw [hse] at c3
      go_wp2_with fail
      clear c0 c3
      refine wp_region_held_drew (S := fun w' => Below w7.heap.size w7 w') (by kernel_rfl) (below_drewN (Below.refl _ _) 1) (fun hHeld => ?_)
      refine wpAnyH_take (i := 0) (oi := ⟨some 43, _, _, _, _, _⟩) (v := ?_) rfl (by kernel_rfl) (by kernel_rfl) (by kernel_rfl) (fun _ _ _ h => h) (Or.inl ⟨by rfl, ?_⟩) hHeld ?_
      rotate_left
      · intro w hSw; go_simp; try with_reducible rfl
      try simp only [Act.put, List.setIfInBounds_toArray, List.set_cons_zero, List.set_cons_succ]
      refine wpAnyH_take (i := 1) (oi := ⟨some 44, _, _, _, _, _⟩) (v := ?_) rfl (by kernel_rfl) (by kernel_rfl) (by kernel_rfl) (fun _ _ _ h => h) (Or.inl ⟨by rfl, ?_⟩) hHeld ?_
      rotate_left
      · intro w hSw; go_simp; try with_reducible rfl
      try simp only [Act.put, List.setIfInBounds_toArray, List.set_cons_zero, List.set_cons_succ]
      refine wpAnyH_addr (g := w.heap.size) (o := 6) (m := h.dm) (s := h.ds) (e := h.dx) (i := 2) (oi := ⟨some 45, _, _, _, _, _⟩) rfl (by kernel_rfl) (by kernel_rfl) (by kernel_rfl) (fun _ _ _ h => h) (by rfl) (.tmp 44) rfl rfl  (fun _ h => (hF.below h hF.lt).dst) hHeld ?_
      try simp only [Act.put, List.setIfInBounds_toArray, List.set_cons_zero, List.set_cons_succ]
      refine wpAnyH_take (i := 4) (oi := ⟨some 47, _, _, _, _, _⟩) (v := ?_) rfl (by kernel_rfl) (by kernel_rfl) (by kernel_rfl) (fun _ _ _ h => h) (Or.inl ⟨by rfl, ?_⟩) hHeld ?_
      rotate_left
      · intro w hSw; go_simp; try with_reducible rfl
      try simp only [Act.put, List.setIfInBounds_toArray, List.set_cons_zero, List.set_cons_succ]
      refine wpAnyH_addr (g := w.heap.size) (o := 9) (m := h.sm) (s := h.ss) (e := h.sx) (i := 5) (oi := ⟨some 48, _, _, _, _, _⟩) rfl (by kernel_rfl) (by kernel_rfl) (by kernel_rfl) (fun _ _ _ h => h) (by rfl) (.tmp 47) rfl rfl  (fun _ h => (hF.below h hF.lt).src) hHeld ?_
      try simp only [Act.put, List.setIfInBounds_toArray, List.set_cons_zero, List.set_cons_succ]
      refine wpAnyH_ready (rs := [3]) (by kernel_rfl) (by simp) ?_
      refine AllReadyH.cons (o := ⟨some 46, _, _, _, _, _⟩) rfl (fun K hK => ?_) AllReadyH.nil
      go_simp
      have hP3 := hHeld
      with_reducible refine (raddr_app w.heap.size xa7 R7.length xc7 R7 h.dm h.ds h.dx _ (hG.below hHeld) (Nat.le_trans hs hHeld.size) rfl (by omega) hv.ok.d).mono ?_
      rintro e3 v3 ⟨x8, rfl, hGn, hb3⟩
      have hQ3 := hP3.trans (hb3.mono hP3.size)
      have q8 : (adL h.dm h.ds h.dx).length ≤ 8 := by rw [length_adL]; exact asz_le _
      have hl8 : (R7 ++ adL h.dm h.ds h.dx).length ≤ R7.length + 8 := by rw [List.length_append]; omega
      clear q8
      obtain ⟨R8, hR8⟩ : ∃ R, R = R7 ++ adL h.dm h.ds h.dx := ⟨_, rfl⟩
      rw [← hR8] at hGn hl8
      have HR8 := hid hR8
      clear hR8
      obtain ⟨xa8, xc8, ex8, hI8⟩ := hGn.isB (by omega)
      subst ex8
      have hG8 := hGn
      clear hGn hb3 hP3
      go_wp2_with fail
      clear hHeld
      refine hK.out _ _ (hQ3) (fun hHeld => ?_)
      clear hK K
      try simp only [Act.put, List.setIfInBounds_toArray, List.set_cons_zero, List.set_cons_succ]
      refine wpAnyH_ready (rs := [6]) (by kernel_rfl) (by simp) ?_
      refine AllReadyH.cons (o := ⟨some 49, _, _, _, _, _⟩) rfl (fun K hK => ?_) AllReadyH.nil
      go_simp
      have hP6 := hHeld
      with_reducible refine (raddr_app w.heap.size xa8 R8.length xc8 R8 h.sm h.ss h.sx _ hG8 (Nat.le_trans hs hQ3.size) rfl (by omega) hv.ok.s).mono ?_
      rintro e6 v6 ⟨x9, rfl, hGn, hb6⟩
      have hQ6 := hQ3.trans (hb6.mono hQ3.size)
      have q8 : (adL h.sm h.ss h.sx).length ≤ 8 := by rw [length_adL]; exact asz_le _
      have hl9 : (R8 ++ adL h.sm h.ss h.sx).length ≤ R8.length + 8 := by rw [List.length_append]; omega
      clear q8
      obtain ⟨R9, hR9⟩ : ∃ R, R = R8 ++ adL h.sm h.ss h.sx := ⟨_, rfl⟩
      rw [← hR9] at hGn hl9
      have HR9 := hid hR9
      clear hR9
      have hG9 := hGn
      clear hGn hb6 hP6
      go_wp2_with fail
      clear hHeld
      refine hK.out _ _ (hQ6) (fun hHeld => ?_)
      clear hK K
      try simp only [Act.put, List.setIfInBounds_toArray, List.set_cons_zero, List.set_cons_succ]
      refine wpAnyH_take (i := 7) (oi := ⟨some 4, _, _, _, _, _⟩) (v := ?_) rfl (by kernel_rfl) (by kernel_rfl) (by kernel_rfl) (fun _ _ _ h => h) (Or.inl ⟨by rfl, ?_⟩) hHeld ?_
      rotate_left
      · intro w hSw; go_simp; try with_reducible rfl
      try simp only [Act.put, List.setIfInBounds_toArray, List.set_cons_zero, List.set_cons_succ]
      refine wpAnyH_done (by kernel_rfl) ?_ _
      have hF := hF.below hHeld hF.lt
      have hJ := hJ.below hHeld
      have hB := hB.trans (hHeld.mono hB.size)
      have hs := hB.size
      clear hG hG8 hQ3 hHeld hI7 hI8
      have hG := hG9
      clear hG9
      obtain ⟨xa9, xc9, ex9, hI9⟩ := hG.isB (by omega)
      subst ex9
      have c0 := hF.cells.1
      have c3 := hF.cells.2.2.2.1
      rw [hse] at c3
      go_wp2_with fail
      clear c3
      clear c0
      refine wp_region_held_drew (S := fun w' => Below v6.heap.size v6 w') (by kernel_rfl) (below_drewN (Below.refl _ _) 1) (fun hHeld => ?_)
      have hd0 := hHeld
      generalize v6.drew = u0 at hHeld hd0 ⊢
      refine wpAnyH_take (i := 0) (oi := ⟨some 52, _, _, _, _, _⟩) (v := ?_) rfl (by kernel_rfl) (by kernel_rfl) (by kernel_rfl) (fun _ _ _ h => h) (Or.inl ⟨by rfl, ?_⟩) hHeld ?_
      rotate_left
      · intro w hSw; have c12 := (hF.below hSw hF.lt).cells.2.2.2.2.2.2.2.2.2.2.2.2.1; have c13 := (hF.below hSw hF.lt).cells.2.2.2.2.2.2.2.2.2.2.2.2.2.1; go_simp; try with_reducible rfl
      try simp only [Act.put, List.setIfInBounds_toArray, List.set_cons_zero, List.set_cons_succ]
      refine wpAnyH_take (i := 1) (oi := ⟨some 53, _, _, _, _, _⟩) (v := ?_) rfl (by kernel_rfl) (by kernel_rfl) (by kernel_rfl) (fun _ _ _ h => h) (Or.inl ⟨by rfl, ?_⟩) hHeld ?_
      rotate_left
      · intro w hSw; have c12 := (hF.below hSw hF.lt).cells.2.2.2.2.2.2.2.2.2.2.2.2.1; have c13 := (hF.below hSw hF.lt).cells.2.2.2.2.2.2.2.2.2.2.2.2.2.1; go_simp; try with_reducible rfl
      try simp only [Act.put, List.setIfInBounds_toArray, List.set_cons_zero, List.set_cons_succ]
      refine wpAnyH_take (i := 2) (oi := ⟨some 54, _, _, _, _, _⟩) (v := ?_) rfl (by kernel_rfl) (by kernel_rfl) (by kernel_rfl) (fun _ _ _ h => h) (Or.inl ⟨by rfl, ?_⟩) hHeld ?_
      rotate_left
      · intro w hSw; have c12 := (hF.below hSw hF.lt).cells.2.2.2.2.2.2.2.2.2.2.2.2.1; have c13 := (hF.below hSw hF.lt).cells.2.2.2.2.2.2.2.2.2.2.2.2.2.1; go_simp; try with_reducible rfl
      try simp only [Act.put, List.setIfInBounds_toArray, List.set_cons_zero, List.set_cons_succ]
      refine wpAnyH_take (i := 3) (oi := ⟨some 55, _, _, _, _, _⟩) (v := ?_) rfl (by kernel_rfl) (by kernel_rfl) (by kernel_rfl) (fun _ _ _ h => h) (Or.inl ⟨by rfl, ?_⟩) hHeld ?_
      rotate_left
      · intro w hSw; have c12 := (hF.below hSw hF.lt).cells.2.2.2.2.2.2.2.2.2.2.2.2.1; have c13 := (hF.below hSw hF.lt).cells.2.2.2.2.2.2.2.2.2.2.2.2.2.1; go_simp; try with_reducible rfl
      try simp only [Act.put, List.setIfInBounds_toArray, List.set_cons_zero, List.set_cons_succ]
      refine wpAnyH_take (i := 5) (oi := ⟨some 57, _, _, _, _, _⟩) (v := ?_) rfl (by kernel_rfl) (by kernel_rfl) (by kernel_rfl) (fun _ _ _ h => h) (Or.inl ⟨by rfl, ?_⟩) hHeld ?_
      rotate_left
      · intro w hSw; have c12 := (hF.below hSw hF.lt).cells.2.2.2.2.2.2.2.2.2.2.2.2.1; have c13 := (hF.below hSw hF.lt).cells.2.2.2.2.2.2.2.2.2.2.2.2.2.1; go_simp; try with_reducible rfl
      try simp only [Act.put, List.setIfInBounds_toArray, List.set_cons_zero, List.set_cons_succ]
      refine wpAnyH_take (i := 6) (oi := ⟨some 58, _, _, _, _, _⟩) (v := ?_) rfl (by kernel_rfl) (by kernel_rfl) (by kernel_rfl) (fun _ _ _ h => h) (Or.inl ⟨by rfl, ?_⟩) hHeld ?_
      rotate_left
      · intro w hSw; have c12 := (hF.below hSw hF.lt).cells.2.2.2.2.2.2.2.2.2.2.2.2.1; have c13 := (hF.below hSw hF.lt).cells.2.2.2.2.2.2.2.2.2.2.2.2.2.1; go_simp; try with_reducible rfl
      try simp only [Act.put, List.setIfInBounds_toArray, List.set_cons_zero, List.set_cons_succ]
      refine wpAnyH_ready (rs := [4, 7]) (by kernel_rfl) (by simp) ?_
      refine AllReadyH.cons (o := ⟨some 56, _, _, _, _, _⟩) rfl ?_ (AllReadyH.cons (o := ⟨some 59, _, _, _, _, _⟩) rfl ?_ AllReadyH.nil)
      · intro K hK
        go_simp
        have hIu := hI9.below hHeld
        with_reducible refine (rapp4 xa9 R9.length xc9 R9 _ _ hIu (by omega) uct).mono ?_
        rintro e4 u4 ⟨x10, rfl, hGn, hb4⟩
        have hQ4 := hHeld.trans (hb4.mono hHeld.size)
        have hGn := hGn.mono hHeld.size
        have q8 : (beBytes h.ct.toNat 4).length ≤ 8 := by rw [length_beBytes]; omega
        have hl10 : (R9 ++ beBytes h.ct.toNat 4).length ≤ R9.length + 8 := by rw [List.length_append]; omega
        clear q8
        obtain ⟨R10, hR10⟩ : ∃ R, R = R9 ++ beBytes h.ct.toNat 4 := ⟨_, rfl⟩
        rw [← hR10] at hGn hl10
        have HR10 := hid hR10
        clear hR10
        have hGc := hGn
        clear hGn
        go_wp2_with fail
        clear hHeld
        refine hK.out _ _ hQ4 (fun hHeld => ?_)
        clear hK K
        try simp only [Act.put, List.setIfInBounds_toArray, List.set_cons_zero, List.set_cons_succ]
        refine wpAnyH_ready (rs := [7]) (by kernel_rfl) (by simp) ?_
        refine AllReadyH.cons (o := ⟨some 59, _, _, _, _, _⟩) rfl (fun K hK => ?_) AllReadyH.nil
        go_simp
        have hx := (Below.refl u4.heap.size u4).alloc (Nat.le_refl _) (.cells #[.int .u8 h.ky] 5)
        have hIk := (Own.new u4 [UInt8.ofNat h.ky.toNat]).isB (by simp)
        rw [HKY.out] at hIk
        have hGc := hGc.below hx
        have hQ7 := hQ4.trans (hx.mono hQ4.size)
        clear hHeld
        refine hK.out _ _ hQ7 (fun hHeld => ?_)
        clear hK K hx hQ4 hb4
        try simp only [Act.put, List.setIfInBounds_toArray, List.set_cons_zero, List.set_cons_succ]
        generalize hu4 : u4.heap.size = bk at *
        clear hu4
        generalize u4.alloc _ = u5 at *
        refine wpAnyH_ready (rs := [8]) (by kernel_rfl) (by simp) ?_
        refine AllReadyH.cons (o := ⟨some 60, _, _, _, _, _⟩) rfl (fun K hK => ?_) AllReadyH.nil
        refine step_append_bytes rfl (.tmp 56) (.tmp 59) rfl x10 rfl (some ⟨bk, 0, none⟩) 1 1 rfl v6.heap.size R10 [UInt8.ofNat h.ky.toNat] hGc hIk (by omega) v6 hHeld hHeld.size ?_
        intro x11 wq hGq hBq hNq
        refine hK.out _ _ hBq (fun hHeld => ?_)
        clear hK K hNq hBq
        try simp only [Act.put, List.setIfInBounds_toArray, List.set_cons_zero, List.set_cons_succ]
        refine wpAnyH_take (i := 9) (oi := ⟨some 4, _, _, _, _, _⟩) (v := ?_) rfl (by kernel_rfl) (by kernel_rfl) (by kernel_rfl) (fun _ _ _ h => h) (Or.inl ⟨by rfl, ?_⟩) hHeld ?_
        rotate_left
        · intro w hSw; go_simp; try with_reducible rfl
        try simp only [Act.put, List.setIfInBounds_toArray, List.set_cons_zero, List.set_cons_succ]
        refine wpAnyH_done (by kernel_rfl) ?_ _
        have hGn := hGq.out.mono hs
        have q8 : ([UInt8.ofNat h.ky.toNat]).length ≤ 8 := by simp
        have hl11 : (R10 ++ [UInt8.ofNat h.ky.toNat]).length ≤ R10.length + 8 := by rw [List.length_append]; omega
        clear q8
        obtain ⟨R11, hR11⟩ : ∃ R, R = R10 ++ [UInt8.ofNat h.ky.toNat] := ⟨_, rfl⟩
        rw [← hR11] at hGn hl11
        have HR11 := hid hR11
        clear hR11
        have hF := hF.below hHeld hF.lt
        have hJ := hJ.below hHeld
        have hB := hB.trans (hHeld.mono hB.size)
        have hs := hB.size
        clear hG
        have hG := hGn
        clear hGn
        have c14 := hF.cells.2.2.2.2.2.2.2.2.2.2.2.2.2.2.1
        go_wp2_with (with_reducible refine wpList_append_bytes (o := ⟨some 64, _, _, _, _, _⟩) rfl (.tmp 61) (.tmp 63) rfl x11 rfl a n c rfl w.heap.size R11 P hG hJ (by omega) w hB hs ?_; intro vz wz hGz hBz _)
        go_ret
        refine ⟨vz, rfl, ?_, hBz⟩
        have e : headL h P = R11 ++ P := by
          unfold headL preL
          rw [if_neg hk, hse, HK1.out, HR11.out, HR10.out, HR9.out, HR8.out, HR7.out, H6.out]
          simp [List.append_assoc]
        rw [e]; exact hGz.out
      · intro K hK
        go_simp
        have hx := (Below.refl u0.heap.size u0).alloc (Nat.le_refl _) (.cells #[.int .u8 h.ky] 5)
        have hIk := (Own.new u0 [UInt8.ofNat h.ky.toNat]).isB (by simp)
        rw [HKY.out] at hIk
        have hQ7 := hd0.trans (hx.mono hd0.size)
        clear hHeld hd0
        refine hK.out _ _ hQ7 (fun hHeld => ?_)
        clear hK K hx
        try simp only [Act.put, List.setIfInBounds_toArray, List.set_cons_zero, List.set_cons_succ]
        generalize hu4 : u0.heap.size = bk at *
        clear hu4
        generalize u0.alloc _ = u5 at *
        refine wpAnyH_ready (rs := [4]) (by kernel_rfl) (by simp) ?_
        refine AllReadyH.cons (o := ⟨some 56, _, _, _, _, _⟩) rfl (fun K hK => ?_) AllReadyH.nil
        go_simp
        have hIu := hI9.below hHeld
        with_reducible refine (rapp4 xa9 R9.length xc9 R9 _ _ hIu (by omega) uct).mono ?_
        rintro e4 u6 ⟨x10, rfl, hGn, hb4⟩
        have hQ4 := hHeld.trans (hb4.mono hHeld.size)
        have hGn := hGn.mono hHeld.size
        have q8 : (beBytes h.ct.toNat 4).length ≤ 8 := by rw [length_beBytes]; omega
        have hl10 : (R9 ++ beBytes h.ct.toNat 4).length ≤ R9.length + 8 := by rw [List.length_append]; omega
        clear q8
        obtain ⟨R10, hR10⟩ : ∃ R, R = R9 ++ beBytes h.ct.toNat 4 := ⟨_, rfl⟩
        rw [← hR10] at hGn hl10
        have HR10 := hid hR10
        clear hR10
        have hGc := hGn
        clear hGn
        have hIk := hIk.below hb4
        go_wp2_with fail
        clear hHeld hQ7
        refine hK.out _ _ hQ4 (fun hHeld => ?_)
        clear hK K
        try simp only [Act.put, List.setIfInBounds_toArray, List.set_cons_zero, List.set_cons_succ]
        clear hQ4 hb4
        refine wpAnyH_ready (rs := [8]) (by kernel_rfl) (by simp) ?_
        refine AllReadyH.cons (o := ⟨some 60, _, _, _, _, _⟩) rfl (fun K hK => ?_) AllReadyH.nil
        refine step_append_bytes rfl (.tmp 56) (.tmp 59) rfl x10 rfl (some ⟨bk, 0, none⟩) 1 1 rfl v6.heap.size R10 [UInt8.ofNat h.ky.toNat] hGc hIk (by omega) v6 hHeld hHeld.size ?_
        intro x11 wq hGq hBq hNq
        refine hK.out _ _ hBq (fun hHeld => ?_)
        clear hK K hNq hBq
        try simp only [Act.put, List.setIfInBounds_toArray, List.set_cons_zero, List.set_cons_succ]
        refine wpAnyH_take (i := 9) (oi := ⟨some 4, _, _, _, _, _⟩) (v := ?_) rfl (by kernel_rfl) (by kernel_rfl) (by kernel_rfl) (fun _ _ _ h => h) (Or.inl ⟨by rfl, ?_⟩) hHeld ?_
        rotate_left
        · intro w hSw; go_simp; try with_reducible rfl
        try simp only [Act.put, List.setIfInBounds_toArray, List.set_cons_zero, List.set_cons_succ]
        refine wpAnyH_done (by kernel_rfl) ?_ _
        have hGn := hGq.out.mono hs
        have q8 : ([UInt8.ofNat h.ky.toNat]).length ≤ 8 := by simp
        have hl11 : (R10 ++ [UInt8.ofNat h.ky.toNat]).length ≤ R10.length + 8 := by rw [List.length_append]; omega
        clear q8
        obtain ⟨R11, hR11⟩ : ∃ R, R = R10 ++ [UInt8.ofNat h.ky.toNat] := ⟨_, rfl⟩
        rw [← hR11] at hGn hl11
        have HR11 := hid hR11
        clear hR11
        have hF := hF.below hHeld hF.lt
        have hJ := hJ.below hHeld
        have hB := hB.trans (hHeld.mono hB.size)
        have hs := hB.size
        clear hG
        have hG := hGn
        clear hGn
        have c14 := hF.cells.2.2.2.2.2.2.2.2.2.2.2.2.2.2.1
        go_wp2_with (with_reducible refine wpList_append_bytes (o := ⟨some 64, _, _, _, _, _⟩) rfl (.tmp 61) (.tmp 63) rfl x11 rfl a n c rfl w.heap.size R11 P hG hJ (by omega) w hB hs ?_; intro vz wz hGz hBz _)
        go_ret
        refine ⟨vz, rfl, ?_, hBz⟩
        have e : headL h P = R11 ++ P := by
          unfold headL preL
          rw [if_neg hk, hse, HK1.out, HR11.out, HR10.out, HR9.out, HR8.out, HR7.out, H6.out]
          simp [List.append_assoc]
        rw [e]; exact hGz.out
end Go.Proofs.Ytmbiophckeiehaa
