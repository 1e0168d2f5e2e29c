/-
  The reference's Sum.
-/
import Derived.Test.YtjlogmbgapnceaaSip
import Derived.Test.YtjlogmbgapnceaaRefRound
import Derived.Deep.DeepCutAuto
namespace Go.Proofs.Ytjlogmbgapnceaa
open Go.RowKit

theorem ad_ro (l : List UInt8) (n : Nat) (hl : l.length < 8) : ad (leW l) (sizeW n) = ro (leW l) (sizeW n) := by
  have h1 := leOf_lt8 l 7 (by omega)
  have h2 := leW_toNat l (by omega)
  have h3 := sizeW_toNat n
  have h4 : n % 256 < 256 := Nat.mod_lt _ (by decide)
  apply UInt64.toNat_inj.1
  simp only [ad, ro, UInt64.toNat_add, UInt64.toNat_or, h2, h3]
  rw [Nat.or_comm, show (72057594037927936 : Nat) = 2 ^ 56 from rfl, or_add (n % 256) (leOf l) 56 h1]
  omega

theorem last_val (x : UInt64) (n : Nat) : IntKind.u64.wrap ((x.toNat : Int) + (n : Int) % 256 * 72057594037927936) = ((ad x (sizeW n)).toNat : Int) := by
  rw [← ad_val, sizeW_toNat]
  congr 1

theorem slice_eight {w : World} {a : Option Addr} {len cap : Nat} {l : List UInt8} (h : IsB w a len cap l) (m : Nat) (hm : m + 8 ≤ len) :
    ∃ p, (∀ W, (Instr.slice 24 (.slice a len cap) (some (.int .i64 (m : Int))) (some (.int .i64 ((m : Int) + 8))) none).run Try.prog W = .ok (.slice p 8 (cap - m)) W) ∧ IsB w p 8 (cap - m) ((l.drop m).take 8) := by
  obtain ⟨p, h1, h2⟩ := slice_mid h m (m + 8) (by omega) hm
  rw [show m + 8 - m = 8 from by omega] at h1 h2
  exact ⟨p, h1, h2⟩

theorem IsB.drew {w : World} {a : Option Addr} {len cap : Nat} {l : List UInt8} (h : IsB w a len cap l) : IsB w.drew a len cap l := h.below (below_drewN (Below.refl _ _) 1)
theorem Rf.drew {w : World} {g : Nat} {s : St} (h : Rf w g s) : Rf w.drew g s := h

theorem refNumber_still {a : Option Addr} {len cap : Nat} {l : List UInt8} {w : World} (hb : IsB w a len cap l) (h8 : len ≤ 8) :
    Calls Try.prog 24 #[.slice a len cap] w fun e w' => e = .returned (.int .u64 ((leW l).toNat : Int)) ∧ w' = w :=
  (refNumber_any a len cap l w hb h8).mono fun e w' h => ⟨h.1, h.2.symm⟩

/-- what a boxed state becomes by a whole store -/
theorem Rf.store {w : World} {g : Nat} {a b c d : UInt64} (h : Rf w g ⟨a, b, c, d⟩) (a' b' c' d' : UInt64) :
    Rf ((((w.setCell ⟨g, 0, none⟩ (.int .u64 a'.toNat)).setCell ⟨g, 1, none⟩ (.int .u64 b'.toNat)).setCell ⟨g, 2, none⟩ (.int .u64 c'.toNat)).setCell ⟨g, 3, none⟩ (.int .u64 d'.toNat)) g ⟨a', b', c', d'⟩ :=
  (((h.set0 a').set1 b').set2 c').set3 d'
theorem below_store {w w' : World} {g B : Nat} (h : Below B w w') (hg : B ≤ g) (a' b' c' d' : Value) :
    Below B w ((((w'.setCell ⟨g, 0, none⟩ a').setCell ⟨g, 1, none⟩ b').setCell ⟨g, 2, none⟩ c').setCell ⟨g, 3, none⟩ d') :=
  (((h.setCell (p := ⟨g, 0, none⟩) hg a').setCell (p := ⟨g, 1, none⟩) hg b').setCell (p := ⟨g, 2, none⟩) hg c').setCell (p := ⟨g, 3, none⟩) hg d'

theorem ini_cells (k : List UInt8) : #[Value.int .u64 ((xr (leW (k.take 8)) 8317987319222330741).toNat : Int), Value.int .u64 ((xr (leW (k.drop 8)) 7237128888997146477).toNat : Int), Value.int .u64 ((xr (leW (k.take 8)) 7816392313619706465).toNat : Int), Value.int .u64 ((xr (leW (k.drop 8)) 8387220255154660723).toNat : Int)] = stc (ini k) := rfl

set_option maxRecDepth 100000 in
set_option maxHeartbeats 2000000 in
theorem refSum_any (k : List UInt8) (a : Option Addr) (len cap : Nat) (l : List UInt8) (w : World) (hk : k.length = 16) (hb : IsB w a len cap l) :
    Calls Try.prog 10 #[kv k, .slice a len cap] w (RetS (.int .u64 ((sip k l).toNat : Int)) w) := by
  have hle := hb.le
  have hmax := hb.max
  have hl := hid hb.length
  have HK := hid hk
  have k1 := (Ky.new w k).isB 0 8 16 (by omega) (by omega) (by omega) (by omega)
  have k2 := (Ky.new w k).isB 8 8 8 (by omega) (by omega) (by omega) (by omega)
  rw [List.drop_zero] at k1
  rw [List.take_of_length_le (by rw [List.length_drop]; omega)] at k2
  have hB := (Below.refl w.heap.size w).alloc (Nat.le_refl _) (.cells (row k) 23)
  have hsz : (w.alloc (.cells (row k) 23)).heap.size = w.heap.size + 1 := by simp
  rw [kv]
  go_enter Try.func10, Try.ntmps10
  go_wp2_with fail
  generalize w.alloc (.cells (row k) 23) = w1 at *
  go_quiet ((go_at_call 24; exact Calls.quiet_of_same (refNumber_still (IsB.below (w := w1) (by first | exact k1 | exact k2) (below_drewN (Below.refl _ _) _)) (by omega))))
  have X0 := xk0 (leW (k.take 8))
  have X1 := xk1 (leW (k.drop 8))
  have X2 := xk2 (leW (k.take 8))
  have X3 := xk3 (leW (k.drop 8))
  go_wp2_with fail
  clear X0 X1 X2 X3
  rw [ini_cells]
  have hR := Rf.new (w1.drewN nq) (ini k)
  rw [show (w1.drewN nq).heap.size = w.heap.size + 1 from by rw [← hsz]; simp] at hR
  have hB2 := (below_drewN hB nq).alloc (by simp; omega) (.cells (stc (ini k)) 48)
  generalize (w1.drewN nq).alloc (.cells (stc (ini k)) 48) = w2 at *
  clear k1 k2 hB hsz
  have HI : Hid (sip k l = fin (word (absorb (ini k) l (l.length / 8)) (ro (leW (l.drop (8 * (l.length / 8)))) (sizeW l.length)))) := hid rfl
  have HR := hid hR
  clear hR
  generalize ini k = s0 at *
  go_loopw [8] (fun i wr => ∃ (n m : Nat), Hid (m = 8 * n) ∧ m ≤ len ∧ i = .int .i64 m ∧ Hid (Rf wr (w.heap.size + 1) (absorb s0 l n)) ∧ Below w.heap.size w wr) (fun i _ => len - (intOf i).toNat)
  case atStart => exact ⟨0, 0, hid rfl, by omega, rfl, hid (by rw [absorb_zero]; exact HR.out), hB2⟩
  case round =>
    obtain ⟨n, m, Hm, hm, rfl, HF, hBr⟩ := hrel
    clear HR hB2
    have hbr := hb.below hBr
    by_cases hlt : m + 8 ≤ len
    · obtain ⟨p, hr, hp⟩ := slice_eight hbr m hlt
      have HA := hid (absorb_succ s0 l n)
      generalize absorb s0 l n = t at *
      obtain ⟨ta, tb, tc, td⟩ := t
      obtain ⟨c0, c1, c2, c3, f0, f1, f2, f3⟩ := HF.out.cells
      have e9 : IntKind.i64.wrap ((m : Int) + 8) = (m : Int) + 8 := IntWalk.i64_in _ (by omega)
      go_wp2_with fail
      go_still_tail 7, (by kernel_rfl)
      still_call (refNumber_still hp.drew (by omega))
      repeat still_step
      try refine wpStill_nil ?_
      clear e9 hr hp hbr c0 c1 c2 c3 f0 f1 f2 f3
      go_wp2_with fail
      have hw := refWord_any ⟨ta, tb, tc, td⟩ (leW ((l.drop m).take 8)) wr.drew
      simp only [stc, wv] at hw
      with_reducible refine hw.mono ?_
      clear hw
      rintro e w3 ⟨rfl, hb3⟩
      have HF3 := HF.out.drew.below hb3 HF.out.drew.lt
      have hB3 := (below_drewN hBr 1).trans (hb3.mono hBr.size)
      clear hb3 HF hBr
      rw [← Hm.out] at HA
      generalize word ⟨ta, tb, tc, td⟩ (leW ((l.drop m).take 8)) = t2 at *
      obtain ⟨a', b', c', d'⟩ := t2
      obtain ⟨c0, c1, c2, c3, f0, f1, f2, f3⟩ := HF3.cells
      have HF4 := hid (HF3.store a' b' c' d')
      have hB4 := below_store hB3 (g := w.heap.size + 1) (by omega) (.int .u64 a'.toNat) (.int .u64 b'.toNat) (.int .u64 c'.toNat) (.int .u64 d'.toNat)
      clear HF3 hB3
      go_wp2_with fail
      clear c0 c1 c2 c3 f0 f1 f2 f3
      go_roundw
      case rel => exact ⟨n + 1, m + 8, hid (by rw [Hm.out]; omega), by omega, by go_num, by rw [HA.out]; exact HF4, hB4⟩
      case measure => simp [intOf]; omega
    · obtain ⟨p, hr, hp⟩ := slice_tail hbr m hm
      have hn8 : len / 8 = n := by have := Hm.out; omega
      rw [hl.out, hn8, ← Hm.out] at HI
      rw [← ad_ro (l.drop m) len (by rw [List.length_drop, hl.out]; omega)] at HI
      clear hn8
      generalize absorb s0 l n = t at *
      obtain ⟨ta, tb, tc, td⟩ := t
      obtain ⟨c0, c1, c2, c3, f0, f1, f2, f3⟩ := HF.out.cells
      go_wp2_with fail
      go_still_tail 11, (by kernel_rfl)
      still_call (refNumber_still hp.drew (by omega))
      repeat still_step
      try refine wpStill_nil ?_
      clear hr hp hbr c0 c1 c2 c3 f0 f1 f2 f3
      go_wp2_with fail
      rw [last_val]
      have hw := refWord_any ⟨ta, tb, tc, td⟩ (ad (leW (l.drop m)) (sizeW len)) wr.drew
      simp only [stc, wv] at hw
      with_reducible refine hw.mono ?_
      clear hw
      rintro e w3 ⟨rfl, hb3⟩
      have HF3 := HF.out.drew.below hb3 HF.out.drew.lt
      have hB3 := (below_drewN hBr 1).trans (hb3.mono hBr.size)
      clear hb3 HF hBr
      generalize word ⟨ta, tb, tc, td⟩ (ad (leW (l.drop m)) (sizeW len)) = t2 at *
      obtain ⟨a', b', c', d'⟩ := t2
      obtain ⟨c0, c1, c2, c3, f0, f1, f2, f3⟩ := HF3.cells
      have HF4 := HF3.store a' b' c' d'
      have hB4 := below_store hB3 (g := w.heap.size + 1) (by omega) (.int .u64 a'.toNat) (.int .u64 b'.toNat) (.int .u64 c'.toNat) (.int .u64 d'.toNat)
      clear HF3 hB3
      go_upto_region 8 with (fail)
      clear c0 c1 c2 c3 f0 f1 f2 f3
      generalize (((w3.setCell ⟨w.heap.size + 1, 0, none⟩ _).setCell ⟨w.heap.size + 1, 1, none⟩ _).setCell ⟨w.heap.size + 1, 2, none⟩ _).setCell ⟨w.heap.size + 1, 3, none⟩ _ = w4 at *
      obtain ⟨c0, c1, c2, c3, f0, f1, f2, f3⟩ := HF4.cells
      have HF5 := HF4.set2 (xr c' 255)
      have hB5 := hB4.setCell (p := ⟨w.heap.size + 1, 2, none⟩) (Nat.le_succ _) (.int .u64 (xr c' 255).toNat)
      clear HF4 hB4
      generalize leW (k.take 8) = z1
      generalize leW (k.drop 8) = z2
      go_upto_region 9 with (fail)
      have X2 : bits .xor .u64 (c'.toNat : Int) 255 = ((xr c' 255).toNat : Int) := xr_val c' 255
      rw [X2]
      clear X2 c0 c1 c2 c3 f0 f1 f2 f3
      generalize w4.setCell ⟨w.heap.size + 1, 2, none⟩ (.int .u64 ((xr c' 255).toNat : Int)) = w5 at *
      dsimp only at HF5
      obtain ⟨c0, c1, c2, c3, f0, f1, f2, f3⟩ := HF5.cells
      have HV : Hid (fin ⟨a', b', c', d'⟩ = xr (xr (xr (rnd (rnd (rnd (rnd ⟨a', b', xr c' 255, d'⟩)))).a (rnd (rnd (rnd (rnd ⟨a', b', xr c' 255, d'⟩)))).b) (rnd (rnd (rnd (rnd ⟨a', b', xr c' 255, d'⟩)))).c) (rnd (rnd (rnd (rnd ⟨a', b', xr c' 255, d'⟩)))).d) := hid rfl
      rw [HV.out] at HI
      clear HV
      go_wp2_with fail
      with_reducible refine (round_any _ _ _ _ _).mono ?_
      rintro e w6 ⟨rfl, hb6⟩
      go_wp2_with fail
      with_reducible refine (round_st _ _).mono ?_
      rintro e w7 ⟨rfl, hb7⟩
      go_wp2_with fail
      with_reducible refine (round_st _ _).mono ?_
      rintro e w8 ⟨rfl, hb8⟩
      go_wp2_with fail
      with_reducible refine (round_st _ _).mono ?_
      rintro e w9 ⟨rfl, hb9⟩
      have hb := seq (seq (seq hb6 hb7) hb8) hb9
      have HF6 := HF5.below hb HF5.lt
      have hB6 := seq hB5 hb
      clear hb6 hb7 hb8 hb9 hb HF5 hB5 c0 c1 c2 c3 f0 f1 f2 f3
      generalize rnd (rnd (rnd (rnd ⟨a', b', xr c' 255, d'⟩))) = t3 at *
      obtain ⟨a3, b3, c3, d3⟩ := t3
      obtain ⟨c0, c1, c2, c3', f0, f1, f2, f3⟩ := HF6.cells
      have HF7 := HF6.store a3 b3 c3 d3
      have hB7 := below_store hB6 (g := w.heap.size + 1) (by omega) (.int .u64 a3.toNat) (.int .u64 b3.toNat) (.int .u64 c3.toNat) (.int .u64 d3.toNat)
      simp only [stc, wv]
      go_upto_region 10 with (fail)
      clear c0 c1 c2 c3' f0 f1 f2 f3 HF6 hB6
      generalize (((w9.setCell ⟨w.heap.size + 1, 0, none⟩ _).setCell ⟨w.heap.size + 1, 1, none⟩ _).setCell ⟨w.heap.size + 1, 2, none⟩ _).setCell ⟨w.heap.size + 1, 3, none⟩ _ = wa at *
      obtain ⟨c0, c1, c2, c3', f0, f1, f2, f3⟩ := HF7.cells
      go_wp2_with fail
      go_ret
      exact ⟨ret_int (by rw [xr_val, xr_val, xr_val, HI.out]), hB7⟩
end Go.Proofs.Ytjlogmbgapnceaa
