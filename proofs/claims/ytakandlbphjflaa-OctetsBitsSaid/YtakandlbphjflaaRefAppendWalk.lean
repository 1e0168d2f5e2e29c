import Derived.Test.YtakandlbphjflaaRefAppend
namespace Go.Proofs.Ytakandlbphjflaa
open Go.RowKit

/-- the post of the reference's AppendBits -/
def RetBitsR (l : List UInt8) (n : Int) (w : World) (e : Ending) (w' : World) : Prop :=
  ∃ a cap, e = .returned (.tuple #[.agg #[.slice a l.length cap, .int .i64 n], .bool true]) ∧ IsB w' a l.length cap l ∧ Below w.heap.size w w'

theorem add_bit_bv (x : UInt8) (s : Nat) (hs : s ≤ 7) (hb : x.toNat / 2 ^ s % 2 = 0) : Value.int .u8 (((x.toNat : Int) + 2 ^ s) % 256) = bv (UInt8.ofNat (x.toNat ||| 1 * 2 ^ s)) := by
  have e := add_bit x s hs hb
  have h2 := bit_shl_lt 1 s (by decide) hs
  have h3 : x.toNat ||| 1 * 2 ^ s < 2 ^ 8 := Nat.or_lt_two_pow x.toNat_lt h2
  rw [bv, UInt8.toNat_ofNat', Nat.mod_eq_of_lt h3, ← e]
  have e2 : ((2 : Int) ^ s) = ((2 ^ s : Nat) : Int) := by simp
  rw [e2]
  have h4 : x.toNat + 2 ^ s < 256 := by rw [e]; exact h3
  congr 1
  omega

theorem isB_zero (w : World) : IsB (w.alloc (.cells #[.int .u8 0] 5)) (some ⟨w.heap.size, 0, none⟩) 1 1 [0] := (Own.new w [0]).isB (by simp)

set_option maxHeartbeats 4000000 in
theorem refappend_yes (a : Option Addr) (len cap : Nat) (l : List UInt8) (n v k : Int) (w : World) (hb : IsB w a len cap l) (hv : validB l n = true) (hn : I64 n)
    (hroom : len ≤ 140737488355300) (h1 : 0 ≤ k) (h2 : k ≤ 64) (hu : U64 v) :
    Calls Try.prog 13 #[.agg #[.slice a len cap, .int .i64 n], .int .u64 v, .int .i64 k] w (RetBitsR (appTo l n.toNat v.toNat k.toNat k.toNat) (n + k) w) := by
  have hlen : 0 ≤ n ∧ n ≤ 8 * len ∧ (len : Int) = (n + 7) / 8 := by
    simp [validB, hb.length] at hv; omega
  obtain ⟨n, rfl⟩ := Int.eq_ofNat_of_zero_le hlen.1
  obtain ⟨k, rfl⟩ := Int.eq_ofNat_of_zero_le h1
  obtain ⟨v, rfl⟩ := Int.eq_ofNat_of_zero_le hu.1
  have HV := hid hv
  have HVR : Hid (validR l (n : Int) = true) := hid (by rw [validR_eq]; exact hv)
  have hle := hb.le
  have hn8 : n ≤ 8 * len := by omega
  have hl := hid hb.length
  have HLN : Hid (l.length = (n + 7) / 8) := hid (by rw [hb.length]; omega)
  have hbb := hb.below (two_below w (.cells #[.slice a len cap, .int .i64 (n : Int)] 24) (.cells #[.slice none 0 0, .int .i64 0] 24))
  clear hv hlen
  go_enter Try.func13, Try.ntmps13
  go_wp2_with fail
  refine (refvalid_any a len cap l n _ hbb hn).mono ?_
  rintro e w1 ⟨rfl, hB1⟩
  rw [HVR.out]
  have hX := ((Box.new w a len cap n).alloc (.cells #[.slice none 0 0, .int .i64 0] 24)).below hB1 (by simp; omega)
  have hY := (Box.new (w.alloc (.cells #[.slice a len cap, .int .i64 (n : Int)] 24)) none 0 0 0).below hB1 (by simp)
  have hB := (two_below w (.cells #[.slice a len cap, .int .i64 (n : Int)] 24) (.cells #[.slice none 0 0, .int .i64 0] 24)).trans (hB1.mono (B' := w.heap.size) (by simp; omega))
  have hsz : w.heap.size + 2 ≤ w1.heap.size := by have := hB1.size; simp at this; omega
  have hb1 := hbb.below hB1
  simp only [World.size_alloc] at hY
  have HX := hid hX
  have HY := hid hY
  clear hbb hB1 hX hY
  go_upto_region 3 with fail
  go_cut [8] (fun s8 wx => ∃ X u, s8 = .pointer (some ⟨X, 0, none⟩) ∧ w1.heap.size ≤ X ∧ BoxV wx X u n ∧ Gr wx w1.heap.size u l ∧ Below w1.heap.size w1 wx)
  case first =>
    have c0 := HX.out.c0
    have c1 := HX.out.c1
    have ca0 := fun o => (HX.out.alloc o).c0
    have ca1 := fun o => (HX.out.alloc o).c1
    have cb0 := fun o o' => ((HX.out.alloc o).alloc o').c0
    have cb1 := fun o o' => ((HX.out.alloc o).alloc o').c1
    have GE : Gr (w1.alloc (.cells #[] 5)).drew w1.heap.size (.slice (some ⟨w1.heap.size, 0, none⟩) 0 0) [] := gr_empty w1 w1.heap.size (Nat.le_refl _)
    have GEZ : Gr ((w1.alloc (.cells #[] 5)).alloc (.cells #[.slice none 0 0, .int .i64 0] 24)).drew w1.heap.size (.slice (some ⟨w1.heap.size, 0, none⟩) 0 0) [] := (gr_empty w1 w1.heap.size (Nat.le_refl _)).below ((Below.refl _ _).alloc (Nat.le_refl _) _).drew
    have GZE : Gr ((w1.alloc (.cells #[.slice none 0 0, .int .i64 0] 24)).alloc (.cells #[] 5)).drew w1.heap.size (.slice (some ⟨w1.heap.size + 1, 0, none⟩) 0 0) [] := by
      have := gr_empty (w1.alloc (.cells #[.slice none 0 0, .int .i64 0] 24)) w1.heap.size (by simp)
      rw [World.size_alloc] at this
      exact this
    have ZEZ : BoxV ((w1.alloc (.cells #[] 5)).alloc (.cells #[.slice none 0 0, .int .i64 0] 24)).drew (w1.heap.size + 1) (.slice none 0 0) 0 := by
      have := heap_alloc_new (w1.alloc (.cells #[] 5)) (.cells #[.slice none 0 0, .int .i64 0] 24)
      rw [World.size_alloc] at this
      exact this
    have ZZE : BoxV ((w1.alloc (.cells #[.slice none 0 0, .int .i64 0] 24)).alloc (.cells #[] 5)).drew w1.heap.size (.slice none 0 0) 0 := heap_alloc2_old w1 _ _
    have BE : Below w1.heap.size w1 (w1.alloc (.cells #[] 5)).drew := ((Below.refl _ _).alloc (Nat.le_refl _) _).drew
    have BEZ : Below w1.heap.size w1 ((w1.alloc (.cells #[] 5)).alloc (.cells #[.slice none 0 0, .int .i64 0] 24)).drew := (two_below w1 _ _).drew
    have BZE : Below w1.heap.size w1 ((w1.alloc (.cells #[.slice none 0 0, .int .i64 0] 24)).alloc (.cells #[] 5)).drew := (two_below w1 _ _).drew
    have LL : Hid (([] : List UInt8).length + len ≤ 140737488355328) := hid (by simp; omega)
    have hGE := hid GE; have hGEZ := hid GEZ; have hGZE := hid GZE; have hZEZ := hid ZEZ; have hZZE := hid ZZE
    have hBE := hid BE; have hBEZ := hid BEZ; have hBZE := hid BZE
    clear GE GEZ GZE ZEZ ZZE BE BEZ BZE
    go_region_law (first | (refine step_append_bytes rfl (.tmp 22) (.tmp 24) rfl (.slice (some ⟨w1.heap.size, 0, none⟩) 0 0) (by simp [Act.eval]) a len cap (by simp [Act.eval]) w1.heap.size [] l hGE.out (hb1.below hBE.out) LL.out w1 hBE.out hBE.out.size ?_; intro v' w2 hG2 hB2 hK2; have c1' := (HX.out.below hB2 (by omega)).c1; have ca1' := fun o => ((HX.out.below hB2 (by omega)).alloc o).c1; obtain ⟨av, cv, rfl⟩ := hG2.out.shape) | (refine step_append_bytes rfl (.tmp 22) (.tmp 24) rfl (.slice (some ⟨w1.heap.size, 0, none⟩) 0 0) (by simp [Act.eval]) a len cap (by simp [Act.eval]) w1.heap.size [] l hGEZ.out (hb1.below hBEZ.out) LL.out w1 hBEZ.out hBEZ.out.size ?_; intro v' w2 hG2 hB2 hK2; have c1' := (HX.out.below hB2 (by omega)).c1; have ca1' := fun o => ((HX.out.below hB2 (by omega)).alloc o).c1; obtain ⟨av, cv, rfl⟩ := hG2.out.shape; have zz := Gr.only_box hZEZ.out (by omega) (hGEZ.out.ne_box hZEZ.out) hK2.out; have z0 := zz.c0; have z1 := zz.c1; have zf := zz.frozen) | (refine step_append_bytes rfl (.tmp 22) (.tmp 24) rfl (.slice (some ⟨w1.heap.size + 1, 0, none⟩) 0 0) (by simp [Act.eval]) a len cap (by simp [Act.eval]) w1.heap.size [] l hGZE.out (hb1.below hBZE.out) LL.out w1 hBZE.out hBZE.out.size ?_; intro v' w2 hG2 hB2 hK2; have c1' := (HX.out.below hB2 (by omega)).c1; have ca1' := fun o => ((HX.out.below hB2 (by omega)).alloc o).c1; obtain ⟨av, cv, rfl⟩ := hG2.out.shape; have zz := Gr.only_box hZZE.out (by omega) (hGZE.out.ne_box hZZE.out) hK2.out; have z0 := zz.c0; have z1 := zz.c1; have zf := zz.frozen))
    all_goals (go_wp2_with fail)
    all_goals go_meet
    all_goals first
      | exact ⟨_, _, rfl, hB2.size, heap_alloc_new _ _, hG2.out.below ((Below.refl _ _).alloc (Nat.le_refl _) _), hB2.alloc hB2.size _⟩
      | exact ⟨_, _, rfl, by omega, (zz.set0 _).set1 _, (hG2.out.set_box zz).set_box (zz.set0 _), (hB2.setCell (by simp) _).setCell (by simp) _⟩
  case rest =>
    obtain ⟨X, u, rfl, hX1, hBX, hG, hBx⟩ := hcut
    have hY := HY.out.below hBx (by omega)
    have hBa := hB.trans (hBx.mono (B' := w.heap.size) hB.size)
    have hXR : w.heap.size + 1 < X := by omega
    clear HX hBx hb1 HY
    go_wp2
    go_loopw [9] (fun t wr => ∃ c : Nat, c ≤ k ∧ t = .int .i64 ((k : Int) - 1 - (c : Int)) ∧ ∃ u, BoxV wr X u ((n + c : Nat) : Int) ∧ Gr wr w1.heap.size u (refTo l n v k c) ∧ Box wr (w.heap.size + 1) none 0 0 0 ∧ Below w.heap.size w wr) (fun t _ => (intOf t + 1).toNat)
    case atStart => exact ⟨0, Nat.zero_le _, by go_num, u, by simpa using hBX, by simpa [refTo] using hG, hY, hBa⟩
    case round =>
      clear hBX hG hY hBa
      obtain ⟨c, hc, rfl, u, hBX, hG, hY, hBr⟩ := hrel
      have hXl := hBX.lt
      have hL := length_refTo l n v k HLN.out c
      have c0 := hBX.c0
      have c1 := hBX.c1
      have xf := hBX.frozen 0
      have HX := hid hBX; have HG := hid hG; have HY := hid hY; have HB := hid hBr
      have HL := hid hL
      have ca0 := fun o => (hBX.below ((Below.refl _ _).alloc (Nat.le_refl _) o) hXl).c0
      clear hBX hG hY hBr hL
      by_cases hlt : c < k
      · go_upto_if 38 with fail
        go_cut [] (fun wx => ∃ u', BoxV wx X u' ((n + c : Nat) : Int) ∧ Gr wx w1.heap.size u' (if (n + c) % 8 = 0 then refTo l n v k c ++ [0] else refTo l n v k c) ∧ Box wx (w.heap.size + 1) none 0 0 0 ∧ Below w.heap.size w wx)
        case first =>
          by_cases h8 : (n + c) % 8 = 0
          · go_wp2_with (with_reducible refine wpList_append_bytes (o := ⟨some 42, _, _, _, _, _⟩) rfl (.tmp 40) (.tmp 41) rfl u (by simp [Act.eval]) (some ⟨_, 0, none⟩) 1 1 (by simp [Act.eval]) w1.heap.size (refTo l n v k c) [0] (HG.out.below ((Below.refl _ _).alloc (Nat.le_refl _) _)) (isB_zero _) (by rw [HL.out]; omega) _ ((Below.refl _ _).alloc (by omega) _) (by simp; omega) ?_; intro v' w2 hG2 hB2 hK2; obtain ⟨av, cv, rfl⟩ := hG2.out.shape; have zz := Gr.only_box (HX.out.below ((Below.refl _ _).alloc (Nat.le_refl _) _) hXl) (by omega) (HG.out.ne_box HX.out) hK2.out; have z0 := zz.c0; have z1 := zz.c1; have zf := zz.frozen)
            go_meet
            have hG3 := hG2.out.set_box (j := 0) (z := .slice av (refTo l n v k c ++ [0]).length cv) zz
            have e3 : (refTo l n v k c ++ [0]).length = (refTo l n v k c).length + 1 := by simp
            rw [e3] at hG3
            refine ⟨_, zz.set0 _, by rw [if_pos h8]; exact hG3, (HY.out.below hB2 (by omega)).set_other _ _ (by simp; omega), (HB.out.trans (hB2.mono (by omega))).setCell (by simp; omega) _⟩
          · go_wp2
            go_meet
            exact ⟨u, HX.out, by rw [if_neg h8]; exact HG.out, HY.out, HB.out⟩
        case rest =>
          obtain ⟨u', hBX, hG, hY, hBr⟩ := hcut
          have hlen2 : (n + c) / 8 < (if (n + c) % 8 = 0 then refTo l n v k c ++ [0] else refTo l n v k c).length := by
            split
            · simp; rw [HL.out]; omega
            · rw [HL.out]; omega
          have hz : bitN (if (n + c) % 8 = 0 then refTo l n v k c ++ [0] else refTo l n v k c) (n + c) = 0 := by
            have := bitN_refTo l n v k HV.out c hc (n + c)
            rw [if_neg (by omega), if_neg (by omega)] at this
            split
            · rw [bitN_snoc0]; exact this
            · exact this
          have HE : Hid (refTo l n v k (c + 1) = orBit (if (n + c) % 8 = 0 then refTo l n v k c ++ [0] else refTo l n v k c) (n + c) (v / 2 ^ (k - 1 - c) % 2)) := hid rfl
          generalize (if (n + c) % 8 = 0 then refTo l n v k c ++ [0] else refTo l n v k c) = L at *
          obtain ⟨g, cg, rfl, hgB, hcell, hfz, hset⟩ := hG.row (by omega)
          have d1 := hcell _ hlen2
          have d2 := hfz ((n + c) / 8)
          have hgX : g ≠ X := fun e => hG.ne_box hBX (by simp [Value.ownBlock, e])
          have c0 := hBX.c0
          have c1 := hBX.c1
          have xf := hBX.frozen 1
          have HX := hid hBX; have HG := hid hG; have HY := hid hY; have HB := hid hBr; have HS := hid hset; have HZ := hid hz
          clear hBX hG hY hBr hcell hfz hset hz
          have hv64 : v < 18446744073709551616 := by have := hu.2; omega
          have hgX2 := Ne.symm hgX
          have hgR : g ≠ w.heap.size + 1 := by omega
          by_cases hb1 : v / 2 ^ (k - 1 - c) % 2 = 1
          · have q : (bits .and .u64 ((v : Int) / 2 ^ (k - 1 - c)) 1 == 1) = true := by rw [word_bit _ _ hv64, hb1]; rfl
            have HB1 := hid hb1
            clear hb1 hv64
            go_wp2
            go_region
            all_goals (try go_wp2)
            all_goals go_roundw
            case rel =>
              have hx : L[(n + c) / 8] = L.getD ((n + c) / 8) 0 := by simp [hlen2]
              have hz := add_bit_bv (L.getD ((n + c) / 8) 0) (7 - (n + c) % 8) (by omega) HZ.out
              rw [hx]
              have e : refTo l n v k (c + 1) = L.set ((n + c) / 8) (UInt8.ofNat ((L.getD ((n + c) / 8) 0).toNat ||| 1 * 2 ^ (7 - (n + c) % 8))) := by rw [HE.out, HB1.out]; rfl
              have hX2 := HX.out.set_other ⟨g, (n + c) / 8, none⟩ (.int .u8 ((((L.getD ((n + c) / 8) 0).toNat : Int) + 2 ^ (7 - (n + c) % 8)) % 256)) hgX2
              have hG2 := (HS.out ((n + c) / 8) _ _ hz).set_box (j := 1) (z := .int .i64 ((n : Int) + (c : Int) + 1)) hX2
              rw [← e] at hG2
              have hX3 := hX2.set1 ((n : Int) + (c : Int) + 1)
              refine ⟨c + 1, by omega, by go_num, _, ?_, hG2, (HY.out.set_other _ _ (Ne.symm hgR)).set_other _ _ (by simp; omega), ((HB.out.setCell (by simp; omega) _).setCell (by simp; omega) _).drew⟩
              have e2 : (n : Int) + (c : Int) + 1 = ((n + (c + 1) : Nat) : Int) := by omega
              rw [e2] at hX3 ⊢
              exact hX3
            case measure => simp [intOf]; omega
          · have q : (bits .and .u64 ((v : Int) / 2 ^ (k - 1 - c)) 1 == 1) = false := by rw [word_bit _ _ hv64, show v / 2 ^ (k - 1 - c) % 2 = 0 from by omega]; rfl
            have HB1 := hid hb1
            clear hb1 hv64
            go_wp2
            go_roundw
            case rel =>
              have e : Hid (refTo l n v k (c + 1) = L) := hid (by rw [HE.out, show v / 2 ^ (k - 1 - c) % 2 = 0 from by have := HB1.out; omega, orBit_zero _ _ hlen2])
              have hX3 := HX.out.set1 ((n : Int) + (c : Int) + 1)
              have hG2 := HG.out.set_box (j := 1) (z := .int .i64 ((n : Int) + (c : Int) + 1)) HX.out
              refine ⟨c + 1, by omega, by go_num, _, ?_, by rw [e.out]; exact hG2, HY.out.set_other _ _ (by simp; omega), HB.out.setCell (by simp; omega) _⟩
              have e2 : (n : Int) + (c : Int) + 1 = ((n + (c + 1) : Nat) : Int) := by omega
              rw [e2] at hX3 ⊢
              exact hX3
            case measure => simp [intOf]; omega
      · obtain rfl : c = k := by omega
        have r0 := HY.out.c0
        have r1 := HY.out.c1
        have rf := HY.out.frozen
        obtain ⟨au, cu, rfl⟩ := HG.out.shape
        have HYV : BoxV wr (w.heap.size + 1) (.slice none 0 0) 0 := HY.out
        have e0 := (HYV.set0 (.slice au (refTo l n v c c).length cu)).c0
        have e1 := ((HYV.set0 (.slice au (refTo l n v c c).length cu)).set1 ((n : Int) + (c : Int))).c1
        have hGG := (HG.out.set_box (j := 0) (z := .slice au (refTo l n v c c).length cu) HYV).set_box (j := 1) (z := .int .i64 ((n : Int) + (c : Int))) (HYV.set0 (.slice au (refTo l n v c c).length cu))
        obtain ⟨a', c', he, hI⟩ := hGG.isB (by rw [HL.out]; omega)
        have hT := hid (refTo_eq l n v c HV.out)
        have HGG := hid hI
        have HEE := hid he
        clear hI he hGG HYV
        go_wp2
        refine bodyPost_ret (v := .tuple #[.agg #[.slice au (refTo l n v c c).length cu, .int .i64 ((n : Int) + (c : Int))], .bool true]) (by simp [results, Try.results13, go_sem, e0, e1]) rfl ?_
        have he := HEE.out
        have hI := HGG.out
        injection he with h5 h6 h7
        subst h5
        subst h7
        simp only [Int.toNat_natCast]
        rw [← hT.out]
        exact ⟨_, _, rfl, hI, (HB.out.setCell (by simp) _).setCell (by simp) _⟩
end Go.Proofs.Ytakandlbphjflaa
