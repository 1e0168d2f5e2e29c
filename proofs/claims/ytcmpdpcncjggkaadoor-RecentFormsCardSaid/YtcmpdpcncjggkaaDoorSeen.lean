/-
  The tape's list of received frames: the walk.
-/
import Derived.Test.YtcmpdpcncjggkaaDoorSeen7
namespace Go.Proofs.YtcmpdpcncjggkaaDoor
open Go.RowKit
set_option linter.unusedSimpArgs false
set_option linter.unusedVariables false

theorem hasF_take_succ (L : List Ent) (i : Nat) (hi : i < L.length) (m s e q : Int) : hasF (L.take (i + 1)) m s e q = (hasF (L.take i) m s e q || sameF m s e q (L.getD i dE)) := by
  rw [List.take_add_one, List.getD_eq_getElem?_getD, List.getElem?_eq_getElem hi]
  simp only [hasF, Option.toList_some, List.any_append, List.any_cons, List.any_nil, Bool.or_false, Option.getD_some]

theorem TS.grow {w w4 wk : World} {g n : Nat} {v : Value} {L : List Ent} (h : TS w w4 g v L n) (hb : Below w4.heap.size w4 wk) : TS w wk g v L n :=
  ⟨h.gr.below hb, h.t.below hb, h.o.trans (Only.ofBelow g hb), h.vl, h.few, h.len⟩
theorem TS.mono {w w4 : World} {g n k : Nat} {v : Value} {L : List Ent} (h : TS w w4 g v L n) (hk : n ≤ k) : TS w w4 g v L k :=
  ⟨h.gr, h.t, h.o, h.vl, h.few, Nat.le_trans h.len hk⟩

/-- where the list is filled up -/
structure FS (w wr : World) (g : Nat) (v : Value) (L : List Ent) (n : Nat) : Prop where
  gr : GrE wr w.heap.size v L
  t : TapeAt wr g
  o : Only g w wr
  vl : VL L
  low : ∀ x ∈ L, x.s = 100 → x.q < n
  len : L.length = n

/-- the post of Seen -/
def RetSeen (g : Nat) (w : World) (e : Ending) (w' : World) : Prop :=
  ∃ v L, e = .returned v ∧ VL L ∧ GrE w' w.heap.size v L ∧ TapeAt w' g ∧ Only g w w'

set_option maxHeartbeats 16000000 in
set_option maxRecDepth 100000 in
theorem seen_any (g : Nat) (w : World) (hT : TapeAt w g) :
    Calls Tryd.prog 9 #[.pointer (some ⟨g, 0, none⟩)] w (RetSeen g w) := by
  have hg := hT.lt
  go_enter Tryd.func9, Tryd.ntmps9
  go_wp2_with fail
  with_reducible refine (next_any g 6 w hT (by omega) (by omega)).mono ?_
  rintro e1 w1 ⟨k0, rfl, hk0, hT1, hO1⟩
  have S1 : TS w w1 g (.slice none 0 0) [] (5 - k0) := ⟨GrE.nil _ _, hT1, hO1, ⟨by simp, by simp, List.Pairwise.nil⟩, by simp, by simp⟩
  clear hT hT1 hO1
  go_wp2_with fail
  go_loopw [3, 4] (fun tv tk wr => ∃ (k : Nat) (v : Value) (L : List Ent), k ≤ 5 ∧ tk = .int .i64 k ∧ tv = v ∧ TS w wr g v L (5 - k)) (fun _ tk _ => (intOf tk).toNat)
  case atStart => exact ⟨k0, _, [], by omega, rfl, rfl, S1⟩
  case round =>
    clear S1
    obtain ⟨k, v, L, hk, rfl, rfl, S⟩ := hrel
    by_cases hk0 : 0 < k
    · obtain ⟨p, cp, rfl, hI⟩ := S.gr.isE (by have := S.len; omega)
      go_wp2_with fail
      with_reducible refine (device_good g wr S.t).mono ?_
      rintro e2 w2 ⟨m, s, x, rfl, hx3, ⟨hsen, hs100⟩, hT2, hO2⟩
      simp only [av]
      go_wp2_with fail
      with_reducible refine (next_any g 4 w2 hT2 (by omega) (by omega)).mono ?_
      rintro e3 w3 ⟨q, rfl, hq, hT3, hO3⟩
      have hqw : IntKind.u8.wrap (q : Int) = (q : Int) := by simp [IntKind.wrap, IntKind.bits, IntKind.signed]; omega
      go_wp2_with fail
      with_reducible refine (next_any g 40 w3 hT3 (by omega) (by omega)).mono ?_
      rintro e4 w4 ⟨u, rfl, hu, hT4, hO4⟩
      have hO24 := (hO2.trans hO3).trans hO4
      have S4 : TS w w4 g (.slice p L.length cp) L (5 - k) := ⟨S.gr.only hO24 hg, hT4, S.o.trans hO24, S.vl, S.few, S.len⟩
      clear S hT2 hT3 hO2 hO3 hO4 hT4 hO24 hI
      have hb5 := (Below.refl w4.heap.size w4).alloc (Nat.le_refl _) (.cells #[.int .i64 m, .int .u16 s, .int .u64 x, .int .u8 (q : Int), .int .i64 (u : Int)] 36)
      have hx4 : (w4.alloc (.cells #[.int .i64 m, .int .u16 s, .int .u64 x, .int .u8 (q : Int), .int .i64 (u : Int)] 36)).rangeAt w4.heap.size 0 (el ⟨m, s, x, q, u⟩) := el_heap (x := ⟨m, s, x, q, u⟩) (heap_alloc_new w4 _)
      have hsz5 : (w4.alloc (.cells #[.int .i64 m, .int .u16 s, .int .u64 x, .int .u8 (q : Int), .int .i64 (u : Int)] 36)).heap.size = w4.heap.size + 1 := by simp
      go_wp2_with fail
      generalize w4.alloc (.cells #[.int .i64 m, .int .u16 s, .int .u64 x, .int .u8 (q : Int), .int .i64 (u : Int)] 36) = w5 at *
      obtain ⟨p4, cp4, hv4, hI4⟩ := S4.gr.isE (by have := S4.len; omega)
      injection hv4 with e1 e2 e3
      subst e1 e3
      have hI5 := hI4.below hb5
      clear hI4 e2
      have hlen5 : L.length ≤ 5 := by have := S4.len; omega
      go_loopw [6, 7] (fun tf ti wr => ∃ (i : Nat) (f : Bool), i ≤ L.length ∧ ti = .int .i64 i ∧ tf = .bool f ∧ Hid (f = !hasF (L.take i) m s x q) ∧ Below w5.heap.size w5 wr) (fun _ ti _ => L.length - (intOf ti).toNat)
      case atStart => exact ⟨0, true, Nat.zero_le _, rfl, rfl, hid rfl, Below.refl _ _⟩
      case round =>
        obtain ⟨i, f, hi, rfl, rfl, hf, hB⟩ := hrel
        by_cases hlt : i < L.length
        · obtain ⟨b, off, rfl, hb, hc⟩ := hI5.some (by omega)
          have hK := rangeAt_below (hc i hlt) hB hb
          have hX := rangeAt_below hx4 hB (by omega)
          clear hc
          have hsucc : Hid (hasF (L.take (i + 1)) m s x q = (hasF (L.take i) m s x q || sameF m s x q (L.getD i dE))) := hid (hasF_take_succ L i hlt m s x q)
          generalize L.getD i dE = y at hK hsucc
          obtain ⟨k0, k1, k2, k3, k4⟩ := el_cells hK
          obtain ⟨x0, x1, x2, x3, x4⟩ := el_cells hX
          simp only [Nat.zero_add] at x0 x1 x2 x3 x4
          have hne := fun W => ad_neq y.m y.s y.e m s x W
          have hsf : Hid (sameF m s x q y = (sameA y.m y.s y.e m s x && decide (y.q = q))) := hid (by unfold sameF sameA; rw [Bool.eq_iff_iff]; simp; omega)
          clear hK hX
          cases f
          · go_wp2_with fail
            go_quiet (fail)
            go_wp2_with fail
            go_roundw
            case rel => exact ⟨i + 1, false, by omega, by go_num, rfl, hid (by rw [hsucc.out]; have := hf.out; revert this; cases hasF (L.take i) m s x q <;> simp), below_drewN hB _⟩
            case measure => simp [intOf]; omega
          · generalize hA : sameA y.m y.s y.e m s x = A at hne hsf
            clear hA
            cases A
            · go_wp2_with fail
              go_quiet (fail)
              go_wp2_with fail
              go_roundw
              case rel => exact ⟨i + 1, true, by omega, by go_num, rfl, hid (by rw [hsucc.out, hsf.out]; have := hf.out; revert this; cases hasF (L.take i) m s x q <;> simp), below_drewN hB _⟩
              case measure => simp [intOf]; omega
            · by_cases hyq : y.q = q
              · go_wp2_with fail
                go_quiet (fail)
                go_wp2_with fail
                go_roundw
                case rel => exact ⟨i + 1, false, by omega, by go_num, rfl, hid (by rw [hsucc.out, hsf.out]; simp [hyq]), below_drewN hB _⟩
                case measure => simp [intOf]; omega
              · go_wp2_with fail
                go_quiet (fail)
                go_wp2_with fail
                go_roundw
                case rel => exact ⟨i + 1, true, by omega, by go_num, by simp [bne, hyq], hid (by rw [hsucc.out, hsf.out]; have := hf.out; revert this; simp [hyq]), below_drewN hB _⟩
                case measure => simp [intOf]; omega
        · obtain rfl : i = L.length := by omega
          have hfr := hf.out
          rw [List.take_length] at hfr
          have Hfr := hid hfr
          clear hf hfr
          have hb6 := hb5.trans (hB.mono (by omega))
          have S6 := S4.grow hb6
          clear S4
          cases f
          · go_wp2_with fail
            go_roundw
            case rel => exact ⟨k - 1, _, L, by omega, by congr 1; omega, rfl, S6.mono (by omega)⟩
            case measure => simp [intOf]; omega
          · have hX := rangeAt_below hx4 hB (by omega)
            obtain ⟨x0, x1, x2, x3, x4⟩ := el_cells hX
            simp only [Nat.zero_add] at x0 x1 x2 x3 x4
            have hone : IsE (wr.alloc (.cells #[.int .i64 m, .int .u16 s, .int .u64 x, .int .u8 (q : Int), .int .i64 (u : Int)] 36)) (some ⟨wr.heap.size, 0, none⟩) 1 1 [⟨m, s, x, q, u⟩] := isE_one wr ⟨m, s, x, q, u⟩
            have hb7 := (Below.refl wr.heap.size wr).alloc (Nat.le_refl _) (.cells #[.int .i64 m, .int .u16 s, .int .u64 x, .int .u8 (q : Int), .int .i64 (u : Int)] 36)
            have hsw : w.heap.size ≤ wr.heap.size := S6.o.size
            have hG7 := S6.gr.below hb7
            clear hX
            go_wp2_with (with_reducible refine wpList_append_ents (o := ⟨some 54, _, _, _, _, _⟩) rfl (.tmp 51) (.tmp 53) rfl (.slice p L.length cp) rfl (some ⟨wr.heap.size, 0, none⟩) 1 1 rfl w.heap.size L [⟨m, s, x, q, u⟩] hG7 hone (by omega) wr (hb7.mono hsw) (by simp; omega) ?_; intro v8 w8 hG8 hB8 _)
            have S8 : TS w w8 g v8 (L ++ [⟨m, s, x, q, u⟩]) (5 - (k - 1)) := ⟨hG8.out, tape_under S6.t hB8 hg, only_grow S6.o hB8, S6.vl.add (by omega) _ (by simp [okE, hsen, timeB]; omega) (by have := Hfr.out; simpa using this), fun y hy => by
              rcases List.mem_append.1 hy with h | h
              · exact S6.few y h
              · simp at h; subst h; exact hs100, by have := S6.len; simp; omega⟩
            go_roundw
            case rel => exact ⟨k - 1, _, _, by omega, by congr 1; omega, rfl, S8⟩
            case measure => simp [intOf]; omega
    · obtain rfl : k = 0 := by omega
      go_wp2_with fail
      with_reducible refine (bool_any g 5 wr S.t (by omega) (by omega)).mono ?_
      rintro e2 w2 ⟨b, rfl, hT2, hO2⟩
      have S2 : TS w w2 g _ L 5 := ⟨S.gr.only hO2 hg, hT2, S.o.trans hO2, S.vl, S.few, S.len⟩
      clear S hT2 hO2
      cases b
      · go_wp2_with fail
        go_ret
        exact ⟨_, L, rfl, S2.vl, S2.gr, S2.t, S2.o⟩
      · obtain ⟨p, cp, rfl, hI⟩ := S2.gr.isE (by have := S2.len; omega)
        go_wp2_with fail
        have F0 : FS w w2 g (.slice p L.length cp) L L.length := ⟨S2.gr, S2.t, S2.o, S2.vl, fun x hx h => by have := S2.few x hx; omega, rfl⟩
        have hl32 : L.length ≤ 32 := S2.vl.len
        clear S2 hI
        go_loopw [3, 8] (fun tv ti wr => ∃ (i : Nat) (v : Value) (L : List Ent), i ≤ 32 ∧ ti = .int .i64 i ∧ tv = v ∧ FS w wr g v L i) (fun _ ti _ => 32 - (intOf ti).toNat)
        case atStart => exact ⟨L.length, _, L, hl32, rfl, rfl, F0⟩
        case round =>
          clear F0 hl32
          obtain ⟨i, v, L, hi, rfl, rfl, F⟩ := hrel
          by_cases hlt : i < 32
          · obtain ⟨p, cp, rfl, hI⟩ := F.gr.isE (by have := F.vl.len; omega)
            have hqw : IntKind.u8.wrap (i : Int) = (i : Int) := by simp [IntKind.wrap, IntKind.bits, IntKind.signed]; omega
            have hone : IsE (wr.alloc (.cells #[.int .i64 2, .int .u16 100, .int .u64 0, .int .u8 (i : Int), .int .i64 (3 + 7 * (i : Int) % 30)] 36)) (some ⟨wr.heap.size, 0, none⟩) 1 1 [⟨2, 100, 0, i, 3 + 7 * (i : Int) % 30⟩] := isE_one wr ⟨2, 100, 0, i, 3 + 7 * (i : Int) % 30⟩
            have hb7 := (Below.refl wr.heap.size wr).alloc (Nat.le_refl _) (.cells #[.int .i64 2, .int .u16 100, .int .u64 0, .int .u8 (i : Int), .int .i64 (3 + 7 * (i : Int) % 30)] 36)
            have hsw : w.heap.size ≤ wr.heap.size := F.o.size
            have hG7 := F.gr.below hb7
            have hll := F.len
            clear hI
            go_wp2_with (with_reducible refine wpList_append_ents (o := ⟨some 73, _, _, _, _, _⟩) rfl (.tmp 63) (.tmp 72) rfl (.slice p L.length cp) rfl (some ⟨wr.heap.size, 0, none⟩) 1 1 rfl w.heap.size L [⟨2, 100, 0, i, 3 + 7 * (i : Int) % 30⟩] hG7 hone (by omega) wr (hb7.mono hsw) (by simp; omega) ?_; intro v8 w8 hG8 hB8 _)
            have F8 : FS w w8 g v8 (L ++ [⟨2, 100, 0, i, 3 + 7 * (i : Int) % 30⟩]) (i + 1) := by
              refine ⟨hG8.out, tape_under F.t hB8 hg, only_grow F.o hB8, F.vl.add (by omega) _ (by simp [okE, senderB, validA, timeB]; omega) ?_, fun y hy h => ?_, by simp; omega⟩
              · cases hh : hasF L 2 100 0 i with
                | false => rfl
                | true =>
                  obtain ⟨y, hy, hs⟩ := (hasF_iff _ _ _ _ _).1 hh
                  simp [sameF] at hs
                  have := F.low y hy hs.2.1
                  omega
              · rcases List.mem_append.1 hy with h1 | h1
                · have := F.low y h1 h; omega
                · simp at h1; subst h1; simp; omega
            go_roundw
            case rel => exact ⟨i + 1, _, _, by omega, by go_num, rfl, F8⟩
            case measure => simp [intOf]; omega
          · obtain rfl : i = 32 := by omega
            go_wp2_with fail
            go_ret
            exact ⟨_, L, rfl, F.vl, F.gr, F.t, F.o⟩
end Go.Proofs.YtcmpdpcncjggkaaDoor
