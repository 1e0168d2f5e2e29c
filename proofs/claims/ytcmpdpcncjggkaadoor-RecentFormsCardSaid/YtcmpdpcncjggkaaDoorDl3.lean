/-
  slices.DeleteFunc with the closure of Prune, on a slice of the call's own: the walk; Prune.
-/
import Derived.Test.YtcmpdpcncjggkaaDoorDl2
namespace Go.Proofs.YtcmpdpcncjggkaaDoor
open Go.RowKit
set_option linter.unusedSimpArgs false
set_option linter.unusedVariables false

theorem World.size_setCellsE (g o : Nat) (vs : List Value) (w : World) : (w.setCells g o vs).heap.size = w.heap.size := by
  induction vs generalizing o w with
  | nil => rfl
  | cons v r ih => rw [World.setCells, ih]; simp [World.setCell]
theorem Sh.lt {w : World} {g cap : Nat} (h : Sh w g cap) : g < w.heap.size := by
  obtain ⟨cur, h1, _⟩ := h
  exact (Array.getElem?_eq_some_iff.1 h1).1
/-- the post: a slice of the call's own with these entries -/
def RetG (B : Nat) (l : List Ent) (w : World) (e : Ending) (w' : World) : Prop := ∃ v, e = .returned v ∧ GrE w' B v l ∧ Below B w w'

set_option maxHeartbeats 4000000 in
set_option maxRecDepth 100000 in
theorem delete_any (B : Nat) (v : Value) (l : List Ent) (p : Nat) (now : Int) (w : World) (hG : GrE w B v l) (hmax : l.length ≤ 1000000) (hp : w.cell? ⟨p, 0, none⟩ = some (.int .i64 now)) (hpB : p < B) (hBw : B ≤ w.heap.size) :
    Calls Tryd.prog 34 #[v, .func (.func 36) #[] #[.pointer (some ⟨p, 0, none⟩)]] w (RetG B (pruneL l now) w) := by
  have hpl : p < w.heap.size := by omega
  obtain ⟨a, cap, rfl, hI⟩ := hG.isE (by omega)
  have hs := index_over a l.length cap l p now w hI hp hpl
  rcases idxF_cases (overF now) l with h1 | ⟨i0, h1, hi0, hn, ho⟩
  · rw [h1] at hs
    have hpr := pruneL_none l now h1
    rw [hpr]
    clear h1 hpr
    go_enter Tryd.func34, Tryd.ntmps34
    go_wp2_with fail
    with_reducible refine hs.mono ?_
    rintro e' w2 ⟨rfl, hb2⟩
    have hG2 := hG.below hb2
    clear hs hG hI
    go_wp2
    go_ret
    exact ⟨_, rfl, hG2, hb2.mono hBw⟩
  · rw [h1] at hs
    clear h1
    rcases hG.sh with ⟨h0, h00⟩ | ⟨g, cap2, h0, hBg, hE, hS, hc1, hc2⟩
    · subst h00; simp at hi0
    · injection h0 with e1 e2 e3
      subst e1 e3
      have hgl := hE.1
      have HN := hid hn
      have HO := hid ho
      clear hn ho
      go_enter Tryd.func34, Tryd.ntmps34
      go_wp2_with fail
      with_reducible refine hs.mono ?_
      rintro e' w2 ⟨rfl, hb2⟩
      have D0 := hid (DS.start (w := w) (B := B) rfl i0 hi0 (hE.below hb2 hgl) (hS.below hb2 hgl) (hb2.mono hBw) HN.out HO.out)
      have hp2 := (hb2.cell (p := ⟨p, 0, none⟩) hpl).trans hp
      have hs2 := hb2.size
      clear hs hG hI hE hS HN HO
      generalize hnn : l.length = n at *
      go_wp2_with fail
      go_loopw [5, 6] (fun u t wr => ∃ i j : Nat, t = .int .i64 j ∧ u = .int .i64 i ∧ Hid (DS w wr B g cap n l now i j) ∧ w.heap.size ≤ wr.heap.size ∧ j ≤ n ∧ i < j ∧ wr.cell? ⟨p, 0, none⟩ = some (.int .i64 now)) (fun _ t _ => n - (intOf t).toNat)
      case atStart => exact ⟨i0, i0 + 1, by go_num, rfl, D0, hs2, hi0, by omega, hp2⟩
      case round =>
        obtain ⟨i, j, rfl, rfl, hD, hsz, hjn, hij, hpr⟩ := hrel
        clear D0 hp2
        by_cases hlt : j < n
        · have hK := hD.out.at hlt
          generalize hx : l.getD j dE = x at hK
          have HX := hid hx
          clear hx
          obtain ⟨k0, k1, k2, k3, k4⟩ := el_cells hK
          have hba := (Below.refl wr.heap.size wr).alloc (Nat.le_refl _) (.cells #[.int .i64 x.m, .int .u16 x.s, .int .u64 x.e, .int .u8 x.q, .int .i64 x.u] 36)
          have hs := over_any x p now (wr.alloc (.cells #[.int .i64 x.m, .int .u16 x.s, .int .u64 x.e, .int .u8 x.q, .int .i64 x.u] 36)) (by rw [World.cell?_alloc_past _ _ _ (by omega)]; exact hpr)
          simp only [ev] at hs
          have hx4 : (wr.alloc (.cells #[.int .i64 x.m, .int .u16 x.s, .int .u64 x.e, .int .u8 x.q, .int .i64 x.u] 36)).rangeAt wr.heap.size 0 (el x) := el_heap (heap_alloc_new wr _)
          generalize hP : decide (x.u ≤ now) = P at hs
          have HP := hid hP
          clear hP hK
          go_wp2_with fail
          with_reducible refine hs.mono ?_
          rintro e' w3 ⟨rfl, hb3⟩
          have hb4 := hba.trans (hb3.mono hba.size)
          have hgw := hD.out.sh.lt
          have D3 := hid (hD.out.below hb4 (by omega) (by omega))
          have hp3 := (hb4.cell (p := ⟨p, 0, none⟩) (by show p < _; omega)).trans hpr
          have hx5 := rangeAt_below hx4 hb3 (by simp)
          have hs3 := hb4.size
          clear hs hb3 hb4 hba hx4 hpr hD k0 k1 k2 k3 k4
          obtain ⟨k0, k1, k2, k3, k4⟩ := el_cells hx5
          clear hx5
          cases P
          · have hth := D3.out.sh.there (i * 5) 5 (by omega)
            go_wp2_with (with_reducible refine wpList_store_ent (op := ⟨none, _, _, _, _, _⟩) (x := x) rfl (.tmp 33) (.tmp 32) rfl g (i * 5) rfl rfl hth ?_)
            go_roundw
            case rel => refine ⟨_, _, _, _, _, _, _, _, _, _, _, _, _, _, _, _, _, _, _, _, _, _, _, ?_, rfl⟩; exact ⟨i + 1, j + 1, by go_num, by go_num, hid (by rw [← HX.out]; exact D3.out.keep hnn hlt hBg (by rw [HX.out]; exact HP.out)), by rw [World.size_setCellsE]; omega, by omega, by omega, by rw [World.cell?_setCells_out g _ _ _ _ (fun hb => by simp at hb; omega)]; exact hp3⟩
            case measure => simp [intOf]; omega
          · go_wp2
            go_roundw
            case rel => refine ⟨_, _, _, _, _, _, _, _, _, _, _, _, _, _, _, _, _, _, _, _, _, _, _, ?_, rfl⟩; exact ⟨i, j + 1, by go_num, rfl, hid (D3.out.skip hnn hlt (by rw [HX.out]; exact HP.out)), by omega, by omega, by omega, hp3⟩
            case measure => simp [intOf]; omega
        · obtain rfl : j = n := by omega
          have hth := hD.out.sh.there (i * 5) ((j - i) * 5) (by omega)
          have hdone := hD.out.done hnn hc1 hc2 hBg (Builtin.zeroCells (ev dE).cells (j - i)).toList
          have hclr := fun ty => run_clear_ents wr ty g (i * 5) (j - i) (cap - i) (by omega) hth
          generalize (Builtin.zeroCells (ev dE).cells (j - i)).toList = zs at hdone hclr
          go_wp2
          go_ret
          exact ⟨_, rfl, hdone.1, hdone.2⟩
end Go.Proofs.YtcmpdpcncjggkaaDoor
