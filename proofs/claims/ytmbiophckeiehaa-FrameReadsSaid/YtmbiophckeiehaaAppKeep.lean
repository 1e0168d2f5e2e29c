/-
  Appending to a slice of the call's own leaves that slice as it was; and storing into one.
-/
import Derived.Test.YtmbiophckeiehaaGrow
import Derived.ArgAppend
import Derived.Laws.OwnMore
namespace Go.Proofs.Ytmbiophckeiehaa
open Go.RowKit
set_option linter.unusedSimpArgs false
set_option linter.unusedVariables false

theorem Gr.set {w : World} {B g n cap : Nat} {l : List UInt8} (h : Gr w B (.slice (some ⟨g, 0, none⟩) n cap) l) (hn : l.length = n) (j : Nat) (x : UInt8) :
    Gr (w.setCell ⟨g, j, none⟩ (bv x)) B (.slice (some ⟨g, 0, none⟩) n cap) (l.set j x) := by
  subst hn
  unfold Gr at h ⊢
  have := (World.ownsRow.stored h j (bv x)).1
  rw [List.length_set, List.map_set]
  exact this
theorem Gr.beyond {B g n cap : Nat} {l : List UInt8} (hn : l.length = n) : ∀ (vs : List Value) (w : World) (j : Nat), n ≤ j → Gr w B (.slice (some ⟨g, 0, none⟩) n cap) l → Gr (w.setCells g j vs) B (.slice (some ⟨g, 0, none⟩) n cap) l
  | [], _, _, _, h => h
  | v :: r, w, j, hj, h => by
    rw [World.setCells]
    refine Gr.beyond hn r _ (j + 1) (by omega) ?_
    subst hn
    unfold Gr at h ⊢
    have := (World.ownsRow.stored h j v).1
    rwa [List.set_eq_of_length_le (by rw [List.length_map]; exact hj)] at this

theorem below_setCells {B : Nat} {g : Nat} (hg : B ≤ g) : ∀ (vs : List Value) (w0 w : World) (j : Nat), Below B w0 w → Below B w0 (w.setCells g j vs)
  | [], _, _, _, h => h
  | v :: r, w0, w, j, h => by
    rw [World.setCells]
    exact below_setCells hg r w0 _ (j + 1) (h.setCell (p := ⟨g, j, none⟩) hg v)

theorem wp_append_keep {w : World} {o : Oper} {a : Act} {K : Act → World → Prop} {Q : Exit → Act → World → Prop} (s x : Operand)
    (ho : o.op = .call { callee := .builtin .append, args := #[s, x], argTypes := #[29, 29] })
    (g n cap : Nat) (hs : a.eval s = .slice (some ⟨g, 0, none⟩) n cap) (ad : Addr) (m c : Nat) (hx : a.eval x = .slice (some ad) m c)
    (B : Nat) (l k : List UInt8) (hg : Gr w B (.slice (some ⟨g, 0, none⟩) n cap) l) (hn : l.length = n) (hb : IsB w (some ad) m c k) (hlen : n + m ≤ 1000000) (w0 : World) (hb0 : Below B w0 w) (hBg : B ≤ g) (hBw : B ≤ w.heap.size)
    (h : ∀ p q w', Hid (IsB w' p (l ++ k).length q (l ++ k)) → Hid (Gr w' B (.slice (some ⟨g, 0, none⟩) n cap) l) → Below B w0 w' → K (a.put o.dst (.slice p (l ++ k).length q)) w') :
    o.wp Try.prog a w K Q := by
  obtain ⟨i0, hi, hz0, hz1, hz2⟩ := info_parts info5
  have hml := hb.length
  subst hn
  have hg' := hg
  unfold Gr at hg'
  have hnw : (k.map bv).length = m * 1 := by simp [hml]
  have e : (l ++ k).length = l.length + m := by simp [hml]
  by_cases hr : l.length + m ≤ cap
  · obtain ⟨v', w', h1, h2, h3, _⟩ := run_append_own (P := Try.prog) w B 29 o.type 5 i0 (.int .u8 0) 1 1 Try.underlying29 hi hz0 hz1 hz2 rfl (by decide) _ l.length (l.map bv) hg' ad m c (k.map bv) hnw (newsB hb) (bv_one k) (by unfold maxLen; omega) (by omega) hBw
    have hrow : ∀ j, j < m → (w.cell? ⟨g, 0 + l.length * i0.size + j, none⟩).isSome = true ∧ w.frozen? ⟨g, 0 + l.length * i0.size + j, none⟩ = false := by
      intro j hj
      rcases hg'.2 with ⟨h0, _⟩ | ⟨g2, cap2, cur, hv, _, hh, _, _, hsz, _⟩
      · cases h0
      · injection hv with e1 e2 e3
        injection e1 with e1
        injection e1 with e1
        subst e1 e3
        refine ⟨?_, frozen_of_row w g _ _ _ hh⟩
        rw [cell_of_row w g _ _ _ _ hh, hz1]
        simp; omega
    have hrun := run_append_room_cells (P := Try.prog) w 29 o.type 5 i0 Try.underlying29 hi g 0 l.length cap ad m c (k.map bv) (by rw [hz1]; exact hnw) (newsB hb) (bv_one k) hr (fun j hj => (hrow j (by simpa [hml] using hj)).1) (fun j hj => (hrow j (by simpa [hml] using hj)).2)
    rw [hrun] at h1
    injection h1 with e1 e2
    subst e1 e2
    unfold Oper.wp
    simp only [execOp, ho, resolve, invoke, builtin, hs, hx, Sem.run_bind, Sem.run_pure, Result.andThen_ok, List.map_toArray, List.map_cons, List.map_nil, hrun]
    have hG : Gr (w.setCells g (0 + l.length * i0.size) (k.map bv)) B (.slice (some ⟨g, 0, none⟩) (l.length + m) cap) (l ++ k) := by
      unfold Gr; rw [e, List.map_append]; exact h2
    obtain ⟨p, q, hp, hI⟩ := hG.isB (by omega)
    rw [hp]
    exact h p q _ (hid hI) (hid (Gr.beyond rfl (k.map bv) w _ (by rw [hz1]; omega) hg)) (below_setCells hBg (k.map bv) w0 w _ hb0)
  · obtain ⟨v', w', h1, h2, h3⟩ := run_append_arg_grows (P := Try.prog) w 29 o.type 5 i0 (.int .u8 0) 1 1 Try.underlying29 hi hz0 hz1 hz2 rfl (by decide) ⟨g, 0, none⟩ l.length cap (l.map bv) (by simp) (fun j u hj => World.ownsRow.cells hg' rfl j u hj) ad m c (k.map bv) hnw (newsB hb) (by omega) (by unfold maxLen; omega) (by omega)
    unfold Oper.wp
    simp only [execOp, ho, resolve, invoke, builtin, hs, hx, Sem.run_bind, Sem.run_pure, Result.andThen_ok, List.map_toArray, List.map_cons, List.map_nil, h1]
    have hG : Gr w' w.heap.size v' (l ++ k) := by
      unfold Gr; rw [e, List.map_append]; exact h2
    obtain ⟨p, q, hp, hI⟩ := hG.isB (by omega)
    subst hp
    refine h p q _ (hid hI) (hid ?_) (hb0.grown h3 hBw (fun k hk => by cases hk))
    unfold Gr
    exact World.ownsRow.kept hg' h3 (Or.inr (by simp [Value.ownBlock]))

theorem wpList_append_keep_on {w : World} {ops : Array Oper} {rest : List Oper} {o : Oper} {a : Act} {Q : Exit → Act → World → Prop} (hw : Region.wanted o (yielded ops a.tmps) = true) (s x : Operand)
    (ho : o.op = .call { callee := .builtin .append, args := #[s, x], argTypes := #[29, 29] })
    (g n cap : Nat) (hs : a.eval s = .slice (some ⟨g, 0, none⟩) n cap) (ad : Addr) (m c : Nat) (hx : a.eval x = .slice (some ad) m c)
    (B : Nat) (l k : List UInt8) (hg : Gr w B (.slice (some ⟨g, 0, none⟩) n cap) l) (hn : l.length = n) (hb : IsB w (some ad) m c k) (hlen : n + m ≤ 1000000) (w0 : World) (hb0 : Below B w0 w) (hBg : B ≤ g) (hBw : B ≤ w.heap.size)
    (h : ∀ p q w', Hid (IsB w' p (l ++ k).length q (l ++ k)) → Hid (Gr w' B (.slice (some ⟨g, 0, none⟩) n cap) l) → Below B w0 w' → wpList Try.prog ops Q rest (a.put o.dst (.slice p (l ++ k).length q)) w') :
    wpList Try.prog ops Q (o :: rest) a w := by
  unfold wpList
  rw [if_pos hw]
  exact .inl (wp_append_keep s x ho g n cap hs ad m c hx B l k hg hn hb hlen w0 hb0 hBg hBw h)
end Go.Proofs.Ytmbiophckeiehaa
