/-
  readGroups: the bytes of all groups of a text.
-/
import Derived.Test.YthammgljcchloaaDoorRg
import Derived.Test.YthammgljcchloaaDoorAppend
namespace Go.Proofs.YthammgljcchloaaDoor
open Go.RowKit

abbrev colon : ByteArray := ⟨#[58]⟩
/-- the bytes of the groups ps, behind acc -/
def rall : List UInt8 → List ByteArray → Option (List UInt8)
  | acc, [] => some acc
  | acc, p :: r => match rgroup p.data.toList with | none => none | some n => rall (acc ++ beBytes n 2) r
def rgs (s : ByteArray) : Option (List UInt8) := if s.size = 0 then some [] else rall [] (Lib.splitB colon 0 (min 8 (s.size + 1) - 1) s)

theorem empty_of (s : ByteArray) (h : s.size = 0) : s.toList.isEmpty = true := by
  rw [← decide_eq_emptyBytes]
  refine decide_eq_true ?_
  obtain ⟨d⟩ := s
  have : d = #[] := Array.eq_empty_of_size_eq_zero h
  subst this; rfl
theorem empty_not (s : ByteArray) (h : s.size ≠ 0) : s.toList.isEmpty = false := by
  rw [← decide_eq_emptyBytes]
  exact decide_eq_false (fun e => h (by rw [e]; rfl))

theorem piece_le (sep : ByteArray) (save : Nat) : ∀ (k : Nat) (s : ByteArray) (p : ByteArray), p ∈ Lib.splitB sep save k s → p.size ≤ s.size
  | 0, s, p, h => by simp [Lib.splitB] at h; subst h; exact Nat.le_refl _
  | k + 1, s, p, h => by
    unfold Lib.splitB at h
    split at h
    · simp at h; subst h; exact Nat.le_refl _
    · rcases List.mem_cons.1 h with rfl | h
      · simp only [ByteArray.size_extract]; omega
      · have := piece_le sep save k _ p h
        rw [ByteArray.size_extract] at this; omega

theorem cellsOf_at (ps : List ByteArray) (N k : Nat) (hk : k < ps.length) : (Lib.cellsOf ps N)[k]? = some (.string (ps.getD k ByteArray.empty)) := by
  simp [Lib.cellsOf, List.getElem?_append, hk, List.getD_eq_getElem?_getD]

theorem u64_small (n : Nat) (h : n < 65536) : U64 (n : Int) := by unfold U64; omega
theorem i64_two : I64 2 := by unfold I64; omega

def RgsP (s : ByteArray) (w : World) (e : Ending) (w' : World) : Prop :=
  ((∃ a len cap l, rgs s = some l ∧ e = .returned (.tuple #[.slice a len cap, .bool true]) ∧ IsB w' a len cap l ∧ len ≤ 16) ∨ (rgs s = none ∧ e = .returned (.tuple #[.slice none 0 0, .bool false]))) ∧ Below w.heap.size w w'

set_option maxHeartbeats 3200000 in
set_option maxRecDepth 100000 in
theorem read_groups (s : ByteArray) (w : World) (hs : s.size < 4294967281) (G : GL w) :
    Calls Tryd.prog 44 #[.string s] w (RgsP s w) := by
  by_cases h0 : s.size = 0
  · have he := empty_of s h0
    go_enter Tryd.func44, Tryd.ntmps44
    go_wp2
    go_ret2
    exact ⟨Or.inl ⟨none, 0, 0, [], by simp [rgs, h0], rfl, ⟨rfl, by omega, by omega, by omega, by simp, by simp⟩, by omega⟩, Below.refl _ _⟩
  · have he := empty_not s h0
    obtain ⟨m, hm⟩ := G.m
    obtain ⟨ps, hps⟩ : ∃ ps, ps = Lib.splitB colon 0 (min 8 (s.size + 1) - 1) s := ⟨_, rfl⟩
    have hrg : rgs s = rall [] ps := by unfold rgs; rw [if_neg h0, hps]
    have hpl : ps.length ≤ 8 := by
      rw [hps]; have := Lib.splitB_length_le colon 0 (min 8 (s.size + 1) - 1) s; omega
    have hpz : ∀ p ∈ ps, p.size ≤ s.size := fun p hp => piece_le colon 0 _ s p (by rw [← hps]; exact hp)
    have hsp := Tryd.strings_SplitN s colon 8 m w hs hm (by decide) (by omega) (by omega)
    rw [← hps, show ((8 : Nat) : Int) = 8 from rfl] at hsp
    go_enter Tryd.func44, Tryd.ntmps44
    go_wp2_with fail
    with_reducible refine hsp.mono ?_
    rintro e W1 ⟨rfl, hW1⟩
    have hcl : ∀ k, k < ps.length → W1.cell? ⟨w.heap.size, k, none⟩ = some (.string (ps.getD k ByteArray.empty)) := by
      intro k hk
      rw [hW1, cell_of_row _ _ _ _ _ _ (heap_alloc_new w _), cellsOf_at ps _ k hk]
    have hb1 : Below w.heap.size w W1 := by rw [hW1]; exact (Below.refl _ _).alloc (Nat.le_refl _) _
    have hsz : W1.heap.size = w.heap.size + 1 := by rw [hW1]; simp
    clear hW1 hsp hps
    have G1 := G.on hb1
    go_wp2_with fail
    go_loopw [4, 14] (fun out i wr => ∃ (k : Nat) (a : Option Addr) (len cap : Nat) (acc : List UInt8), out = .slice a len cap ∧ i = .int .i64 k ∧ k ≤ ps.length ∧ IsB wr a len cap acc ∧ Hid (len = 2 * k) ∧ Hid (rgs s = rall acc (ps.drop k)) ∧ Below (w.heap.size + 1) W1 wr) (fun _ i _ => ps.length - (intOf i).toNat)
    case atStart => exact ⟨0, none, 0, 0, [], rfl, rfl, by omega, ⟨rfl, by omega, by omega, by omega, by simp, by simp⟩, hid rfl, hid (by simpa using hrg), Below.refl _ _⟩
    case round =>
      obtain ⟨k, a, len, cap, acc, rfl, rfl, hk, hI, hlen, hH, hB⟩ := hrel
      have hbw := hb1.trans (hB.mono (by omega))
      have hl16 : len ≤ 16 := by have := hlen.out; omega
      by_cases hlt : k < ps.length
      · have hc := (hB.cell (p := ⟨w.heap.size, k, none⟩) (by simp)).trans (hcl k hlt)
        have hd : ps.drop k = ps.getD k ByteArray.empty :: ps.drop (k + 1) := by
          rw [List.drop_eq_getElem_cons hlt]; simp [List.getD_eq_getElem?_getD, hlt]
        have hz := hpz (ps.getD k ByteArray.empty) (by simp [List.getD_eq_getElem?_getD, hlt])
        rw [hd] at hH
        generalize ps.getD k ByteArray.empty = p at hc hH hz
        go_wp2_with fail
        with_reducible refine (read_group p wr (by omega) (G1.below hB (by have := G.big; omega))).mono ?_
        rintro e w2 ⟨⟨n, h1, h2, rfl⟩ | ⟨h1, rfl⟩, hb2⟩
        · have hI2 := hI.below hb2
          go_wp2_with fail
          with_reducible refine (append_any a len cap acc n 2 2 w2 hI2 (by omega) (u64_small n h2) i64_two (Or.inl ⟨by omega, by omega, rfl⟩)).mono ?_
          rintro e w3 ⟨g, rfl, hg, hO, hb3⟩
          go_wp2_with fail
          go_roundw
          case rel =>
            have hOl : (acc ++ beBytes n 2).length = len + 2 := by rw [List.length_append, length_beBytes, hI.length]
            have hOB := hO.isB (by simp only [Int.toNat_natCast] at *; omega)
            simp only [Int.toNat_natCast, List.length_append] at hOB hOl
            refine ⟨k + 1, some ⟨g, 0, none⟩, _, _, _, rfl, by go_num, by omega, hOB, hid ?_, hid ?_, hB.trans ((hb2.mono ?_).trans (hb3.mono ?_))⟩
            · rw [hOl, hlen.out]; omega
            · rw [hH.out]; simp [rall, h1]
            · have := hB.size; omega
            · have := hB.size; have := hb2.size; omega
          case measure => simp [intOf]; omega
        · go_wp2
          go_ret2
          exact ⟨Or.inr ⟨by rw [hH.out]; simp [rall, h1], rfl⟩, hbw.trans (hb2.mono hbw.size)⟩
      · obtain rfl : k = ps.length := by omega
        go_wp2
        go_ret2
        refine ⟨Or.inl ⟨a, len, cap, acc, ?_, rfl, hI, hl16⟩, hbw⟩
        rw [hH.out]; simp [rall]
end Go.Proofs.YthammgljcchloaaDoor
