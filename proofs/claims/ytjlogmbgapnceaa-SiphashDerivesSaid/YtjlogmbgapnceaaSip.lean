/-
  Sum.
-/
import Derived.Test.YtjlogmbgapnceaaBegin
namespace Go.Proofs.Ytjlogmbgapnceaa
open Go.RowKit

def wordsOf (l : List UInt8) (n : Nat) : List UInt64 := (List.range n).map fun k => leW ((l.drop (8 * k)).take 8)
/-- the state behind n words -/
def absorb (s : St) (l : List UInt8) (n : Nat) : St := (wordsOf l n).foldl word s
theorem absorb_zero (s : St) (l : List UInt8) : absorb s l 0 = s := rfl
theorem absorb_succ (s : St) (l : List UInt8) (n : Nat) : absorb s l (n + 1) = word (absorb s l n) (leW ((l.drop (8 * n)).take 8)) := by
  unfold absorb wordsOf
  rw [List.range_succ, List.map_append, List.foldl_append]; rfl

/-- the number of bytes modulo 256, as the most significant byte -/
def sizeW (n : Nat) : UInt64 := UInt64.ofNat (n % 256 * 72057594037927936)
theorem sizeW_toNat (n : Nat) : (sizeW n).toNat = n % 256 * 72057594037927936 := by
  simp only [sizeW, UInt64.toNat_ofNat']
  have := Nat.mod_lt n (show 0 < 256 by decide)
  omega
theorem size_val (n : Nat) : IntKind.u64.wrap ((n : Int) * 72057594037927936) = ((sizeW n).toNat : Int) := by
  rw [sizeW_toNat, IntKind.wrap_u64]; omega

/-- the sum of l with the key k -/
def sip (k l : List UInt8) : UInt64 := fin (word (absorb (ini k) l (l.length / 8)) (ro (leW (l.drop (8 * (l.length / 8)))) (sizeW l.length)))

/-- the length of a slice's value -/
def lenOfS : Value → Nat
  | .slice _ n _ => n
  | _ => 0

theorem four_new (w : World) (s : St) : Four (w.alloc (.cells (stc s) 42)) w.heap.size s := heap_alloc_new w _

set_option maxHeartbeats 2000000 in
theorem sum_any (k : List UInt8) (a : Option Addr) (len cap : Nat) (l : List UInt8) (w : World) (hk : k.length = 16) (hb : IsB w a len cap l) :
    Calls Try.prog 9 #[kv k, .slice a len cap] w (RetS (.int .u64 ((sip k l).toNat : Int)) w) := by
  have hle := hb.le
  have hmax := hb.max
  have hl := hid hb.length
  have HK := hid hk
  have hky := Ky.new w k
  have hB := (Below.refl w.heap.size w).alloc (Nat.le_refl _) (.cells (row k) 23)
  rw [kv]
  go_enter Try.func9, Try.ntmps9
  go_wp2_with (with_reducible refine wpList_load_key (op := ⟨some 7, _, _, _, _, _⟩) rfl (.tmp 2) rfl rfl hky hk ?_)
  refine (begin_any k _ hk).mono ?_
  rintro e w1 ⟨rfl, hB1⟩
  have hB2 := seq hB hB1
  clear hky hB hB1
  have HI : Hid (sip k l = fin (word (absorb (ini k) l (l.length / 8)) (ro (leW (l.drop (8 * (l.length / 8)))) (sizeW l.length)))) := hid rfl
  generalize ini k = s0 at *
  obtain ⟨sa, sb, sc, sd⟩ := s0
  have hF := four_new w1 ⟨sa, sb, sc, sd⟩
  have hB3 := hB2.alloc hB2.size (.cells (stc ⟨sa, sb, sc, sd⟩) 42)
  have hg := hB2.size
  simp only [stc, wv] at hB3 hF ⊢
  go_wp2_with fail
  generalize w1.alloc (.cells #[.int .u64 sa.toNat, .int .u64 sb.toNat, .int .u64 sc.toNat, .int .u64 sd.toNat] 42) = w2 at *
  generalize w1.heap.size = g at *
  clear hB2
  have HS := hid (size_val len)
  have HF := hid hF
  clear hF
  go_loopw [1] (fun b wr => ∃ (n : Nat) (p : Option Addr), 8 * n ≤ len ∧ b = .slice p (len - 8 * n) (cap - 8 * n) ∧ IsB w p (len - 8 * n) (cap - 8 * n) (l.drop (8 * n)) ∧ Hid (Four wr g (absorb ⟨sa, sb, sc, sd⟩ l n)) ∧ Below w.heap.size w wr) (fun b _ => lenOfS b)
  case atStart => exact ⟨0, a, by omega, rfl, by simpa using hb, hid (by rw [absorb_zero]; exact HF.out), hB3⟩
  case round =>
    obtain ⟨n, p, hn, rfl, hp, HF2, hBr⟩ := hrel
    clear HF hB3
    have hpr := hp.below hBr
    by_cases hlt : 8 ≤ len - 8 * n
    · have hi1 := hpr.take 8 hlt
      obtain ⟨p2, hr2, hi2⟩ := slice_tail hp 8 hlt
      have hr3 : ∀ W, (Instr.slice 24 (.slice p (len - 8 * n) (cap - 8 * n)) (some (.int .i64 8)) none none).run Try.prog W = .ok (.slice p2 (len - 8 * n - 8) (cap - 8 * n - 8)) W := hr2
      clear hr2
      have q1 : (8 : Int) ≤ ((len - 8 * n : Nat) : Int) := by omega
      rw [HS.out]
      go_wp2_with fail
      with_reducible refine (number_any _ 8 _ _ _ hi1 (by omega)).mono ?_
      rintro e w3 ⟨rfl, rfl⟩
      go_wp2_with fail
      with_reducible refine (take_any g _ _ _ HF2.out).mono ?_
      rintro e w3 ⟨rfl, hF3, hB3⟩
      have HF3 := hid hF3
      clear hF3 HF2 hi1
      have hB4 := hBr.trans (hB3.mono hg)
      clear hB3 hBr hpr
      go_wp2_with fail
      go_roundw
      case rel =>
        refine ⟨n + 1, p2, by omega, ?_, ?_, hid ?_, hB4⟩
        · rw [show len - 8 * (n + 1) = len - 8 * n - 8 from by omega, show cap - 8 * (n + 1) = cap - 8 * n - 8 from by omega]
        · rw [show len - 8 * (n + 1) = len - 8 * n - 8 from by omega, show cap - 8 * (n + 1) = cap - 8 * n - 8 from by omega, show 8 * (n + 1) = 8 * n + 8 from by omega, ← List.drop_drop]
          exact hi2
        · rw [absorb_succ]; exact HF3.out
      case measure => simp [lenOfS]; omega
    · have q1 : ((len - 8 * n : Nat) : Int) < 8 := by omega
      have hn8 : len / 8 = n := by omega
      rw [hl.out, hn8] at HI
      clear hn8
      rw [HS.out]
      go_wp2_with fail
      with_reducible refine (number_any _ _ _ _ _ hpr (by omega)).mono ?_
      rintro e w3 ⟨rfl, rfl⟩
      go_wp2_with fail
      rw [ro_val]
      with_reducible refine (take_any g _ _ _ HF2.out).mono ?_
      rintro e w3 ⟨rfl, hF3, hB3⟩
      have hB4 := hBr.trans (hB3.mono hg)
      clear hB3 hBr hpr HF2
      go_wp2_with fail
      with_reducible refine (finish_any g _ _ hF3).mono ?_
      rintro e w4 ⟨rfl, hB5⟩
      have hB6 := hB4.trans (hB5.mono hg)
      go_wp2_with fail
      go_ret
      exact ⟨ret_int (by rw [HI.out]), hB6⟩
end Go.Proofs.Ytjlogmbgapnceaa
