/-
  Whole: what it returns, plainly; the document's answer walked.
-/
import Derived.Test.YtkceakoacmjkgaaOrder
import Derived.Test.YtkceakoacmjkgaaFrame
import Derived.Test.YtkceakoacmjkgaaOpen
import Derived.Test.YtkceakoacmjkgaaEq
namespace Go.Proofs.Ytkceakoacmjkgaa
open Go.RowKit

/-- Ranges that a slice holds, below a block number. -/
def RangesAt (W : World) (B : Nat) (A : Option Addr) (n : Nat) (rs : Nat → ByteArray × ByteArray) : Prop :=
  ∀ i, i < n → ∃ b off, A = some ⟨b, off, none⟩ ∧ b < B ∧ W.cell? ⟨b, off + i * 2, none⟩ = some (.string (rs i).1) ∧ W.cell? ⟨b, off + i * 2 + 1, none⟩ = some (.string (rs i).2)

/-- Does a range not fit behind an end? -/
def bad (rs : Nat → ByteArray × ByteArray) (n i : Nat) (e : ByteArray) : Bool := !((rs i).1.toList == e.toList) || (decide (i + 1 < n) && (rs i).2.toList.isEmpty)
/-- What is said from place i on, so many to go, behind an end. -/
def wholeF (rs : Nat → ByteArray × ByteArray) (n : Nat) : Nat → Nat → ByteArray → Int × Int
  | 0, _, e => if decide (n = 0) || !e.toList.isEmpty then (133, (n : Int)) else (0, 0)
  | f + 1, i, e => if chk (rs i).1 (rs i).2 == 0 then (if bad rs n i e then (133, (i : Int)) else wholeF rs n f (i + 1) (rs i).2) else (chk (rs i).1 (rs i).2, (i : Int))
def whole (rs : Nat → ByteArray × ByteArray) (n : Nat) : Int × Int := wholeF rs n n 0 ⟨#[]⟩

theorem whole_step {rs : Nat → ByteArray × ByteArray} {n k : Nat} {e : ByteArray} (h : wholeF rs n (n - k) k e = whole rs n) (hk : k < n) :
    whole rs n = if chk (rs k).1 (rs k).2 == 0 then (if bad rs n k e then (133, (k : Int)) else wholeF rs n (n - (k + 1)) (k + 1) (rs k).2) else (chk (rs k).1 (rs k).2, (k : Int)) := by
  rw [← h, show n - k = (n - (k + 1)) + 1 by omega]
  rfl

theorem ret2 {a b c d : Int} (h : (a, b) = (c, d)) : Ending.returned (.tuple #[.int .i64 a, .int .i64 b]) = .returned (.tuple #[.int .i64 c, .int .i64 d]) := by
  cases h; rfl

set_option maxRecDepth 100000 in
set_option maxHeartbeats 4000000 in
theorem refWhole_any (A : Option Addr) (n cap : Nat) (rs : Nat → ByteArray × ByteArray) (hn : n ≤ 9223372036854775807) (w : World) (hk : RangesAt w w.heap.size A n rs) :
    Calls Try.prog 21 #[.slice A n cap] w fun e w' => e = .returned (.tuple #[.int .i64 (whole rs n).1, .int .i64 (whole rs n).2]) ∧ Below w.heap.size w w' := by
  have HK := Lib.hid hk
  clear hk
  go_enter Try.func21, Try.ntmps21
  go_wp2
  go_loopw [4, 5] (fun e i wr => ∃ (k : Nat) (en : ByteArray), k ≤ n ∧ i = .int .i64 k ∧ e = .string en ∧ Hid (wholeF rs n (n - k) k en = whole rs n) ∧ Below w.heap.size w wr) (fun _ i _ => n - (intOf i).toNat)
  case atStart => exact ⟨0, ⟨#[]⟩, Nat.zero_le _, rfl, rfl, Lib.hid rfl, Below.refl _ _⟩
  case round =>
    rename_i wr
    obtain ⟨k, en, hk, rfl, rfl, HW, hE⟩ := hrel
    by_cases hlt : k < n
    · obtain ⟨b0, off, rfl, hbl, c0, c1⟩ := HK.out k hlt
      have d0 := (hE.cell (p := ⟨b0, off + k * 2, none⟩) hbl).trans c0
      have d1 := (hE.cell (p := ⟨b0, off + k * 2 + 1, none⟩) hbl).trans c1
      have zb : b0 < wr.heap.size := Nat.lt_of_lt_of_le hbl hE.size
      have i0 : (0 : Int) ≤ (k : Int) := by omega
      have i1 : (k : Int) < (n : Int) := by omega
      have hs := whole_step HW.out hlt
      clear c0 c1 HK
      have C := refCheck_is (rs k).1 (rs k).2 _ rfl
      cases a : chk (rs k).1 (rs k).2 == 0
      · rw [a, if_neg Bool.false_ne_true] at hs
        have a2 : (chk (rs k).1 (rs k).2 != 0) = true := by simp only [bne, a]; rfl
        have HS := Lib.hid hs
        clear hs
        generalize chk (rs k).1 (rs k).2 = m at *
        go_wp2_with (go_at_call 19; refine (C _).mono ?_; rintro e x1 ⟨rfl, hx1⟩; have f0 := (hx1.cell (p := ⟨b0, off + k * 2, none⟩) zb).trans d0; have f1 := (hx1.cell (p := ⟨b0, off + k * 2 + 1, none⟩) zb).trans d1)
        go_ret2
        exact ⟨by rw [HS.out]; rfl, after hE hx1⟩
      · rw [a, if_pos rfl] at hs
        simp only [beq_iff_eq] at a
        rw [a] at C
        clear a
        cases b : (rs k).1.toList == en.toList
        · rw [if_pos (by unfold bad; rw [b]; rfl)] at hs
          have HS := Lib.hid hs
          clear hs
          go_wp2_with (go_at_call 19; refine (C _).mono ?_; rintro e x1 ⟨rfl, hx1⟩; have f0 := (hx1.cell (p := ⟨b0, off + k * 2, none⟩) zb).trans d0; have f1 := (hx1.cell (p := ⟨b0, off + k * 2 + 1, none⟩) zb).trans d1)
          go_ret2
          exact ⟨by rw [HS.out]; rfl, after hE hx1⟩
        · by_cases l1 : k + 1 < n
          · have l2 : (k : Int) < (n : Int) - 1 := by omega
            cases c : (rs k).2.toList.isEmpty
            · rw [if_neg (by unfold bad; rw [b, c]; simp)] at hs
              have HS := Lib.hid hs
              clear hs
              go_wp2_with (go_at_call 19; refine (C _).mono ?_; rintro e x1 ⟨rfl, hx1⟩; have f0 := (hx1.cell (p := ⟨b0, off + k * 2, none⟩) zb).trans d0; have f1 := (hx1.cell (p := ⟨b0, off + k * 2 + 1, none⟩) zb).trans d1)
              go_roundw
              case rel => exact ⟨k + 1, (rs k).2, by omega, by go_num, rfl, Lib.hid HS.out.symm, after hE hx1⟩
              case measure => simp [intOf]; omega
            · rw [if_pos (by unfold bad; rw [b, c]; simp [l1])] at hs
              have HS := Lib.hid hs
              clear hs
              go_wp2_with (go_at_call 19; refine (C _).mono ?_; rintro e x1 ⟨rfl, hx1⟩; have f0 := (hx1.cell (p := ⟨b0, off + k * 2, none⟩) zb).trans d0; have f1 := (hx1.cell (p := ⟨b0, off + k * 2 + 1, none⟩) zb).trans d1)
              go_ret2
              exact ⟨by rw [HS.out]; rfl, after hE hx1⟩
          · have l2 : ¬ (k : Int) < (n : Int) - 1 := by omega
            rw [if_neg (by unfold bad; rw [b]; simp [l1])] at hs
            have HS := Lib.hid hs
            clear hs
            go_wp2_with (go_at_call 19; refine (C _).mono ?_; rintro e x1 ⟨rfl, hx1⟩; have f0 := (hx1.cell (p := ⟨b0, off + k * 2, none⟩) zb).trans d0; have f1 := (hx1.cell (p := ⟨b0, off + k * 2 + 1, none⟩) zb).trans d1)
            go_roundw
            case rel => exact ⟨k + 1, (rs k).2, by omega, by go_num, rfl, Lib.hid HS.out.symm, after hE hx1⟩
            case measure => simp [intOf]; omega
    · obtain rfl : k = n := by omega
      have hs := HW.out
      rw [Nat.sub_self] at hs
      unfold wholeF at hs
      by_cases h0 : k = 0
      · subst h0
        rw [if_pos (by simp)] at hs
        have HS := Lib.hid hs
        clear hs HW
        go_wp2
        go_ret2
        exact ⟨by rw [← HS.out]; rfl, hE⟩
      · cases c : en.toList.isEmpty
        · rw [if_pos (by rw [c]; simp)] at hs
          have HS := Lib.hid hs
          have h1 : ((k : Int) == 0) = false := by rw [beq_eq_false_iff_ne]; omega
          clear hs HW
          go_wp2
          go_ret2
          exact ⟨by rw [← HS.out]; rfl, hE⟩
        · rw [if_neg (by rw [c]; simp [h0])] at hs
          have HS := Lib.hid hs
          have h1 : ((k : Int) == 0) = false := by rw [beq_eq_false_iff_ne]; omega
          clear hs HW
          go_wp2
          go_ret2
          exact ⟨by rw [← HS.out]; rfl, hE⟩
end Go.Proofs.Ytkceakoacmjkgaa
