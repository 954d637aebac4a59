/-
  Contracts of keyrange's small functions.
-/
import Derived.Test.YtkceakoacmjkgaaLaw
import Derived.WalkKit
import Derived.WalkLawsBesides
import Derived.WalkSpells
import Derived.BigQuiet
import Derived.Outline
import Derived.Deep.RegionWith
import Derived.Deep.RegionHeld3
namespace Go.Proofs.Ytkceakoacmjkgaa
open Go.RowKit

theorem isKey_any (s : ByteArray) (w : World) :
    Calls Try.prog 24 #[.string s] w fun e w' => e = .returned (.bool (decide (s.size ≤ 32))) ∧ w = w' := by
  go_enter Try.func24, Try.ntmps24
  go_wp2
  go_ret
  exact ⟨by simp; omega, rfl⟩

theorem upper_any (lo hi : ByteArray) (w : World) :
    Calls Try.prog 25 #[.agg #[.string lo, .string hi]] w fun e w' => e = .returned (.agg #[.string hi, .bool hi.toList.isEmpty]) ∧ Below w.heap.size w w' := by
  go_enter Try.func25, Try.ntmps25
  go_wp2
  exact bodyPost_ret (v := .agg #[.string hi, .bool hi.toList.isEmpty]) (by simp [results, Try.results25, go_sem]) rfl
    ⟨rfl, ((Below.refl _ _).alloc (Nat.le_refl _) _).alloc (by simp) _⟩

theorem above_any (k s : ByteArray) (b : Bool) (w : World) :
    Calls Try.prog 26 #[.agg #[.string k, .bool b], .string s] w fun e w' => e = .returned (.bool (b || (!Op.bytesLess k.toList s.toList && !k.toList == s.toList))) ∧ Below w.heap.size w w' := by
  cases b
  all_goals
    go_enter Try.func26, Try.ntmps26
    go_wp2
    go_ret
    exact ⟨by simp, (Below.refl _ _).alloc (Nat.le_refl _) _⟩

def inOrder (lo hi : ByteArray) : Bool := hi.toList.isEmpty || (!Op.bytesLess hi.toList lo.toList && !hi.toList == lo.toList)
def chk (lo hi : ByteArray) : Int := if lo.size ≤ 32 ∧ hi.size ≤ 32 then (if inOrder lo hi then 0 else 132) else 131

theorem refCheck_any (lo hi : ByteArray) (w : World) :
    Calls Try.prog 19 #[.agg #[.string lo, .string hi]] w fun e w' => e = .returned (.int .i64 (chk lo hi)) ∧ Below w.heap.size w w' := by
  by_cases a : lo.size ≤ 32
  · by_cases b : hi.size ≤ 32
    · cases c : hi.toList.isEmpty
      · cases d : (Op.bytesLess hi.toList lo.toList || hi.toList == lo.toList)
        · go_enter Try.func19, Try.ntmps19
          go_wp2
          go_ret
          refine ⟨ret_int ?_, (Below.refl _ _).alloc (Nat.le_refl _) _⟩
          simp only [Bool.or_eq_false_iff] at d
          simp [chk, inOrder, a, b, c, d.1, d.2]
        · go_enter Try.func19, Try.ntmps19
          go_wp2
          go_ret
          refine ⟨ret_int ?_, (Below.refl _ _).alloc (Nat.le_refl _) _⟩
          simp only [Bool.or_eq_true] at d
          rcases d with d | d <;> simp [chk, inOrder, a, b, c, d]
      · go_enter Try.func19, Try.ntmps19
        go_wp2
        go_ret
        refine ⟨ret_int ?_, (Below.refl _ _).alloc (Nat.le_refl _) _⟩
        simp [chk, inOrder, a, b, c]
    · go_enter Try.func19, Try.ntmps19
      go_wp2
      go_ret
      refine ⟨ret_int ?_, (Below.refl _ _).alloc (Nat.le_refl _) _⟩
      simp [chk, a, b]
  · go_enter Try.func19, Try.ntmps19
    go_wp2
    go_ret
    refine ⟨ret_int ?_, (Below.refl _ _).alloc (Nat.le_refl _) _⟩
    simp [chk, a]

theorem isKey_is (s : ByteArray) (v : Bool) (h : decide (s.size ≤ 32) = v) (w : World) :
    Calls Try.prog 24 #[.string s] w fun e w' => e = .returned (.bool v) ∧ w = w' :=
  (isKey_any s w).mono fun _ _ ⟨he, hw⟩ => ⟨by rw [he, h], hw⟩

theorem above_is (k s : ByteArray) (b v : Bool) (h : (b || (!Op.bytesLess k.toList s.toList && !k.toList == s.toList)) = v) (w : World) :
    Calls Try.prog 26 #[.agg #[.string k, .bool b], .string s] w fun e w' => e = .returned (.bool v) ∧ Below w.heap.size w w' :=
  (above_any k s b w).mono fun _ _ ⟨he, hw⟩ => ⟨by rw [he, h], hw⟩

theorem keep1 {W w w1 : World} {u v : Value} (h : w.cell? ⟨W.heap.size, 0, none⟩ = some u ∧ w.cell? ⟨W.heap.size, 1, none⟩ = some v ∧ W.heap.size < w.heap.size ∧ Below W.heap.size W w) (hb : Below w.heap.size w w1) :
    w1.cell? ⟨W.heap.size, 0, none⟩ = some u ∧ w1.cell? ⟨W.heap.size, 1, none⟩ = some v ∧ W.heap.size < w1.heap.size ∧ Below W.heap.size W w1 :=
  ⟨(hb.cell (p := ⟨W.heap.size, 0, none⟩) h.2.2.1).trans h.1, (hb.cell (p := ⟨W.heap.size, 1, none⟩) h.2.2.1).trans h.2.1, Nat.lt_of_lt_of_le h.2.2.1 hb.size, h.2.2.2.trans (hb.mono (Nat.le_of_lt h.2.2.1))⟩
theorem keep0 (W : World) (u v : Value) (t : TypeId) : (W.alloc (.cells #[u, v] t)).drew.cell? ⟨W.heap.size, 0, none⟩ = some u ∧ (W.alloc (.cells #[u, v] t)).drew.cell? ⟨W.heap.size, 1, none⟩ = some v ∧
    W.heap.size < (W.alloc (.cells #[u, v] t)).drew.heap.size ∧ Below W.heap.size W (W.alloc (.cells #[u, v] t)).drew :=
  ⟨by go_simp, by go_simp, by simp [World.drew], ((Below.refl _ _).alloc (Nat.le_refl _) _).drew⟩

theorem check_any (lo hi : ByteArray) (w : World) :
    Calls Try.prog 15 #[.agg #[.string lo, .string hi]] w fun e w' => e = .returned (.int .i64 (chk lo hi)) ∧ Below w.heap.size w w' := by
  by_cases a : lo.size ≤ 32
  · by_cases b : hi.size ≤ 32
    · cases c : inOrder lo hi
      all_goals
        have hc : chk lo hi = chk lo hi := rfl
        conv at hc => rhs; unfold chk
        rw [if_pos ⟨a, b⟩, c] at hc
        have A := isKey_is lo true (by simp [a])
        have B := isKey_is hi true (by simp [b])
        have C := above_is hi lo hi.toList.isEmpty _ c
        have HC := Lib.hid hc
        clear hc a b c
        go_enter Try.func15, Try.ntmps15
        go_wp2_with (first
          | (go_at_call_of 24 (Value.string lo); refine (A _).mono ?_; rintro e w1 ⟨rfl, rfl⟩)
          | (go_at_call_of 24 (Value.string hi); refine (B _).mono ?_; rintro e w1 ⟨rfl, rfl⟩))
        go_region_held3 (fun w' => w'.cell? ⟨w.heap.size, 0, none⟩ = some (.string lo) ∧ w'.cell? ⟨w.heap.size, 1, none⟩ = some (.string hi) ∧ w.heap.size < w'.heap.size ∧ Below w.heap.size w w') (first | exact keep0 _ _ _ _ | exact keep1 (by assumption) (by assumption) | go_keep)
         (first
          | (go_at_call 25; refine (upper_any _ _ _).mono ?_; rintro e w1 ⟨rfl, hb1⟩)
          | (go_at_call 26; refine (C _).mono ?_; rintro e w2 ⟨rfl, hb2⟩))
        obtain ⟨h0, h1, _, hB⟩ := ‹w2.cell? _ = _ ∧ _›
        clear h0 h1
        go_wp2
        go_ret
        exact ⟨ret_int (by rw [HC.out]; simp), hB⟩
    · go_enter Try.func15, Try.ntmps15
      have A := isKey_is lo true (by simp [a])
      have B := isKey_is hi false (by simp [b])
      go_wp2_with (first
          | (go_at_call_of 24 (Value.string lo); refine (A _).mono ?_; rintro e w1 ⟨rfl, rfl⟩)
          | (go_at_call_of 24 (Value.string hi); refine (B _).mono ?_; rintro e w1 ⟨rfl, rfl⟩))
      go_ret
      refine ⟨ret_int ?_, (Below.refl _ _).alloc (Nat.le_refl _) _⟩
      simp [chk, a, b]
  · go_enter Try.func15, Try.ntmps15
    have A := isKey_is lo false (by simp [a])
    go_wp2_with (first
          | (go_at_call_of 24 (Value.string lo); refine (A _).mono ?_; rintro e w1 ⟨rfl, rfl⟩))
    go_ret
    refine ⟨ret_int ?_, (Below.refl _ _).alloc (Nat.le_refl _) _⟩
    simp [chk, a]

theorem check_is (lo hi : ByteArray) (n : Int) (h : chk lo hi = n) (w : World) :
    Calls Try.prog 15 #[.agg #[.string lo, .string hi]] w fun e w' => e = .returned (.int .i64 n) ∧ Below w.heap.size w w' :=
  (check_any lo hi w).mono fun _ _ ⟨he, hw⟩ => ⟨by rw [he, h], hw⟩
theorem refCheck_is (lo hi : ByteArray) (n : Int) (h : chk lo hi = n) (w : World) :
    Calls Try.prog 19 #[.agg #[.string lo, .string hi]] w fun e w' => e = .returned (.int .i64 n) ∧ Below w.heap.size w w' :=
  (refCheck_any lo hi w).mono fun _ _ ⟨he, hw⟩ => ⟨by rw [he, h], hw⟩

/-- Does a key lie within? -/
def has (lo hi key : ByteArray) : Bool := chk lo hi == 0 && (decide (key.size ≤ 32) && (!Op.bytesLess key.toList lo.toList && (hi.toList.isEmpty || (!Op.bytesLess hi.toList key.toList && !hi.toList == key.toList))))

theorem has_is (lo hi key : ByteArray) (v : Bool) (h : has lo hi key = v) (w : World) :
    Calls Try.prog 10 #[.agg #[.string lo, .string hi], .string key] w fun e w' => e = .returned (.bool v) ∧ Below w.heap.size w w' := by
  subst h
  have A := check_is lo hi (chk lo hi) rfl
  cases a : chk lo hi == 0
  · have HE : Hid (has lo hi key = false) := by show has lo hi key = false; unfold has; rw [a]; rfl
    generalize hn : chk lo hi = n at *
    clear hn
    go_enter Try.func10, Try.ntmps10
    go_wp2_with (first
      | (go_at_call 15; refine (A _).mono ?_; rintro e w1 ⟨rfl, hb1⟩; obtain ⟨hc1, hf1⟩ := bcell hb1))
    go_ret
    exact ⟨by rw [HE.out]; rfl, after (box1 _ _) hb1⟩
  · simp only [beq_iff_eq] at a
    rw [a] at A
    cases b : decide (key.size ≤ 32)
    · have HE : Hid (has lo hi key = false) := by show has lo hi key = false; unfold has; rw [a, b]; rfl
      have B := isKey_is key false b
      clear a b
      go_enter Try.func10, Try.ntmps10
      go_wp2_with (first
        | (go_at_call 15; refine (A _).mono ?_; rintro e w1 ⟨rfl, hb1⟩; obtain ⟨hc1, hf1⟩ := bcell hb1)
        | (go_at_call 24; refine (B _).mono ?_; rintro e w2 ⟨rfl, rfl⟩))
      go_ret
      exact ⟨by rw [HE.out]; rfl, after (box1 _ _) hb1⟩
    · have B := isKey_is key true b
      cases c : Op.bytesLess key.toList lo.toList
      · have C := above_is hi key hi.toList.isEmpty _ rfl
        have HE : Hid (has lo hi key = (hi.toList.isEmpty || (!Op.bytesLess hi.toList key.toList && !hi.toList == key.toList))) := by show has lo hi key = _; unfold has; rw [a, b, c]; rfl
        generalize (hi.toList.isEmpty || (!Op.bytesLess hi.toList key.toList && !hi.toList == key.toList)) = u at *
        clear a b
        go_enter Try.func10, Try.ntmps10
        go_wp2_with (first
          | (go_at_call 15; refine (A _).mono ?_; rintro e w1 ⟨rfl, hb1⟩; obtain ⟨hc1, hf1⟩ := bcell hb1)
          | (go_at_call 24; refine (B _).mono ?_; rintro e w2 ⟨rfl, rfl⟩)
          | (go_at_call 25; refine (upper_any _ _ _).mono ?_; rintro e w3 ⟨rfl, hb3⟩)
          | (go_at_call 26; refine (C _).mono ?_; rintro e w4 ⟨rfl, hb4⟩))
        go_ret
        exact ⟨by rw [HE.out]; rfl, after (after (after (box1 _ _) hb1) hb3) hb4⟩
      · have HE : Hid (has lo hi key = false) := by show has lo hi key = false; unfold has; rw [a, b, c]; rfl
        clear a b
        go_enter Try.func10, Try.ntmps10
        go_wp2_with (first
          | (go_at_call 15; refine (A _).mono ?_; rintro e w1 ⟨rfl, hb1⟩; obtain ⟨hc1, hf1⟩ := bcell hb1)
          | (go_at_call 24; refine (B _).mono ?_; rintro e w2 ⟨rfl, rfl⟩))
        go_ret
        exact ⟨by rw [HE.out]; rfl, after (box1 _ _) hb1⟩
end Go.Proofs.Ytkceakoacmjkgaa
