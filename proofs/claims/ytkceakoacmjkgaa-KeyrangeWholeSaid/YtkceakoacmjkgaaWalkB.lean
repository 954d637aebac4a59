/-
  Contracts: keyrange.Split, Merge, Meet.
-/
import Derived.Test.YtkceakoacmjkgaaWalkA
import Derived.Test.YtkceakoacmjkgaaPlain
namespace Go.Proofs.Ytkceakoacmjkgaa
open Go.RowKit

/-- The error of a split. -/
def splitE (lo hi key : ByteArray) : Int :=
  if chk lo hi == 0 then (if decide (key.size ≤ 32) then (if (Op.bytesLess key.toList lo.toList || key.toList == lo.toList) then 132 else if has lo hi key then 0 else 132) else 131) else chk lo hi


set_option maxHeartbeats 1000000 in
theorem split_no (lo hi key : ByteArray) (n : Int) (h : splitE lo hi key = n) (hn : (n == 0) = false) (w : World) :
    Calls Try.prog 11 #[.agg #[.string lo, .string hi], .string key] w fun e w' => e = .returned (.tuple #[noRange, noRange, .int .i64 n]) ∧ Below w.heap.size w w' := by
  subst h
  have A := check_is lo hi (chk lo hi) rfl
  cases a : chk lo hi == 0
  · have HE : Hid (splitE lo hi key = chk lo hi) := by show splitE lo hi key = _; unfold splitE; rw [a]; rfl
    generalize hm : chk lo hi = m at *
    clear hm hn
    go_enter Try.func11, Try.ntmps11
    go_wp2_with (first | (go_at_call 15; refine (A _).mono ?_; rintro e w1 ⟨rfl, hb1⟩; obtain ⟨hc1, hf1⟩ := bcell hb1; obtain ⟨z0, z1, z2⟩ := room3 hb1))
    exact bodyPost_ret (v := .tuple #[noRange, noRange, .int .i64 m]) (by simp [results, Try.results11, go_sem, noRange, *]) rfl ⟨by rw [HE.out], (by repeat (first | exact after (box (box (box1 _ _) _) _) hb1 | refine Below.setCell ?_ (by simp <;> omega) _))⟩
  · simp only [beq_iff_eq] at a
    rw [a] at A
    cases b : decide (key.size ≤ 32)
    · have HE : Hid (splitE lo hi key = 131) := by show splitE lo hi key = _; unfold splitE; rw [a, b]; rfl
      have B := isKey_is key false b
      clear a b hn
      go_enter Try.func11, Try.ntmps11
      go_wp2_with (first | (go_at_call 15; refine (A _).mono ?_; rintro e w1 ⟨rfl, hb1⟩; obtain ⟨hc1, hf1⟩ := bcell hb1; obtain ⟨z0, z1, z2⟩ := room3 hb1) | (go_at_call 24; refine (B _).mono ?_; rintro e w2 ⟨rfl, rfl⟩))
      exact bodyPost_ret (v := .tuple #[noRange, noRange, .int .i64 131]) (by simp [results, Try.results11, go_sem, noRange, *]) rfl ⟨by rw [HE.out], (by repeat (first | exact after (box (box (box1 _ _) _) _) hb1 | refine Below.setCell ?_ (by simp <;> omega) _))⟩
    · have B := isKey_is key true b
      cases c : (Op.bytesLess key.toList lo.toList || key.toList == lo.toList)
      · cases d : has lo hi key
        · have D := has_is lo hi key false d
          have HE : Hid (splitE lo hi key = 132) := by show splitE lo hi key = _; unfold splitE; rw [a, b, c, d]; rfl
          clear a b hn d
          go_enter Try.func11, Try.ntmps11
          go_wp2_with (first | (go_at_call 15; refine (A _).mono ?_; rintro e w1 ⟨rfl, hb1⟩; obtain ⟨hc1, hf1⟩ := bcell hb1; obtain ⟨z0, z1, z2⟩ := room3 hb1) | (go_at_call 24; refine (B _).mono ?_; rintro e w2 ⟨rfl, rfl⟩) | (go_at_call 10; refine (D _).mono ?_; rintro e w3 ⟨rfl, hb3⟩; obtain ⟨hc3, hf3⟩ := bcell hb3))
          exact bodyPost_ret (v := .tuple #[noRange, noRange, .int .i64 132]) (by simp [results, Try.results11, go_sem, noRange, *]) rfl ⟨by rw [HE.out], (by repeat (first | exact after (after (box (box (box1 _ _) _) _) hb1) hb3 | refine Below.setCell ?_ (by simp <;> omega) _))⟩
        · exfalso
          unfold splitE at hn
          rw [a, b, c, d] at hn
          exact absurd hn (by decide)
      · have HE : Hid (splitE lo hi key = 132) := by show splitE lo hi key = _; unfold splitE; rw [a, b, c]; rfl
        clear a b hn
        go_enter Try.func11, Try.ntmps11
        go_wp2_with (first | (go_at_call 15; refine (A _).mono ?_; rintro e w1 ⟨rfl, hb1⟩; obtain ⟨hc1, hf1⟩ := bcell hb1; obtain ⟨z0, z1, z2⟩ := room3 hb1) | (go_at_call 24; refine (B _).mono ?_; rintro e w2 ⟨rfl, rfl⟩))
        exact bodyPost_ret (v := .tuple #[noRange, noRange, .int .i64 132]) (by simp [results, Try.results11, go_sem, noRange, *]) rfl ⟨by rw [HE.out], (by repeat (first | exact after (box (box (box1 _ _) _) _) hb1 | refine Below.setCell ?_ (by simp <;> omega) _))⟩

theorem splitE_zero {lo hi key : ByteArray} (h : splitE lo hi key = 0) : chk lo hi = 0 ∧ decide (key.size ≤ 32) = true ∧ (Op.bytesLess key.toList lo.toList || key.toList == lo.toList) = false ∧ has lo hi key = true := by
  unfold splitE at h
  by_cases a : (chk lo hi == 0) = true
  · rw [if_pos a] at h
    by_cases b : decide (key.size ≤ 32) = true
    · rw [if_pos b] at h
      by_cases c : (Op.bytesLess key.toList lo.toList || key.toList == lo.toList) = true
      · rw [if_pos c] at h
        exact absurd h (by decide)
      · rw [if_neg c] at h
        by_cases d : has lo hi key = true
        · exact ⟨by simpa using a, b, by simpa using c, d⟩
        · rw [if_neg d] at h
          exact absurd h (by decide)
    · rw [if_neg b] at h
      exact absurd h (by decide)
  · rw [if_neg a] at h
    rw [h] at a
    exact absurd rfl a

set_option maxHeartbeats 1000000 in
theorem split_yes (lo hi key : ByteArray) (h : splitE lo hi key = 0) (w : World) :
    Calls Try.prog 11 #[.agg #[.string lo, .string hi], .string key] w fun e w' => e = .returned (.tuple #[.agg #[.string lo, .string key], .agg #[.string key, .string hi], .int .i64 0]) ∧ Below w.heap.size w w' := by
  obtain ⟨a, b, c, d⟩ := splitE_zero h
  have A := check_is lo hi 0 a
  have B := isKey_is key true b
  have D := has_is lo hi key true d
  clear a b d h
  go_enter Try.func11, Try.ntmps11
  go_wp2_with (first | (go_at_call 15; refine (A _).mono ?_; rintro e w1 ⟨rfl, hb1⟩; obtain ⟨hc1, hf1⟩ := bcell hb1; obtain ⟨z0, z1, z2⟩ := room3 hb1) | (go_at_call 24; refine (B _).mono ?_; rintro e w2 ⟨rfl, rfl⟩) | (go_at_call 10; refine (D _).mono ?_; rintro e w3 ⟨rfl, hb3⟩; obtain ⟨hc3, hf3⟩ := bcell hb3))
  go_region
  go_wp2
  exact bodyPost_ret (v := .tuple #[.agg #[.string lo, .string key], .agg #[.string key, .string hi], .int .i64 0]) (by simp [results, Try.results11, go_sem, *]) rfl ⟨rfl, (by repeat (first | exact after (after (box (box (box1 _ _) _) _) hb1) hb3 | refine Below.drew ?_ | refine Below.setCell ?_ (by simp <;> omega) _))⟩
end Go.Proofs.Ytkceakoacmjkgaa
