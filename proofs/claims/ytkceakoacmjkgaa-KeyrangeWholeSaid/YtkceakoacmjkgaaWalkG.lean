/-
  Contracts: gazetteref13.Split and Merge.
-/
import Derived.Test.YtkceakoacmjkgaaWalkB
import Derived.Test.YtkceakoacmjkgaaWalkC
import Derived.Test.YtkceakoacmjkgaaWalkD
namespace Go.Proofs.Ytkceakoacmjkgaa
open Go.RowKit

set_option maxHeartbeats 1000000 in
theorem refSplit_no (lo hi key : ByteArray) (n : Int) (h : splitE lo hi key = n) (hn : (n == 0) = false) (w : World) :
    Calls Try.prog 16 #[.agg #[.string lo, .string hi], .string key] w fun e w' => e = .returned (.tuple #[noRange, noRange, .int .i64 n]) ∧ Below w.heap.size w w' := by
  subst h
  have A := refCheck_is lo hi (chk lo hi) rfl
  cases a : chk lo hi == 0
  · have HE : Hid (splitE lo hi key = chk lo hi) := by show splitE lo hi key = _; unfold splitE; rw [a]; rfl
    generalize hm : chk lo hi = m at *
    have a2 : (m != 0) = true := by simp only [bne, a]; rfl
    clear hm hn
    go_enter Try.func16, Try.ntmps16
    go_wp2_with (first | (go_at_call 19; refine (A _).mono ?_; rintro e w1 ⟨rfl, hb1⟩; obtain ⟨hc1, hf1⟩ := bcell hb1; obtain ⟨z0, z1, z2⟩ := room3 hb1))
    exact bodyPost_ret (v := .tuple #[noRange, noRange, .int .i64 m]) (by simp [results, Try.results16, go_sem, noRange, *]) rfl ⟨by first | rfl | rw [HE.out], (by repeat (first | exact after (box (box (box1 _ _) _) _) hb1 | refine Below.drew ?_ | refine Below.setCell ?_ (by simp <;> omega) _))⟩
  · simp only [beq_iff_eq] at a
    rw [a] at A
    cases b : decide (key.size ≤ 32)
    · have HE : Hid (splitE lo hi key = 131) := by show splitE lo hi key = _; unfold splitE; rw [a, b]; rfl
      simp only [decide_eq_false_iff_not] at b
      clear a hn
      go_enter Try.func16, Try.ntmps16
      go_wp2_with (first | (go_at_call 19; refine (A _).mono ?_; rintro e w1 ⟨rfl, hb1⟩; obtain ⟨hc1, hf1⟩ := bcell hb1; obtain ⟨z0, z1, z2⟩ := room3 hb1))
      exact bodyPost_ret (v := .tuple #[noRange, noRange, .int .i64 131]) (by simp [results, Try.results16, go_sem, noRange, *]) rfl ⟨by first | rfl | rw [HE.out], (by repeat (first | exact after (box (box (box1 _ _) _) _) hb1 | refine Below.drew ?_ | refine Below.setCell ?_ (by simp <;> omega) _))⟩
    · cases c : (Op.bytesLess key.toList lo.toList || key.toList == lo.toList)
      · cases d : has lo hi key
        · have D := refHas_is lo hi key false d
          have HE : Hid (splitE lo hi key = 132) := by show splitE lo hi key = _; unfold splitE; rw [a, b, c, d]; rfl
          simp only [decide_eq_true_eq] at b
          clear a hn d
          go_enter Try.func16, Try.ntmps16
          go_wp2_with (first | (go_at_call 19; refine (A _).mono ?_; rintro e w1 ⟨rfl, hb1⟩; obtain ⟨hc1, hf1⟩ := bcell hb1; obtain ⟨z0, z1, z2⟩ := room3 hb1) | (go_at_call 20; refine (D _).mono ?_; rintro e w3 ⟨rfl, hb3⟩; obtain ⟨hc3, hf3⟩ := bcell hb3; have x0 := Nat.lt_of_lt_of_le z0 hb3.size; have x1 := Nat.lt_of_lt_of_le z1 hb3.size; have x2 := Nat.lt_of_lt_of_le z2 hb3.size))
          exact bodyPost_ret (v := .tuple #[noRange, noRange, .int .i64 132]) (by simp [results, Try.results16, go_sem, noRange, *]) rfl ⟨by first | rfl | rw [HE.out], (by repeat (first | exact after (after (box (box (box1 _ _) _) _) hb1) hb3 | refine Below.drew ?_ | refine Below.setCell ?_ (by simp <;> omega) _))⟩
        · exfalso
          unfold splitE at hn
          rw [a, b, c, d] at hn
          exact absurd hn (by decide)
      · cases d : has lo hi key
        all_goals
          have D := refHas_is lo hi key _ d
          have HE : Hid (splitE lo hi key = 132) := by show splitE lo hi key = _; unfold splitE; rw [a, b, c]; rfl
          simp only [decide_eq_true_eq] at b
          clear a hn d
          go_enter Try.func16, Try.ntmps16
          go_wp2_with (first | (go_at_call 19; refine (A _).mono ?_; rintro e w1 ⟨rfl, hb1⟩; obtain ⟨hc1, hf1⟩ := bcell hb1; obtain ⟨z0, z1, z2⟩ := room3 hb1) | (go_at_call 20; refine (D _).mono ?_; rintro e w3 ⟨rfl, hb3⟩; obtain ⟨hc3, hf3⟩ := bcell hb3; have x0 := Nat.lt_of_lt_of_le z0 hb3.size; have x1 := Nat.lt_of_lt_of_le z1 hb3.size; have x2 := Nat.lt_of_lt_of_le z2 hb3.size))
          exact bodyPost_ret (v := .tuple #[noRange, noRange, .int .i64 132]) (by simp [results, Try.results16, go_sem, noRange, *]) rfl ⟨by first | rfl | rw [HE.out], (by repeat (first | exact after (after (box (box (box1 _ _) _) _) hb1) hb3 | refine Below.drew ?_ | refine Below.setCell ?_ (by simp <;> omega) _))⟩

set_option maxHeartbeats 1000000 in
theorem refSplit_yes (lo hi key : ByteArray) (h : splitE lo hi key = 0) (w : World) :
    Calls Try.prog 16 #[.agg #[.string lo, .string hi], .string key] w fun e w' => e = .returned (.tuple #[.agg #[.string lo, .string key], .agg #[.string key, .string hi], .int .i64 0]) ∧ Below w.heap.size w w' := by
  obtain ⟨a, b, c, d⟩ := splitE_zero h
  have A := refCheck_is lo hi 0 a
  have D := refHas_is lo hi key true d
  simp only [decide_eq_true_eq] at b
  clear a d h
  go_enter Try.func16, Try.ntmps16
  go_wp2_with (first | (go_at_call 19; refine (A _).mono ?_; rintro e w1 ⟨rfl, hb1⟩; obtain ⟨hc1, hf1⟩ := bcell hb1; obtain ⟨z0, z1, z2⟩ := room3 hb1) | (go_at_call 20; refine (D _).mono ?_; rintro e w3 ⟨rfl, hb3⟩; obtain ⟨hc3, hf3⟩ := bcell hb3; have x0 := Nat.lt_of_lt_of_le z0 hb3.size; have x1 := Nat.lt_of_lt_of_le z1 hb3.size; have x2 := Nat.lt_of_lt_of_le z2 hb3.size))
  go_region
  go_wp2
  exact bodyPost_ret (v := .tuple #[.agg #[.string lo, .string key], .agg #[.string key, .string hi], .int .i64 0]) (by simp [results, Try.results16, go_sem, *]) rfl ⟨by first | rfl | rw [HE.out], (by repeat (first | exact after (after (box (box (box1 _ _) _) _) hb1) hb3 | refine Below.drew ?_ | refine Below.setCell ?_ (by simp <;> omega) _))⟩

set_option maxHeartbeats 1000000 in
theorem refMerge_first (a b c d : ByteArray) (n : Int) (h : chk a b = n) (hn : (n == 0) = false) (w : World) :
    Calls Try.prog 17 #[.agg #[.string a, .string b], .agg #[.string c, .string d]] w fun e w' => e = .returned (.tuple #[noRange, .int .i64 n]) ∧ Below w.heap.size w w' := by
  have A := refCheck_is a b n h
  have hn2 : (n != 0) = true := by simp only [bne, hn]; rfl
  clear h
  go_enter Try.func17, Try.ntmps17
  go_wp2_with (first | (go_at_call 19; with_reducible refine (A _).mono ?_; rintro e w1 ⟨rfl, hb1⟩; obtain ⟨hc1, hf1⟩ := bcell hb1; obtain ⟨z0, z1, z2⟩ := room3 hb1))
  exact bodyPost_ret (v := .tuple #[noRange, .int .i64 n]) (by simp [results, Try.results17, go_sem, noRange, *]) rfl ⟨by first | rfl | rw [HE.out], (by repeat (first | exact after (box (box (box1 _ _) _) _) hb1 | refine Below.drew ?_ | refine Below.setCell ?_ (by simp <;> omega) _))⟩

set_option maxHeartbeats 1000000 in
theorem refMerge_second (a b c d : ByteArray) (n : Int) (h0 : chk a b = 0) (h : chk c d = n) (hn : (n == 0) = false) (w : World) :
    Calls Try.prog 17 #[.agg #[.string a, .string b], .agg #[.string c, .string d]] w fun e w' => e = .returned (.tuple #[noRange, .int .i64 n]) ∧ Below w.heap.size w w' := by
  have A := refCheck_is a b 0 h0
  have B := refCheck_is c d n h
  have hn2 : (n != 0) = true := by simp only [bne, hn]; rfl
  clear h h0
  go_enter Try.func17, Try.ntmps17
  go_wp2_with (first | (go_at_call 19; with_reducible refine (A _).mono ?_; rintro e w1 ⟨rfl, hb1⟩; obtain ⟨hc1, hf1⟩ := bcell hb1; obtain ⟨z0, z1, z2⟩ := room3 hb1) | (go_at_call 19; with_reducible refine (B _).mono ?_; rintro e w2 ⟨rfl, hb2⟩; obtain ⟨hc2, hf2⟩ := bcell hb2; have y0 := Nat.lt_of_lt_of_le z0 hb2.size; have y1 := Nat.lt_of_lt_of_le z1 hb2.size; have y2 := Nat.lt_of_lt_of_le z2 hb2.size))
  exact bodyPost_ret (v := .tuple #[noRange, .int .i64 n]) (by simp [results, Try.results17, go_sem, noRange, *]) rfl ⟨by first | rfl | rw [HE.out], (by repeat (first | exact after (after (box (box (box1 _ _) _) _) hb1) hb2 | refine Below.drew ?_ | refine Below.setCell ?_ (by simp <;> omega) _))⟩

set_option maxHeartbeats 1000000 in
theorem refMerge_rest (a b c d : ByteArray) (h0 : chk a b = 0) (h1 : chk c d = 0) (w : World) :
    Calls Try.prog 17 #[.agg #[.string a, .string b], .agg #[.string c, .string d]] w fun e w' =>
      e = .returned (if (!b.toList.isEmpty && b.toList == c.toList) then .tuple #[.agg #[.string a, .string d], .int .i64 0] else .tuple #[noRange, .int .i64 133]) ∧ Below w.heap.size w w' := by
  have A := refCheck_is a b 0 h0
  have B := refCheck_is c d 0 h1
  clear h0 h1
  cases u : b.toList.isEmpty
  · cases v : b.toList == c.toList
    · go_enter Try.func17, Try.ntmps17
      go_wp2_with (first | (go_at_call 19; with_reducible refine (A _).mono ?_; rintro e w1 ⟨rfl, hb1⟩; obtain ⟨hc1, hf1⟩ := bcell hb1; obtain ⟨z0, z1, z2⟩ := room3 hb1) | (go_at_call 19; with_reducible refine (B _).mono ?_; rintro e w2 ⟨rfl, hb2⟩; obtain ⟨hc2, hf2⟩ := bcell hb2; have y0 := Nat.lt_of_lt_of_le z0 hb2.size; have y1 := Nat.lt_of_lt_of_le z1 hb2.size; have y2 := Nat.lt_of_lt_of_le z2 hb2.size))
      exact bodyPost_ret (v := .tuple #[noRange, .int .i64 133]) (by simp [results, Try.results17, go_sem, noRange, *]) rfl ⟨by first | rfl | rw [HE.out], (by repeat (first | exact after (after (box (box (box1 _ _) _) _) hb1) hb2 | refine Below.drew ?_ | refine Below.setCell ?_ (by simp <;> omega) _))⟩
    · go_enter Try.func17, Try.ntmps17
      go_wp2_with (first | (go_at_call 19; with_reducible refine (A _).mono ?_; rintro e w1 ⟨rfl, hb1⟩; obtain ⟨hc1, hf1⟩ := bcell hb1; obtain ⟨z0, z1, z2⟩ := room3 hb1) | (go_at_call 19; with_reducible refine (B _).mono ?_; rintro e w2 ⟨rfl, hb2⟩; obtain ⟨hc2, hf2⟩ := bcell hb2; have y0 := Nat.lt_of_lt_of_le z0 hb2.size; have y1 := Nat.lt_of_lt_of_le z1 hb2.size; have y2 := Nat.lt_of_lt_of_le z2 hb2.size))
      exact bodyPost_ret (v := .tuple #[.agg #[.string a, .string d], .int .i64 0]) (by simp [results, Try.results17, go_sem, *]) rfl ⟨by first | rfl | rw [HE.out], (by repeat (first | exact after (after (box (box (box1 _ _) _) _) hb1) hb2 | refine Below.drew ?_ | refine Below.setCell ?_ (by simp <;> omega) _))⟩
  · go_enter Try.func17, Try.ntmps17
    go_wp2_with (first | (go_at_call 19; with_reducible refine (A _).mono ?_; rintro e w1 ⟨rfl, hb1⟩; obtain ⟨hc1, hf1⟩ := bcell hb1; obtain ⟨z0, z1, z2⟩ := room3 hb1) | (go_at_call 19; with_reducible refine (B _).mono ?_; rintro e w2 ⟨rfl, hb2⟩; obtain ⟨hc2, hf2⟩ := bcell hb2; have y0 := Nat.lt_of_lt_of_le z0 hb2.size; have y1 := Nat.lt_of_lt_of_le z1 hb2.size; have y2 := Nat.lt_of_lt_of_le z2 hb2.size))
    exact bodyPost_ret (v := .tuple #[noRange, .int .i64 133]) (by simp [results, Try.results17, go_sem, noRange, *]) rfl ⟨by first | rfl | rw [HE.out], (by repeat (first | exact after (after (box (box (box1 _ _) _) _) hb1) hb2 | refine Below.drew ?_ | refine Below.setCell ?_ (by simp <;> omega) _))⟩
end Go.Proofs.Ytkceakoacmjkgaa
