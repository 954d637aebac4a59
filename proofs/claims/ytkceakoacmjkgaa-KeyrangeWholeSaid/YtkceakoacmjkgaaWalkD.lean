/-
  Contracts: keyrange.Merge.
-/
import Derived.Test.YtkceakoacmjkgaaWalkA
import Derived.Test.YtkceakoacmjkgaaEq
import Derived.Test.YtkceakoacmjkgaaPlain
namespace Go.Proofs.Ytkceakoacmjkgaa
open Go.RowKit


/-- The error of a merge. -/
def mergeE (a b c d : ByteArray) : Int := if chk a b == 0 then (if chk c d == 0 then (if (!b.toList.isEmpty && b.toList == c.toList) then 0 else 133) else chk c d) else chk a b

set_option maxHeartbeats 1000000 in
theorem merge_first (a b c d : ByteArray) (n : Int) (h : chk a b = n) (hn : (n == 0) = false) (w : World) :
    Calls Try.prog 12 #[.agg #[.string a, .string b], .agg #[.string c, .string d]] w fun e w' => e = .returned (.tuple #[noRange, .int .i64 n]) ∧ Below w.heap.size w w' := by
  have A := check_is a b n h
  clear h
  have i0 : ∀ w, (Instr.index 49 (.agg #[.string a, .string b, .string c, .string d]) (.int .i64 0)).run Try.prog w = .ok (.agg #[.string a, .string b]) w := fun _ => by kernel_rfl
  have i1 : ∀ w, (Instr.index 49 (.agg #[.string a, .string b, .string c, .string d]) (.int .i64 1)).run Try.prog w = .ok (.agg #[.string c, .string d]) w := fun _ => by kernel_rfl
  go_enter Try.func12, Try.ntmps12
  go_wp2
  refine wp_loop_rounds 1 ?_
  rw [rounds_succ]
  go_wp2_with (first | (go_at_call 15; refine (A _).mono ?_; rintro e w1 ⟨rfl, hb1⟩; obtain ⟨hc1, hf1⟩ := bcell hb1; obtain ⟨z0, z1, z2, z3⟩ := room4 hb1))
  exact bodyPost_ret (v := .tuple #[noRange, .int .i64 n]) (by simp [results, Try.results12, go_sem, noRange, *]) rfl ⟨rfl, (by repeat (first | exact after (box (box (box (box1 _ _) _) _) _) hb1 | refine Below.drew ?_ | refine Below.setCell ?_ (by simp <;> omega) _))⟩

set_option maxHeartbeats 1000000 in
theorem merge_second (a b c d : ByteArray) (n : Int) (h0 : chk a b = 0) (h : chk c d = n) (hn : (n == 0) = false) (w : World) :
    Calls Try.prog 12 #[.agg #[.string a, .string b], .agg #[.string c, .string d]] w fun e w' => e = .returned (.tuple #[noRange, .int .i64 n]) ∧ Below w.heap.size w w' := by
  have A := check_is a b 0 h0
  have B := check_is c d n h
  clear h h0
  have i0 : ∀ w, (Instr.index 49 (.agg #[.string a, .string b, .string c, .string d]) (.int .i64 0)).run Try.prog w = .ok (.agg #[.string a, .string b]) w := fun _ => by kernel_rfl
  have i1 : ∀ w, (Instr.index 49 (.agg #[.string a, .string b, .string c, .string d]) (.int .i64 1)).run Try.prog w = .ok (.agg #[.string c, .string d]) w := fun _ => by kernel_rfl
  go_enter Try.func12, Try.ntmps12
  go_wp2
  refine wp_loop_rounds 2 ?_
  rw [rounds_succ]
  go_wp2_with (first
    | (go_at_call 15; with_reducible refine (A _).mono ?_; rintro e w1 ⟨rfl, hb1⟩; obtain ⟨hc1, hf1⟩ := bcell hb1; obtain ⟨z0, z1, z2, z3⟩ := room4 hb1)
    | (go_at_call 15; with_reducible refine (B _).mono ?_; rintro e w2 ⟨rfl, hb2⟩; obtain ⟨hc2, hf2⟩ := bcell hb2))
  rw [rounds_succ]
  go_wp2_with (first
    | (go_at_call 15; with_reducible refine (B _).mono ?_; rintro e w2 ⟨rfl, hb2⟩; obtain ⟨hc2, hf2⟩ := bcell hb2))
  exact bodyPost_ret (v := .tuple #[noRange, .int .i64 n]) (by simp [results, Try.results12, go_sem, noRange, *]) rfl ⟨rfl, (by repeat (first | exact after (box (after (box (box (box (box1 _ _) _) _) _) hb1) _) hb2 | refine Below.drew ?_ | refine Below.setCell ?_ (by simp <;> omega) _))⟩

set_option maxHeartbeats 2000000 in
theorem merge_rest (a b c d : ByteArray) (h0 : chk a b = 0) (h1 : chk c d = 0) (w : World) :
    Calls Try.prog 12 #[.agg #[.string a, .string b], .agg #[.string c, .string d]] w fun e w' =>
      e = .returned (if (!b.toList.isEmpty && b.toList == c.toList) then .tuple #[.agg #[.string a, .string d], .int .i64 0] else .tuple #[noRange, .int .i64 133]) ∧ Below w.heap.size w w' := by
  have A := check_is a b 0 h0
  have B := check_is c d 0 h1
  clear h0 h1
  cases v : (!b.toList.isEmpty && b.toList == c.toList)
  · have Q := neqBound_is b c b.toList.isEmpty false true (by rw [Bool.and_comm, beq_false, v]; rfl)
    have HV := Lib.hid v
    clear v
    have i0 : ∀ w, (Instr.index 49 (.agg #[.string a, .string b, .string c, .string d]) (.int .i64 0)).run Try.prog w = .ok (.agg #[.string a, .string b]) w := fun _ => by kernel_rfl
    have i1 : ∀ w, (Instr.index 49 (.agg #[.string a, .string b, .string c, .string d]) (.int .i64 1)).run Try.prog w = .ok (.agg #[.string c, .string d]) w := fun _ => by kernel_rfl
    go_enter Try.func12, Try.ntmps12
    go_wp2
    refine wp_loop_rounds 3 ?_
    rw [rounds_succ]
    go_wp2_with (first
      | (go_at_call 15; with_reducible refine (A _).mono ?_; rintro e w1 ⟨rfl, hb1⟩; obtain ⟨hc1, hf1⟩ := bcell hb1; obtain ⟨z0, z1, z2, z3⟩ := room4 hb1))
    rw [rounds_succ]
    go_wp2_with (first
      | (go_at_call 15; with_reducible refine (B _).mono ?_; rintro e w2 ⟨rfl, hb2⟩; obtain ⟨hc2, hf2⟩ := bcell hb2))
    rw [rounds_succ]
    go_wp2
    have y0 : w.heap.size < w2.heap.size := by have := room1 hb2; omega
    have y1 : w.heap.size + 1 < w2.heap.size := by have := room1 hb2; omega
    have y2 : w.heap.size + 1 + 1 < w2.heap.size := by have := room1 hb2; omega
    have e0 : w2.cell? ⟨w.heap.size, 0, none⟩ = some (.string a) := by simp [hc2, hc1, z0, go_sem]
    have e1 : w2.cell? ⟨w.heap.size, 1, none⟩ = some (.string b) := by simp [hc2, hc1, z0, go_sem]
    have e2 : w2.cell? ⟨w.heap.size + 1, 0, none⟩ = some (.string c) := by simp [hc2, hc1, z0, z1, go_sem]
    have e3 : w2.cell? ⟨w.heap.size + 1, 1, none⟩ = some (.string d) := by simp [hc2, hc1, z0, z1, go_sem]
    go_region_held3 (fun w' => w'.cell? ⟨w.heap.size, 0, none⟩ = some (.string a) ∧ w'.cell? ⟨w.heap.size, 1, none⟩ = some (.string b) ∧ w'.cell? ⟨w.heap.size + 1, 0, none⟩ = some (.string c) ∧ w'.cell? ⟨w.heap.size + 1, 1, none⟩ = some (.string d) ∧ Below w2.heap.size w2 w')
      (first | exact keep4 y0 y0 y1 y1 e0 e1 e2 e3 (Below.refl _ _).drew | exact keep4 y0 y0 y1 y1 e0 e1 e2 e3 (after (‹_ ∧ _ ∧ _ ∧ _ ∧ Below _ _ _›).2.2.2.2 (by assumption)) | go_keep)
      (first
        | (go_at_call 25; refine (upper_any _ _ _).mono ?_; rintro e w3 ⟨rfl, hb3⟩))
    obtain ⟨x0, x1, x2, x3, hB⟩ := ‹w3.cell? _ = _ ∧ _›
    obtain ⟨hc3, hf3⟩ := bcell hB
    have e4 : w3.cell? ⟨w.heap.size + 1 + 1, 0, none⟩ = some (.string ⟨#[]⟩) := by simp [hc3, hc2, hc1, y2, z1, z2, go_sem]
    have e5 : w3.cell? ⟨w.heap.size + 1 + 1, 1, none⟩ = some (.string ⟨#[]⟩) := by simp [hc3, hc2, hc1, y2, z1, z2, go_sem]
    have f4 : w3.frozen? ⟨w.heap.size + 1 + 1, 0, none⟩ = false := by simp [hf3, hf2, hf1, y2, z1, z2, go_sem]
    have f5 : w3.frozen? ⟨w.heap.size + 1 + 1, 1, none⟩ = false := by simp [hf3, hf2, hf1, y2, z1, z2, go_sem]
    clear hc1 hf1 hc2 hf2 hc3 hf3
    go_wp2
    exact bodyPost_ret (v := .tuple #[noRange, .int .i64 133]) (by simp [results, Try.results12, go_sem, noRange, *]) rfl ⟨rfl, (by repeat (first | exact after (after (box (after (box (box (box (box1 _ _) _) _) _) hb1) _) hb2) hB | refine Below.drew ?_ | refine Below.setCell ?_ (by simp <;> omega) _))⟩
  · have Q := neqBound_is b c b.toList.isEmpty false false (by rw [Bool.and_comm, beq_false, v]; rfl)
    have HV := Lib.hid v
    clear v
    have i0 : ∀ w, (Instr.index 49 (.agg #[.string a, .string b, .string c, .string d]) (.int .i64 0)).run Try.prog w = .ok (.agg #[.string a, .string b]) w := fun _ => by kernel_rfl
    have i1 : ∀ w, (Instr.index 49 (.agg #[.string a, .string b, .string c, .string d]) (.int .i64 1)).run Try.prog w = .ok (.agg #[.string c, .string d]) w := fun _ => by kernel_rfl
    go_enter Try.func12, Try.ntmps12
    go_wp2
    refine wp_loop_rounds 3 ?_
    rw [rounds_succ]
    go_wp2_with (first
      | (go_at_call 15; with_reducible refine (A _).mono ?_; rintro e w1 ⟨rfl, hb1⟩; obtain ⟨hc1, hf1⟩ := bcell hb1; obtain ⟨z0, z1, z2, z3⟩ := room4 hb1))
    rw [rounds_succ]
    go_wp2_with (first
      | (go_at_call 15; with_reducible refine (B _).mono ?_; rintro e w2 ⟨rfl, hb2⟩; obtain ⟨hc2, hf2⟩ := bcell hb2))
    rw [rounds_succ]
    go_wp2
    have y0 : w.heap.size < w2.heap.size := by have := room1 hb2; omega
    have y1 : w.heap.size + 1 < w2.heap.size := by have := room1 hb2; omega
    have y2 : w.heap.size + 1 + 1 < w2.heap.size := by have := room1 hb2; omega
    have e0 : w2.cell? ⟨w.heap.size, 0, none⟩ = some (.string a) := by simp [hc2, hc1, z0, go_sem]
    have e1 : w2.cell? ⟨w.heap.size, 1, none⟩ = some (.string b) := by simp [hc2, hc1, z0, go_sem]
    have e2 : w2.cell? ⟨w.heap.size + 1, 0, none⟩ = some (.string c) := by simp [hc2, hc1, z0, z1, go_sem]
    have e3 : w2.cell? ⟨w.heap.size + 1, 1, none⟩ = some (.string d) := by simp [hc2, hc1, z0, z1, go_sem]
    go_region_held3 (fun w' => w'.cell? ⟨w.heap.size, 0, none⟩ = some (.string a) ∧ w'.cell? ⟨w.heap.size, 1, none⟩ = some (.string b) ∧ w'.cell? ⟨w.heap.size + 1, 0, none⟩ = some (.string c) ∧ w'.cell? ⟨w.heap.size + 1, 1, none⟩ = some (.string d) ∧ Below w2.heap.size w2 w')
      (first | exact keep4 y0 y0 y1 y1 e0 e1 e2 e3 (Below.refl _ _).drew | exact keep4 y0 y0 y1 y1 e0 e1 e2 e3 (after (‹_ ∧ _ ∧ _ ∧ _ ∧ Below _ _ _›).2.2.2.2 (by assumption)) | go_keep)
      (first
        | (go_at_call 25; refine (upper_any _ _ _).mono ?_; rintro e w3 ⟨rfl, hb3⟩))
    obtain ⟨x0, x1, x2, x3, hB⟩ := ‹w3.cell? _ = _ ∧ _›
    obtain ⟨hc3, hf3⟩ := bcell hB
    have e4 : w3.cell? ⟨w.heap.size + 1 + 1, 0, none⟩ = some (.string ⟨#[]⟩) := by simp [hc3, hc2, hc1, y2, z1, z2, go_sem]
    have e5 : w3.cell? ⟨w.heap.size + 1 + 1, 1, none⟩ = some (.string ⟨#[]⟩) := by simp [hc3, hc2, hc1, y2, z1, z2, go_sem]
    have f4 : w3.frozen? ⟨w.heap.size + 1 + 1, 0, none⟩ = false := by simp [hf3, hf2, hf1, y2, z1, z2, go_sem]
    have f5 : w3.frozen? ⟨w.heap.size + 1 + 1, 1, none⟩ = false := by simp [hf3, hf2, hf1, y2, z1, z2, go_sem]
    clear hc1 hf1 hc2 hf2 hc3 hf3
    go_wp2
    exact bodyPost_ret (v := .tuple #[.agg #[.string a, .string d], .int .i64 0]) (by simp [results, Try.results12, go_sem, *]) rfl ⟨rfl, (by repeat (first | exact after (after (box (after (box (box (box (box1 _ _) _) _) _) hb1) _) hb2) hB | refine Below.drew ?_ | refine Below.setCell ?_ (by simp <;> omega) _))⟩
end Go.Proofs.Ytkceakoacmjkgaa
