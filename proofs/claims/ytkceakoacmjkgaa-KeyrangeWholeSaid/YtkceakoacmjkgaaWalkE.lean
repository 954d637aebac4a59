/-
  Contracts: keyrange.Meet, where one of the two may not be.
-/
import Derived.Test.YtkceakoacmjkgaaWalkA
import Derived.Test.YtkceakoacmjkgaaEq
import Derived.Test.YtkceakoacmjkgaaPlain
import Derived.Lib.MinMaxS
namespace Go.Proofs.Ytkceakoacmjkgaa
open Go.RowKit

set_option maxHeartbeats 1000000 in
theorem meet_first (a b c d : ByteArray) (n : Int) (h : chk a b = n) (hn : (n == 0) = false) (w : World) :
    Calls Try.prog 13 #[.agg #[.string a, .string b], .agg #[.string c, .string d]] w fun e w' => e = .returned (.tuple #[noRange, .bool false]) ∧ Below w.heap.size w w' := by
  have A := check_is a b n h
  have hn2 : (n != 0) = true := by simp only [bne, hn]; rfl
  clear h
  go_enter Try.func13, Try.ntmps13
  go_wp2_with (first | (go_at_call 15; with_reducible refine (A _).mono ?_; rintro e w1 ⟨rfl, hb1⟩; obtain ⟨hc1, hf1⟩ := bcell hb1; obtain ⟨z0, z1, z2⟩ := room3 hb1))
  exact bodyPost_ret (v := .tuple #[noRange, .bool false]) (by simp [results, Try.results13, go_sem, noRange, *]) rfl ⟨rfl, (by repeat (first | exact after (box (box (box1 _ _) _) _) hb1 | refine Below.drew ?_ | refine Below.setCell ?_ (by simp <;> omega) _))⟩

set_option maxHeartbeats 1000000 in
theorem meet_second (a b c d : ByteArray) (n : Int) (h0 : chk a b = 0) (h : chk c d = n) (hn : (n == 0) = false) (w : World) :
    Calls Try.prog 13 #[.agg #[.string a, .string b], .agg #[.string c, .string d]] w fun e w' => e = .returned (.tuple #[noRange, .bool false]) ∧ Below w.heap.size w w' := by
  have A := check_is a b 0 h0
  have B := check_is c d n h
  have hn2 : (n != 0) = true := by simp only [bne, hn]; rfl
  clear h h0
  go_enter Try.func13, Try.ntmps13
  go_wp2_with (first | (go_at_call 15; with_reducible refine (A _).mono ?_; rintro e w1 ⟨rfl, hb1⟩; obtain ⟨hc1, hf1⟩ := bcell hb1; obtain ⟨z0, z1, z2⟩ := room3 hb1) | (go_at_call 15; with_reducible refine (B _).mono ?_; rintro e w2 ⟨rfl, hb2⟩; obtain ⟨hc2, hf2⟩ := bcell hb2; have y0 := Nat.lt_of_lt_of_le z0 hb2.size; have y1 := Nat.lt_of_lt_of_le z1 hb2.size; have y2 := Nat.lt_of_lt_of_le z2 hb2.size))
  exact bodyPost_ret (v := .tuple #[noRange, .bool false]) (by simp [results, Try.results13, go_sem, noRange, *]) rfl ⟨rfl, (by repeat (first | exact after (after (box (box (box1 _ _) _) _) hb1) hb2 | refine Below.drew ?_ | refine Below.setCell ?_ (by simp <;> omega) _))⟩


set_option maxHeartbeats 2000000 in
theorem meet_e0 (a b c d : ByteArray) (hb : b.toList.isEmpty = true) (h0 : chk a b = 0) (h1 : chk c d = 0) (n : Int) (h2 : chk (Lib.maxS a c) d = n) (hn : (n == 0) = false) (w : World) :
    Calls Try.prog 13 #[.agg #[.string a, .string b], .agg #[.string c, .string d]] w fun e w' => e = .returned (.tuple #[noRange, .bool false]) ∧ Below w.heap.size w w' := by
  have A := check_is a b 0 h0
  have B := check_is c d 0 h1
  have C := check_is (Lib.maxS a c) d n h2
  have hn2 : (n != 0) = true := by simp only [bne, hn]; rfl
  have hfl := fieldBound
  have hmx := fun W => Lib.run_max_strs (P := Try.prog) W #[9, 9] 9 a c
  clear h0 h1 h2
  go_enter Try.func13, Try.ntmps13
  go_wp2_with (first | (go_at_call 15; with_reducible refine (A _).mono ?_; rintro e w1 ⟨rfl, hb1⟩; obtain ⟨hc1, hf1⟩ := bcell hb1; obtain ⟨z0, z1, z2⟩ := room3 hb1) | (go_at_call 15; with_reducible refine (B _).mono ?_; rintro e w2 ⟨rfl, hb2⟩; obtain ⟨y0, y1, y2, e0, e1, e2, e3, e4, e5, f4, f5⟩ := meet_facts hb1 hb2; have y3 := Nat.le_of_lt y0; have y4 := Nat.le_of_lt y1; have y5 := Nat.le_of_lt y2; have hbb := after (after (box (box (box1 w _) _) _) hb1) hb2; clear hc1 hf1 z0 z1 z2) | (go_at_call_of 25 (Value.agg #[.string a, .string b]); with_reducible refine (upper_any _ _ _).mono ?_; rintro e w3 ⟨rfl, hb3⟩; obtain ⟨hc3, hf3⟩ := bcell hb3; have t9 := room1 hb3; have t0 := Nat.lt_trans y0 t9; have t1 := Nat.lt_trans y1 t9; have t2 := Nat.lt_trans y2 t9) | (go_at_call 15; with_reducible refine (C _).mono ?_; rintro e w5 ⟨rfl, hb5⟩; obtain ⟨hc5, hf5⟩ := bcell hb5))
  exact bodyPost_ret (v := .tuple #[noRange, .bool false]) (by simp [results, Try.results13, go_sem, noRange, *]) rfl ⟨rfl, (by repeat (first | exact after (Below.setCell (after (box hbb _) hb3) (by simp <;> omega) _) hb5 | refine Below.drew ?_ | refine Below.setCell ?_ (by simp <;> omega) _))⟩

set_option maxHeartbeats 2000000 in
theorem meet_e1 (a b c d : ByteArray) (hb : b.toList.isEmpty = true) (h0 : chk a b = 0) (h1 : chk c d = 0) (h2 : chk (Lib.maxS a c) d = 0) (w : World) :
    Calls Try.prog 13 #[.agg #[.string a, .string b], .agg #[.string c, .string d]] w fun e w' => e = .returned (.tuple #[.agg #[.string (Lib.maxS a c), .string d], .bool true]) ∧ Below w.heap.size w w' := by
  have A := check_is a b 0 h0
  have B := check_is c d 0 h1
  have C := check_is (Lib.maxS a c) d 0 h2
  have hfl := fieldBound
  have hmx := fun W => Lib.run_max_strs (P := Try.prog) W #[9, 9] 9 a c
  clear h0 h1 h2
  go_enter Try.func13, Try.ntmps13
  go_wp2_with (first | (go_at_call 15; with_reducible refine (A _).mono ?_; rintro e w1 ⟨rfl, hb1⟩; obtain ⟨hc1, hf1⟩ := bcell hb1; obtain ⟨z0, z1, z2⟩ := room3 hb1) | (go_at_call 15; with_reducible refine (B _).mono ?_; rintro e w2 ⟨rfl, hb2⟩; obtain ⟨y0, y1, y2, e0, e1, e2, e3, e4, e5, f4, f5⟩ := meet_facts hb1 hb2; have y3 := Nat.le_of_lt y0; have y4 := Nat.le_of_lt y1; have y5 := Nat.le_of_lt y2; have hbb := after (after (box (box (box1 w _) _) _) hb1) hb2; clear hc1 hf1 z0 z1 z2) | (go_at_call_of 25 (Value.agg #[.string a, .string b]); with_reducible refine (upper_any _ _ _).mono ?_; rintro e w3 ⟨rfl, hb3⟩; obtain ⟨hc3, hf3⟩ := bcell hb3; have t9 := room1 hb3; have t0 := Nat.lt_trans y0 t9; have t1 := Nat.lt_trans y1 t9; have t2 := Nat.lt_trans y2 t9) | (go_at_call 15; with_reducible refine (C _).mono ?_; rintro e w5 ⟨rfl, hb5⟩; obtain ⟨hc5, hf5⟩ := bcell hb5))
  exact bodyPost_ret (v := .tuple #[.agg #[.string (Lib.maxS a c), .string d], .bool true]) (by simp [results, Try.results13, go_sem, *]) rfl ⟨rfl, (by repeat (first | exact after (Below.setCell (after (box hbb _) hb3) (by simp <;> omega) _) hb5 | refine Below.drew ?_ | refine Below.setCell ?_ (by simp <;> omega) _))⟩

set_option maxHeartbeats 2000000 in
theorem meet_f0 (a b c d : ByteArray) (hb : b.toList.isEmpty = false) (hd : d.toList.isEmpty = true) (h0 : chk a b = 0) (h1 : chk c d = 0) (n : Int) (h2 : chk (Lib.maxS a c) b = n) (hn : (n == 0) = false) (w : World) :
    Calls Try.prog 13 #[.agg #[.string a, .string b], .agg #[.string c, .string d]] w fun e w' => e = .returned (.tuple #[noRange, .bool false]) ∧ Below w.heap.size w w' := by
  have A := check_is a b 0 h0
  have B := check_is c d 0 h1
  have C := check_is (Lib.maxS a c) b n h2
  have hn2 : (n != 0) = true := by simp only [bne, hn]; rfl
  have hfl := fieldBound
  have hmx := fun W => Lib.run_max_strs (P := Try.prog) W #[9, 9] 9 a c
  clear h0 h1 h2
  go_enter Try.func13, Try.ntmps13
  go_wp2_with (first | (go_at_call 15; with_reducible refine (A _).mono ?_; rintro e w1 ⟨rfl, hb1⟩; obtain ⟨hc1, hf1⟩ := bcell hb1; obtain ⟨z0, z1, z2⟩ := room3 hb1) | (go_at_call 15; with_reducible refine (B _).mono ?_; rintro e w2 ⟨rfl, hb2⟩; obtain ⟨y0, y1, y2, e0, e1, e2, e3, e4, e5, f4, f5⟩ := meet_facts hb1 hb2; have y3 := Nat.le_of_lt y0; have y4 := Nat.le_of_lt y1; have y5 := Nat.le_of_lt y2; have hbb := after (after (box (box (box1 w _) _) _) hb1) hb2; clear hc1 hf1 z0 z1 z2) | (go_at_call_of 25 (Value.agg #[.string a, .string b]); with_reducible refine (upper_any _ _ _).mono ?_; rintro e w3 ⟨rfl, hb3⟩; obtain ⟨hc3, hf3⟩ := bcell hb3; have t9 := room1 hb3; have t0 := Nat.lt_trans y0 t9; have t1 := Nat.lt_trans y1 t9; have t2 := Nat.lt_trans y2 t9) | (go_at_call_of 25 (Value.agg #[.string c, .string d]); with_reducible refine (upper_any _ _ _).mono ?_; rintro e w4 ⟨rfl, hb4⟩; obtain ⟨hc4, hf4⟩ := bcell hb4; have s9 := Nat.lt_of_lt_of_le t9 hb4.size; have s0 := Nat.lt_of_lt_of_le t0 hb4.size; have s1 := Nat.lt_of_lt_of_le t1 hb4.size; have s2 := Nat.lt_of_lt_of_le t2 hb4.size) | (go_at_call 15; with_reducible refine (C _).mono ?_; rintro e w5 ⟨rfl, hb5⟩; obtain ⟨hc5, hf5⟩ := bcell hb5))
  exact bodyPost_ret (v := .tuple #[noRange, .bool false]) (by simp [results, Try.results13, go_sem, noRange, *]) rfl ⟨rfl, (by repeat (first | exact after (after (after (box hbb _) hb3) hb4) hb5 | refine Below.drew ?_ | refine Below.setCell ?_ (by simp <;> omega) _))⟩

set_option maxHeartbeats 2000000 in
theorem meet_f1 (a b c d : ByteArray) (hb : b.toList.isEmpty = false) (hd : d.toList.isEmpty = true) (h0 : chk a b = 0) (h1 : chk c d = 0) (h2 : chk (Lib.maxS a c) b = 0) (w : World) :
    Calls Try.prog 13 #[.agg #[.string a, .string b], .agg #[.string c, .string d]] w fun e w' => e = .returned (.tuple #[.agg #[.string (Lib.maxS a c), .string b], .bool true]) ∧ Below w.heap.size w w' := by
  have A := check_is a b 0 h0
  have B := check_is c d 0 h1
  have C := check_is (Lib.maxS a c) b 0 h2
  have hfl := fieldBound
  have hmx := fun W => Lib.run_max_strs (P := Try.prog) W #[9, 9] 9 a c
  clear h0 h1 h2
  go_enter Try.func13, Try.ntmps13
  go_wp2_with (first | (go_at_call 15; with_reducible refine (A _).mono ?_; rintro e w1 ⟨rfl, hb1⟩; obtain ⟨hc1, hf1⟩ := bcell hb1; obtain ⟨z0, z1, z2⟩ := room3 hb1) | (go_at_call 15; with_reducible refine (B _).mono ?_; rintro e w2 ⟨rfl, hb2⟩; obtain ⟨y0, y1, y2, e0, e1, e2, e3, e4, e5, f4, f5⟩ := meet_facts hb1 hb2; have y3 := Nat.le_of_lt y0; have y4 := Nat.le_of_lt y1; have y5 := Nat.le_of_lt y2; have hbb := after (after (box (box (box1 w _) _) _) hb1) hb2; clear hc1 hf1 z0 z1 z2) | (go_at_call_of 25 (Value.agg #[.string a, .string b]); with_reducible refine (upper_any _ _ _).mono ?_; rintro e w3 ⟨rfl, hb3⟩; obtain ⟨hc3, hf3⟩ := bcell hb3; have t9 := room1 hb3; have t0 := Nat.lt_trans y0 t9; have t1 := Nat.lt_trans y1 t9; have t2 := Nat.lt_trans y2 t9) | (go_at_call_of 25 (Value.agg #[.string c, .string d]); with_reducible refine (upper_any _ _ _).mono ?_; rintro e w4 ⟨rfl, hb4⟩; obtain ⟨hc4, hf4⟩ := bcell hb4; have s9 := Nat.lt_of_lt_of_le t9 hb4.size; have s0 := Nat.lt_of_lt_of_le t0 hb4.size; have s1 := Nat.lt_of_lt_of_le t1 hb4.size; have s2 := Nat.lt_of_lt_of_le t2 hb4.size) | (go_at_call 15; with_reducible refine (C _).mono ?_; rintro e w5 ⟨rfl, hb5⟩; obtain ⟨hc5, hf5⟩ := bcell hb5))
  exact bodyPost_ret (v := .tuple #[.agg #[.string (Lib.maxS a c), .string b], .bool true]) (by simp [results, Try.results13, go_sem, *]) rfl ⟨rfl, (by repeat (first | exact after (after (after (box hbb _) hb3) hb4) hb5 | refine Below.drew ?_ | refine Below.setCell ?_ (by simp <;> omega) _))⟩

set_option maxHeartbeats 2000000 in
theorem meet_g0 (a b c d : ByteArray) (hb : b.toList.isEmpty = false) (hd : d.toList.isEmpty = false) (hl : Op.bytesLess d.toList b.toList = true) (h0 : chk a b = 0) (h1 : chk c d = 0) (n : Int) (h2 : chk (Lib.maxS a c) d = n) (hn : (n == 0) = false) (w : World) :
    Calls Try.prog 13 #[.agg #[.string a, .string b], .agg #[.string c, .string d]] w fun e w' => e = .returned (.tuple #[noRange, .bool false]) ∧ Below w.heap.size w w' := by
  have A := check_is a b 0 h0
  have B := check_is c d 0 h1
  have C := check_is (Lib.maxS a c) d n h2
  have hn2 : (n != 0) = true := by simp only [bne, hn]; rfl
  have hfl := fieldBound
  have hmx := fun W => Lib.run_max_strs (P := Try.prog) W #[9, 9] 9 a c
  clear h0 h1 h2
  go_enter Try.func13, Try.ntmps13
  go_wp2_with (first | (go_at_call 15; with_reducible refine (A _).mono ?_; rintro e w1 ⟨rfl, hb1⟩; obtain ⟨hc1, hf1⟩ := bcell hb1; obtain ⟨z0, z1, z2⟩ := room3 hb1) | (go_at_call 15; with_reducible refine (B _).mono ?_; rintro e w2 ⟨rfl, hb2⟩; obtain ⟨y0, y1, y2, e0, e1, e2, e3, e4, e5, f4, f5⟩ := meet_facts hb1 hb2; have y3 := Nat.le_of_lt y0; have y4 := Nat.le_of_lt y1; have y5 := Nat.le_of_lt y2; have hbb := after (after (box (box (box1 w _) _) _) hb1) hb2; clear hc1 hf1 z0 z1 z2) | (go_at_call_of 25 (Value.agg #[.string a, .string b]); with_reducible refine (upper_any _ _ _).mono ?_; rintro e w3 ⟨rfl, hb3⟩; obtain ⟨hc3, hf3⟩ := bcell hb3; have t9 := room1 hb3; have t0 := Nat.lt_trans y0 t9; have t1 := Nat.lt_trans y1 t9; have t2 := Nat.lt_trans y2 t9) | (go_at_call_of 25 (Value.agg #[.string c, .string d]); with_reducible refine (upper_any _ _ _).mono ?_; rintro e w4 ⟨rfl, hb4⟩; obtain ⟨hc4, hf4⟩ := bcell hb4; have s9 := Nat.lt_of_lt_of_le t9 hb4.size; have s0 := Nat.lt_of_lt_of_le t0 hb4.size; have s1 := Nat.lt_of_lt_of_le t1 hb4.size; have s2 := Nat.lt_of_lt_of_le t2 hb4.size) | (go_at_call 15; with_reducible refine (C _).mono ?_; rintro e w5 ⟨rfl, hb5⟩; obtain ⟨hc5, hf5⟩ := bcell hb5))
  exact bodyPost_ret (v := .tuple #[noRange, .bool false]) (by simp [results, Try.results13, go_sem, noRange, *]) rfl ⟨rfl, (by repeat (first | exact after (Below.setCell (after (after (box hbb _) hb3) hb4) (by simp <;> omega) _) hb5 | refine Below.drew ?_ | refine Below.setCell ?_ (by simp <;> omega) _))⟩

set_option maxHeartbeats 2000000 in
theorem meet_g1 (a b c d : ByteArray) (hb : b.toList.isEmpty = false) (hd : d.toList.isEmpty = false) (hl : Op.bytesLess d.toList b.toList = true) (h0 : chk a b = 0) (h1 : chk c d = 0) (h2 : chk (Lib.maxS a c) d = 0) (w : World) :
    Calls Try.prog 13 #[.agg #[.string a, .string b], .agg #[.string c, .string d]] w fun e w' => e = .returned (.tuple #[.agg #[.string (Lib.maxS a c), .string d], .bool true]) ∧ Below w.heap.size w w' := by
  have A := check_is a b 0 h0
  have B := check_is c d 0 h1
  have C := check_is (Lib.maxS a c) d 0 h2
  have hfl := fieldBound
  have hmx := fun W => Lib.run_max_strs (P := Try.prog) W #[9, 9] 9 a c
  clear h0 h1 h2
  go_enter Try.func13, Try.ntmps13
  go_wp2_with (first | (go_at_call 15; with_reducible refine (A _).mono ?_; rintro e w1 ⟨rfl, hb1⟩; obtain ⟨hc1, hf1⟩ := bcell hb1; obtain ⟨z0, z1, z2⟩ := room3 hb1) | (go_at_call 15; with_reducible refine (B _).mono ?_; rintro e w2 ⟨rfl, hb2⟩; obtain ⟨y0, y1, y2, e0, e1, e2, e3, e4, e5, f4, f5⟩ := meet_facts hb1 hb2; have y3 := Nat.le_of_lt y0; have y4 := Nat.le_of_lt y1; have y5 := Nat.le_of_lt y2; have hbb := after (after (box (box (box1 w _) _) _) hb1) hb2; clear hc1 hf1 z0 z1 z2) | (go_at_call_of 25 (Value.agg #[.string a, .string b]); with_reducible refine (upper_any _ _ _).mono ?_; rintro e w3 ⟨rfl, hb3⟩; obtain ⟨hc3, hf3⟩ := bcell hb3; have t9 := room1 hb3; have t0 := Nat.lt_trans y0 t9; have t1 := Nat.lt_trans y1 t9; have t2 := Nat.lt_trans y2 t9) | (go_at_call_of 25 (Value.agg #[.string c, .string d]); with_reducible refine (upper_any _ _ _).mono ?_; rintro e w4 ⟨rfl, hb4⟩; obtain ⟨hc4, hf4⟩ := bcell hb4; have s9 := Nat.lt_of_lt_of_le t9 hb4.size; have s0 := Nat.lt_of_lt_of_le t0 hb4.size; have s1 := Nat.lt_of_lt_of_le t1 hb4.size; have s2 := Nat.lt_of_lt_of_le t2 hb4.size) | (go_at_call 15; with_reducible refine (C _).mono ?_; rintro e w5 ⟨rfl, hb5⟩; obtain ⟨hc5, hf5⟩ := bcell hb5))
  exact bodyPost_ret (v := .tuple #[.agg #[.string (Lib.maxS a c), .string d], .bool true]) (by simp [results, Try.results13, go_sem, *]) rfl ⟨rfl, (by repeat (first | exact after (Below.setCell (after (after (box hbb _) hb3) hb4) (by simp <;> omega) _) hb5 | refine Below.drew ?_ | refine Below.setCell ?_ (by simp <;> omega) _))⟩

set_option maxHeartbeats 2000000 in
theorem meet_h0 (a b c d : ByteArray) (hb : b.toList.isEmpty = false) (hd : d.toList.isEmpty = false) (hl : Op.bytesLess d.toList b.toList = false) (h0 : chk a b = 0) (h1 : chk c d = 0) (n : Int) (h2 : chk (Lib.maxS a c) b = n) (hn : (n == 0) = false) (w : World) :
    Calls Try.prog 13 #[.agg #[.string a, .string b], .agg #[.string c, .string d]] w fun e w' => e = .returned (.tuple #[noRange, .bool false]) ∧ Below w.heap.size w w' := by
  have A := check_is a b 0 h0
  have B := check_is c d 0 h1
  have C := check_is (Lib.maxS a c) b n h2
  have hn2 : (n != 0) = true := by simp only [bne, hn]; rfl
  have hfl := fieldBound
  have hmx := fun W => Lib.run_max_strs (P := Try.prog) W #[9, 9] 9 a c
  clear h0 h1 h2
  go_enter Try.func13, Try.ntmps13
  go_wp2_with (first | (go_at_call 15; with_reducible refine (A _).mono ?_; rintro e w1 ⟨rfl, hb1⟩; obtain ⟨hc1, hf1⟩ := bcell hb1; obtain ⟨z0, z1, z2⟩ := room3 hb1) | (go_at_call 15; with_reducible refine (B _).mono ?_; rintro e w2 ⟨rfl, hb2⟩; obtain ⟨y0, y1, y2, e0, e1, e2, e3, e4, e5, f4, f5⟩ := meet_facts hb1 hb2; have y3 := Nat.le_of_lt y0; have y4 := Nat.le_of_lt y1; have y5 := Nat.le_of_lt y2; have hbb := after (after (box (box (box1 w _) _) _) hb1) hb2; clear hc1 hf1 z0 z1 z2) | (go_at_call_of 25 (Value.agg #[.string a, .string b]); with_reducible refine (upper_any _ _ _).mono ?_; rintro e w3 ⟨rfl, hb3⟩; obtain ⟨hc3, hf3⟩ := bcell hb3; have t9 := room1 hb3; have t0 := Nat.lt_trans y0 t9; have t1 := Nat.lt_trans y1 t9; have t2 := Nat.lt_trans y2 t9) | (go_at_call_of 25 (Value.agg #[.string c, .string d]); with_reducible refine (upper_any _ _ _).mono ?_; rintro e w4 ⟨rfl, hb4⟩; obtain ⟨hc4, hf4⟩ := bcell hb4; have s9 := Nat.lt_of_lt_of_le t9 hb4.size; have s0 := Nat.lt_of_lt_of_le t0 hb4.size; have s1 := Nat.lt_of_lt_of_le t1 hb4.size; have s2 := Nat.lt_of_lt_of_le t2 hb4.size) | (go_at_call 15; with_reducible refine (C _).mono ?_; rintro e w5 ⟨rfl, hb5⟩; obtain ⟨hc5, hf5⟩ := bcell hb5))
  exact bodyPost_ret (v := .tuple #[noRange, .bool false]) (by simp [results, Try.results13, go_sem, noRange, *]) rfl ⟨rfl, (by repeat (first | exact after (after (after (box hbb _) hb3) hb4) hb5 | refine Below.drew ?_ | refine Below.setCell ?_ (by simp <;> omega) _))⟩

set_option maxHeartbeats 2000000 in
theorem meet_h1 (a b c d : ByteArray) (hb : b.toList.isEmpty = false) (hd : d.toList.isEmpty = false) (hl : Op.bytesLess d.toList b.toList = false) (h0 : chk a b = 0) (h1 : chk c d = 0) (h2 : chk (Lib.maxS a c) b = 0) (w : World) :
    Calls Try.prog 13 #[.agg #[.string a, .string b], .agg #[.string c, .string d]] w fun e w' => e = .returned (.tuple #[.agg #[.string (Lib.maxS a c), .string b], .bool true]) ∧ Below w.heap.size w w' := by
  have A := check_is a b 0 h0
  have B := check_is c d 0 h1
  have C := check_is (Lib.maxS a c) b 0 h2
  have hfl := fieldBound
  have hmx := fun W => Lib.run_max_strs (P := Try.prog) W #[9, 9] 9 a c
  clear h0 h1 h2
  go_enter Try.func13, Try.ntmps13
  go_wp2_with (first | (go_at_call 15; with_reducible refine (A _).mono ?_; rintro e w1 ⟨rfl, hb1⟩; obtain ⟨hc1, hf1⟩ := bcell hb1; obtain ⟨z0, z1, z2⟩ := room3 hb1) | (go_at_call 15; with_reducible refine (B _).mono ?_; rintro e w2 ⟨rfl, hb2⟩; obtain ⟨y0, y1, y2, e0, e1, e2, e3, e4, e5, f4, f5⟩ := meet_facts hb1 hb2; have y3 := Nat.le_of_lt y0; have y4 := Nat.le_of_lt y1; have y5 := Nat.le_of_lt y2; have hbb := after (after (box (box (box1 w _) _) _) hb1) hb2; clear hc1 hf1 z0 z1 z2) | (go_at_call_of 25 (Value.agg #[.string a, .string b]); with_reducible refine (upper_any _ _ _).mono ?_; rintro e w3 ⟨rfl, hb3⟩; obtain ⟨hc3, hf3⟩ := bcell hb3; have t9 := room1 hb3; have t0 := Nat.lt_trans y0 t9; have t1 := Nat.lt_trans y1 t9; have t2 := Nat.lt_trans y2 t9) | (go_at_call_of 25 (Value.agg #[.string c, .string d]); with_reducible refine (upper_any _ _ _).mono ?_; rintro e w4 ⟨rfl, hb4⟩; obtain ⟨hc4, hf4⟩ := bcell hb4; have s9 := Nat.lt_of_lt_of_le t9 hb4.size; have s0 := Nat.lt_of_lt_of_le t0 hb4.size; have s1 := Nat.lt_of_lt_of_le t1 hb4.size; have s2 := Nat.lt_of_lt_of_le t2 hb4.size) | (go_at_call 15; with_reducible refine (C _).mono ?_; rintro e w5 ⟨rfl, hb5⟩; obtain ⟨hc5, hf5⟩ := bcell hb5))
  exact bodyPost_ret (v := .tuple #[.agg #[.string (Lib.maxS a c), .string b], .bool true]) (by simp [results, Try.results13, go_sem, *]) rfl ⟨rfl, (by repeat (first | exact after (after (after (box hbb _) hb3) hb4) hb5 | refine Below.drew ?_ | refine Below.setCell ?_ (by simp <;> omega) _))⟩
end Go.Proofs.Ytkceakoacmjkgaa
