/-
  Contracts: gazetteref13.Meet, where one of the two may not be.
-/
import Derived.Test.YtkceakoacmjkgaaWalkA
import Derived.Test.YtkceakoacmjkgaaEq
import Derived.Test.YtkceakoacmjkgaaPlain
import Derived.Lib.MinMaxS
namespace Go.Proofs.Ytkceakoacmjkgaa
open Go.RowKit

set_option maxHeartbeats 1000000 in
theorem refmeet_first (a b c d : ByteArray) (n : Int) (h : chk a b = n) (hn : (n == 0) = false) (w : World) :
    Calls Try.prog 18 #[.agg #[.string a, .string b], .agg #[.string c, .string d]] w fun e w' => e = .returned (.tuple #[noRange, .bool false]) ∧ Below w.heap.size w w' := by
  have A := refCheck_is a b n h
  have hn2 : (n != 0) = true := by simp only [bne, hn]; rfl
  clear h
  go_enter Try.func18, Try.ntmps18
  go_wp2_with (first | (go_at_call 19; with_reducible refine (A _).mono ?_; rintro e w1 ⟨rfl, hb1⟩; obtain ⟨hc1, hf1⟩ := bcell hb1; obtain ⟨z0, z1, z2⟩ := room3 hb1))
  exact bodyPost_ret (v := .tuple #[noRange, .bool false]) (by simp [results, Try.results18, go_sem, noRange, *]) rfl ⟨rfl, (by repeat (first | exact after (box (box (box1 _ _) _) _) hb1 | refine Below.drew ?_ | refine Below.setCell ?_ (by simp <;> omega) _))⟩

set_option maxHeartbeats 1000000 in
theorem refmeet_second (a b c d : ByteArray) (n : Int) (h0 : chk a b = 0) (h : chk c d = n) (hn : (n == 0) = false) (w : World) :
    Calls Try.prog 18 #[.agg #[.string a, .string b], .agg #[.string c, .string d]] w fun e w' => e = .returned (.tuple #[noRange, .bool false]) ∧ Below w.heap.size w w' := by
  have A := refCheck_is a b 0 h0
  have B := refCheck_is c d n h
  have hn2 : (n != 0) = true := by simp only [bne, hn]; rfl
  clear h h0
  go_enter Try.func18, Try.ntmps18
  go_wp2_with (first | (go_at_call 19; with_reducible refine (A _).mono ?_; rintro e w1 ⟨rfl, hb1⟩; obtain ⟨hc1, hf1⟩ := bcell hb1; obtain ⟨z0, z1, z2⟩ := room3 hb1) | (go_at_call 19; with_reducible refine (B _).mono ?_; rintro e w2 ⟨rfl, hb2⟩; obtain ⟨hc2, hf2⟩ := bcell hb2; have y0 := Nat.lt_of_lt_of_le z0 hb2.size; have y1 := Nat.lt_of_lt_of_le z1 hb2.size; have y2 := Nat.lt_of_lt_of_le z2 hb2.size))
  exact bodyPost_ret (v := .tuple #[noRange, .bool false]) (by simp [results, Try.results18, go_sem, noRange, *]) rfl ⟨rfl, (by repeat (first | exact after (after (box (box (box1 _ _) _) _) hb1) hb2 | refine Below.drew ?_ | refine Below.setCell ?_ (by simp <;> omega) _))⟩


set_option maxHeartbeats 2000000 in
theorem refmeet_e0 (a b c d : ByteArray) (hb : b.toList.isEmpty = true) (h0 : chk a b = 0) (h1 : chk c d = 0) (n : Int) (h2 : chk (Lib.maxS a c) d = n) (hn : (n == 0) = false) (w : World) :
    Calls Try.prog 18 #[.agg #[.string a, .string b], .agg #[.string c, .string d]] w fun e w' => e = .returned (.tuple #[noRange, .bool false]) ∧ Below w.heap.size w w' := by
  have A := refCheck_is a b 0 h0
  have B := refCheck_is c d 0 h1
  have C := refCheck_is (Lib.maxS a c) d n h2
  have hn2 : (n != 0) = true := by simp only [bne, hn]; rfl
  have hmx := fun W => Lib.run_max_strs (P := Try.prog) W #[9, 9] 9 a c
  clear h0 h1 h2
  go_enter Try.func18, Try.ntmps18
  go_wp2_with (first | (go_at_call 19; with_reducible refine (A _).mono ?_; rintro e w1 ⟨rfl, hb1⟩; obtain ⟨hc1, hf1⟩ := bcell hb1; obtain ⟨z0, z1, z2⟩ := room3 hb1) | (go_at_call 19; with_reducible refine (B _).mono ?_; rintro e w2 ⟨rfl, hb2⟩; obtain ⟨y0, y1, y2, e0, e1, e2, e3, e4, e5, f4, f5⟩ := meet_facts hb1 hb2; have y3 := Nat.le_of_lt y0; have y4 := Nat.le_of_lt y1; have y5 := Nat.le_of_lt y2; have hbb := after (after (box (box (box1 w _) _) _) hb1) hb2; clear hc1 hf1 z0 z1 z2) | (go_at_call 19; with_reducible refine (C _).mono ?_; rintro e w5 ⟨rfl, hb5⟩; obtain ⟨hc5, hf5⟩ := bcell hb5))
  exact bodyPost_ret (v := .tuple #[noRange, .bool false]) (by simp [results, Try.results18, go_sem, noRange, *]) rfl ⟨rfl, (by repeat (first | exact after (box hbb _) hb5 | refine Below.drew ?_ | refine Below.setCell ?_ (by simp <;> omega) _))⟩

set_option maxHeartbeats 2000000 in
theorem refmeet_e1 (a b c d : ByteArray) (hb : b.toList.isEmpty = true) (h0 : chk a b = 0) (h1 : chk c d = 0) (h2 : chk (Lib.maxS a c) d = 0) (w : World) :
    Calls Try.prog 18 #[.agg #[.string a, .string b], .agg #[.string c, .string d]] w fun e w' => e = .returned (.tuple #[.agg #[.string (Lib.maxS a c), .string d], .bool true]) ∧ Below w.heap.size w w' := by
  have A := refCheck_is a b 0 h0
  have B := refCheck_is c d 0 h1
  have C := refCheck_is (Lib.maxS a c) d 0 h2
  have hmx := fun W => Lib.run_max_strs (P := Try.prog) W #[9, 9] 9 a c
  clear h0 h1 h2
  go_enter Try.func18, Try.ntmps18
  go_wp2_with (first | (go_at_call 19; with_reducible refine (A _).mono ?_; rintro e w1 ⟨rfl, hb1⟩; obtain ⟨hc1, hf1⟩ := bcell hb1; obtain ⟨z0, z1, z2⟩ := room3 hb1) | (go_at_call 19; with_reducible refine (B _).mono ?_; rintro e w2 ⟨rfl, hb2⟩; obtain ⟨y0, y1, y2, e0, e1, e2, e3, e4, e5, f4, f5⟩ := meet_facts hb1 hb2; have y3 := Nat.le_of_lt y0; have y4 := Nat.le_of_lt y1; have y5 := Nat.le_of_lt y2; have hbb := after (after (box (box (box1 w _) _) _) hb1) hb2; clear hc1 hf1 z0 z1 z2) | (go_at_call 19; with_reducible refine (C _).mono ?_; rintro e w5 ⟨rfl, hb5⟩; obtain ⟨hc5, hf5⟩ := bcell hb5))
  exact bodyPost_ret (v := .tuple #[.agg #[.string (Lib.maxS a c), .string d], .bool true]) (by simp [results, Try.results18, go_sem, *]) rfl ⟨rfl, (by repeat (first | exact after (box hbb _) hb5 | refine Below.drew ?_ | refine Below.setCell ?_ (by simp <;> omega) _))⟩

set_option maxHeartbeats 2000000 in
theorem refmeet_f0 (a b c d : ByteArray) (hb : b.toList.isEmpty = false) (hd : d.toList.isEmpty = true) (h0 : chk a b = 0) (h1 : chk c d = 0) (n : Int) (h2 : chk (Lib.maxS a c) b = n) (hn : (n == 0) = false) (w : World) :
    Calls Try.prog 18 #[.agg #[.string a, .string b], .agg #[.string c, .string d]] w fun e w' => e = .returned (.tuple #[noRange, .bool false]) ∧ Below w.heap.size w w' := by
  have A := refCheck_is a b 0 h0
  have B := refCheck_is c d 0 h1
  have C := refCheck_is (Lib.maxS a c) b n h2
  have hn2 : (n != 0) = true := by simp only [bne, hn]; rfl
  have hmx := fun W => Lib.run_max_strs (P := Try.prog) W #[9, 9] 9 a c
  clear h0 h1 h2
  go_enter Try.func18, Try.ntmps18
  go_wp2_with (first | (go_at_call 19; with_reducible refine (A _).mono ?_; rintro e w1 ⟨rfl, hb1⟩; obtain ⟨hc1, hf1⟩ := bcell hb1; obtain ⟨z0, z1, z2⟩ := room3 hb1) | (go_at_call 19; with_reducible refine (B _).mono ?_; rintro e w2 ⟨rfl, hb2⟩; obtain ⟨y0, y1, y2, e0, e1, e2, e3, e4, e5, f4, f5⟩ := meet_facts hb1 hb2; have y3 := Nat.le_of_lt y0; have y4 := Nat.le_of_lt y1; have y5 := Nat.le_of_lt y2; have hbb := after (after (box (box (box1 w _) _) _) hb1) hb2; clear hc1 hf1 z0 z1 z2) | (go_at_call 19; with_reducible refine (C _).mono ?_; rintro e w5 ⟨rfl, hb5⟩; obtain ⟨hc5, hf5⟩ := bcell hb5))
  exact bodyPost_ret (v := .tuple #[noRange, .bool false]) (by simp [results, Try.results18, go_sem, noRange, *]) rfl ⟨rfl, (by repeat (first | exact after (box hbb _) hb5 | refine Below.drew ?_ | refine Below.setCell ?_ (by simp <;> omega) _))⟩

set_option maxHeartbeats 2000000 in
theorem refmeet_f1 (a b c d : ByteArray) (hb : b.toList.isEmpty = false) (hd : d.toList.isEmpty = true) (h0 : chk a b = 0) (h1 : chk c d = 0) (h2 : chk (Lib.maxS a c) b = 0) (w : World) :
    Calls Try.prog 18 #[.agg #[.string a, .string b], .agg #[.string c, .string d]] w fun e w' => e = .returned (.tuple #[.agg #[.string (Lib.maxS a c), .string b], .bool true]) ∧ Below w.heap.size w w' := by
  have A := refCheck_is a b 0 h0
  have B := refCheck_is c d 0 h1
  have C := refCheck_is (Lib.maxS a c) b 0 h2
  have hmx := fun W => Lib.run_max_strs (P := Try.prog) W #[9, 9] 9 a c
  clear h0 h1 h2
  go_enter Try.func18, Try.ntmps18
  go_wp2_with (first | (go_at_call 19; with_reducible refine (A _).mono ?_; rintro e w1 ⟨rfl, hb1⟩; obtain ⟨hc1, hf1⟩ := bcell hb1; obtain ⟨z0, z1, z2⟩ := room3 hb1) | (go_at_call 19; with_reducible refine (B _).mono ?_; rintro e w2 ⟨rfl, hb2⟩; obtain ⟨y0, y1, y2, e0, e1, e2, e3, e4, e5, f4, f5⟩ := meet_facts hb1 hb2; have y3 := Nat.le_of_lt y0; have y4 := Nat.le_of_lt y1; have y5 := Nat.le_of_lt y2; have hbb := after (after (box (box (box1 w _) _) _) hb1) hb2; clear hc1 hf1 z0 z1 z2) | (go_at_call 19; with_reducible refine (C _).mono ?_; rintro e w5 ⟨rfl, hb5⟩; obtain ⟨hc5, hf5⟩ := bcell hb5))
  exact bodyPost_ret (v := .tuple #[.agg #[.string (Lib.maxS a c), .string b], .bool true]) (by simp [results, Try.results18, go_sem, *]) rfl ⟨rfl, (by repeat (first | exact after (box hbb _) hb5 | refine Below.drew ?_ | refine Below.setCell ?_ (by simp <;> omega) _))⟩

set_option maxHeartbeats 2000000 in
theorem refmeet_g0 (a b c d : ByteArray) (hb : b.toList.isEmpty = false) (hd : d.toList.isEmpty = false) (hl : Op.bytesLess d.toList b.toList = true) (h0 : chk a b = 0) (h1 : chk c d = 0) (n : Int) (h2 : chk (Lib.maxS a c) d = n) (hn : (n == 0) = false) (w : World) :
    Calls Try.prog 18 #[.agg #[.string a, .string b], .agg #[.string c, .string d]] w fun e w' => e = .returned (.tuple #[noRange, .bool false]) ∧ Below w.heap.size w w' := by
  have A := refCheck_is a b 0 h0
  have B := refCheck_is c d 0 h1
  have C := refCheck_is (Lib.maxS a c) d n h2
  have hn2 : (n != 0) = true := by simp only [bne, hn]; rfl
  have hmx := fun W => Lib.run_max_strs (P := Try.prog) W #[9, 9] 9 a c
  clear h0 h1 h2
  go_enter Try.func18, Try.ntmps18
  go_wp2_with (first | (go_at_call 19; with_reducible refine (A _).mono ?_; rintro e w1 ⟨rfl, hb1⟩; obtain ⟨hc1, hf1⟩ := bcell hb1; obtain ⟨z0, z1, z2⟩ := room3 hb1) | (go_at_call 19; with_reducible refine (B _).mono ?_; rintro e w2 ⟨rfl, hb2⟩; obtain ⟨y0, y1, y2, e0, e1, e2, e3, e4, e5, f4, f5⟩ := meet_facts hb1 hb2; have y3 := Nat.le_of_lt y0; have y4 := Nat.le_of_lt y1; have y5 := Nat.le_of_lt y2; have hbb := after (after (box (box (box1 w _) _) _) hb1) hb2; clear hc1 hf1 z0 z1 z2) | (go_at_call 19; with_reducible refine (C _).mono ?_; rintro e w5 ⟨rfl, hb5⟩; obtain ⟨hc5, hf5⟩ := bcell hb5))
  exact bodyPost_ret (v := .tuple #[noRange, .bool false]) (by simp [results, Try.results18, go_sem, noRange, *]) rfl ⟨rfl, (by repeat (first | exact after (box hbb _) hb5 | refine Below.drew ?_ | refine Below.setCell ?_ (by simp <;> omega) _))⟩

set_option maxHeartbeats 2000000 in
theorem refmeet_g1 (a b c d : ByteArray) (hb : b.toList.isEmpty = false) (hd : d.toList.isEmpty = false) (hl : Op.bytesLess d.toList b.toList = true) (h0 : chk a b = 0) (h1 : chk c d = 0) (h2 : chk (Lib.maxS a c) d = 0) (w : World) :
    Calls Try.prog 18 #[.agg #[.string a, .string b], .agg #[.string c, .string d]] w fun e w' => e = .returned (.tuple #[.agg #[.string (Lib.maxS a c), .string d], .bool true]) ∧ Below w.heap.size w w' := by
  have A := refCheck_is a b 0 h0
  have B := refCheck_is c d 0 h1
  have C := refCheck_is (Lib.maxS a c) d 0 h2
  have hmx := fun W => Lib.run_max_strs (P := Try.prog) W #[9, 9] 9 a c
  clear h0 h1 h2
  go_enter Try.func18, Try.ntmps18
  go_wp2_with (first | (go_at_call 19; with_reducible refine (A _).mono ?_; rintro e w1 ⟨rfl, hb1⟩; obtain ⟨hc1, hf1⟩ := bcell hb1; obtain ⟨z0, z1, z2⟩ := room3 hb1) | (go_at_call 19; with_reducible refine (B _).mono ?_; rintro e w2 ⟨rfl, hb2⟩; obtain ⟨y0, y1, y2, e0, e1, e2, e3, e4, e5, f4, f5⟩ := meet_facts hb1 hb2; have y3 := Nat.le_of_lt y0; have y4 := Nat.le_of_lt y1; have y5 := Nat.le_of_lt y2; have hbb := after (after (box (box (box1 w _) _) _) hb1) hb2; clear hc1 hf1 z0 z1 z2) | (go_at_call 19; with_reducible refine (C _).mono ?_; rintro e w5 ⟨rfl, hb5⟩; obtain ⟨hc5, hf5⟩ := bcell hb5))
  exact bodyPost_ret (v := .tuple #[.agg #[.string (Lib.maxS a c), .string d], .bool true]) (by simp [results, Try.results18, go_sem, *]) rfl ⟨rfl, (by repeat (first | exact after (box hbb _) hb5 | refine Below.drew ?_ | refine Below.setCell ?_ (by simp <;> omega) _))⟩

set_option maxHeartbeats 2000000 in
theorem refmeet_h0 (a b c d : ByteArray) (hb : b.toList.isEmpty = false) (hd : d.toList.isEmpty = false) (hl : Op.bytesLess d.toList b.toList = false) (h0 : chk a b = 0) (h1 : chk c d = 0) (n : Int) (h2 : chk (Lib.maxS a c) b = n) (hn : (n == 0) = false) (w : World) :
    Calls Try.prog 18 #[.agg #[.string a, .string b], .agg #[.string c, .string d]] w fun e w' => e = .returned (.tuple #[noRange, .bool false]) ∧ Below w.heap.size w w' := by
  have A := refCheck_is a b 0 h0
  have B := refCheck_is c d 0 h1
  have C := refCheck_is (Lib.maxS a c) b n h2
  have hn2 : (n != 0) = true := by simp only [bne, hn]; rfl
  have hmx := fun W => Lib.run_max_strs (P := Try.prog) W #[9, 9] 9 a c
  clear h0 h1 h2
  go_enter Try.func18, Try.ntmps18
  go_wp2_with (first | (go_at_call 19; with_reducible refine (A _).mono ?_; rintro e w1 ⟨rfl, hb1⟩; obtain ⟨hc1, hf1⟩ := bcell hb1; obtain ⟨z0, z1, z2⟩ := room3 hb1) | (go_at_call 19; with_reducible refine (B _).mono ?_; rintro e w2 ⟨rfl, hb2⟩; obtain ⟨y0, y1, y2, e0, e1, e2, e3, e4, e5, f4, f5⟩ := meet_facts hb1 hb2; have y3 := Nat.le_of_lt y0; have y4 := Nat.le_of_lt y1; have y5 := Nat.le_of_lt y2; have hbb := after (after (box (box (box1 w _) _) _) hb1) hb2; clear hc1 hf1 z0 z1 z2) | (go_at_call 19; with_reducible refine (C _).mono ?_; rintro e w5 ⟨rfl, hb5⟩; obtain ⟨hc5, hf5⟩ := bcell hb5))
  exact bodyPost_ret (v := .tuple #[noRange, .bool false]) (by simp [results, Try.results18, go_sem, noRange, *]) rfl ⟨rfl, (by repeat (first | exact after (box hbb _) hb5 | refine Below.drew ?_ | refine Below.setCell ?_ (by simp <;> omega) _))⟩

set_option maxHeartbeats 2000000 in
theorem refmeet_h1 (a b c d : ByteArray) (hb : b.toList.isEmpty = false) (hd : d.toList.isEmpty = false) (hl : Op.bytesLess d.toList b.toList = false) (h0 : chk a b = 0) (h1 : chk c d = 0) (h2 : chk (Lib.maxS a c) b = 0) (w : World) :
    Calls Try.prog 18 #[.agg #[.string a, .string b], .agg #[.string c, .string d]] w fun e w' => e = .returned (.tuple #[.agg #[.string (Lib.maxS a c), .string b], .bool true]) ∧ Below w.heap.size w w' := by
  have A := refCheck_is a b 0 h0
  have B := refCheck_is c d 0 h1
  have C := refCheck_is (Lib.maxS a c) b 0 h2
  have hmx := fun W => Lib.run_max_strs (P := Try.prog) W #[9, 9] 9 a c
  clear h0 h1 h2
  go_enter Try.func18, Try.ntmps18
  go_wp2_with (first | (go_at_call 19; with_reducible refine (A _).mono ?_; rintro e w1 ⟨rfl, hb1⟩; obtain ⟨hc1, hf1⟩ := bcell hb1; obtain ⟨z0, z1, z2⟩ := room3 hb1) | (go_at_call 19; with_reducible refine (B _).mono ?_; rintro e w2 ⟨rfl, hb2⟩; obtain ⟨y0, y1, y2, e0, e1, e2, e3, e4, e5, f4, f5⟩ := meet_facts hb1 hb2; have y3 := Nat.le_of_lt y0; have y4 := Nat.le_of_lt y1; have y5 := Nat.le_of_lt y2; have hbb := after (after (box (box (box1 w _) _) _) hb1) hb2; clear hc1 hf1 z0 z1 z2) | (go_at_call 19; with_reducible refine (C _).mono ?_; rintro e w5 ⟨rfl, hb5⟩; obtain ⟨hc5, hf5⟩ := bcell hb5))
  exact bodyPost_ret (v := .tuple #[.agg #[.string (Lib.maxS a c), .string b], .bool true]) (by simp [results, Try.results18, go_sem, *]) rfl ⟨rfl, (by repeat (first | exact after (box hbb _) hb5 | refine Below.drew ?_ | refine Below.setCell ?_ (by simp <;> omega) _))⟩
end Go.Proofs.Ytkceakoacmjkgaa
