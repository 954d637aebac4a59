/-
  KeyrangeNames: the law's own walk.
-/
import Derived.Test.YtkceakoacmjkgaaMeetIs
import Derived.Test.YtkceakoacmjkgaaAgree
import Derived.Test.YtkceakoacmjkgaaFrame
import Derived.Test.YtkceakoacmjkgaaWholeK
namespace Go.Proofs.Ytkceakoacmjkgaa
open Go.RowKit

theorem advA {w1 w2 : World} {o : Obj} (hb : Below (w1.alloc o).heap.size (w1.alloc o) w2) : Stays w1 w2 := by
  have k := adv0 hb
  exact fun b q v h e => k b q v (by simp; omega) (by rw [World.cell?_alloc_lt _ _ _ (by simpa using h), e])
theorem advB {w1 w2 : World} {o o' : Obj} (hb : Below ((w1.alloc o).alloc o').heap.size ((w1.alloc o).alloc o') w2) : Stays w1 w2 := by
  have k := advA hb
  exact fun b q v h e => k b q v (by simp; omega) (by rw [World.cell?_alloc_lt _ _ _ (by simpa using h), e])

/-- Whole of two ranges that a new slice holds. -/
theorem whole_two (a b c d : ByteArray) (n m : Int) (h : whole (fun i => if i = 0 then (a, b) else (c, d)) 2 = (n, m)) (w : World) (t : TypeId) (g : Nat) (hg : g = w.heap.size) :
    Calls Try.prog 14 #[.slice (some ⟨g, 0, none⟩) 2 2] (w.alloc (.cells #[.string a, .string b, .string c, .string d] t)) fun e w' =>
      e = .returned (.tuple #[.int .i64 n, .int .i64 m]) ∧ Below (w.alloc (.cells #[.string a, .string b, .string c, .string d] t)).heap.size (w.alloc (.cells #[.string a, .string b, .string c, .string d] t)) w' := by
  subst hg
  have k := whole_any (some ⟨w.heap.size, 0, none⟩) 2 2 (fun i => if i = 0 then (a, b) else (c, d)) (by omega) (w.alloc (.cells #[.string a, .string b, .string c, .string d] t)) (by
    intro i hi
    refine ⟨_, _, rfl, by simp, ?_, ?_⟩
    · match i, hi with
      | 0, _ => simp [go_sem]
      | 1, _ => simp [go_sem]
    · match i, hi with
      | 0, _ => simp [go_sem]
      | 1, _ => simp [go_sem])
  rw [h] at k
  exact k
theorem whole_one (a b : ByteArray) (n m : Int) (h : whole (fun _ => (a, b)) 1 = (n, m)) (w : World) (t : TypeId) :
    Calls Try.prog 14 #[.slice (some ⟨w.heap.size, 0, none⟩) 1 1] (w.alloc (.cells #[.string a, .string b] t)) fun e w' =>
      e = .returned (.tuple #[.int .i64 n, .int .i64 m]) ∧ Below (w.alloc (.cells #[.string a, .string b] t)).heap.size (w.alloc (.cells #[.string a, .string b] t)) w' := by
  have k := whole_any (some ⟨w.heap.size, 0, none⟩) 1 1 (fun _ => (a, b)) (by omega) (w.alloc (.cells #[.string a, .string b] t)) (by
    intro i hi
    obtain rfl : i = 0 := by omega
    exact ⟨_, _, rfl, by simp, by simp [go_sem], by simp [go_sem]⟩)
  rw [h] at k
  exact k

set_option maxRecDepth 100000 in
set_option maxHeartbeats 8000000 in
theorem names_walk (w : World) : Calls Try.prog 3 #[] w (Yes w) := by
  have H1 := has_is ⟨#[98]⟩ ⟨#[100]⟩ ⟨#[98]⟩ true (by decide +kernel)
  have H2 := has_is ⟨#[98]⟩ ⟨#[100]⟩ ⟨#[99, 57]⟩ true (by decide +kernel)
  have H3 := has_is ⟨#[98]⟩ ⟨#[100]⟩ ⟨#[100]⟩ false (by decide +kernel)
  have H4 := has_is ⟨#[98]⟩ ⟨#[100]⟩ ⟨#[97]⟩ false (by decide +kernel)
  have H5 := has_is ⟨#[]⟩ ⟨#[]⟩ ⟨#[]⟩ true (by decide +kernel)
  have S1 := split_no ⟨#[98]⟩ ⟨#[100]⟩ ⟨#[98]⟩ 132 (by decide +kernel) (by decide)
  have M1 := merge_rest ⟨#[97]⟩ ⟨#[99]⟩ ⟨#[99]⟩ ⟨#[]⟩ (by decide +kernel) (by decide +kernel)
  rw [if_pos (by decide +kernel)] at M1
  have M2 := merge_rest ⟨#[97]⟩ ⟨#[]⟩ ⟨#[]⟩ ⟨#[98]⟩ (by decide +kernel) (by decide +kernel)
  rw [if_neg (by decide +kernel)] at M2
  have T1 := meet_any ⟨#[97]⟩ ⟨#[109]⟩ ⟨#[102]⟩ ⟨#[]⟩
  rw [show meetLo ⟨#[97]⟩ ⟨#[109]⟩ ⟨#[102]⟩ ⟨#[]⟩ = ⟨#[102]⟩ by decide +kernel, show meetUp ⟨#[97]⟩ ⟨#[109]⟩ ⟨#[102]⟩ ⟨#[]⟩ = ⟨#[109]⟩ by decide +kernel, show meetOk ⟨#[97]⟩ ⟨#[109]⟩ ⟨#[102]⟩ ⟨#[]⟩ = true by decide +kernel] at T1
  have T2 := meet_any ⟨#[97]⟩ ⟨#[99]⟩ ⟨#[99]⟩ ⟨#[100]⟩
  rw [show meetLo ⟨#[97]⟩ ⟨#[99]⟩ ⟨#[99]⟩ ⟨#[100]⟩ = ⟨#[]⟩ by decide +kernel, show meetUp ⟨#[97]⟩ ⟨#[99]⟩ ⟨#[99]⟩ ⟨#[100]⟩ = ⟨#[]⟩ by decide +kernel, show meetOk ⟨#[97]⟩ ⟨#[99]⟩ ⟨#[99]⟩ ⟨#[100]⟩ = false by decide +kernel] at T2
  have C1 := check_is ⟨#[97, 98, 99, 100, 101, 102, 103, 104, 105, 106, 107, 108, 109, 110, 111, 112, 113, 114, 115, 116, 117, 118, 119, 120, 121, 122, 97, 98, 99, 100, 101, 102, 103]⟩ ⟨#[]⟩ 131 (by decide +kernel)
  have W1 := whole_two ⟨#[]⟩ ⟨#[103]⟩ ⟨#[104]⟩ ⟨#[]⟩ 133 1 (by decide +kernel)
  have W2 := whole_one ⟨#[]⟩ ⟨#[103]⟩ 133 1 (by decide +kernel)
  have Q1 := eqlRange_is ⟨#[97]⟩ ⟨#[]⟩ ⟨#[97]⟩ ⟨#[]⟩ true (by simp)
  have Q2 := eqlRange_is ⟨#[102]⟩ ⟨#[109]⟩ ⟨#[102]⟩ ⟨#[109]⟩ true (by simp)
  have L := lives_yes
  unfold noRange at S1 M2
  go_enter Try.func3, Try.ntmps3
  go_wp2_with (first
    | (go_at_call 9; refine (L _).mono ?_; rintro e w1 ⟨rfl, hB1⟩)
    | (go_at_call 10; with_reducible refine (H1 _).mono ?_; rintro e w2 ⟨rfl, hb2⟩; obtain ⟨g2, B0_2, B1_2, Bz_2⟩ := adv1 hb2; have hB2 := after (box hB1 _) hb2; clear g2 hb2 hB1)
    | (go_at_call 10; with_reducible refine (H2 _).mono ?_; rintro e w3 ⟨rfl, hb3⟩; have g3 := adv0 hb3; obtain ⟨B0_3, B1_3, Bz_3⟩ := g3.two Bz_2 B0_2 B1_2; have hB3 := after hB2 hb3; clear g3 hb3 hB2 B0_2 B1_2 Bz_2)
    | (go_at_call 10; with_reducible refine (H3 _).mono ?_; rintro e w4 ⟨rfl, hb4⟩; have g4 := adv0 hb4; obtain ⟨B0_4, B1_4, Bz_4⟩ := g4.two Bz_3 B0_3 B1_3; have hB4 := after hB3 hb4; clear g4 hb4 hB3 B0_3 B1_3 Bz_3)
    | (go_at_call 10; with_reducible refine (H4 _).mono ?_; rintro e w5 ⟨rfl, hb5⟩; have g5 := adv0 hb5; obtain ⟨B0_5, B1_5, Bz_5⟩ := g5.two Bz_4 B0_4 B1_4; have hB5 := after hB4 hb5; clear g5 hb5 hB4 B0_4 B1_4 Bz_4)
    | (go_at_call 10; with_reducible refine (H5 _).mono ?_; rintro e w6 ⟨rfl, hb6⟩; have g6 := adv0 hb6; obtain ⟨B0_6, B1_6, Bz_6⟩ := g6.two Bz_5 B0_5 B1_5; have hB6 := after hB5 hb6; clear g6 hb6 hB5 B0_5 B1_5 Bz_5)
    | (go_at_call 11; with_reducible refine (S1 _).mono ?_; rintro e w7 ⟨rfl, hb7⟩; have g7 := adv0 hb7; obtain ⟨B0_7, B1_7, Bz_7⟩ := g7.two Bz_6 B0_6 B1_6; have hB7 := after hB6 hb7; clear g7 hb7 hB6 B0_6 B1_6 Bz_6)
    | (go_at_call 12; with_reducible refine (M1 _).mono ?_; rintro e w8 ⟨rfl, hb8⟩; have hB8 := after (box (box hB7 _) _) hb8; clear hb8 hB7)
    | (go_at_call 12; with_reducible refine (M2 _).mono ?_; rintro e w9 ⟨rfl, hb9⟩; obtain ⟨g9, M0_9, M1_9, Mz_9⟩ := adv1 hb9; have hB9 := after (box hB8 _) hb9; clear g9 hb9 hB8)
    | (go_at_call 13; with_reducible refine (T1 _).mono ?_; rintro e w10 ⟨rfl, hb10⟩; have g10 := advA hb10; obtain ⟨M0_10, M1_10, Mz_10⟩ := g10.two Mz_9 M0_9 M1_9; have hB10 := after (box hB9 _) hb10; clear g10 hb10 hB9 M0_9 M1_9 Mz_9)
    | (go_at_call 13; with_reducible refine (T2 _).mono ?_; rintro e w11 ⟨rfl, hb11⟩; obtain ⟨g11, X0_11, X1_11, Xz_11⟩ := adv1 hb11; obtain ⟨M0_11, M1_11, Mz_11⟩ := g11.two Mz_10 M0_10 M1_10; have hB11 := after (box hB10 _) hb11; clear g11 hb11 hB10 M0_10 M1_10 Mz_10)
    | (go_at_call 14; with_reducible refine (W1 _ _ (w11.heap.size + 1) (by simp)).mono ?_; rintro e w12 ⟨rfl, hb12⟩; have g12 := advB hb12; obtain ⟨M0_12, M1_12, Mz_12⟩ := g12.two Mz_11 M0_11 M1_11; obtain ⟨X0_12, X1_12, Xz_12⟩ := g12.two Xz_11 X0_11 X1_11; have hB12 := after (box (box hB11 _) _) hb12; clear g12 hb12 hB11 M0_11 M1_11 Mz_11 X0_11 X1_11 Xz_11)
    | (go_at_call 14; with_reducible refine (W2 _ _).mono ?_; rintro e w13 ⟨rfl, hb13⟩; have g13 := advA hb13; obtain ⟨M0_13, M1_13, Mz_13⟩ := g13.two Mz_12 M0_12 M1_12; obtain ⟨X0_13, X1_13, Xz_13⟩ := g13.two Xz_12 X0_12 X1_12; have hB13 := after (box hB12 _) hb13; clear g13 hb13 hB12 M0_12 M1_12 Mz_12 X0_12 X1_12 Xz_12)
    | (go_at_call 15; with_reducible refine (C1 _).mono ?_; rintro e w14 ⟨rfl, hb14⟩; have g14 := adv0 hb14; obtain ⟨M0_14, M1_14, Mz_14⟩ := g14.two Mz_13 M0_13 M1_13; obtain ⟨X0_14, X1_14, Xz_14⟩ := g14.two Xz_13 X0_13 X1_13; have hB14 := after hB13 hb14; clear g14 hb14 hB13 M0_13 M1_13 Mz_13 X0_13 X1_13 Xz_13))


  go_ret
  exact ⟨rfl, hB14⟩
end Go.Proofs.Ytkceakoacmjkgaa
