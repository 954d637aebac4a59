/-
  KeyrangeCalls: the law's own walk.
-/
import Derived.Test.YtkceakoacmjkgaaAgree
import Derived.Test.YtkceakoacmjkgaaFrame
namespace Go.Proofs.Ytkceakoacmjkgaa
open Go.RowKit

theorem keepAll {W0 w : World} {b0 b1 b2 b3 b4 b5 b6 b7 b8 b9 : Nat} {u0 v0 u1 v1 u2 v2 u3 v3 u4 v4 u5 v5 u6 v6 u7 v7 u8 v8 u9 v9 : Value} (z0 : b0 < W0.heap.size) (e0 : W0.cell? ⟨b0, 0, none⟩ = some u0) (f0 : W0.cell? ⟨b0, 1, none⟩ = some v0) (z1 : b1 < W0.heap.size) (e1 : W0.cell? ⟨b1, 0, none⟩ = some u1) (f1 : W0.cell? ⟨b1, 1, none⟩ = some v1) (z2 : b2 < W0.heap.size) (e2 : W0.cell? ⟨b2, 0, none⟩ = some u2) (f2 : W0.cell? ⟨b2, 1, none⟩ = some v2) (z3 : b3 < W0.heap.size) (e3 : W0.cell? ⟨b3, 0, none⟩ = some u3) (f3 : W0.cell? ⟨b3, 1, none⟩ = some v3) (z4 : b4 < W0.heap.size) (e4 : W0.cell? ⟨b4, 0, none⟩ = some u4) (f4 : W0.cell? ⟨b4, 1, none⟩ = some v4) (z5 : b5 < W0.heap.size) (e5 : W0.cell? ⟨b5, 0, none⟩ = some u5) (f5 : W0.cell? ⟨b5, 1, none⟩ = some v5) (z6 : b6 < W0.heap.size) (e6 : W0.cell? ⟨b6, 0, none⟩ = some u6) (f6 : W0.cell? ⟨b6, 1, none⟩ = some v6) (z7 : b7 < W0.heap.size) (e7 : W0.cell? ⟨b7, 0, none⟩ = some u7) (f7 : W0.cell? ⟨b7, 1, none⟩ = some v7) (z8 : b8 < W0.heap.size) (e8 : W0.cell? ⟨b8, 0, none⟩ = some u8) (f8 : W0.cell? ⟨b8, 1, none⟩ = some v8) (z9 : b9 < W0.heap.size) (e9 : W0.cell? ⟨b9, 0, none⟩ = some u9) (f9 : W0.cell? ⟨b9, 1, none⟩ = some v9) (h : Below W0.heap.size W0 w) :
    w.cell? ⟨b0, 0, none⟩ = some u0 ∧ w.cell? ⟨b0, 1, none⟩ = some v0 ∧ w.cell? ⟨b1, 0, none⟩ = some u1 ∧ w.cell? ⟨b1, 1, none⟩ = some v1 ∧ w.cell? ⟨b2, 0, none⟩ = some u2 ∧ w.cell? ⟨b2, 1, none⟩ = some v2 ∧ w.cell? ⟨b3, 0, none⟩ = some u3 ∧ w.cell? ⟨b3, 1, none⟩ = some v3 ∧ w.cell? ⟨b4, 0, none⟩ = some u4 ∧ w.cell? ⟨b4, 1, none⟩ = some v4 ∧ w.cell? ⟨b5, 0, none⟩ = some u5 ∧ w.cell? ⟨b5, 1, none⟩ = some v5 ∧ w.cell? ⟨b6, 0, none⟩ = some u6 ∧ w.cell? ⟨b6, 1, none⟩ = some v6 ∧ w.cell? ⟨b7, 0, none⟩ = some u7 ∧ w.cell? ⟨b7, 1, none⟩ = some v7 ∧ w.cell? ⟨b8, 0, none⟩ = some u8 ∧ w.cell? ⟨b8, 1, none⟩ = some v8 ∧ w.cell? ⟨b9, 0, none⟩ = some u9 ∧ w.cell? ⟨b9, 1, none⟩ = some v9 ∧ Below W0.heap.size W0 w :=
  ⟨((adv0 h).two z0 e0 f0).1, ((adv0 h).two z0 e0 f0).2.1, ((adv0 h).two z1 e1 f1).1, ((adv0 h).two z1 e1 f1).2.1, ((adv0 h).two z2 e2 f2).1, ((adv0 h).two z2 e2 f2).2.1, ((adv0 h).two z3 e3 f3).1, ((adv0 h).two z3 e3 f3).2.1, ((adv0 h).two z4 e4 f4).1, ((adv0 h).two z4 e4 f4).2.1, ((adv0 h).two z5 e5 f5).1, ((adv0 h).two z5 e5 f5).2.1, ((adv0 h).two z6 e6 f6).1, ((adv0 h).two z6 e6 f6).2.1, ((adv0 h).two z7 e7 f7).1, ((adv0 h).two z7 e7 f7).2.1, ((adv0 h).two z8 e8 f8).1, ((adv0 h).two z8 e8 f8).2.1, ((adv0 h).two z9 e9 f9).1, ((adv0 h).two z9 e9 f9).2.1, h⟩

set_option maxRecDepth 100000 in
set_option maxHeartbeats 8000000 in
theorem calls_walk (a b c d k : ByteArray) (w : World) :
    Calls Try.prog 4 #[.agg #[.string a, .string b], .agg #[.string c, .string d], .string k] w (Yes w) := by
  obtain ⟨n0, K1, K2⟩ := check_agree a b
  obtain ⟨v0, H1, H2⟩ := has_agree a b k
  obtain ⟨p1, q1, r1, s1, n1, S1, S2⟩ := split_agree a b k
  obtain ⟨p2, q2, n2, M1, M2⟩ := merge_agree a b c d
  obtain ⟨p3, q3, v3, T1, T2⟩ := meet_agree a b c d
  go_enter Try.func4, Try.ntmps4
  go_wp2_with (first
    | (go_at_call 9; refine (lives_yes _).mono ?_; rintro e w1 ⟨rfl, hb1⟩; obtain ⟨g1, A0_1, A1_1, Az_1, C0_1, C1_1, Cz_1⟩ := adv2 hb1; have hB1 := after (box (box (Below.refl _ w) _) _) hb1; clear g1 hb1)
    | (go_at_call 11; refine (S1 _).mono ?_; rintro e w2 ⟨rfl, hb2⟩; have g2 := adv0 hb2; obtain ⟨A0_2, A1_2, Az_2⟩ := g2.two Az_1 A0_1 A1_1; clear Az_1 A0_1 A1_1; obtain ⟨C0_2, C1_2, Cz_2⟩ := g2.two Cz_1 C0_1 C1_1; clear Cz_1 C0_1 C1_1; have hB2 := after hB1 hb2; clear hB1; clear g2 hb2)
    | (go_at_call 16; refine (S2 _).mono ?_; rintro e w3 ⟨rfl, hb3⟩; obtain ⟨g3, P0_3, P1_3, Pz_3, R0_3, R1_3, Rz_3⟩ := adv2 hb3; obtain ⟨A0_3, A1_3, Az_3⟩ := g3.two Az_2 A0_2 A1_2; clear Az_2 A0_2 A1_2; obtain ⟨C0_3, C1_3, Cz_3⟩ := g3.two Cz_2 C0_2 C1_2; clear Cz_2 C0_2 C1_2; have hB3 := after (box (box hB2 _) _) hb3; clear hB2; clear g3 hb3)
    | (go_at_call 12; refine (M1 _).mono ?_; rintro e w4 ⟨rfl, hb4⟩; obtain ⟨g4, PP0_4, PP1_4, PPz_4, RR0_4, RR1_4, RRz_4⟩ := adv2 hb4; obtain ⟨A0_4, A1_4, Az_4⟩ := g4.two Az_3 A0_3 A1_3; clear Az_3 A0_3 A1_3; obtain ⟨C0_4, C1_4, Cz_4⟩ := g4.two Cz_3 C0_3 C1_3; clear Cz_3 C0_3 C1_3; obtain ⟨P0_4, P1_4, Pz_4⟩ := g4.two Pz_3 P0_3 P1_3; clear Pz_3 P0_3 P1_3; obtain ⟨R0_4, R1_4, Rz_4⟩ := g4.two Rz_3 R0_3 R1_3; clear Rz_3 R0_3 R1_3; have hB4 := after (box (box hB3 _) _) hb4; clear hB3; clear g4 hb4)
    | (go_at_call 17; refine (M2 _).mono ?_; rintro e w5 ⟨rfl, hb5⟩; obtain ⟨g5, M0_5, M1_5, Mz_5⟩ := adv1 hb5; obtain ⟨A0_5, A1_5, Az_5⟩ := g5.two Az_4 A0_4 A1_4; clear Az_4 A0_4 A1_4; obtain ⟨C0_5, C1_5, Cz_5⟩ := g5.two Cz_4 C0_4 C1_4; clear Cz_4 C0_4 C1_4; obtain ⟨P0_5, P1_5, Pz_5⟩ := g5.two Pz_4 P0_4 P1_4; clear Pz_4 P0_4 P1_4; obtain ⟨R0_5, R1_5, Rz_5⟩ := g5.two Rz_4 R0_4 R1_4; clear Rz_4 R0_4 R1_4; obtain ⟨PP0_5, PP1_5, PPz_5⟩ := g5.two PPz_4 PP0_4 PP1_4; clear PPz_4 PP0_4 PP1_4; obtain ⟨RR0_5, RR1_5, RRz_5⟩ := g5.two RRz_4 RR0_4 RR1_4; clear RRz_4 RR0_4 RR1_4; have hB5 := after (box hB4 _) hb5; clear hB4; clear g5 hb5)
    | (go_at_call 13; refine (T1 _).mono ?_; rintro e w6 ⟨rfl, hb6⟩; obtain ⟨g6, MM0_6, MM1_6, MMz_6⟩ := adv1 hb6; obtain ⟨A0_6, A1_6, Az_6⟩ := g6.two Az_5 A0_5 A1_5; clear Az_5 A0_5 A1_5; obtain ⟨C0_6, C1_6, Cz_6⟩ := g6.two Cz_5 C0_5 C1_5; clear Cz_5 C0_5 C1_5; obtain ⟨P0_6, P1_6, Pz_6⟩ := g6.two Pz_5 P0_5 P1_5; clear Pz_5 P0_5 P1_5; obtain ⟨R0_6, R1_6, Rz_6⟩ := g6.two Rz_5 R0_5 R1_5; clear Rz_5 R0_5 R1_5; obtain ⟨PP0_6, PP1_6, PPz_6⟩ := g6.two PPz_5 PP0_5 PP1_5; clear PPz_5 PP0_5 PP1_5; obtain ⟨RR0_6, RR1_6, RRz_6⟩ := g6.two RRz_5 RR0_5 RR1_5; clear RRz_5 RR0_5 RR1_5; obtain ⟨M0_6, M1_6, Mz_6⟩ := g6.two Mz_5 M0_5 M1_5; clear Mz_5 M0_5 M1_5; have hB6 := after (box hB5 _) hb6; clear hB5; clear g6 hb6)
    | (go_at_call 18; refine (T2 _).mono ?_; rintro e w7 ⟨rfl, hb7⟩; obtain ⟨g7, T0_7, T1_7, Tz_7⟩ := adv1 hb7; obtain ⟨A0_7, A1_7, Az_7⟩ := g7.two Az_6 A0_6 A1_6; clear Az_6 A0_6 A1_6; obtain ⟨C0_7, C1_7, Cz_7⟩ := g7.two Cz_6 C0_6 C1_6; clear Cz_6 C0_6 C1_6; obtain ⟨P0_7, P1_7, Pz_7⟩ := g7.two Pz_6 P0_6 P1_6; clear Pz_6 P0_6 P1_6; obtain ⟨R0_7, R1_7, Rz_7⟩ := g7.two Rz_6 R0_6 R1_6; clear Rz_6 R0_6 R1_6; obtain ⟨PP0_7, PP1_7, PPz_7⟩ := g7.two PPz_6 PP0_6 PP1_6; clear PPz_6 PP0_6 PP1_6; obtain ⟨RR0_7, RR1_7, RRz_7⟩ := g7.two RRz_6 RR0_6 RR1_6; clear RRz_6 RR0_6 RR1_6; obtain ⟨M0_7, M1_7, Mz_7⟩ := g7.two Mz_6 M0_6 M1_6; clear Mz_6 M0_6 M1_6; obtain ⟨MM0_7, MM1_7, MMz_7⟩ := g7.two MMz_6 MM0_6 MM1_6; clear MMz_6 MM0_6 MM1_6; have hB7 := after (box hB6 _) hb7; clear hB6; clear g7 hb7))
  obtain ⟨g9, TT0_9, TT1_9, TTz_9⟩ := adva w7 24 (.string p3) (.string q3)
  obtain ⟨A0_9, A1_9, Az_9⟩ := g9.two Az_7 A0_7 A1_7
  obtain ⟨C0_9, C1_9, Cz_9⟩ := g9.two Cz_7 C0_7 C1_7
  obtain ⟨P0_9, P1_9, Pz_9⟩ := g9.two Pz_7 P0_7 P1_7
  obtain ⟨R0_9, R1_9, Rz_9⟩ := g9.two Rz_7 R0_7 R1_7
  obtain ⟨PP0_9, PP1_9, PPz_9⟩ := g9.two PPz_7 PP0_7 PP1_7
  obtain ⟨RR0_9, RR1_9, RRz_9⟩ := g9.two RRz_7 RR0_7 RR1_7
  obtain ⟨M0_9, M1_9, Mz_9⟩ := g9.two Mz_7 M0_7 M1_7
  obtain ⟨MM0_9, MM1_9, MMz_9⟩ := g9.two MMz_7 MM0_7 MM1_7
  obtain ⟨T0_9, T1_9, Tz_9⟩ := g9.two Tz_7 T0_7 T1_7
  have Q1 := eqlRange_is p1 q1 p1 q1 true (by simp)
  have Q2 := eqlRange_is r1 s1 r1 s1 true (by simp)
  have Q3 := eqlRange_is p2 q2 p2 q2 true (by simp)
  have Q4 := eqlRange_is p3 q3 p3 q3 true (by simp)
  go_region_held3 (fun w' => w'.cell? ⟨w.heap.size, 0, none⟩ = some (.string a) ∧ w'.cell? ⟨w.heap.size, 1, none⟩ = some (.string b) ∧ w'.cell? ⟨w.heap.size + 1, 0, none⟩ = some (.string c) ∧ w'.cell? ⟨w.heap.size + 1, 1, none⟩ = some (.string d) ∧ w'.cell? ⟨w2.heap.size, 0, none⟩ = some (.string p1) ∧ w'.cell? ⟨w2.heap.size, 1, none⟩ = some (.string q1) ∧ w'.cell? ⟨w2.heap.size + 1, 0, none⟩ = some (.string r1) ∧ w'.cell? ⟨w2.heap.size + 1, 1, none⟩ = some (.string s1) ∧ w'.cell? ⟨w3.heap.size, 0, none⟩ = some (.string p1) ∧ w'.cell? ⟨w3.heap.size, 1, none⟩ = some (.string q1) ∧ w'.cell? ⟨w3.heap.size + 1, 0, none⟩ = some (.string r1) ∧ w'.cell? ⟨w3.heap.size + 1, 1, none⟩ = some (.string s1) ∧ w'.cell? ⟨w4.heap.size, 0, none⟩ = some (.string p2) ∧ w'.cell? ⟨w4.heap.size, 1, none⟩ = some (.string q2) ∧ w'.cell? ⟨w5.heap.size, 0, none⟩ = some (.string p2) ∧ w'.cell? ⟨w5.heap.size, 1, none⟩ = some (.string q2) ∧ w'.cell? ⟨w6.heap.size, 0, none⟩ = some (.string p3) ∧ w'.cell? ⟨w6.heap.size, 1, none⟩ = some (.string q3) ∧ w'.cell? ⟨w7.heap.size, 0, none⟩ = some (.string p3) ∧ w'.cell? ⟨w7.heap.size, 1, none⟩ = some (.string q3) ∧ Below (w7.alloc (.cells #[.string p3, .string q3] 24)).heap.size (w7.alloc (.cells #[.string p3, .string q3] 24)) w')
    (first | exact keepAll Az_9 A0_9 A1_9 Cz_9 C0_9 C1_9 Pz_9 P0_9 P1_9 Rz_9 R0_9 R1_9 PPz_9 PP0_9 PP1_9 RRz_9 RR0_9 RR1_9 Mz_9 M0_9 M1_9 MMz_9 MM0_9 MM1_9 Tz_9 T0_9 T1_9 TTz_9 TT0_9 TT1_9 (Below.refl _ _).drew | exact keepAll Az_9 A0_9 A1_9 Cz_9 C0_9 C1_9 Pz_9 P0_9 P1_9 Rz_9 R0_9 R1_9 PPz_9 PP0_9 PP1_9 RRz_9 RR0_9 RR1_9 Mz_9 M0_9 M1_9 MMz_9 MM0_9 MM1_9 Tz_9 T0_9 T1_9 TTz_9 TT0_9 TT1_9 (after (‹_ ∧ _ ∧ _ ∧ _ ∧ _ ∧ _ ∧ _ ∧ _ ∧ _ ∧ _ ∧ _ ∧ _ ∧ _ ∧ _ ∧ _ ∧ _ ∧ _ ∧ _ ∧ _ ∧ _ ∧ Below _ _ _›).2.2.2.2.2.2.2.2.2.2.2.2.2.2.2.2.2.2.2.2 (by assumption)) | go_keep)
    (first
      | (go_at_call 15; refine (K1 _).mono ?_; rintro e x1 ⟨rfl, hx1⟩)
      | (go_at_call 19; refine (K2 _).mono ?_; rintro e x2 ⟨rfl, hx2⟩)
      | (go_at_call 10; refine (H1 _).mono ?_; rintro e x3 ⟨rfl, hx3⟩)
      | (go_at_call 20; refine (H2 _).mono ?_; rintro e x4 ⟨rfl, hx4⟩))
  have hB9 := after (box hB7 _) (‹_ ∧ _ ∧ _ ∧ _ ∧ _ ∧ _ ∧ _ ∧ _ ∧ _ ∧ _ ∧ _ ∧ _ ∧ _ ∧ _ ∧ _ ∧ _ ∧ _ ∧ _ ∧ _ ∧ _ ∧ Below _ _ _›).2.2.2.2.2.2.2.2.2.2.2.2.2.2.2.2.2.2.2.2
  go_wp2
  go_ret
  exact ⟨rfl, hB9⟩
end Go.Proofs.Ytkceakoacmjkgaa
