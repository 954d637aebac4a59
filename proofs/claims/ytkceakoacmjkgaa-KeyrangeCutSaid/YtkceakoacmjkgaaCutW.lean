/-
  KeyrangeCut: the law's own walk.
-/
import Derived.Test.YtkceakoacmjkgaaMeetIs
import Derived.Test.YtkceakoacmjkgaaAgree
import Derived.Test.YtkceakoacmjkgaaFrame
import Derived.Test.YtkceakoacmjkgaaKeep
import Derived.Test.YtkceakoacmjkgaaOpen
namespace Go.Proofs.Ytkceakoacmjkgaa
open Go.RowKit Go.BigFrame

set_option maxHeartbeats 2000000 in
theorem cut_walk_no (lo hi k : ByteArray) (A : Option Addr) (n cap : Nat) (h : (splitE lo hi k == 0) = false) (w : World) :
    Calls Try.prog 6 #[.agg #[.string lo, .string hi], .string k, .slice A n cap] w (Yes w) := by
  have S := split_no lo hi k _ rfl h
  have h2 : (splitE lo hi k != 0) = true := by simp only [bne, h]; rfl
  generalize splitE lo hi k = m at *
  have L := lives_yes
  have Q1 := eqlRange_is ⟨#[]⟩ ⟨#[]⟩ ⟨#[]⟩ ⟨#[]⟩ true (by simp)
  unfold noRange at S
  go_enter Try.func6, Try.ntmps6
  go_wp2_with (first
    | (go_at_call 9; refine (L _).mono ?_; rintro e w1 ⟨rfl, hb1⟩; obtain ⟨g1, R0_1, R1_1, Rz_1⟩ := adv1 hb1; have hB1 := after (box1 w _) hb1; clear g1 hb1)
    | (go_at_call 11; refine (S _).mono ?_; rintro e w2 ⟨rfl, hb2⟩; have hB2 := after hB1 hb2; clear hb2 hB1))
  go_ret
  exact ⟨rfl, box (box hB2 _) _⟩

set_option maxRecDepth 100000 in
set_option maxHeartbeats 8000000 in
theorem cut_walk_yes (lo hi k : ByteArray) (A : Option Addr) (n cap : Nat) (ks : Nat → ByteArray) (hn : n ≤ 9223372036854775807) (h : splitE lo hi k = 0) (w : World) (hk : KeysAt w w.heap.size A n ks) :
    Calls Try.prog 6 #[.agg #[.string lo, .string hi], .string k, .slice A n cap] w (Yes w) := by
  have S := split_yes lo hi k h
  obtain ⟨p1, p2, p3⟩ := split_parts h
  have M := merge_rest lo k k hi p1 p2
  rw [if_pos (by rw [empty_ky]; simp [p3])] at M
  have T := meet_any lo k k hi
  unfold meetLo meetUp at T
  rw [split_apart h] at T
  have HX := Lib.hid (split_keys h)
  have HK := Lib.hid hk
  clear hk h p1 p2 p3
  have L := lives_yes
  have Q1 := neqRange_is lo hi lo hi false (by simp)
  go_enter Try.func6, Try.ntmps6
  go_wp2_with (first
    | (go_at_call 9; refine (L _).mono ?_; rintro e w1 ⟨rfl, hb1⟩; obtain ⟨g1, R0_1, R1_1, Rz_1⟩ := adv1 hb1; have hB1 := after (box1 w _) hb1; clear g1 hb1)
    | (go_at_call 11; refine (S _).mono ?_; rintro e w2 ⟨rfl, hb2⟩; have g2 := adv0 hb2; obtain ⟨R0_2, R1_2, Rz_2⟩ := g2.two Rz_1 R0_1 R1_1; have hB2 := after hB1 hb2; clear g2 hb2 hB1 Rz_1 R0_1 R1_1)
    | (go_at_call 12; refine (M _).mono ?_; rintro e w3 ⟨rfl, hb3⟩; obtain ⟨g3, P0_3, P1_3, Pz_3, Q0_3, Q1_3, Qz_3⟩ := adv2 hb3; obtain ⟨R0_3, R1_3, Rz_3⟩ := g3.two Rz_2 R0_2 R1_2; have hB3 := after (box (box hB2 _) _) hb3; clear g3 hb3 hB2 Rz_2 R0_2 R1_2)
    | (go_at_call 13; refine (T _).mono ?_; rintro e w4 ⟨rfl, hb4⟩; obtain ⟨g4, G0_4, G1_4, Gz_4⟩ := adv1 hb4; obtain ⟨R0_4, R1_4, Rz_4⟩ := g4.two Rz_3 R0_3 R1_3; obtain ⟨P0_4, P1_4, Pz_4⟩ := g4.two Pz_3 P0_3 P1_3; obtain ⟨Q0_4, Q1_4, Qz_4⟩ := g4.two Qz_3 Q0_3 Q1_3; have hB4 := after (box hB3 _) hb4; clear g4 hb4 hB3 Rz_3 R0_3 R1_3 Pz_3 P0_3 P1_3 Qz_3 Q0_3 Q1_3))
  go_loopw [15] (fun i wr => ∃ j : Nat, j ≤ n ∧ i = .int .i64 j ∧ wr.cell? ⟨w.heap.size, 0, none⟩ = some (.string lo) ∧ wr.cell? ⟨w.heap.size, 1, none⟩ = some (.string hi) ∧ wr.cell? ⟨w2.heap.size, 0, none⟩ = some (.string lo) ∧ wr.cell? ⟨w2.heap.size, 1, none⟩ = some (.string k) ∧ wr.cell? ⟨w2.heap.size + 1, 0, none⟩ = some (.string k) ∧ wr.cell? ⟨w2.heap.size + 1, 1, none⟩ = some (.string hi) ∧ w.heap.size < wr.heap.size ∧ w2.heap.size < wr.heap.size ∧ w2.heap.size + 1 < wr.heap.size ∧ Below w.heap.size w wr) (fun i _ => n - (intOf i).toNat)
  case atStart =>
    obtain ⟨g, _, _, _⟩ := adva w4 24 (.string ⟨#[]⟩) (.string ⟨#[]⟩)
    obtain ⟨x0, x1, x2⟩ := g.two Rz_4 R0_4 R1_4
    obtain ⟨y0, y1, y2⟩ := g.two Pz_4 P0_4 P1_4
    obtain ⟨u0, u1, u2⟩ := g.two Qz_4 Q0_4 Q1_4
    exact ⟨0, Nat.zero_le _, rfl, x0, x1, y0, y1, u0, u1, x2, y2, u2, box hB4 _⟩
  case round =>
    rename_i wr
    obtain ⟨j, hj, rfl, eR0_1, eR1_1, eP0_1, eP1_1, eQ0_1, eQ1_1, zR_1, zP_1, zQ_1, hE1⟩ := hrel
    clear R0_4 R1_4 P0_4 P1_4 Q0_4 Q1_4 G0_4 G1_4 Rz_4 Pz_4 Qz_4 Gz_4 hB4 Q1
    by_cases hlt : j < n
    · obtain ⟨b0, off, rfl, hbl, hcell⟩ := HK.out j hlt
      have zK_1 : b0 < wr.heap.size := Nat.lt_trans hbl zR_1
      have eK_1 : wr.cell? ⟨b0, off + j, none⟩ = some (.string (ks j)) := (hE1.cell (p := ⟨b0, off + j, none⟩) hbl).trans hcell
      have i0 : (0 : Int) ≤ (j : Int) := by omega
      have i1 : (j : Int) < (n : Int) := by omega
      have H1 := has_is lo k (ks j) _ rfl
      have H2 := has_is k hi (ks j) _ rfl
      have H3 := has_is lo hi (ks j) _ rfl
      obtain ⟨f1, f2⟩ := HX.out (ks j)
      clear hcell hbl
      cases x : has lo k (ks j)
      · cases y : has k hi (ks j)
        · have u : has lo hi (ks j) = false := by
            rw [x] at f1; rw [y] at f2
            rcases Classical.em (ky (ks j) < ky k) with g | g
            · cases u : has lo hi (ks j)
              · rfl
              · exact absurd (f1.2 ⟨u, g⟩) (by decide)
            · cases u : has lo hi (ks j)
              · rfl
              · exact absurd (f2.2 ⟨u, g⟩) (by decide)
          rw [x] at H1; rw [y] at H2; rw [u] at H3
          clear f1 f2 x y u
          go_wp2_with fail
          go_region_held3 (fun w' => w'.cell? ⟨w.heap.size, 0, none⟩ = some (.string lo) ∧ w'.cell? ⟨w.heap.size, 1, none⟩ = some (.string hi) ∧ w'.cell? ⟨w2.heap.size, 0, none⟩ = some (.string lo) ∧ w'.cell? ⟨w2.heap.size, 1, none⟩ = some (.string k) ∧ w'.cell? ⟨w2.heap.size + 1, 0, none⟩ = some (.string k) ∧ w'.cell? ⟨w2.heap.size + 1, 1, none⟩ = some (.string hi) ∧ w'.cell? ⟨b0, off + j, none⟩ = some (.string (ks j)) ∧ Below wr.heap.size wr w')
            (first | exact keepA7 zR_1 eR0_1 zR_1 eR1_1 zP_1 eP0_1 zP_1 eP1_1 zQ_1 eQ0_1 zQ_1 eQ1_1 zK_1 eK_1 (Below.refl _ _).drew | exact keepA7 zR_1 eR0_1 zR_1 eR1_1 zP_1 eP0_1 zP_1 eP1_1 zQ_1 eQ0_1 zQ_1 eQ1_1 zK_1 eK_1 (after (‹_ ∧ _ ∧ _ ∧ _ ∧ _ ∧ _ ∧ _ ∧ Below _ _ _›).2.2.2.2.2.2.2 (by assumption)) | go_keep)
            (first | (go_at_call 10; refine (H1 _).mono ?_; rintro e x1 ⟨rfl, hx1⟩))
          obtain ⟨eR0_2, eR1_2, eP0_2, eP1_2, eQ0_2, eQ1_2, eK_2, hD1⟩ := ‹x1.cell? _ = _ ∧ _›
          have hE2 := after hE1 hD1
          have zR_2 := Nat.lt_of_lt_of_le zR_1 hD1.size
          have zP_2 := Nat.lt_of_lt_of_le zP_1 hD1.size
          have zQ_2 := Nat.lt_of_lt_of_le zQ_1 hD1.size
          have zK_2 := Nat.lt_of_lt_of_le zK_1 hD1.size
          clear hD1 eR0_1 eR1_1 eP0_1 eP1_1 eQ0_1 eQ1_1 eK_1 zR_1 zP_1 zQ_1 zK_1 hE1 hx1
          go_wp2_with fail
          go_region_held3 (fun w' => w'.cell? ⟨w.heap.size, 0, none⟩ = some (.string lo) ∧ w'.cell? ⟨w.heap.size, 1, none⟩ = some (.string hi) ∧ w'.cell? ⟨w2.heap.size, 0, none⟩ = some (.string lo) ∧ w'.cell? ⟨w2.heap.size, 1, none⟩ = some (.string k) ∧ w'.cell? ⟨w2.heap.size + 1, 0, none⟩ = some (.string k) ∧ w'.cell? ⟨w2.heap.size + 1, 1, none⟩ = some (.string hi) ∧ w'.cell? ⟨b0, off + j, none⟩ = some (.string (ks j)) ∧ Below x1.heap.size x1 w')
            (first | exact keepA7 zR_2 eR0_2 zR_2 eR1_2 zP_2 eP0_2 zP_2 eP1_2 zQ_2 eQ0_2 zQ_2 eQ1_2 zK_2 eK_2 (Below.refl _ _).drew | exact keepA7 zR_2 eR0_2 zR_2 eR1_2 zP_2 eP0_2 zP_2 eP1_2 zQ_2 eQ0_2 zQ_2 eQ1_2 zK_2 eK_2 (after (‹_ ∧ _ ∧ _ ∧ _ ∧ _ ∧ _ ∧ _ ∧ Below _ _ _›).2.2.2.2.2.2.2 (by assumption)) | go_keep)
            (first | (go_at_call 10; refine (H2 _).mono ?_; rintro e x2 ⟨rfl, hx2⟩))
          obtain ⟨eR0_3, eR1_3, eP0_3, eP1_3, eQ0_3, eQ1_3, eK_3, hD2⟩ := ‹x2.cell? _ = _ ∧ _›
          have hE3 := after hE2 hD2
          have zR_3 := Nat.lt_of_lt_of_le zR_2 hD2.size
          have zP_3 := Nat.lt_of_lt_of_le zP_2 hD2.size
          have zQ_3 := Nat.lt_of_lt_of_le zQ_2 hD2.size
          have zK_3 := Nat.lt_of_lt_of_le zK_2 hD2.size
          clear hD2 eR0_2 eR1_2 eP0_2 eP1_2 eQ0_2 eQ1_2 eK_2 zR_2 zP_2 zQ_2 zK_2 hE2 hx2
          go_wp2_with fail
          obtain ⟨G, _, f, qR0, qR1, qP0, qP1, qQ0, qQ1, qK, hq0, hqs, hqb⟩ := class7 zR_3 eR0_3 zR_3 eR1_3 zP_3 eP0_3 zP_3 eP1_3 zQ_3 eQ0_3 zQ_3 eQ1_3 zK_3 eK_3
          refine wp_region_in (fun w' => ∃ g, w' = f g) (by kernel_rfl) (by kernel_rfl) hq0 ?_
          repeat (go_big_quiet_step ((go_at_call 10; refine (H3 _).mono ?_; rintro e x3 ⟨rfl, hx3⟩; exact ⟨rfl, hqs _ _ hx3⟩)))
          refine wpQuiet_nil ?_
          rintro _ ⟨g, rfl⟩
          have eR0_4 := qR0 g
          have eR1_4 := qR1 g
          have eP0_4 := qP0 g
          have eP1_4 := qP1 g
          have eQ0_4 := qQ0 g
          have eQ1_4 := qQ1 g
          have hE4 := after hE3 (hqb g)
          have zR_4 := Nat.lt_of_lt_of_le zR_3 (hqb g).size
          have zP_4 := Nat.lt_of_lt_of_le zP_3 (hqb g).size
          have zQ_4 := Nat.lt_of_lt_of_le zQ_3 (hqb g).size
          clear qR0 qR1 qP0 qP1 qQ0 qQ1 qK hq0 hqs hqb
          go_wp2
          go_roundw
          case rel => exact ⟨j + 1, by omega, by go_num, eR0_4, eR1_4, eP0_4, eP1_4, eQ0_4, eQ1_4, zR_4, zP_4, zQ_4, hE4⟩
          case measure => simp [intOf]; omega
        · have u : has lo hi (ks j) = true := (f2.1 y).1
          rw [x] at H1; rw [y] at H2; rw [u] at H3
          clear f1 f2 x y u
          go_wp2_with fail
          go_region_held3 (fun w' => w'.cell? ⟨w.heap.size, 0, none⟩ = some (.string lo) ∧ w'.cell? ⟨w.heap.size, 1, none⟩ = some (.string hi) ∧ w'.cell? ⟨w2.heap.size, 0, none⟩ = some (.string lo) ∧ w'.cell? ⟨w2.heap.size, 1, none⟩ = some (.string k) ∧ w'.cell? ⟨w2.heap.size + 1, 0, none⟩ = some (.string k) ∧ w'.cell? ⟨w2.heap.size + 1, 1, none⟩ = some (.string hi) ∧ w'.cell? ⟨b0, off + j, none⟩ = some (.string (ks j)) ∧ Below wr.heap.size wr w')
            (first | exact keepA7 zR_1 eR0_1 zR_1 eR1_1 zP_1 eP0_1 zP_1 eP1_1 zQ_1 eQ0_1 zQ_1 eQ1_1 zK_1 eK_1 (Below.refl _ _).drew | exact keepA7 zR_1 eR0_1 zR_1 eR1_1 zP_1 eP0_1 zP_1 eP1_1 zQ_1 eQ0_1 zQ_1 eQ1_1 zK_1 eK_1 (after (‹_ ∧ _ ∧ _ ∧ _ ∧ _ ∧ _ ∧ _ ∧ Below _ _ _›).2.2.2.2.2.2.2 (by assumption)) | go_keep)
            (first | (go_at_call 10; refine (H1 _).mono ?_; rintro e x1 ⟨rfl, hx1⟩))
          obtain ⟨eR0_2, eR1_2, eP0_2, eP1_2, eQ0_2, eQ1_2, eK_2, hD1⟩ := ‹x1.cell? _ = _ ∧ _›
          have hE2 := after hE1 hD1
          have zR_2 := Nat.lt_of_lt_of_le zR_1 hD1.size
          have zP_2 := Nat.lt_of_lt_of_le zP_1 hD1.size
          have zQ_2 := Nat.lt_of_lt_of_le zQ_1 hD1.size
          have zK_2 := Nat.lt_of_lt_of_le zK_1 hD1.size
          clear hD1 eR0_1 eR1_1 eP0_1 eP1_1 eQ0_1 eQ1_1 eK_1 zR_1 zP_1 zQ_1 zK_1 hE1 hx1
          go_wp2_with fail
          go_region_held3 (fun w' => w'.cell? ⟨w.heap.size, 0, none⟩ = some (.string lo) ∧ w'.cell? ⟨w.heap.size, 1, none⟩ = some (.string hi) ∧ w'.cell? ⟨w2.heap.size, 0, none⟩ = some (.string lo) ∧ w'.cell? ⟨w2.heap.size, 1, none⟩ = some (.string k) ∧ w'.cell? ⟨w2.heap.size + 1, 0, none⟩ = some (.string k) ∧ w'.cell? ⟨w2.heap.size + 1, 1, none⟩ = some (.string hi) ∧ w'.cell? ⟨b0, off + j, none⟩ = some (.string (ks j)) ∧ Below x1.heap.size x1 w')
            (first | exact keepA7 zR_2 eR0_2 zR_2 eR1_2 zP_2 eP0_2 zP_2 eP1_2 zQ_2 eQ0_2 zQ_2 eQ1_2 zK_2 eK_2 (Below.refl _ _).drew | exact keepA7 zR_2 eR0_2 zR_2 eR1_2 zP_2 eP0_2 zP_2 eP1_2 zQ_2 eQ0_2 zQ_2 eQ1_2 zK_2 eK_2 (after (‹_ ∧ _ ∧ _ ∧ _ ∧ _ ∧ _ ∧ _ ∧ Below _ _ _›).2.2.2.2.2.2.2 (by assumption)) | go_keep)
            (first | (go_at_call 10; refine (H2 _).mono ?_; rintro e x2 ⟨rfl, hx2⟩))
          obtain ⟨eR0_3, eR1_3, eP0_3, eP1_3, eQ0_3, eQ1_3, eK_3, hD2⟩ := ‹x2.cell? _ = _ ∧ _›
          have hE3 := after hE2 hD2
          have zR_3 := Nat.lt_of_lt_of_le zR_2 hD2.size
          have zP_3 := Nat.lt_of_lt_of_le zP_2 hD2.size
          have zQ_3 := Nat.lt_of_lt_of_le zQ_2 hD2.size
          have zK_3 := Nat.lt_of_lt_of_le zK_2 hD2.size
          clear hD2 eR0_2 eR1_2 eP0_2 eP1_2 eQ0_2 eQ1_2 eK_2 zR_2 zP_2 zQ_2 zK_2 hE2 hx2
          go_wp2_with fail
          obtain ⟨G, _, f, qR0, qR1, qP0, qP1, qQ0, qQ1, qK, hq0, hqs, hqb⟩ := class7 zR_3 eR0_3 zR_3 eR1_3 zP_3 eP0_3 zP_3 eP1_3 zQ_3 eQ0_3 zQ_3 eQ1_3 zK_3 eK_3
          refine wp_region_in (fun w' => ∃ g, w' = f g) (by kernel_rfl) (by kernel_rfl) hq0 ?_
          repeat (go_big_quiet_step ((go_at_call 10; refine (H3 _).mono ?_; rintro e x3 ⟨rfl, hx3⟩; exact ⟨rfl, hqs _ _ hx3⟩)))
          refine wpQuiet_nil ?_
          rintro _ ⟨g, rfl⟩
          have eR0_4 := qR0 g
          have eR1_4 := qR1 g
          have eP0_4 := qP0 g
          have eP1_4 := qP1 g
          have eQ0_4 := qQ0 g
          have eQ1_4 := qQ1 g
          have hE4 := after hE3 (hqb g)
          have zR_4 := Nat.lt_of_lt_of_le zR_3 (hqb g).size
          have zP_4 := Nat.lt_of_lt_of_le zP_3 (hqb g).size
          have zQ_4 := Nat.lt_of_lt_of_le zQ_3 (hqb g).size
          clear qR0 qR1 qP0 qP1 qQ0 qQ1 qK hq0 hqs hqb
          go_wp2
          go_roundw
          case rel => exact ⟨j + 1, by omega, by go_num, eR0_4, eR1_4, eP0_4, eP1_4, eQ0_4, eQ1_4, zR_4, zP_4, zQ_4, hE4⟩
          case measure => simp [intOf]; omega
      · have u : has lo hi (ks j) = true := (f1.1 x).1
        have y : has k hi (ks j) = false := by
          cases y : has k hi (ks j)
          · rfl
          · exact absurd (f1.1 x).2 (f2.1 y).2
        rw [x] at H1; rw [y] at H2; rw [u] at H3
        clear f1 f2 x y u
        go_wp2_with fail
        go_region_held3 (fun w' => w'.cell? ⟨w.heap.size, 0, none⟩ = some (.string lo) ∧ w'.cell? ⟨w.heap.size, 1, none⟩ = some (.string hi) ∧ w'.cell? ⟨w2.heap.size, 0, none⟩ = some (.string lo) ∧ w'.cell? ⟨w2.heap.size, 1, none⟩ = some (.string k) ∧ w'.cell? ⟨w2.heap.size + 1, 0, none⟩ = some (.string k) ∧ w'.cell? ⟨w2.heap.size + 1, 1, none⟩ = some (.string hi) ∧ w'.cell? ⟨b0, off + j, none⟩ = some (.string (ks j)) ∧ Below wr.heap.size wr w')
          (first | exact keepA7 zR_1 eR0_1 zR_1 eR1_1 zP_1 eP0_1 zP_1 eP1_1 zQ_1 eQ0_1 zQ_1 eQ1_1 zK_1 eK_1 (Below.refl _ _).drew | exact keepA7 zR_1 eR0_1 zR_1 eR1_1 zP_1 eP0_1 zP_1 eP1_1 zQ_1 eQ0_1 zQ_1 eQ1_1 zK_1 eK_1 (after (‹_ ∧ _ ∧ _ ∧ _ ∧ _ ∧ _ ∧ _ ∧ Below _ _ _›).2.2.2.2.2.2.2 (by assumption)) | go_keep)
          (first | (go_at_call 10; refine (H1 _).mono ?_; rintro e x1 ⟨rfl, hx1⟩))
        obtain ⟨eR0_2, eR1_2, eP0_2, eP1_2, eQ0_2, eQ1_2, eK_2, hD1⟩ := ‹x1.cell? _ = _ ∧ _›
        have hE2 := after hE1 hD1
        have zR_2 := Nat.lt_of_lt_of_le zR_1 hD1.size
        have zP_2 := Nat.lt_of_lt_of_le zP_1 hD1.size
        have zQ_2 := Nat.lt_of_lt_of_le zQ_1 hD1.size
        have zK_2 := Nat.lt_of_lt_of_le zK_1 hD1.size
        clear hD1 eR0_1 eR1_1 eP0_1 eP1_1 eQ0_1 eQ1_1 eK_1 zR_1 zP_1 zQ_1 zK_1 hE1 hx1
        go_wp2_with fail
        go_region_held3 (fun w' => w'.cell? ⟨w.heap.size, 0, none⟩ = some (.string lo) ∧ w'.cell? ⟨w.heap.size, 1, none⟩ = some (.string hi) ∧ w'.cell? ⟨w2.heap.size, 0, none⟩ = some (.string lo) ∧ w'.cell? ⟨w2.heap.size, 1, none⟩ = some (.string k) ∧ w'.cell? ⟨w2.heap.size + 1, 0, none⟩ = some (.string k) ∧ w'.cell? ⟨w2.heap.size + 1, 1, none⟩ = some (.string hi) ∧ w'.cell? ⟨b0, off + j, none⟩ = some (.string (ks j)) ∧ Below x1.heap.size x1 w')
          (first | exact keepA7 zR_2 eR0_2 zR_2 eR1_2 zP_2 eP0_2 zP_2 eP1_2 zQ_2 eQ0_2 zQ_2 eQ1_2 zK_2 eK_2 (Below.refl _ _).drew | exact keepA7 zR_2 eR0_2 zR_2 eR1_2 zP_2 eP0_2 zP_2 eP1_2 zQ_2 eQ0_2 zQ_2 eQ1_2 zK_2 eK_2 (after (‹_ ∧ _ ∧ _ ∧ _ ∧ _ ∧ _ ∧ _ ∧ Below _ _ _›).2.2.2.2.2.2.2 (by assumption)) | go_keep)
          (first | (go_at_call 10; refine (H2 _).mono ?_; rintro e x2 ⟨rfl, hx2⟩))
        obtain ⟨eR0_3, eR1_3, eP0_3, eP1_3, eQ0_3, eQ1_3, eK_3, hD2⟩ := ‹x2.cell? _ = _ ∧ _›
        have hE3 := after hE2 hD2
        have zR_3 := Nat.lt_of_lt_of_le zR_2 hD2.size
        have zP_3 := Nat.lt_of_lt_of_le zP_2 hD2.size
        have zQ_3 := Nat.lt_of_lt_of_le zQ_2 hD2.size
        have zK_3 := Nat.lt_of_lt_of_le zK_2 hD2.size
        clear hD2 eR0_2 eR1_2 eP0_2 eP1_2 eQ0_2 eQ1_2 eK_2 zR_2 zP_2 zQ_2 zK_2 hE2 hx2
        go_wp2_with fail
        obtain ⟨G, _, f, qR0, qR1, qP0, qP1, qQ0, qQ1, qK, hq0, hqs, hqb⟩ := class7 zR_3 eR0_3 zR_3 eR1_3 zP_3 eP0_3 zP_3 eP1_3 zQ_3 eQ0_3 zQ_3 eQ1_3 zK_3 eK_3
        refine wp_region_in (fun w' => ∃ g, w' = f g) (by kernel_rfl) (by kernel_rfl) hq0 ?_
        repeat (go_big_quiet_step ((go_at_call 10; refine (H3 _).mono ?_; rintro e x3 ⟨rfl, hx3⟩; exact ⟨rfl, hqs _ _ hx3⟩)))
        refine wpQuiet_nil ?_
        rintro _ ⟨g, rfl⟩
        have eR0_4 := qR0 g
        have eR1_4 := qR1 g
        have eP0_4 := qP0 g
        have eP1_4 := qP1 g
        have eQ0_4 := qQ0 g
        have eQ1_4 := qQ1 g
        have hE4 := after hE3 (hqb g)
        have zR_4 := Nat.lt_of_lt_of_le zR_3 (hqb g).size
        have zP_4 := Nat.lt_of_lt_of_le zP_3 (hqb g).size
        have zQ_4 := Nat.lt_of_lt_of_le zQ_3 (hqb g).size
        clear qR0 qR1 qP0 qP1 qQ0 qQ1 qK hq0 hqs hqb
        go_wp2
        go_roundw
        case rel => exact ⟨j + 1, by omega, by go_num, eR0_4, eR1_4, eP0_4, eP1_4, eQ0_4, eQ1_4, zR_4, zP_4, zQ_4, hE4⟩
        case measure => simp [intOf]; omega
    · go_wp2
      go_ret
      exact ⟨rfl, hE1⟩

theorem cut_walk (lo hi k : ByteArray) (A : Option Addr) (n cap : Nat) (ks : Nat → ByteArray) (hn : n ≤ 9223372036854775807) (w : World) (hk : KeysAt w w.heap.size A n ks) :
    Calls Try.prog 6 #[.agg #[.string lo, .string hi], .string k, .slice A n cap] w (Yes w) := by
  cases h : splitE lo hi k == 0
  · exact cut_walk_no lo hi k A n cap h w
  · exact cut_walk_yes lo hi k A n cap ks hn (by simpa using h) w hk
end Go.Proofs.Ytkceakoacmjkgaa
