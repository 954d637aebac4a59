/-
  KeyrangeMeet: the law's own walk.
-/
import Derived.Test.YtkceakoacmjkgaaMeetIs
import Derived.Test.YtkceakoacmjkgaaAgree
import Derived.Test.YtkceakoacmjkgaaFrame
import Derived.Test.YtkceakoacmjkgaaKeep
import Derived.Test.YtkceakoacmjkgaaOpen
namespace Go.Proofs.Ytkceakoacmjkgaa
open Go.RowKit

/-- What the law wants of what two ranges have in common. -/
theorem meet_law (a b c d : ByteArray) : ∃ p q v, (∀ w, Calls Try.prog 13 #[.agg #[.string a, .string b], .agg #[.string c, .string d]] w fun e w' => e = .returned (.tuple #[.agg #[.string p, .string q], .bool v]) ∧ Below w.heap.size w w') ∧
    (∀ w, Calls Try.prog 13 #[.agg #[.string c, .string d], .agg #[.string a, .string b]] w fun e w' => e = .returned (.tuple #[.agg #[.string p, .string q], .bool v]) ∧ Below w.heap.size w w') ∧
    (v = false → p = ⟨#[]⟩ ∧ q = ⟨#[]⟩) ∧ ∀ k, (v && has p q k) = (has a b k && has c d k) := by
  refine ⟨_, _, _, meet_any a b c d, ?_, ?_, meet_has a b c d⟩
  · intro w
    have h := meet_any c d a b w
    rw [← meetLo_comm a b c d, ← meetUp_comm a b c d, ← meetOk_comm a b c d] at h
    exact h
  · intro h
    unfold meetLo meetUp
    rw [h]
    exact ⟨rfl, rfl⟩

set_option maxRecDepth 100000 in
set_option maxHeartbeats 8000000 in
theorem meet_walk_no (a b c d : ByteArray) (A : Option Addr) (n cap : Nat) (ks : Nat → ByteArray) (hn : n ≤ 9223372036854775807) (w : World) (hk : KeysAt w w.heap.size A n ks)
    (T1 : ∀ w, Calls Try.prog 13 #[.agg #[.string a, .string b], .agg #[.string c, .string d]] w fun e w' => e = .returned (.tuple #[.agg #[.string ⟨#[]⟩, .string ⟨#[]⟩], .bool false]) ∧ Below w.heap.size w w')
    (T2 : ∀ w, Calls Try.prog 13 #[.agg #[.string c, .string d], .agg #[.string a, .string b]] w fun e w' => e = .returned (.tuple #[.agg #[.string ⟨#[]⟩, .string ⟨#[]⟩], .bool false]) ∧ Below w.heap.size w w')
    (hm : ∀ k, (false) = (has a b k && has c d k)) :
    Calls Try.prog 8 #[.agg #[.string a, .string b], .agg #[.string c, .string d], .slice A n cap] w (Yes w) := by
  have HK := Lib.hid hk
  have HM := Lib.hid hm
  clear hk hm
  have L := lives_yes
  have Q1 := neqRange_is ⟨#[]⟩ ⟨#[]⟩ ⟨#[]⟩ ⟨#[]⟩ false (by simp)
  go_enter Try.func8, Try.ntmps8
  go_wp2_with (first
    | (go_at_call 9; refine (L _).mono ?_; rintro e w1 ⟨rfl, hb1⟩; obtain ⟨g1, A0_1, A1_1, Az_1, C0_1, C1_1, Cz_1⟩ := adv2 hb1; have hB1 := after (box (box1 w _) _) hb1; clear g1 hb1)
    | (go_at_call 13; with_reducible refine (T1 _).mono ?_; rintro e w2 ⟨rfl, hb2⟩; have g2 := adv0 hb2; obtain ⟨A0_2, A1_2, Az_2⟩ := g2.two Az_1 A0_1 A1_1; obtain ⟨C0_2, C1_2, Cz_2⟩ := g2.two Cz_1 C0_1 C1_1; have hB2 := after hB1 hb2; clear g2 hb2 hB1 Az_1 A0_1 A1_1 Cz_1 C0_1 C1_1)
    | (go_at_call 13; with_reducible refine (T2 _).mono ?_; rintro e w3 ⟨rfl, hb3⟩; obtain ⟨g3, M0_3, M1_3, Mz_3⟩ := adv1 hb3; obtain ⟨A0_3, A1_3, Az_3⟩ := g3.two Az_2 A0_2 A1_2; obtain ⟨C0_3, C1_3, Cz_3⟩ := g3.two Cz_2 C0_2 C1_2; have hB3 := after (box hB2 _) hb3; clear g3 hb3 hB2 Az_2 A0_2 A1_2 Cz_2 C0_2 C1_2))
  go_loopw [12] (fun i wr => ∃ k : Nat, k ≤ n ∧ i = .int .i64 k ∧ wr.cell? ⟨w.heap.size, 0, none⟩ = some (.string a) ∧ wr.cell? ⟨w.heap.size, 1, none⟩ = some (.string b) ∧ wr.cell? ⟨w.heap.size + 1, 0, none⟩ = some (.string c) ∧ wr.cell? ⟨w.heap.size + 1, 1, none⟩ = some (.string d) ∧
      wr.cell? ⟨w2.heap.size, 0, none⟩ = some (.string ⟨#[]⟩) ∧ wr.cell? ⟨w2.heap.size, 1, none⟩ = some (.string ⟨#[]⟩) ∧ w.heap.size < wr.heap.size ∧ w.heap.size + 1 < wr.heap.size ∧ w2.heap.size < wr.heap.size ∧ Below w.heap.size w wr) (fun i _ => n - (intOf i).toNat)
  case atStart =>
    obtain ⟨g, _, _, _⟩ := adva w3 24 (.string ⟨#[]⟩) (.string ⟨#[]⟩)
    obtain ⟨x0, x1, x2⟩ := g.two Az_3 A0_3 A1_3
    obtain ⟨y0, y1, y2⟩ := g.two Cz_3 C0_3 C1_3
    obtain ⟨u0, u1, u2⟩ := g.two Mz_3 M0_3 M1_3
    exact ⟨0, Nat.zero_le _, rfl, x0, x1, y0, y1, u0, u1, x2, y2, u2, box hB3 _⟩
  case round =>
    rename_i wr
    obtain ⟨k, hk, rfl, eA0_1, eA1_1, eC0_1, eC1_1, eM0_1, eM1_1, zA_1, zC_1, zM_1, hE1⟩ := hrel
    clear A0_3 A1_3 C0_3 C1_3 M0_3 M1_3 Az_3 Cz_3 Mz_3 hB3 Q1
    by_cases hlt : k < n
    · obtain ⟨b0, off, rfl, hbl, hcell⟩ := HK.out k hlt
      have zK_1 : b0 < wr.heap.size := Nat.lt_trans hbl zA_1
      have eK_1 : wr.cell? ⟨b0, off + k, none⟩ = some (.string (ks k)) := (hE1.cell (p := ⟨b0, off + k, none⟩) hbl).trans hcell
      have i0 : (0 : Int) ≤ (k : Int) := by omega
      have i1 : (k : Int) < (n : Int) := by omega
      have H1 := has_is a b (ks k) _ rfl
      have H2 := has_is c d (ks k) _ rfl

      have hxy := HM.out (ks k)
      clear hcell hbl
      generalize has a b (ks k) = x at *
      generalize has c d (ks k) = y at *

      cases x
      · clear hxy
        go_wp2_with fail
        go_region_held3 (fun w' => w'.cell? ⟨w.heap.size, 0, none⟩ = some (.string a) ∧ w'.cell? ⟨w.heap.size, 1, none⟩ = some (.string b) ∧ w'.cell? ⟨w.heap.size + 1, 0, none⟩ = some (.string c) ∧ w'.cell? ⟨w.heap.size + 1, 1, none⟩ = some (.string d) ∧ w'.cell? ⟨w2.heap.size, 0, none⟩ = some (.string ⟨#[]⟩) ∧ w'.cell? ⟨w2.heap.size, 1, none⟩ = some (.string ⟨#[]⟩) ∧ w'.cell? ⟨b0, off + k, none⟩ = some (.string (ks k)) ∧ Below wr.heap.size wr w')
          (first | exact keepA7 zA_1 eA0_1 zA_1 eA1_1 zC_1 eC0_1 zC_1 eC1_1 zM_1 eM0_1 zM_1 eM1_1 zK_1 eK_1 (Below.refl _ _).drew | exact keepA7 zA_1 eA0_1 zA_1 eA1_1 zC_1 eC0_1 zC_1 eC1_1 zM_1 eM0_1 zM_1 eM1_1 zK_1 eK_1 (after (‹_ ∧ _ ∧ _ ∧ _ ∧ _ ∧ _ ∧ _ ∧ Below _ _ _›).2.2.2.2.2.2.2 (by assumption)) | go_keep)
          (first | (go_at_call 10; refine (H1 _).mono ?_; rintro e x1 ⟨rfl, hx1⟩))
        obtain ⟨eA0_2, eA1_2, eC0_2, eC1_2, eM0_2, eM1_2, eK_2, hD1⟩ := ‹x1.cell? _ = _ ∧ _›
        have hE2 := after hE1 hD1
        have zA_2 := Nat.lt_of_lt_of_le zA_1 hD1.size
        have zC_2 := Nat.lt_of_lt_of_le zC_1 hD1.size
        have zM_2 := Nat.lt_of_lt_of_le zM_1 hD1.size
        have zK_2 := Nat.lt_of_lt_of_le zK_1 hD1.size
        clear hD1 eA0_1 eA1_1 eC0_1 eC1_1 eM0_1 eM1_1 eK_1 zA_1 zC_1 zM_1 zK_1 hE1 hx1
        go_wp2_with fail
        go_region_held3 (fun w' => w'.cell? ⟨w.heap.size, 0, none⟩ = some (.string a) ∧ w'.cell? ⟨w.heap.size, 1, none⟩ = some (.string b) ∧ w'.cell? ⟨w.heap.size + 1, 0, none⟩ = some (.string c) ∧ w'.cell? ⟨w.heap.size + 1, 1, none⟩ = some (.string d) ∧ w'.cell? ⟨w2.heap.size, 0, none⟩ = some (.string ⟨#[]⟩) ∧ w'.cell? ⟨w2.heap.size, 1, none⟩ = some (.string ⟨#[]⟩) ∧ w'.cell? ⟨b0, off + k, none⟩ = some (.string (ks k)) ∧ Below x1.heap.size x1 w')
          (first | exact keepA7 zA_2 eA0_2 zA_2 eA1_2 zC_2 eC0_2 zC_2 eC1_2 zM_2 eM0_2 zM_2 eM1_2 zK_2 eK_2 (Below.refl _ _).drew | exact keepA7 zA_2 eA0_2 zA_2 eA1_2 zC_2 eC0_2 zC_2 eC1_2 zM_2 eM0_2 zM_2 eM1_2 zK_2 eK_2 (after (‹_ ∧ _ ∧ _ ∧ _ ∧ _ ∧ _ ∧ _ ∧ Below _ _ _›).2.2.2.2.2.2.2 (by assumption)) | go_keep)
          (first | (go_at_call 10; refine (H2 _).mono ?_; rintro e x2 ⟨rfl, hx2⟩))
        obtain ⟨eA0_3, eA1_3, eC0_3, eC1_3, eM0_3, eM1_3, eK_3, hD2⟩ := ‹x2.cell? _ = _ ∧ _›
        have hE3 := after hE2 hD2
        have zA_3 := Nat.lt_of_lt_of_le zA_2 hD2.size
        have zC_3 := Nat.lt_of_lt_of_le zC_2 hD2.size
        have zM_3 := Nat.lt_of_lt_of_le zM_2 hD2.size
        have zK_3 := Nat.lt_of_lt_of_le zK_2 hD2.size
        clear hD2 eA0_2 eA1_2 eC0_2 eC1_2 eM0_2 eM1_2 eK_2 zA_2 zC_2 zM_2 zK_2 hE2 hx2
        go_wp2_with fail
        go_quiet (fail)
        go_wp2
        go_roundw
        case rel => exact ⟨k + 1, by omega, by go_num, eA0_3, eA1_3, eC0_3, eC1_3, eM0_3, eM1_3, zA_3, zC_3, zM_3, below_drewN hE3 _⟩
        case measure => simp [intOf]; omega
      · obtain rfl : y = false := by simpa using hxy.symm
        clear hxy
        go_wp2_with fail
        go_region_held3 (fun w' => w'.cell? ⟨w.heap.size, 0, none⟩ = some (.string a) ∧ w'.cell? ⟨w.heap.size, 1, none⟩ = some (.string b) ∧ w'.cell? ⟨w.heap.size + 1, 0, none⟩ = some (.string c) ∧ w'.cell? ⟨w.heap.size + 1, 1, none⟩ = some (.string d) ∧ w'.cell? ⟨w2.heap.size, 0, none⟩ = some (.string ⟨#[]⟩) ∧ w'.cell? ⟨w2.heap.size, 1, none⟩ = some (.string ⟨#[]⟩) ∧ w'.cell? ⟨b0, off + k, none⟩ = some (.string (ks k)) ∧ Below wr.heap.size wr w')
          (first | exact keepA7 zA_1 eA0_1 zA_1 eA1_1 zC_1 eC0_1 zC_1 eC1_1 zM_1 eM0_1 zM_1 eM1_1 zK_1 eK_1 (Below.refl _ _).drew | exact keepA7 zA_1 eA0_1 zA_1 eA1_1 zC_1 eC0_1 zC_1 eC1_1 zM_1 eM0_1 zM_1 eM1_1 zK_1 eK_1 (after (‹_ ∧ _ ∧ _ ∧ _ ∧ _ ∧ _ ∧ _ ∧ Below _ _ _›).2.2.2.2.2.2.2 (by assumption)) | go_keep)
          (first | (go_at_call 10; refine (H1 _).mono ?_; rintro e x1 ⟨rfl, hx1⟩))
        obtain ⟨eA0_2, eA1_2, eC0_2, eC1_2, eM0_2, eM1_2, eK_2, hD1⟩ := ‹x1.cell? _ = _ ∧ _›
        have hE2 := after hE1 hD1
        have zA_2 := Nat.lt_of_lt_of_le zA_1 hD1.size
        have zC_2 := Nat.lt_of_lt_of_le zC_1 hD1.size
        have zM_2 := Nat.lt_of_lt_of_le zM_1 hD1.size
        have zK_2 := Nat.lt_of_lt_of_le zK_1 hD1.size
        clear hD1 eA0_1 eA1_1 eC0_1 eC1_1 eM0_1 eM1_1 eK_1 zA_1 zC_1 zM_1 zK_1 hE1 hx1
        go_wp2_with fail
        go_region_held3 (fun w' => w'.cell? ⟨w.heap.size, 0, none⟩ = some (.string a) ∧ w'.cell? ⟨w.heap.size, 1, none⟩ = some (.string b) ∧ w'.cell? ⟨w.heap.size + 1, 0, none⟩ = some (.string c) ∧ w'.cell? ⟨w.heap.size + 1, 1, none⟩ = some (.string d) ∧ w'.cell? ⟨w2.heap.size, 0, none⟩ = some (.string ⟨#[]⟩) ∧ w'.cell? ⟨w2.heap.size, 1, none⟩ = some (.string ⟨#[]⟩) ∧ w'.cell? ⟨b0, off + k, none⟩ = some (.string (ks k)) ∧ Below x1.heap.size x1 w')
          (first | exact keepA7 zA_2 eA0_2 zA_2 eA1_2 zC_2 eC0_2 zC_2 eC1_2 zM_2 eM0_2 zM_2 eM1_2 zK_2 eK_2 (Below.refl _ _).drew | exact keepA7 zA_2 eA0_2 zA_2 eA1_2 zC_2 eC0_2 zC_2 eC1_2 zM_2 eM0_2 zM_2 eM1_2 zK_2 eK_2 (after (‹_ ∧ _ ∧ _ ∧ _ ∧ _ ∧ _ ∧ _ ∧ Below _ _ _›).2.2.2.2.2.2.2 (by assumption)) | go_keep)
          (first | (go_at_call 10; refine (H2 _).mono ?_; rintro e x2 ⟨rfl, hx2⟩))
        obtain ⟨eA0_3, eA1_3, eC0_3, eC1_3, eM0_3, eM1_3, eK_3, hD2⟩ := ‹x2.cell? _ = _ ∧ _›
        have hE3 := after hE2 hD2
        have zA_3 := Nat.lt_of_lt_of_le zA_2 hD2.size
        have zC_3 := Nat.lt_of_lt_of_le zC_2 hD2.size
        have zM_3 := Nat.lt_of_lt_of_le zM_2 hD2.size
        have zK_3 := Nat.lt_of_lt_of_le zK_2 hD2.size
        clear hD2 eA0_2 eA1_2 eC0_2 eC1_2 eM0_2 eM1_2 eK_2 zA_2 zC_2 zM_2 zK_2 hE2 hx2
        go_wp2_with fail
        go_quiet (fail)
        go_wp2
        go_roundw
        case rel => exact ⟨k + 1, by omega, by go_num, eA0_3, eA1_3, eC0_3, eC1_3, eM0_3, eM1_3, zA_3, zC_3, zM_3, below_drewN hE3 _⟩
        case measure => simp [intOf]; omega
    · go_wp2
      go_ret
      exact ⟨rfl, hE1⟩

set_option maxRecDepth 100000 in
set_option maxHeartbeats 8000000 in
theorem meet_walk_yes (a b c d p q : ByteArray) (A : Option Addr) (n cap : Nat) (ks : Nat → ByteArray) (hn : n ≤ 9223372036854775807) (w : World) (hk : KeysAt w w.heap.size A n ks)
    (T1 : ∀ w, Calls Try.prog 13 #[.agg #[.string a, .string b], .agg #[.string c, .string d]] w fun e w' => e = .returned (.tuple #[.agg #[.string p, .string q], .bool true]) ∧ Below w.heap.size w w')
    (T2 : ∀ w, Calls Try.prog 13 #[.agg #[.string c, .string d], .agg #[.string a, .string b]] w fun e w' => e = .returned (.tuple #[.agg #[.string p, .string q], .bool true]) ∧ Below w.heap.size w w')
    (hm : ∀ k, (has p q k) = (has a b k && has c d k)) :
    Calls Try.prog 8 #[.agg #[.string a, .string b], .agg #[.string c, .string d], .slice A n cap] w (Yes w) := by
  have HK := Lib.hid hk
  have HM := Lib.hid hm
  clear hk hm
  have L := lives_yes
  have Q1 := neqRange_is p q p q false (by simp)
  go_enter Try.func8, Try.ntmps8
  go_wp2_with (first
    | (go_at_call 9; refine (L _).mono ?_; rintro e w1 ⟨rfl, hb1⟩; obtain ⟨g1, A0_1, A1_1, Az_1, C0_1, C1_1, Cz_1⟩ := adv2 hb1; have hB1 := after (box (box1 w _) _) hb1; clear g1 hb1)
    | (go_at_call 13; with_reducible refine (T1 _).mono ?_; rintro e w2 ⟨rfl, hb2⟩; have g2 := adv0 hb2; obtain ⟨A0_2, A1_2, Az_2⟩ := g2.two Az_1 A0_1 A1_1; obtain ⟨C0_2, C1_2, Cz_2⟩ := g2.two Cz_1 C0_1 C1_1; have hB2 := after hB1 hb2; clear g2 hb2 hB1 Az_1 A0_1 A1_1 Cz_1 C0_1 C1_1)
    | (go_at_call 13; with_reducible refine (T2 _).mono ?_; rintro e w3 ⟨rfl, hb3⟩; obtain ⟨g3, M0_3, M1_3, Mz_3⟩ := adv1 hb3; obtain ⟨A0_3, A1_3, Az_3⟩ := g3.two Az_2 A0_2 A1_2; obtain ⟨C0_3, C1_3, Cz_3⟩ := g3.two Cz_2 C0_2 C1_2; have hB3 := after (box hB2 _) hb3; clear g3 hb3 hB2 Az_2 A0_2 A1_2 Cz_2 C0_2 C1_2))
  go_loopw [12] (fun i wr => ∃ k : Nat, k ≤ n ∧ i = .int .i64 k ∧ wr.cell? ⟨w.heap.size, 0, none⟩ = some (.string a) ∧ wr.cell? ⟨w.heap.size, 1, none⟩ = some (.string b) ∧ wr.cell? ⟨w.heap.size + 1, 0, none⟩ = some (.string c) ∧ wr.cell? ⟨w.heap.size + 1, 1, none⟩ = some (.string d) ∧
      wr.cell? ⟨w2.heap.size, 0, none⟩ = some (.string p) ∧ wr.cell? ⟨w2.heap.size, 1, none⟩ = some (.string q) ∧ w.heap.size < wr.heap.size ∧ w.heap.size + 1 < wr.heap.size ∧ w2.heap.size < wr.heap.size ∧ Below w.heap.size w wr) (fun i _ => n - (intOf i).toNat)
  case atStart =>
    obtain ⟨g, _, _, _⟩ := adva w3 24 (.string p) (.string q)
    obtain ⟨x0, x1, x2⟩ := g.two Az_3 A0_3 A1_3
    obtain ⟨y0, y1, y2⟩ := g.two Cz_3 C0_3 C1_3
    obtain ⟨u0, u1, u2⟩ := g.two Mz_3 M0_3 M1_3
    exact ⟨0, Nat.zero_le _, rfl, x0, x1, y0, y1, u0, u1, x2, y2, u2, box hB3 _⟩
  case round =>
    rename_i wr
    obtain ⟨k, hk, rfl, eA0_1, eA1_1, eC0_1, eC1_1, eM0_1, eM1_1, zA_1, zC_1, zM_1, hE1⟩ := hrel
    clear A0_3 A1_3 C0_3 C1_3 M0_3 M1_3 Az_3 Cz_3 Mz_3 hB3 Q1
    by_cases hlt : k < n
    · obtain ⟨b0, off, rfl, hbl, hcell⟩ := HK.out k hlt
      have zK_1 : b0 < wr.heap.size := Nat.lt_trans hbl zA_1
      have eK_1 : wr.cell? ⟨b0, off + k, none⟩ = some (.string (ks k)) := (hE1.cell (p := ⟨b0, off + k, none⟩) hbl).trans hcell
      have i0 : (0 : Int) ≤ (k : Int) := by omega
      have i1 : (k : Int) < (n : Int) := by omega
      have H1 := has_is a b (ks k) _ rfl
      have H2 := has_is c d (ks k) _ rfl
      have H3 := has_is p q (ks k) _ rfl
      have hxy := HM.out (ks k)
      clear hcell hbl
      generalize has a b (ks k) = x at *
      generalize has c d (ks k) = y at *
      generalize has p q (ks k) = u at *
      cases x
      · obtain rfl : u = false := by simpa using hxy
        clear hxy
        go_wp2_with fail
        go_region_held3 (fun w' => w'.cell? ⟨w.heap.size, 0, none⟩ = some (.string a) ∧ w'.cell? ⟨w.heap.size, 1, none⟩ = some (.string b) ∧ w'.cell? ⟨w.heap.size + 1, 0, none⟩ = some (.string c) ∧ w'.cell? ⟨w.heap.size + 1, 1, none⟩ = some (.string d) ∧ w'.cell? ⟨w2.heap.size, 0, none⟩ = some (.string p) ∧ w'.cell? ⟨w2.heap.size, 1, none⟩ = some (.string q) ∧ w'.cell? ⟨b0, off + k, none⟩ = some (.string (ks k)) ∧ Below wr.heap.size wr w')
          (first | exact keepA7 zA_1 eA0_1 zA_1 eA1_1 zC_1 eC0_1 zC_1 eC1_1 zM_1 eM0_1 zM_1 eM1_1 zK_1 eK_1 (Below.refl _ _).drew | exact keepA7 zA_1 eA0_1 zA_1 eA1_1 zC_1 eC0_1 zC_1 eC1_1 zM_1 eM0_1 zM_1 eM1_1 zK_1 eK_1 (after (‹_ ∧ _ ∧ _ ∧ _ ∧ _ ∧ _ ∧ _ ∧ Below _ _ _›).2.2.2.2.2.2.2 (by assumption)) | go_keep)
          (first | (go_at_call 10; refine (H1 _).mono ?_; rintro e x1 ⟨rfl, hx1⟩))
        obtain ⟨eA0_2, eA1_2, eC0_2, eC1_2, eM0_2, eM1_2, eK_2, hD1⟩ := ‹x1.cell? _ = _ ∧ _›
        have hE2 := after hE1 hD1
        have zA_2 := Nat.lt_of_lt_of_le zA_1 hD1.size
        have zC_2 := Nat.lt_of_lt_of_le zC_1 hD1.size
        have zM_2 := Nat.lt_of_lt_of_le zM_1 hD1.size
        have zK_2 := Nat.lt_of_lt_of_le zK_1 hD1.size
        clear hD1 eA0_1 eA1_1 eC0_1 eC1_1 eM0_1 eM1_1 eK_1 zA_1 zC_1 zM_1 zK_1 hE1 hx1
        go_wp2_with fail
        go_region_held3 (fun w' => w'.cell? ⟨w.heap.size, 0, none⟩ = some (.string a) ∧ w'.cell? ⟨w.heap.size, 1, none⟩ = some (.string b) ∧ w'.cell? ⟨w.heap.size + 1, 0, none⟩ = some (.string c) ∧ w'.cell? ⟨w.heap.size + 1, 1, none⟩ = some (.string d) ∧ w'.cell? ⟨w2.heap.size, 0, none⟩ = some (.string p) ∧ w'.cell? ⟨w2.heap.size, 1, none⟩ = some (.string q) ∧ w'.cell? ⟨b0, off + k, none⟩ = some (.string (ks k)) ∧ Below x1.heap.size x1 w')
          (first | exact keepA7 zA_2 eA0_2 zA_2 eA1_2 zC_2 eC0_2 zC_2 eC1_2 zM_2 eM0_2 zM_2 eM1_2 zK_2 eK_2 (Below.refl _ _).drew | exact keepA7 zA_2 eA0_2 zA_2 eA1_2 zC_2 eC0_2 zC_2 eC1_2 zM_2 eM0_2 zM_2 eM1_2 zK_2 eK_2 (after (‹_ ∧ _ ∧ _ ∧ _ ∧ _ ∧ _ ∧ _ ∧ Below _ _ _›).2.2.2.2.2.2.2 (by assumption)) | go_keep)
          (first | (go_at_call 10; refine (H2 _).mono ?_; rintro e x2 ⟨rfl, hx2⟩))
        obtain ⟨eA0_3, eA1_3, eC0_3, eC1_3, eM0_3, eM1_3, eK_3, hD2⟩ := ‹x2.cell? _ = _ ∧ _›
        have hE3 := after hE2 hD2
        have zA_3 := Nat.lt_of_lt_of_le zA_2 hD2.size
        have zC_3 := Nat.lt_of_lt_of_le zC_2 hD2.size
        have zM_3 := Nat.lt_of_lt_of_le zM_2 hD2.size
        have zK_3 := Nat.lt_of_lt_of_le zK_2 hD2.size
        clear hD2 eA0_2 eA1_2 eC0_2 eC1_2 eM0_2 eM1_2 eK_2 zA_2 zC_2 zM_2 zK_2 hE2 hx2
        go_wp2_with fail
        go_region_held3 (fun w' => w'.cell? ⟨w.heap.size, 0, none⟩ = some (.string a) ∧ w'.cell? ⟨w.heap.size, 1, none⟩ = some (.string b) ∧ w'.cell? ⟨w.heap.size + 1, 0, none⟩ = some (.string c) ∧ w'.cell? ⟨w.heap.size + 1, 1, none⟩ = some (.string d) ∧ w'.cell? ⟨w2.heap.size, 0, none⟩ = some (.string p) ∧ w'.cell? ⟨w2.heap.size, 1, none⟩ = some (.string q) ∧ w'.cell? ⟨b0, off + k, none⟩ = some (.string (ks k)) ∧ Below x2.heap.size x2 w')
          (first | exact keepA7 zA_3 eA0_3 zA_3 eA1_3 zC_3 eC0_3 zC_3 eC1_3 zM_3 eM0_3 zM_3 eM1_3 zK_3 eK_3 (Below.refl _ _).drew | exact keepA7 zA_3 eA0_3 zA_3 eA1_3 zC_3 eC0_3 zC_3 eC1_3 zM_3 eM0_3 zM_3 eM1_3 zK_3 eK_3 (after (‹_ ∧ _ ∧ _ ∧ _ ∧ _ ∧ _ ∧ _ ∧ Below _ _ _›).2.2.2.2.2.2.2 (by assumption)) | go_keep)
          (first | (go_at_call 10; refine (H3 _).mono ?_; rintro e x3 ⟨rfl, hx3⟩))
        obtain ⟨eA0_4, eA1_4, eC0_4, eC1_4, eM0_4, eM1_4, eK_4, hD3⟩ := ‹x3.cell? _ = _ ∧ _›
        have hE4 := after hE3 hD3
        have zA_4 := Nat.lt_of_lt_of_le zA_3 hD3.size
        have zC_4 := Nat.lt_of_lt_of_le zC_3 hD3.size
        have zM_4 := Nat.lt_of_lt_of_le zM_3 hD3.size
        have zK_4 := Nat.lt_of_lt_of_le zK_3 hD3.size
        clear hD3 eA0_3 eA1_3 eC0_3 eC1_3 eM0_3 eM1_3 eK_3 zA_3 zC_3 zM_3 zK_3 hE3 hx3
        go_wp2
        go_roundw
        case rel => exact ⟨k + 1, by omega, by go_num, eA0_4, eA1_4, eC0_4, eC1_4, eM0_4, eM1_4, zA_4, zC_4, zM_4, hE4⟩
        case measure => simp [intOf]; omega
      · obtain rfl : u = y := by simpa using hxy
        clear hxy
        go_wp2_with fail
        go_region_held3 (fun w' => w'.cell? ⟨w.heap.size, 0, none⟩ = some (.string a) ∧ w'.cell? ⟨w.heap.size, 1, none⟩ = some (.string b) ∧ w'.cell? ⟨w.heap.size + 1, 0, none⟩ = some (.string c) ∧ w'.cell? ⟨w.heap.size + 1, 1, none⟩ = some (.string d) ∧ w'.cell? ⟨w2.heap.size, 0, none⟩ = some (.string p) ∧ w'.cell? ⟨w2.heap.size, 1, none⟩ = some (.string q) ∧ w'.cell? ⟨b0, off + k, none⟩ = some (.string (ks k)) ∧ Below wr.heap.size wr w')
          (first | exact keepA7 zA_1 eA0_1 zA_1 eA1_1 zC_1 eC0_1 zC_1 eC1_1 zM_1 eM0_1 zM_1 eM1_1 zK_1 eK_1 (Below.refl _ _).drew | exact keepA7 zA_1 eA0_1 zA_1 eA1_1 zC_1 eC0_1 zC_1 eC1_1 zM_1 eM0_1 zM_1 eM1_1 zK_1 eK_1 (after (‹_ ∧ _ ∧ _ ∧ _ ∧ _ ∧ _ ∧ _ ∧ Below _ _ _›).2.2.2.2.2.2.2 (by assumption)) | go_keep)
          (first | (go_at_call 10; refine (H1 _).mono ?_; rintro e x1 ⟨rfl, hx1⟩))
        obtain ⟨eA0_2, eA1_2, eC0_2, eC1_2, eM0_2, eM1_2, eK_2, hD1⟩ := ‹x1.cell? _ = _ ∧ _›
        have hE2 := after hE1 hD1
        have zA_2 := Nat.lt_of_lt_of_le zA_1 hD1.size
        have zC_2 := Nat.lt_of_lt_of_le zC_1 hD1.size
        have zM_2 := Nat.lt_of_lt_of_le zM_1 hD1.size
        have zK_2 := Nat.lt_of_lt_of_le zK_1 hD1.size
        clear hD1 eA0_1 eA1_1 eC0_1 eC1_1 eM0_1 eM1_1 eK_1 zA_1 zC_1 zM_1 zK_1 hE1 hx1
        go_wp2_with fail
        go_region_held3 (fun w' => w'.cell? ⟨w.heap.size, 0, none⟩ = some (.string a) ∧ w'.cell? ⟨w.heap.size, 1, none⟩ = some (.string b) ∧ w'.cell? ⟨w.heap.size + 1, 0, none⟩ = some (.string c) ∧ w'.cell? ⟨w.heap.size + 1, 1, none⟩ = some (.string d) ∧ w'.cell? ⟨w2.heap.size, 0, none⟩ = some (.string p) ∧ w'.cell? ⟨w2.heap.size, 1, none⟩ = some (.string q) ∧ w'.cell? ⟨b0, off + k, none⟩ = some (.string (ks k)) ∧ Below x1.heap.size x1 w')
          (first | exact keepA7 zA_2 eA0_2 zA_2 eA1_2 zC_2 eC0_2 zC_2 eC1_2 zM_2 eM0_2 zM_2 eM1_2 zK_2 eK_2 (Below.refl _ _).drew | exact keepA7 zA_2 eA0_2 zA_2 eA1_2 zC_2 eC0_2 zC_2 eC1_2 zM_2 eM0_2 zM_2 eM1_2 zK_2 eK_2 (after (‹_ ∧ _ ∧ _ ∧ _ ∧ _ ∧ _ ∧ _ ∧ Below _ _ _›).2.2.2.2.2.2.2 (by assumption)) | go_keep)
          (first | (go_at_call 10; refine (H2 _).mono ?_; rintro e x2 ⟨rfl, hx2⟩))
        obtain ⟨eA0_3, eA1_3, eC0_3, eC1_3, eM0_3, eM1_3, eK_3, hD2⟩ := ‹x2.cell? _ = _ ∧ _›
        have hE3 := after hE2 hD2
        have zA_3 := Nat.lt_of_lt_of_le zA_2 hD2.size
        have zC_3 := Nat.lt_of_lt_of_le zC_2 hD2.size
        have zM_3 := Nat.lt_of_lt_of_le zM_2 hD2.size
        have zK_3 := Nat.lt_of_lt_of_le zK_2 hD2.size
        clear hD2 eA0_2 eA1_2 eC0_2 eC1_2 eM0_2 eM1_2 eK_2 zA_2 zC_2 zM_2 zK_2 hE2 hx2
        go_wp2_with fail
        go_region_held3 (fun w' => w'.cell? ⟨w.heap.size, 0, none⟩ = some (.string a) ∧ w'.cell? ⟨w.heap.size, 1, none⟩ = some (.string b) ∧ w'.cell? ⟨w.heap.size + 1, 0, none⟩ = some (.string c) ∧ w'.cell? ⟨w.heap.size + 1, 1, none⟩ = some (.string d) ∧ w'.cell? ⟨w2.heap.size, 0, none⟩ = some (.string p) ∧ w'.cell? ⟨w2.heap.size, 1, none⟩ = some (.string q) ∧ w'.cell? ⟨b0, off + k, none⟩ = some (.string (ks k)) ∧ Below x2.heap.size x2 w')
          (first | exact keepA7 zA_3 eA0_3 zA_3 eA1_3 zC_3 eC0_3 zC_3 eC1_3 zM_3 eM0_3 zM_3 eM1_3 zK_3 eK_3 (Below.refl _ _).drew | exact keepA7 zA_3 eA0_3 zA_3 eA1_3 zC_3 eC0_3 zC_3 eC1_3 zM_3 eM0_3 zM_3 eM1_3 zK_3 eK_3 (after (‹_ ∧ _ ∧ _ ∧ _ ∧ _ ∧ _ ∧ _ ∧ Below _ _ _›).2.2.2.2.2.2.2 (by assumption)) | go_keep)
          (first | (go_at_call 10; refine (H3 _).mono ?_; rintro e x3 ⟨rfl, hx3⟩))
        obtain ⟨eA0_4, eA1_4, eC0_4, eC1_4, eM0_4, eM1_4, eK_4, hD3⟩ := ‹x3.cell? _ = _ ∧ _›
        have hE4 := after hE3 hD3
        have zA_4 := Nat.lt_of_lt_of_le zA_3 hD3.size
        have zC_4 := Nat.lt_of_lt_of_le zC_3 hD3.size
        have zM_4 := Nat.lt_of_lt_of_le zM_3 hD3.size
        have zK_4 := Nat.lt_of_lt_of_le zK_3 hD3.size
        clear hD3 eA0_3 eA1_3 eC0_3 eC1_3 eM0_3 eM1_3 eK_3 zA_3 zC_3 zM_3 zK_3 hE3 hx3
        go_wp2
        go_roundw
        case rel => exact ⟨k + 1, by omega, by go_num, eA0_4, eA1_4, eC0_4, eC1_4, eM0_4, eM1_4, zA_4, zC_4, zM_4, hE4⟩
        case measure => simp [intOf]; omega
    · go_wp2
      go_ret
      exact ⟨rfl, hE1⟩

theorem meet_walk (a b c d : ByteArray) (A : Option Addr) (n cap : Nat) (ks : Nat → ByteArray) (hn : n ≤ 9223372036854775807) (w : World) (hk : KeysAt w w.heap.size A n ks) :
    Calls Try.prog 8 #[.agg #[.string a, .string b], .agg #[.string c, .string d], .slice A n cap] w (Yes w) := by
  obtain ⟨p, q, v, T1, T2, hv, hm⟩ := meet_law a b c d
  cases v
  · obtain ⟨rfl, rfl⟩ := hv rfl
    exact meet_walk_no a b c d A n cap ks hn w hk T1 T2 (fun k => by have := hm k; rw [Bool.false_and] at this; exact this)
  · exact meet_walk_yes a b c d p q A n cap ks hn w hk T1 T2 (fun k => by have := hm k; rw [Bool.true_and] at this; exact this)
end Go.Proofs.Ytkceakoacmjkgaa
