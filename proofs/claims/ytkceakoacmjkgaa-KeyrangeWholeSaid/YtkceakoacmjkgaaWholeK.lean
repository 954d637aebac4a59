/-
  Whole: the program's own, walked.
-/
import Derived.Test.YtkceakoacmjkgaaWhole
namespace Go.Proofs.Ytkceakoacmjkgaa
open Go.RowKit

theorem frz1 {w1 w2 : World} {t : TypeId} {cs : Array Value} {b o : Nat} (hb : Below (w1.alloc (.cells cs t)).heap.size (w1.alloc (.cells cs t)) w2) (h : b < w1.heap.size) : w2.frozen? ⟨b, o, none⟩ = w1.frozen? ⟨b, o, none⟩ := by
  rw [hb.frozen (p := ⟨b, o, none⟩) (by simp; omega)]
  exact frozen?_alloc_cells _ _ _ _

set_option maxRecDepth 100000 in
set_option maxHeartbeats 8000000 in
theorem whole_any (A : Option Addr) (n cap : Nat) (rs : Nat → ByteArray × ByteArray) (hn : n ≤ 9223372036854775807) (w : World) (hk : RangesAt w w.heap.size A n rs) :
    Calls Try.prog 14 #[.slice A n cap] w fun e w' => e = .returned (.tuple #[.int .i64 (whole rs n).1, .int .i64 (whole rs n).2]) ∧ Below w.heap.size w w' := by
  have HK := Lib.hid hk
  clear hk
  go_enter Try.func14, Try.ntmps14
  go_wp2
  go_loopw [12] (fun i wr => ∃ (k : Nat) (en : ByteArray) (eb : Bool), k ≤ n ∧ i = .int .i64 k ∧ wr.cell? ⟨w.heap.size, 0, none⟩ = some (.string en) ∧ wr.cell? ⟨w.heap.size, 1, none⟩ = some (.bool eb) ∧ wr.frozen? ⟨w.heap.size, 0, none⟩ = false ∧ wr.frozen? ⟨w.heap.size, 1, none⟩ = false ∧
      w.heap.size < wr.heap.size ∧ Below w.heap.size w wr ∧ Hid (wholeF rs n (n - k) k en = whole rs n) ∧ Hid ((k = 0 → eb = false) ∧ (0 < k → eb = en.toList.isEmpty) ∧ (k < n → eb = false))) (fun i _ => n - (intOf i).toNat)
  case atStart => exact ⟨0, ⟨#[]⟩, false, Nat.zero_le _, rfl, by simp [go_sem], by simp [go_sem], by simp [go_sem], by simp [go_sem], by simp, box1 _ _, Lib.hid rfl, Lib.hid ⟨fun _ => rfl, fun h => absurd h (by omega), fun _ => rfl⟩⟩
  case round =>
    rename_i wr
    obtain ⟨k, en, eb, hk, rfl, n0, n1, m0, m1, nz, hE, HW, HB⟩ := hrel
    by_cases hlt : k < n
    · obtain rfl : eb = false := HB.out.2.2 hlt
      clear HB
      obtain ⟨b0, off, rfl, hbl, c0, c1⟩ := HK.out k hlt
      have d0 := (hE.cell (p := ⟨b0, off + k * 2, none⟩) hbl).trans c0
      have d1 := (hE.cell (p := ⟨b0, off + k * 2 + 1, none⟩) hbl).trans c1
      have zb : b0 < wr.heap.size := Nat.lt_of_lt_of_le hbl hE.size
      have i0 : (0 : Int) ≤ (k : Int) := by omega
      have i1 : (k : Int) < (n : Int) := by omega
      have hs := whole_step HW.out hlt
      clear c0 c1 HK HW
      have C := check_is (rs k).1 (rs k).2 _ rfl
      have FB := fieldBound
      cases a : chk (rs k).1 (rs k).2 == 0
      · rw [a, if_neg Bool.false_ne_true] at hs
        have a2 : (chk (rs k).1 (rs k).2 != 0) = true := by simp only [bne, a]; rfl
        have HS := Lib.hid hs
        clear hs
        generalize chk (rs k).1 (rs k).2 = m at *
        go_wp2_with (go_at_call 15; refine (C _).mono ?_; rintro e x1 ⟨rfl, hx1⟩; obtain ⟨g1, r0, r1, rz⟩ := adv1 hx1; obtain ⟨n0_1, n1_1, nz_1⟩ := g1.two nz n0 n1; have m0_1 := (frz1 hx1 nz).trans m0; have m1_1 := (frz1 hx1 nz).trans m1; have hE1 := after (box hE _) hx1; clear g1 hx1)
        go_ret2
        exact ⟨by rw [HS.out]; rfl, hE1⟩
      · rw [a, if_pos rfl] at hs
        simp only [beq_iff_eq] at a
        rw [a] at C
        clear a
        cases b : (rs k).1.toList == en.toList
        · rw [if_pos (by unfold bad; rw [b]; rfl)] at hs
          have HS := Lib.hid hs
          have Q := neqBound_is en (rs k).1 false false true (by rw [BEq.comm, b]; rfl)
          clear hs b
          go_wp2_with (go_at_call 15; refine (C _).mono ?_; rintro e x1 ⟨rfl, hx1⟩; obtain ⟨g1, r0, r1, rz⟩ := adv1 hx1; obtain ⟨n0_1, n1_1, nz_1⟩ := g1.two nz n0 n1; have m0_1 := (frz1 hx1 nz).trans m0; have m1_1 := (frz1 hx1 nz).trans m1; have hE1 := after (box hE _) hx1; clear g1 hx1)
          go_ret2
          exact ⟨by rw [HS.out]; rfl, hE1⟩
        · have Q := neqBound_is en (rs k).1 false false false (by rw [BEq.comm, b]; rfl)
          by_cases l1 : k + 1 < n
          · have l2 : ((k : Int) == (n : Int) - 1) = false := by rw [beq_eq_false_iff_ne]; omega
            cases c : (rs k).2.toList.isEmpty
            · rw [if_neg (by unfold bad; rw [b, c]; simp)] at hs
              have HS := Lib.hid hs
              clear hs b
              go_wp2_with (first | (go_at_call 15; refine (C _).mono ?_; rintro e x1 ⟨rfl, hx1⟩; obtain ⟨g1, r0, r1, rz⟩ := adv1 hx1; obtain ⟨n0_1, n1_1, nz_1⟩ := g1.two nz n0 n1; have m0_1 := (frz1 hx1 nz).trans m0; have m1_1 := (frz1 hx1 nz).trans m1; have hE1 := after (box hE _) hx1; clear g1 hx1) | (go_at_call 25; have _t := tok; refine (upper_any _ _ _).mono ?_; rintro e x3 ⟨rfl, hx3⟩; have g3 := adv0 hx3; obtain ⟨n0_3, n1_3, nz_3⟩ := g3.two nz_2 n0_2 n1_2; have m0_3 := (hx3.frozen (p := ⟨w.heap.size, 0, none⟩) nz_2).trans m0_2; have m1_3 := (hx3.frozen (p := ⟨w.heap.size, 1, none⟩) nz_2).trans m1_2; have hE3 := after hE2 hx3; clear g3 hx3) | (go_at_call 25; refine (upper_any _ _ _).mono ?_; rintro e x2 ⟨rfl, hx2⟩; have g2 := adv0 hx2; obtain ⟨r0_2, r1_2, rz_2⟩ := g2.two rz r0 r1; obtain ⟨n0_2, n1_2, nz_2⟩ := g2.two nz_1 n0_1 n1_1; have m0_2 := (hx2.frozen (p := ⟨w.heap.size, 0, none⟩) nz_1).trans m0_1; have m1_2 := (hx2.frozen (p := ⟨w.heap.size, 1, none⟩) nz_1).trans m1_1; have hE2 := after hE1 hx2; clear g2 hx2; have tok := trivial))
              go_roundw
              case rel => exact ⟨k + 1, (rs k).2, false, by omega, by go_num, by simp [go_sem, n0_3, n1_3], by simp [go_sem, n0_3, n1_3], by rw [World.frozen?_setCell, World.frozen?_setCell]; exact m0_3, by rw [World.frozen?_setCell, World.frozen?_setCell]; exact m1_3, by simpa using nz_3, (hE3.setCell (Nat.le_refl _) _).setCell (Nat.le_refl _) _, Lib.hid HS.out.symm, Lib.hid ⟨fun h => absurd h (by omega), fun _ => c.symm, fun h => rfl⟩⟩
              case measure => simp [intOf]; omega
            · rw [if_pos (by unfold bad; rw [b, c]; simp [l1])] at hs
              have HS := Lib.hid hs
              clear hs b
              go_wp2_with (first | (go_at_call 15; refine (C _).mono ?_; rintro e x1 ⟨rfl, hx1⟩; obtain ⟨g1, r0, r1, rz⟩ := adv1 hx1; obtain ⟨n0_1, n1_1, nz_1⟩ := g1.two nz n0 n1; have m0_1 := (frz1 hx1 nz).trans m0; have m1_1 := (frz1 hx1 nz).trans m1; have hE1 := after (box hE _) hx1; clear g1 hx1) | (go_at_call 25; refine (upper_any _ _ _).mono ?_; rintro e x2 ⟨rfl, hx2⟩; have g2 := adv0 hx2; obtain ⟨r0_2, r1_2, rz_2⟩ := g2.two rz r0 r1; obtain ⟨n0_2, n1_2, nz_2⟩ := g2.two nz_1 n0_1 n1_1; have m0_2 := (hx2.frozen (p := ⟨w.heap.size, 0, none⟩) nz_1).trans m0_1; have m1_2 := (hx2.frozen (p := ⟨w.heap.size, 1, none⟩) nz_1).trans m1_1; have hE2 := after hE1 hx2; clear g2 hx2; have tok := trivial))
              go_ret2
              exact ⟨by rw [HS.out]; rfl, hE2⟩
          · have l2 : ((k : Int) == (n : Int) - 1) = true := by rw [beq_iff_eq]; omega
            rw [if_neg (by unfold bad; rw [b]; simp [l1])] at hs
            have HS := Lib.hid hs
            clear hs b
            cases c : (rs k).2.toList.isEmpty
            all_goals
              go_wp2_with (first | (go_at_call 15; refine (C _).mono ?_; rintro e x1 ⟨rfl, hx1⟩; obtain ⟨g1, r0, r1, rz⟩ := adv1 hx1; obtain ⟨n0_1, n1_1, nz_1⟩ := g1.two nz n0 n1; have m0_1 := (frz1 hx1 nz).trans m0; have m1_1 := (frz1 hx1 nz).trans m1; have hE1 := after (box hE _) hx1; clear g1 hx1) | (go_at_call 25; have _t := tok; refine (upper_any _ _ _).mono ?_; rintro e x3 ⟨rfl, hx3⟩; have g3 := adv0 hx3; obtain ⟨n0_3, n1_3, nz_3⟩ := g3.two nz_2 n0_2 n1_2; have m0_3 := (hx3.frozen (p := ⟨w.heap.size, 0, none⟩) nz_2).trans m0_2; have m1_3 := (hx3.frozen (p := ⟨w.heap.size, 1, none⟩) nz_2).trans m1_2; have hE3 := after hE2 hx3; clear g3 hx3) | (go_at_call 25; refine (upper_any _ _ _).mono ?_; rintro e x2 ⟨rfl, hx2⟩; have g2 := adv0 hx2; obtain ⟨r0_2, r1_2, rz_2⟩ := g2.two rz r0 r1; obtain ⟨n0_2, n1_2, nz_2⟩ := g2.two nz_1 n0_1 n1_1; have m0_2 := (hx2.frozen (p := ⟨w.heap.size, 0, none⟩) nz_1).trans m0_1; have m1_2 := (hx2.frozen (p := ⟨w.heap.size, 1, none⟩) nz_1).trans m1_1; have hE2 := after hE1 hx2; clear g2 hx2; have tok := trivial))
              go_roundw
              case rel => first | exact ⟨k + 1, (rs k).2, false, by omega, by go_num, by simp [go_sem, n0_3, n1_3], by simp [go_sem, n0_3, n1_3], by rw [World.frozen?_setCell, World.frozen?_setCell]; exact m0_3, by rw [World.frozen?_setCell, World.frozen?_setCell]; exact m1_3, by simpa using nz_3, (hE3.setCell (Nat.le_refl _) _).setCell (Nat.le_refl _) _, Lib.hid HS.out.symm, Lib.hid ⟨fun h => absurd h (by omega), fun _ => c.symm, fun h => absurd h (by omega)⟩⟩ | exact ⟨k + 1, (rs k).2, true, by omega, by go_num, by simp [go_sem, n0_3, n1_3], by simp [go_sem, n0_3, n1_3], by rw [World.frozen?_setCell, World.frozen?_setCell]; exact m0_3, by rw [World.frozen?_setCell, World.frozen?_setCell]; exact m1_3, by simpa using nz_3, (hE3.setCell (Nat.le_refl _) _).setCell (Nat.le_refl _) _, Lib.hid HS.out.symm, Lib.hid ⟨fun h => absurd h (by omega), fun _ => c.symm, fun h => absurd h (by omega)⟩⟩
              case measure => simp [intOf]; omega
    · obtain rfl : k = n := by omega
      have hs := HW.out
      rw [Nat.sub_self] at hs
      unfold wholeF at hs
      by_cases h0 : k = 0
      · subst h0
        rw [if_pos (by simp)] at hs
        have HS := Lib.hid hs
        obtain rfl : eb = false := HB.out.1 rfl
        clear hs HW HB
        go_wp2
        go_ret2
        exact ⟨by rw [← HS.out]; rfl, hE⟩
      · have he : eb = en.toList.isEmpty := HB.out.2.1 (by omega)
        cases c : en.toList.isEmpty
        · rw [if_pos (by rw [c]; simp)] at hs
          have HS := Lib.hid hs
          obtain rfl : eb = false := he.trans c
          clear hs HW HB he c
          go_wp2
          go_ret2
          exact ⟨by rw [← HS.out]; rfl, hE⟩
        · rw [if_neg (by rw [c]; simp [h0])] at hs
          have HS := Lib.hid hs
          obtain rfl : eb = true := he.trans c
          clear hs HW HB he c
          go_wp2
          go_ret2
          exact ⟨by rw [← HS.out]; rfl, hE⟩
end Go.Proofs.Ytkceakoacmjkgaa
