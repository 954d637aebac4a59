/-
  slices.Sort of a row of numbers of 64 bits, second part: partialInsertion, breakPatterns, pdqsort; the sort itself and its entry.
-/
import Derived.Test.YtlglifgnklngfaaSrA
import Derived.Laws.Bits64b
import Derived.Sort.LotD5
import Derived.Test.YtlglifgnklngfaaSn
import Derived.Deep.CutBlock
import Derived.Outline
import Derived.Test.YtlglifgnklngfaaCmL
import Derived.Test.YtlglifgnklngfaaDaL
namespace Go.Proofs.Ytlglifgnklngfaa
open Go.RowKit
section
open Go.RowKit Go.Sort
theorem ss_go (d : Array Int) (b i : Nat) (h : i < b) (hp : ltInt d[i]! d[i - 1]! = false) : scanSorted ltInt d b i = scanSorted ltInt d b (i + 1) := by
  rw [scanSorted, if_pos (by simp [h, hp])]
theorem ss_stop (d : Array Int) (b i : Nat) (h : ¬ i < b ∨ ltInt d[i]! d[i - 1]! = true) : scanSorted ltInt d b i = i := by
  rw [scanSorted, if_neg (by rcases h with h | h <;> simp [h])]
theorem sd_zero (d : Array Int) : shiftDown ltInt 0 d = d := rfl
theorem sdn_stop (d : Array Int) (q : Nat) (h : ltInt d[q + 1]! d[q]! = false) : shiftDown ltInt (q + 1) d = d := by
  rw [shiftDown, if_pos (by rw [h]; rfl)]
theorem sdn_go (d : Array Int) (q : Nat) (h : ltInt d[q + 1]! d[q]! = true) : shiftDown ltInt (q + 1) d = shiftDown ltInt q (swp d (q + 1) q) := by
  rw [shiftDown, if_neg (by rw [h]; simp)]
theorem su_end (d : Array Int) (b j : Nat) (h : ¬ j < b) : shiftUp ltInt b j d = d := by
  rw [shiftUp, if_neg h]
theorem su_stop (d : Array Int) (b q : Nat) (h : q + 1 < b) (hp : ltInt d[q + 1]! d[q]! = false) : shiftUp ltInt b (q + 1) d = d := by
  rw [shiftUp, if_pos h, if_pos (by rw [Nat.add_sub_cancel, hp]; rfl)]
theorem su_go (d : Array Int) (b q : Nat) (h : q + 1 < b) (hp : ltInt d[q + 1]! d[q]! = true) : shiftUp ltInt b (q + 1) d = shiftUp ltInt b (q + 1 + 1) (swp d (q + 1) q) := by
  rw [shiftUp, if_pos h, if_neg (by rw [Nat.add_sub_cancel, hp]; simp), Nat.add_sub_cancel]
theorem size_shiftDown : ∀ (j : Nat) (d : Array Int), (shiftDown ltInt j d).size = d.size
  | 0, d => rfl
  | j + 1, d => by
    cases h : ltInt d[j + 1]! d[j]! with
    | false => rw [sdn_stop d j h]
    | true => rw [sdn_go d j h, size_shiftDown j, size_swp]
theorem size_shiftUp (b j : Nat) (d : Array Int) : (shiftUp ltInt b j d).size = d.size := by
  induction h : b - j using Nat.strongRecOn generalizing j d with
  | _ m ih =>
    rw [shiftUp]
    split
    · split
      · rfl
      · rw [ih (b - (j + 1)) (by omega) _ _ rfl, size_swp]
    · rfl
set_option maxHeartbeats 4000000 in
set_option maxRecDepth 100000 in
theorem so_partialIns (blk N cap n a b : Nat) (d : Array Int) (w : World) (hR : Rw w blk N d) (hn : d.size = n) (hab : a < b) (hb : b ≤ n) (hn2 : n < 2305843009213693952) :
    Calls Try.prog 44 #[.slice (some ⟨blk, 0, none⟩) n cap, .int .i64 a, .int .i64 b] w fun x w' =>
      x = .returned (.bool (partialInsertionSort ltInt d a b).2) ∧ SR w w' blk N (partialInsertionSort ltInt d a b).1 := by
  obtain ⟨r, hr⟩ : ∃ r, partialIns ltInt a b 5 (a + 1) d = r := ⟨_, rfl⟩
  have HP : Hid (partialInsertionSort ltInt d a b = r) := hr
  have HT0 : Hid (SR w w blk N d) := SR.refl hR
  clear hR
  go_enter Try.func44, Try.ntmps44
  go_wp2
  go_loopw [7, 8] (fun vi vt wr => ∃ (t s i : Nat) (dk : Array Int), vt = .int .i64 t ∧ t + s = 5 ∧ vi = .int .i64 i ∧ a + 1 ≤ i ∧ i ≤ b ∧ dk.size = n ∧ Hid (SR w wr blk N dk) ∧ Hid (partialIns ltInt a b s i dk = r)) (fun vi vt _ => (5 - intOf vt).toNat)
  case atStart => exact ⟨0, 5, a + 1, d, rfl, rfl, by go_num, by omega, by omega, hn, HT0, hr⟩
  case round =>
    obtain ⟨t, s, i0, dk, rfl, hts, rfl, hai, hib, hs1, HT, HO⟩ := hrel
    clear HT0 hr
    cases s with
    | zero =>
      have ht5 : ¬ (t : Int) < 5 := by omega
      go_wp2
      go_ret
      have q : (dk, false) = r := HO.out
      rw [HP.out, ← q]
      exact ⟨rfl, HT.out⟩
    | succ s =>
    have ht5 : (t : Int) < 5 := by omega
    go_upto_block 2 with fail
    go_cut [7] from 17 to 132 (fun vi wc => ∃ i : Nat, vi = .int .i64 i ∧ i0 ≤ i ∧ i ≤ b ∧ Hid (SR w wc blk N dk) ∧ Hid (scanSorted ltInt dk b i0 = i))
    case first =>
      go_wp2_with fail
      go_loopw [7] (fun vi wr => ∃ i : Nat, vi = .int .i64 i ∧ i0 ≤ i ∧ i ≤ b ∧ Hid (SR w wr blk N dk) ∧ Hid (scanSorted ltInt dk b i = scanSorted ltInt dk b i0)) (fun vi _ => b - (intOf vi).toNat)
      case atStart => exact ⟨i0, rfl, Nat.le_refl _, hib, HT, rfl⟩
      case round =>
        obtain ⟨i, rfl, hi0, hi1, HT', HO'⟩ := hrel
        clear HT
        by_cases hij : i < b
        · obtain ⟨q, rfl⟩ : ∃ q, i = q + 1 := ⟨i - 1, by omega⟩
          obtain ⟨x, hx⟩ : ∃ x, dk[q + 1]! = x := ⟨_, rfl⟩
          obtain ⟨y, hy⟩ : ∃ y, dk[q]! = y := ⟨_, rfl⟩
          have c0 := HT'.out.2.cell (j := q + 1) (by omega)
          have c1 := HT'.out.2.cell (j := q) (by omega)
          rw [hx] at c0
          rw [hy] at c1
          have HX : Hid _ := hx
          have HY : Hid _ := hy
          clear hx hy
          have hdi : ((q + 1 : Nat) : Int) < (b : Int) := by omega
          have hdj : (q : Int) + 1 < (b : Int) := by omega
          go_wp2
          go_quiet (first | (go_at_call 45; refine Calls.quiet_of_same (so_less _ _ _)))
          go_wp2
          · have hl : ltInt x y = false := by
              have : (!ltInt x y) = true := by assumption
              simpa using this
            go_roundw
            case rel => exact ⟨q + 1 + 1, by go_num, by omega, by omega, HT'.out.drewN _, ((ss_go dk b (q + 1) hij (by rw [Nat.add_sub_cancel, HX.out, HY.out, hl])).symm.trans HO'.out : _ = _)⟩
            case measure => simp [intOf] <;> omega
          · have hl : ltInt x y = true := by
              have : (!ltInt x y) = false := by assumption
              simpa using this
            go_meet
            case rel => exact ⟨q + 1, rfl, hi0, hi1, HT'.out.drewN _, (HO'.out.symm.trans (ss_stop dk b (q + 1) (.inr (by rw [Nat.add_sub_cancel, HX.out, HY.out, hl]))) : _ = _)⟩
        · have hd : decide ((i : Int) < (b : Int)) = false := by simp; omega
          go_wp2
          go_quiet (first | (go_at_call 45; refine Calls.quiet_of_same (so_less _ _ _)))
          go_wp2
          go_meet
          case rel => exact ⟨i, rfl, hi0, hi1, HT'.out.drewN _, (HO'.out.symm.trans (ss_stop dk b i (.inl hij)) : _ = _)⟩
    case rest =>
      clear HT
      obtain ⟨i, rfl, hi0, hi1, HT, HU⟩ := hcut
      by_cases hib' : i = b
      · subst hib'
        go_wp2
        go_ret
        have q : partialIns ltInt a i (s + 1) i0 dk = (dk, true) := by rw [partialIns]; simp only [HU.out, if_pos]
        rw [HP.out, ← HO.out, q]
        exact ⟨rfl, HT.out⟩
      · have hne : ((i : Int) == (b : Int)) = false := by simp; omega
        by_cases h50 : b - a < 50
        · have h50i : (b : Int) - (a : Int) < 50 := by omega
          go_wp2
          go_ret
          have q : partialIns ltInt a b (s + 1) i0 dk = (dk, false) := by rw [partialIns]; simp only [HU.out, if_neg hib', if_pos h50]
          rw [HP.out, ← HO.out, q]
          exact ⟨rfl, HT.out⟩
        · have h50i : ¬ (b : Int) - (a : Int) < 50 := by omega
          obtain ⟨p, rfl⟩ : ∃ p, i = p + 1 := ⟨i - 1, by omega⟩
          have hwi : IntKind.i64.wrap (((p + 1 : Nat) : Int) - 1) = (p : Int) := by rw [IntKind.wrap_i64]; omega
          have hpi : ((p + 1 : Nat) : Int) - 1 = (p : Int) := by omega
          obtain ⟨x, hx⟩ : ∃ x, dk[p + 1]! = x := ⟨_, rfl⟩
          obtain ⟨y, hy⟩ : ∃ y, dk[p]! = y := ⟨_, rfl⟩
          have c0 := HT.out.2.cell (j := p + 1) (by omega)
          have f0 := HT.out.2.frozen (p + 1)
          have c1 := HT.out.2.cell (j := p) (by omega)
          have f1 := HT.out.2.frozen (p)
          rw [hx] at c0
          rw [hy] at c1
          have U1 := ((HT.out.set (j := p + 1) (by omega) y).drew).2
          have e1 := U1.cell (j := p) (by simp; omega)
          have e2 := U1.frozen (p)
          obtain ⟨z, hz⟩ : ∃ z, (dk.setIfInBounds (p + 1) y)[p]! = z := ⟨_, rfl⟩
          rw [hz] at e1
          have S3 : Hid _ := HT.out.swapD (i := p + 1) (j := p) (by omega) (by omega) hx hy
          clear hz U1 hx hy HT
          go_wp2
          go_region
          clear c0 f0 c1 f1 e1 e2
          generalize ((wc.setCell ⟨blk, p + 1, none⟩ (.int .u64 y)).setCell ⟨blk, p, none⟩ (.int .u64 x)).drew = w3 at S3 ⊢
          obtain ⟨d2, hd2⟩ : ∃ d2, swp dk (p + 1) p = d2 := ⟨_, rfl⟩
          rw [hd2] at S3
          have hs2 : d2.size = n := by rw [← hd2, size_swp]; exact hs1
          obtain ⟨d3, hd3⟩ : ∃ d3, (if p + 1 - a ≥ 2 then shiftDown ltInt p d2 else d2) = d3 := ⟨_, rfl⟩
          have hs3 : d3.size = n := by rw [← hd3]; split; (· rw [size_shiftDown]; exact hs2); (· exact hs2)
          obtain ⟨d4, hd4⟩ : ∃ d4, (if b - (p + 1) ≥ 2 then shiftUp ltInt b (p + 1 + 1) d3 else d3) = d4 := ⟨_, rfl⟩
          have hs4 : d4.size = n := by rw [← hd4]; split; (· rw [size_shiftUp]; exact hs3); (· exact hs3)
          have HG : Hid (partialIns ltInt a b s (p + 1) d4 = r) := by
            have q := HO.out
            rw [partialIns] at q
            simp only [HU.out, if_neg hib', if_neg h50, Nat.add_sub_cancel, hd2, hd3, hd4] at q
            exact q
          have HD3 : Hid _ := hd3
          have HD4 : Hid _ := hd4
          clear hd2 hd3 hd4 HU HO hs1
          go_upto_if 61 with fail
          go_cut [] from 42 to 132 (fun wc => Hid (SR w wc blk N d3))
          case first =>
            by_cases h2 : p + 1 - a ≥ 2
            · have h2i : (2 : Int) ≤ ((p + 1 : Nat) : Int) - (a : Int) := by omega
              have h2j : (2 : Int) ≤ (p : Int) + 1 - (a : Int) := by omega
              have HD : Hid (shiftDown ltInt p d2 = d3) := by have q := HD3.out; rw [if_pos h2] at q; exact q
              go_wp2
              go_loopw [9] (fun vj wr => ∃ (j : Nat) (dj : Array Int), vj = .int .i64 j ∧ j ≤ p ∧ dj.size = n ∧ Hid (SR w wr blk N dj) ∧ Hid (shiftDown ltInt j dj = d3)) (fun vj _ => (intOf vj).toNat)
              case atStart => exact ⟨p, d2, by go_num, Nat.le_refl _, hs2, S3, HD⟩
              case round =>
                obtain ⟨j, dj, rfl, hjp, hsj, HT, HO⟩ := hrel
                clear S3
                cases j with
                | zero =>
                  rw [show (((0 : Nat) : Int)) = 0 from rfl]
                  go_wp2
                  go_meet
                  case rel =>
                    have q : dj = d3 := HO.out
                    rw [← q]
                    exact HT.out
                | succ q =>
                  obtain ⟨x, hx⟩ : ∃ x, dj[q + 1]! = x := ⟨_, rfl⟩
                  obtain ⟨y, hy⟩ : ∃ y, dj[q]! = y := ⟨_, rfl⟩
                  have c0 := HT.out.2.cell (j := q + 1) (by omega)
                  have f0 := HT.out.2.frozen (q + 1)
                  have c1 := HT.out.2.cell (j := q) (by omega)
                  have f1 := HT.out.2.frozen q
                  rw [hx] at c0
                  rw [hy] at c1
                  have HX : Hid _ := hx
                  have HY : Hid _ := hy
                  clear hx hy
                  have h1i : (1 : Int) ≤ ((q + 1 : Nat) : Int) := by omega
                  go_wp2
                  go_quiet (first | (go_at_call 45; refine Calls.quiet_of_same (so_less _ _ _)))
                  go_wp2
                  · have hl : ltInt x y = false := by
                      have : (!ltInt x y) = true := by assumption
                      simpa using this
                    go_meet
                    case rel =>
                      have q1 := HO.out
                      rw [sdn_stop dj q (by rw [HX.out, HY.out, hl])] at q1
                      rw [← q1]
                      exact HT.out.drewN _
                  · have hl : ltInt x y = true := by
                      have : (!ltInt x y) = false := by assumption
                      simpa using this
                    have HT2 : Hid (SR w (wr.drewN nq) blk N dj) := HT.out.drewN _
                    have HG2 : Hid (shiftDown ltInt q (swp dj (q + 1) q) = d3) := (sdn_go dj q (by rw [HX.out, HY.out, hl])).symm.trans HO.out
                    clear c0 f0 c1 f1 HT HX HY
                    generalize wr.drewN nq = wr2 at HT2 ⊢
                    clear nq
                    obtain ⟨x, hx⟩ : ∃ x, dj[q + 1]! = x := ⟨_, rfl⟩
                    obtain ⟨y, hy⟩ : ∃ y, dj[q]! = y := ⟨_, rfl⟩
                    have c0 := HT2.out.2.cell (j := q + 1) (by omega)
                    have f0 := HT2.out.2.frozen (q + 1)
                    have c1 := HT2.out.2.cell (j := q) (by omega)
                    have f1 := HT2.out.2.frozen (q)
                    rw [hx] at c0
                    rw [hy] at c1
                    have U1 := ((HT2.out.set (j := q + 1) (by omega) y).drew).2
                    have e1 := U1.cell (j := q) (by simp; omega)
                    have e2 := U1.frozen (q)
                    obtain ⟨z, hz⟩ : ∃ z, (dj.setIfInBounds (q + 1) y)[q]! = z := ⟨_, rfl⟩
                    rw [hz] at e1
                    have S5 : Hid _ := HT2.out.swapD (i := q + 1) (j := q) (by omega) (by omega) hx hy
                    clear hz U1 hx hy HT2
                    go_wp2
                    go_region
                    clear c0 f0 c1 f1 e1 e2
                    generalize ((wr2.setCell ⟨blk, q + 1, none⟩ (.int .u64 y)).setCell ⟨blk, q, none⟩ (.int .u64 x)).drew = w5 at S5 ⊢
                    go_wp2
                    go_roundw
                    case rel => exact ⟨q, swp dj (q + 1) q, by go_num, by omega, by rw [size_swp]; exact hsj, S5, HG2⟩
                    case measure => simp [intOf] <;> omega
            · have h2i : ¬ (2 : Int) ≤ ((p + 1 : Nat) : Int) - (a : Int) := by omega
              have h2j : ¬ (2 : Int) ≤ (p : Int) + 1 - (a : Int) := by omega
              have HD : Hid (d2 = d3) := by have q := HD3.out; rw [if_neg h2] at q; exact q
              go_wp2
              go_meet
              case rel =>
                rw [← HD.out]
                exact S3.out
          case rest =>
            have T3 : Hid (SR w wc blk N d3) := hcut
            clear hcut S3 HD3
            by_cases h2 : b - (p + 1) ≥ 2
            · have h2i : (2 : Int) ≤ (b : Int) - ((p + 1 : Nat) : Int) := by omega
              have h2j : (2 : Int) ≤ (b : Int) - ((p : Int) + 1) := by omega
              have HD : Hid (shiftUp ltInt b (p + 1 + 1) d3 = d4) := by have q := HD4.out; rw [if_pos h2] at q; exact q
              go_wp2
              go_loopw [10] (fun vj wr => ∃ (j : Nat) (dj : Array Int), vj = .int .i64 j ∧ 1 ≤ j ∧ j ≤ b ∧ dj.size = n ∧ Hid (SR w wr blk N dj) ∧ Hid (shiftUp ltInt b j dj = d4)) (fun vj _ => b - (intOf vj).toNat)
              case atStart => exact ⟨p + 1 + 1, d3, by go_num, by omega, by omega, hs3, T3, HD⟩
              case round =>
                obtain ⟨j, dj, rfl, hj1, hjb, hsj, HT, HO⟩ := hrel
                clear T3
                obtain ⟨q, rfl⟩ : ∃ q, j = q + 1 := ⟨j - 1, by omega⟩
                by_cases hqb : q + 1 < b
                · obtain ⟨x, hx⟩ : ∃ x, dj[q + 1]! = x := ⟨_, rfl⟩
                  obtain ⟨y, hy⟩ : ∃ y, dj[q]! = y := ⟨_, rfl⟩
                  have c0 := HT.out.2.cell (j := q + 1) (by omega)
                  have f0 := HT.out.2.frozen (q + 1)
                  have c1 := HT.out.2.cell (j := q) (by omega)
                  have f1 := HT.out.2.frozen q
                  rw [hx] at c0
                  rw [hy] at c1
                  have HX : Hid _ := hx
                  have HY : Hid _ := hy
                  clear hx hy
                  have h1i : ((q + 1 : Nat) : Int) < (b : Int) := by omega
                  have h1j : (q : Int) + 1 < (b : Int) := by omega
                  go_wp2
                  go_quiet (first | (go_at_call 45; refine Calls.quiet_of_same (so_less _ _ _)))
                  go_wp2
                  · have hl : ltInt x y = false := by
                      have : (!ltInt x y) = true := by assumption
                      simpa using this
                    go_roundw
                    case rel => exact ⟨t + 1, s, p + 1, d4, by go_num, by omega, by go_num, by omega, by omega, hs4, by (have q1 := HO.out; rw [su_stop dj b q hqb (by rw [HX.out, HY.out, hl])] at q1; rw [← q1]; exact HT.out.drewN _), HG⟩
                    case measure => simp [intOf] <;> omega
                  · have hl : ltInt x y = true := by
                      have : (!ltInt x y) = false := by assumption
                      simpa using this
                    have HT2 : Hid (SR w (wr.drewN nq) blk N dj) := HT.out.drewN _
                    have HG2 : Hid (shiftUp ltInt b (q + 1 + 1) (swp dj (q + 1) q) = d4) := (su_go dj b q hqb (by rw [HX.out, HY.out, hl])).symm.trans HO.out
                    clear c0 f0 c1 f1 HT HX HY
                    generalize wr.drewN nq = wr2 at HT2 ⊢
                    clear nq
                    obtain ⟨x, hx⟩ : ∃ x, dj[q + 1]! = x := ⟨_, rfl⟩
                    obtain ⟨y, hy⟩ : ∃ y, dj[q]! = y := ⟨_, rfl⟩
                    have c0 := HT2.out.2.cell (j := q + 1) (by omega)
                    have f0 := HT2.out.2.frozen (q + 1)
                    have c1 := HT2.out.2.cell (j := q) (by omega)
                    have f1 := HT2.out.2.frozen (q)
                    rw [hx] at c0
                    rw [hy] at c1
                    have U1 := ((HT2.out.set (j := q + 1) (by omega) y).drew).2
                    have e1 := U1.cell (j := q) (by simp; omega)
                    have e2 := U1.frozen (q)
                    obtain ⟨z, hz⟩ : ∃ z, (dj.setIfInBounds (q + 1) y)[q]! = z := ⟨_, rfl⟩
                    rw [hz] at e1
                    have S5 : Hid _ := HT2.out.swapD (i := q + 1) (j := q) (by omega) (by omega) hx hy
                    clear hz U1 hx hy HT2
                    go_wp2
                    go_region
                    clear c0 f0 c1 f1 e1 e2
                    generalize ((wr2.setCell ⟨blk, q + 1, none⟩ (.int .u64 y)).setCell ⟨blk, q, none⟩ (.int .u64 x)).drew = w5 at S5 ⊢
                    go_wp2
                    go_roundw
                    case rel => exact ⟨q + 1 + 1, swp dj (q + 1) q, by go_num, by omega, by omega, by rw [size_swp]; exact hsj, S5, HG2⟩
                    case measure => simp [intOf] <;> omega
                · have h1i : ¬ ((q + 1 : Nat) : Int) < (b : Int) := by omega
                  have h1j : ¬ (q : Int) + 1 < (b : Int) := by omega
                  go_wp2
                  go_roundw
                  case rel => exact ⟨t + 1, s, p + 1, d4, by go_num, by omega, by go_num, by omega, by omega, hs4, by (have q1 := HO.out; rw [su_end dj b (q + 1) hqb] at q1; rw [← q1]; exact HT.out), HG⟩
                  case measure => simp [intOf] <;> omega
            · have h2i : ¬ (2 : Int) ≤ (b : Int) - ((p + 1 : Nat) : Int) := by omega
              have h2j : ¬ (2 : Int) ≤ (b : Int) - ((p : Int) + 1) := by omega
              have HD : Hid (d3 = d4) := by have q := HD4.out; rw [if_neg h2] at q; exact q
              go_wp2
              go_roundw
              case rel => exact ⟨t + 1, s, p + 1, d4, by go_num, by omega, by go_num, by omega, by omega, hs4, by (rw [← HD.out]; exact T3.out), HG⟩
              case measure => simp [intOf] <;> omega
end
section
open Go.RowKit Go.Sort
/-- A variable of 64 bits. -/
def Cu (w : World) (sb : Nat) (x : Nat) : Prop := ∃ e, w.heap[sb]? = some (.cells #[.int .u64 x] e (0, 0))
theorem Cu.cell {w : World} {sb s : Nat} (h : Cu w sb s) : w.cell? ⟨sb, 0, none⟩ = some (.int .u64 s) := by
  obtain ⟨e, h⟩ := h
  simp [World.cell?, h]
theorem Cu.frozen {w : World} {sb s : Nat} (h : Cu w sb s) : w.frozen? ⟨sb, 0, none⟩ = false := by
  obtain ⟨e, h⟩ := h
  simp [World.frozen?, h]
theorem Cu.set {w : World} {sb s : Nat} (h : Cu w sb s) (t : Nat) : Cu (w.setCell ⟨sb, 0, none⟩ (.int .u64 t)) sb t := by
  obtain ⟨e, h⟩ := h
  refine ⟨e, ?_⟩
  show (w.heap.modify sb _)[sb]? = _
  rw [Array.getElem?_modify, if_pos rfl, h]
  rfl
theorem Cu.drew {w : World} {sb s : Nat} (h : Cu w sb s) : Cu w.drew sb s := h
theorem grown_drew {w w' : World} {row : Option Nat} (h : w.grownBy w' row) : w.grownBy w'.drew row := ⟨h.os, h.tape, h.output, h.size, h.block⟩
set_option maxHeartbeats 1000000 in
theorem so_next (sb x : Nat) (hx : x < 18446744073709551616) (w : World) (hc : Cu w sb x) :
    Calls Try.prog 61 #[.pointer (some ⟨sb, 0, none⟩)] w fun v w' => v = .returned (.int .u64 (xorNextN x : Nat)) ∧ w.grownBy w' (some sb) ∧ Cu w' sb (xorNextN x) := by
  obtain ⟨p, hp⟩ : ∃ p : Nat, x ^^^ (x * 8192 % 18446744073709551616) = p := ⟨_, rfl⟩
  obtain ⟨q, hq⟩ : ∃ q : Nat, p ^^^ (p / 128) = q := ⟨_, rfl⟩
  obtain ⟨r, hr⟩ : ∃ r : Nat, q ^^^ (q * 131072 % 18446744073709551616) = r := ⟨_, rfl⟩
  have lp : p < 18446744073709551616 := by rw [← hp]; exact Nat.xor_lt_two_pow (n := 64) (by omega) (by omega)
  have lq : q < 18446744073709551616 := by rw [← hq]; exact Nat.xor_lt_two_pow (n := 64) (by omega) (by omega)
  have e1 : bits .xor .u64 (x : Int) (IntKind.u64.wrap ((x : Int) * 8192)) = (p : Int) := by
    rw [IntKind.wrap_u64, show (x : Int) * 8192 % 18446744073709551616 = ((x * 8192 % 18446744073709551616 : Nat) : Int) by omega, bits_xor_u64_nat _ _ hx (by omega), hp]
  have e2 : bits .xor .u64 (p : Int) ((p : Int) / 128) = (q : Int) := by
    rw [show (p : Int) / 128 = ((p / 128 : Nat) : Int) by omega, bits_xor_u64_nat _ _ lp (by omega), hq]
  have e3 : bits .xor .u64 (q : Int) (IntKind.u64.wrap ((q : Int) * 131072)) = (r : Int) := by
    rw [IntKind.wrap_u64, show (q : Int) * 131072 % 18446744073709551616 = ((q * 131072 % 18446744073709551616 : Nat) : Int) by omega, bits_xor_u64_nat _ _ lq (by omega), hr]
  have hv : xorNextN x = r := by unfold xorNextN; simp only [hp, hq, hr]
  rw [hv]
  clear hp hq hr hv
  have c0 := hc.cell
  have f0 := hc.frozen
  have H1 : Hid (w.grownBy (w.setCell ⟨sb, 0, none⟩ (.int .u64 p)).drew (some sb) ∧ Cu (w.setCell ⟨sb, 0, none⟩ (.int .u64 p)).drew sb p) := ⟨grown_drew (grown_setCell _ _ _ _), hc.set p⟩
  clear hc
  go_enter Try.func61, Try.ntmps61
  go_wp2
  go_region
  clear c0 f0
  generalize (w.setCell ⟨sb, 0, none⟩ (.int .u64 p)).drew = w1 at H1 ⊢
  have c1 := H1.out.2.cell
  have f1 := H1.out.2.frozen
  have H2 : Hid (w.grownBy (w1.setCell ⟨sb, 0, none⟩ (.int .u64 q)).drew (some sb) ∧ Cu (w1.setCell ⟨sb, 0, none⟩ (.int .u64 q)).drew sb q) := ⟨H1.out.1.trans (grown_drew (grown_setCell _ _ _ _)), H1.out.2.set q⟩
  clear H1
  go_wp2
  go_region
  clear c1 f1
  generalize (w1.setCell ⟨sb, 0, none⟩ (.int .u64 q)).drew = w2 at H2 ⊢
  have c2 := H2.out.2.cell
  have f2 := H2.out.2.frozen
  have H3 : Hid (w.grownBy (w2.setCell ⟨sb, 0, none⟩ (.int .u64 r)).drew (some sb) ∧ Cu (w2.setCell ⟨sb, 0, none⟩ (.int .u64 r)).drew sb r) := ⟨H2.out.1.trans (grown_drew (grown_setCell _ _ _ _)), H2.out.2.set r⟩
  clear H2
  go_wp2
  go_region
  clear c2 f2
  generalize (w2.setCell ⟨sb, 0, none⟩ (.int .u64 r)).drew = w3 at H3 ⊢
  have c3 := H3.out.2.cell
  go_wp2
  go_ret
  exact ⟨rfl, H3.out.1, H3.out.2⟩
theorem so_bitLen (x : Nat) (h : x < 2 ^ 64) : Lib.bitLen x = bitsLen x := by
  induction x using Nat.strongRecOn with
  | _ x ih =>
    rcases Nat.eq_zero_or_pos x with h0 | h0
    · subst h0; rfl
    · have h1 : x ≠ 0 := by omega
      rw [Lib.bitLen_half x h1 h, ih (x / 2) (by omega) (by omega)]
      unfold bitsLen
      rw [if_neg h1, Nat.log2_def x]
      by_cases h2 : 2 ≤ x
      · rw [if_pos h2, if_neg (by omega)]; omega
      · obtain rfl : x = 1 := by omega
        rfl
theorem so_pow2 (n : Nat) (hn : n < 2305843009213693952) (w : World) : Calls Try.prog 60 #[.int .i64 n] w fun x w' => x = .returned (.int .u64 ((1 <<< bitsLen n : Nat) : Int)) ∧ w' = w := by
  have hl := Any.bits_Len Try.lenA (n : Int) w (by omega) (by omega)
  rw [Int.toNat_natCast, so_bitLen _ (by omega)] at hl
  have hk : bitsLen n ≤ 62 := (bitsLen_le_iff n 62).2 (by omega)
  have hp : IntKind.u64.wrap ((2 : Int) ^ bitsLen n) = ((1 <<< bitsLen n : Nat) : Int) := by
    have h2 : (2 : Nat) ^ bitsLen n ≤ 2 ^ 62 := Nat.pow_le_pow_right (by decide) hk
    rw [IntKind.wrap_u64, Nat.one_shiftLeft, show ((2 : Int) ^ bitsLen n) = ((2 ^ bitsLen n : Nat) : Int) by push_cast; rfl]
    generalize (2 : Nat) ^ bitsLen n = q at h2
    omega
  go_enter Try.func60, Try.ntmps60
  go_wp2_with (first | (go_at_call 37; refine hl.mono ?_; rintro e w' ⟨rfl, rfl⟩))
  go_ret
  exact ⟨rfl, rfl⟩
theorem SR.aside {w w1 w2 : World} {blk N sb : Nat} {d : Array Int} (h : SR w w1 blk N d) (k : w1.grownBy w2 (some sb)) (hs : w.heap.size ≤ sb) (hne : some blk ≠ some sb) : SR w w2 blk N d :=
  ⟨⟨k.os.trans h.1.os, k.tape.trans h.1.tape, k.output.trans h.1.output, Nat.le_trans h.1.size k.size, fun j hj hjb => (k.block j (Nat.lt_of_lt_of_le hj h.1.size) (fun e => by cases e; omega)).trans (h.1.block j hj hjb)⟩, h.2.kept k hne⟩
theorem Cu.kept {w w' : World} {row : Option Nat} {sb s : Nat} (h : Cu w sb s) (hg : w.grownBy w' row) (hne : some sb ≠ row) : Cu w' sb s := by
  obtain ⟨e, h⟩ := h
  exact ⟨e, (hg.block sb (Array.getElem?_eq_some_iff.1 h).1 hne).trans h⟩
/-- So many rounds are left. -/
def bpr (a l m i0 : Nat) : Nat → Nat → UInt64 × Array Int → Array Int
  | 0, _, st => st.2
  | k + 1, t, st => bpr a l m i0 k (t + 1) (breakStep a l m st (i0 + t))
theorem bpr_eq (d : Array Int) (a l : Nat) (h8 : 8 ≤ l) : breakPatterns d a (a + l) = bpr a l (1 <<< bitsLen l) (a + l / 4 * 2 - 1) 3 0 (UInt64.ofNat l, d) := by
  unfold breakPatterns
  simp only [Nat.add_sub_cancel_left]
  rw [if_pos h8]
  rfl
theorem bpr_go (a l m i0 k t : Nat) (r : UInt64) (d : Array Int) (o : Nat) (ho : (if xorNextN r.toNat &&& (m - 1) ≥ l then (xorNextN r.toNat &&& (m - 1)) - l else xorNextN r.toNat &&& (m - 1)) = o) :
    bpr a l m i0 (k + 1) t (r, d) = bpr a l m i0 k (t + 1) (xorNext r, swp d (i0 + t) (a + o)) := by
  rw [← xorNext_toNat] at ho
  rw [bpr]
  unfold breakStep
  simp only [ho]
set_option maxHeartbeats 1000000 in
set_option maxRecDepth 100000 in
theorem so_breakP (blk N cap n a l : Nat) (d : Array Int) (w : World) (hR : Rw w blk N d) (hn : d.size = n) (hl : 12 < l) (hb : a + l ≤ n) (hn2 : n < 2305843009213693952) :
    Calls Try.prog 41 #[.slice (some ⟨blk, 0, none⟩) n cap, .int .i64 a, .int .i64 ((a + l : Nat) : Int)] w fun x w' =>
      x = .returned (.tuple #[]) ∧ SR w w' blk N (breakPatterns d a (a + l)) := by
  obtain ⟨b, hbl⟩ : ∃ b, a + l = b := ⟨_, rfl⟩
  have hbi : (b : Int) - (a : Int) = (l : Int) := by omega
  obtain ⟨m, hm⟩ : ∃ m, 1 <<< bitsLen l = m := ⟨_, rfl⟩
  have hm1 : 1 ≤ m := by rw [← hm, Nat.one_shiftLeft]; exact Nat.two_pow_pos _
  have hm2 : m ≤ 2 * l := by rw [← hm, Nat.one_shiftLeft]; exact two_pow_bitsLen_le (by omega)
  obtain ⟨q, hq⟩ : ∃ q, l / 4 = q := ⟨_, rfl⟩
  have hqi : (l : Int) / 4 = (q : Int) := by omega
  have hq3 : 3 ≤ q := by omega
  have hqn : a + q * 2 + 3 < n := by omega
  obtain ⟨i0, hi0⟩ : ∃ i0, a + q * 2 - 1 = i0 := ⟨_, rfl⟩
  have hI : (a : Int) + (q : Int) * 2 - 1 = (i0 : Int) := by omega
  have hJ : (a : Int) + (q : Int) * 2 + 1 = (i0 : Int) + 2 := by omega
  have hin : i0 + 3 < n := by omega
  have hp := fun w => so_pow2 l (by omega) w
  rw [hm] at hp
  have HB : Hid (breakPatterns d a (a + l) = bpr a l m i0 3 0 (UInt64.ofNat l, d)) := by rw [← hm, ← hi0, ← hq]; exact bpr_eq d a l (by omega)
  have han : a + l ≤ n := hb
  rw [hbl] at HB ⊢
  have HR : Hid (Rw w blk N d) := hR
  clear hbl hm hq hi0 hR
  go_enter Try.func41, Try.ntmps41
  go_wp2_with (first | (go_at_call 60; refine (hp _).mono ?_; rintro e w' ⟨rfl, rfl⟩))
  have hbk := HR.out.lt
  have HS0 : Hid (SR w (w.alloc (.cells #[.int .u64 (l : Int)] 84)) blk N d) := ⟨World.grownBy_alloc _ _ _, HR.out.kept (World.grownBy_alloc _ _ none) (by simp)⟩
  have HC0 : Hid (Cu (w.alloc (.cells #[.int .u64 (l : Int)] 84)) w.heap.size (UInt64.ofNat l).toNat) := ⟨84, by
    show (w.heap.push _)[w.heap.size]? = _
    rw [show (UInt64.ofNat l).toNat = l by simp; omega]
    simp⟩
  generalize w.alloc (.cells #[.int .u64 (l : Int)] 84) = w0 at HS0 HC0 ⊢
  go_loopw [9] (fun vi wr => ∃ (t k : Nat) (r : UInt64) (dk : Array Int), vi = .int .i64 ((i0 + t : Nat) : Int) ∧ k + t = 3 ∧ dk.size = n ∧ Hid (SR w wr blk N dk) ∧ Hid (Cu wr w.heap.size r.toNat) ∧ Hid (bpr a l m i0 k t (r, dk) = breakPatterns d a b)) (fun vi _ => i0 + 3 - (intOf vi).toNat)
  case atStart => exact ⟨0, 3, UInt64.ofNat l, d, by first | rfl | (congr 1), rfl, hn, HS0, HC0, HB.out.symm⟩
  case round =>
    obtain ⟨t, k, r, dk, rfl, hkt, hs1, HT, HC, HO⟩ := hrel
    clear HS0 HC0
    cases k with
    | zero =>
      have ht3 : ¬ ((i0 + t : Nat) : Int) ≤ (i0 : Int) + 2 := by omega
      have ht4 : ¬ (t : Int) ≤ 2 := by omega
      go_wp2
      go_end0
      have q : dk = breakPatterns d a b := HO.out
      rw [← q]
      exact ⟨rfl, HT.out⟩
    | succ k =>
      have ht3 : ((i0 + t : Nat) : Int) ≤ (i0 : Int) + 2 := by omega
      have ht4 : (t : Int) ≤ 2 := by omega
      have ht5 : (i0 : Int) + (t : Int) ≤ (i0 : Int) + 2 := by omega
      obtain ⟨x, hx⟩ : ∃ x, r.toNat = x := ⟨_, rfl⟩
      have lx : x < 18446744073709551616 := by rw [← hx]; exact r.toNat_lt
      rw [hx] at HC
      obtain ⟨y, hy⟩ : ∃ y, xorNextN x = y := ⟨_, rfl⟩
      have ly : y < 18446744073709551616 := by rw [← hy]; exact xorNextN_lt x lx
      have hc := so_next w.heap.size x lx wr HC.out
      rw [hy] at hc
      obtain ⟨o1, ho1⟩ : ∃ o1, y &&& (m - 1) = o1 := ⟨_, rfl⟩
      have hle : o1 ≤ m - 1 := by rw [← ho1]; exact Nat.and_le_right
      have hA : bits .and .u64 (y : Int) ((m : Int) - 1) = (o1 : Int) := by
        rw [show (m : Int) - 1 = ((m - 1 : Nat) : Int) by omega, bits_and_u64_nat _ _ ly (by omega), ho1]
      have hwm : IntKind.u64.wrap ((m : Int) - 1) = (m : Int) - 1 := by rw [IntKind.wrap_u64]; omega
      have hwo : IntKind.i64.wrap (o1 : Int) = (o1 : Int) := by rw [IntKind.wrap_i64]; omega
      have HX : Hid _ := hx
      have HY : Hid _ := hy
      have HO1 : Hid _ := ho1
      clear hx hy ho1
      have hsb : some blk ≠ some w.heap.size := fun e => by cases e; exact absurd hbk (Nat.lt_irrefl _)
      obtain ⟨o, ho, hol⟩ : ∃ o, (if o1 ≥ l then o1 - l else o1) = o ∧ o < l := ⟨_, rfl, by split <;> omega⟩
      have HGo : Hid (bpr a l m i0 k (t + 1) (xorNext r, swp dk (i0 + t) (a + o)) = breakPatterns d a b) := (bpr_go a l m i0 k t r dk o (by rw [HX.out, HY.out, HO1.out]; exact ho)).symm.trans HO.out
      have HNx : Hid (y = (xorNext r).toNat) := by rw [xorNext_toNat, HX.out, HY.out]; exact rfl
      have bo : (a : Int) + (o : Int) < (n : Int) := by omega
      have wo : IntKind.i64.wrap ((a : Int) + (o : Int)) = (a : Int) + (o : Int) := by rw [IntKind.wrap_i64]; omega
      have po : (0 : Int) ≤ (a : Int) + (o : Int) := by omega
      have tno : ((a : Int) + (o : Int)).toNat = a + o := by omega
      by_cases h1 : l ≤ o1
      · have h1i : (l : Int) ≤ (o1 : Int) := by omega
        have h1o : (o1 : Int) - (l : Int) = (o : Int) := by rw [if_pos h1] at ho; omega
        clear ho
        go_wp2_with (first | (go_at_call 61; refine hc.mono ?_; rintro e w2 ⟨rfl, hg2, hC2⟩))
        have HT2 : Hid (SR w w2 blk N dk) := HT.out.aside hg2 (Nat.le_refl _) hsb
        have HC2 : Hid (Cu w2 w.heap.size y) := hC2
        clear hg2 hC2 hc HT HC
        obtain ⟨x_1, hx⟩ : ∃ x_1, dk[i0 + t]! = x_1 := ⟨_, rfl⟩
        obtain ⟨y_1, hy⟩ : ∃ y_1, dk[a + o]! = y_1 := ⟨_, rfl⟩
        have c0 := HT2.out.2.cell (j := i0 + t) (by omega)
        have f0 := HT2.out.2.frozen (i0 + t)
        have c1 := HT2.out.2.cell (j := a + o) (by omega)
        have f1 := HT2.out.2.frozen (a + o)
        rw [hx] at c0
        rw [hy] at c1
        have U1 := ((HT2.out.set (j := i0 + t) (by omega) y_1).drew).2
        have e1 := U1.cell (j := a + o) (by simp; omega)
        have e2 := U1.frozen (a + o)
        obtain ⟨z, hz⟩ : ∃ z, (dk.setIfInBounds (i0 + t) y_1)[a + o]! = z := ⟨_, rfl⟩
        rw [hz] at e1
        have S4 : Hid _ := HT2.out.swapD (i := i0 + t) (j := a + o) (by omega) (by omega) hx hy
        have HC3 : Hid (Cu ((w2.setCell ⟨blk, i0 + t, none⟩ (.int .u64 y_1)).setCell ⟨blk, a + o, none⟩ (.int .u64 x_1)).drew w.heap.size y) := (HC2.out.kept (grown_setCell _ _ _ _) (Ne.symm hsb)).kept (grown_drew (grown_setCell _ _ _ _)) (Ne.symm hsb)
        clear hz U1 hx hy HT2 HC2
        go_wp2
        go_region
        clear c0 f0 c1 f1 e1 e2
        generalize ((w2.setCell ⟨blk, i0 + t, none⟩ (.int .u64 y_1)).setCell ⟨blk, a + o, none⟩ (.int .u64 x_1)).drew = w4 at S4 HC3 ⊢
        go_wp2
        go_roundw
        case rel => exact ⟨t + 1, k, xorNext r, swp dk (i0 + t) (a + o), by go_num, by omega, by rw [size_swp]; exact hs1, S4, (by rw [← HNx.out]; exact HC3), HGo⟩
        case measure => simp [intOf] <;> omega
      · have h1i : ¬ (l : Int) ≤ (o1 : Int) := by omega
        obtain rfl : o1 = o := by rw [if_neg h1] at ho; exact ho
        clear ho
        go_wp2_with (first | (go_at_call 61; refine hc.mono ?_; rintro e w2 ⟨rfl, hg2, hC2⟩))
        have HT2 : Hid (SR w w2 blk N dk) := HT.out.aside hg2 (Nat.le_refl _) hsb
        have HC2 : Hid (Cu w2 w.heap.size y) := hC2
        clear hg2 hC2 hc HT HC
        obtain ⟨x_1, hx⟩ : ∃ x_1, dk[i0 + t]! = x_1 := ⟨_, rfl⟩
        obtain ⟨y_1, hy⟩ : ∃ y_1, dk[a + o1]! = y_1 := ⟨_, rfl⟩
        have c0 := HT2.out.2.cell (j := i0 + t) (by omega)
        have f0 := HT2.out.2.frozen (i0 + t)
        have c1 := HT2.out.2.cell (j := a + o1) (by omega)
        have f1 := HT2.out.2.frozen (a + o1)
        rw [hx] at c0
        rw [hy] at c1
        have U1 := ((HT2.out.set (j := i0 + t) (by omega) y_1).drew).2
        have e1 := U1.cell (j := a + o1) (by simp; omega)
        have e2 := U1.frozen (a + o1)
        obtain ⟨z, hz⟩ : ∃ z, (dk.setIfInBounds (i0 + t) y_1)[a + o1]! = z := ⟨_, rfl⟩
        rw [hz] at e1
        have S4 : Hid _ := HT2.out.swapD (i := i0 + t) (j := a + o1) (by omega) (by omega) hx hy
        have HC3 : Hid (Cu ((w2.setCell ⟨blk, i0 + t, none⟩ (.int .u64 y_1)).setCell ⟨blk, a + o1, none⟩ (.int .u64 x_1)).drew w.heap.size y) := (HC2.out.kept (grown_setCell _ _ _ _) (Ne.symm hsb)).kept (grown_drew (grown_setCell _ _ _ _)) (Ne.symm hsb)
        clear hz U1 hx hy HT2 HC2
        go_wp2
        go_region
        clear c0 f0 c1 f1 e1 e2
        generalize ((w2.setCell ⟨blk, i0 + t, none⟩ (.int .u64 y_1)).setCell ⟨blk, a + o1, none⟩ (.int .u64 x_1)).drew = w4 at S4 HC3 ⊢
        go_wp2
        go_roundw
        case rel => exact ⟨t + 1, k, xorNext r, swp dk (i0 + t) (a + o1), by go_num, by omega, by rw [size_swp]; exact hs1, S4, (by rw [← HNx.out]; exact HC3), HGo⟩
        case measure => simp [intOf] <;> omega
end
section
open Go.RowKit Go.Sort
theorem size_insInner (a : Nat) : ∀ (j : Nat) (d : Array Int), (insInner ltInt a j d).size = d.size
  | 0, d => rfl
  | j + 1, d => by
    rw [insInner]
    split
    · rw [size_insInner a j, size_swp]
    · rfl
theorem size_insOuter (a b i : Nat) (d : Array Int) : (insOuter ltInt a b i d).size = d.size := by
  induction h : b - i using Nat.strongRecOn generalizing i d with
  | _ m ih =>
    rw [insOuter]
    split
    · rw [ih (b - (i + 1)) (by omega) _ _ rfl, size_insInner]
    · rfl
theorem size_insertion (a b : Nat) (d : Array Int) : (insertionSort ltInt d a b).size = d.size := size_insOuter a b (a + 1) d
theorem size_heapBuild (hi first : Nat) : ∀ (k : Nat) (d : Array Int), (heapBuild ltInt hi first k d).size = d.size
  | 0, _ => rfl
  | k + 1, d => by rw [heapBuild, size_heapBuild hi first k, size_siftDown]
theorem size_heapPop (first : Nat) : ∀ (k : Nat) (d : Array Int), (heapPop ltInt first k d).size = d.size
  | 0, _ => rfl
  | k + 1, d => by rw [heapPop, size_heapPop first k, size_siftDown, size_swp]
theorem size_heapSort (a b : Nat) (d : Array Int) : (heapSort ltInt d a b).size = d.size := by
  unfold heapSort
  rw [size_heapPop, size_heapBuild]
theorem size_breakP (a b : Nat) (d : Array Int) : (breakPatterns d a b).size = d.size := by
  unfold breakPatterns breakStep
  simp only []
  split
  · simp only [size_swp]
  · rfl
theorem size_partialIns (a b : Nat) : ∀ (s i : Nat) (d : Array Int), (partialIns ltInt a b s i d).1.size = d.size
  | 0, _, _ => rfl
  | s + 1, i, d => by
    rw [partialIns]
    simp only []
    split
    · rfl
    split
    · rfl
    rw [size_partialIns a b s]
    split <;> split <;> simp only [size_shiftUp, size_shiftDown, size_swp]
theorem size_partEqLoop (a i j : Nat) (d : Array Int) : (partEqLoop ltInt a i j d).2.size = d.size := by
  induction h : j + 1 - i using Nat.strongRecOn generalizing i j d with
  | _ m ih =>
    rw [partEqLoop]
    split
    · rfl
    split
    · rename_i h2
      rw [ih _ (by subst h; exact h2) _ _ _ rfl, size_swp]
    · rfl
theorem size_partLoop (a i j : Nat) (d : Array Int) : (partLoop ltInt a i j d).2.size = d.size := by
  induction h : j + 1 - i using Nat.strongRecOn generalizing i j d with
  | _ m ih =>
    rw [partLoop]
    split
    · rfl
    split
    · rename_i h2
      rw [ih _ (by subst h; exact h2) _ _ _ rfl, size_swp]
    · rfl
theorem size_partEq (a b p : Nat) (d : Array Int) : (partitionEqual ltInt d a b p).2.size = d.size := by
  unfold partitionEqual
  rw [size_partEqLoop, size_swp]
theorem size_partition (a b p : Nat) (d : Array Int) : (partition ltInt d a b p).2.2.size = d.size := by
  unfold partition
  simp only []
  split
  · simp only [size_swp]
  · simp only [size_swp, size_partLoop]
/-- From the partial insertion on. -/
def pdqT (d2 : Array Int) (a b limit pivot : Nat) (hint : Go.Sort.Hint) (wb wp : Bool) : Array Int :=
  let pi := if wb && wp && hint = .increasing then partialInsertionSort ltInt d2 a b else (d2, false)
  if pi.2 then pi.1 else
  let d3 := pi.1
  if a > 0 && !ltInt d3[a - 1]! d3[pivot]! then
    match partitionEqual ltInt d3 a b pivot with
    | (mid, d4) => if _h : a < mid ∧ mid ≤ b then pdq ltInt d4 mid b limit wb wp else d4
  else
    match partition ltInt d3 a b pivot with
    | (mid, ap, d4) =>
      if _h : a ≤ mid ∧ mid < b then
        if mid - a < b - mid then pdq ltInt (pdq ltInt d4 a mid limit true true) (mid + 1) b limit (decide (mid - a ≥ (b - a) / 8)) ap
        else pdq ltInt (pdq ltInt d4 (mid + 1) b limit true true) a mid limit (decide (b - mid ≥ (b - a) / 8)) ap
      else d4
theorem pdq_1 (d : Array Int) (a b limit : Nat) (wb wp : Bool) (h : b - a ≤ 12) : pdq ltInt d a b limit wb wp = insertionSort ltInt d a b := by
  rw [pdq, if_pos h]
theorem pdq_2 (d : Array Int) (a b : Nat) (wb wp : Bool) (h : ¬ b - a ≤ 12) : pdq ltInt d a b 0 wb wp = heapSort ltInt d a b := by
  rw [pdq, if_neg h, if_pos rfl]
theorem pdq_3 (d : Array Int) (a b limit : Nat) (wb wp : Bool) (h : ¬ b - a ≤ 12) (h0 : limit ≠ 0) {d1 d2 : Array Int} {lim pivot : Nat} {hint : Go.Sort.Hint} {c : Nat × Go.Sort.Hint}
    (e1 : (if !wb then breakPatterns d a b else d) = d1) (e2 : (if !wb then limit - 1 else limit) = lim) (e3 : choosePivot ltInt d1 a b = c)
    (e4 : (if c.2 = .decreasing then reverseRange d1 a b else d1) = d2) (e5 : (if c.2 = .decreasing then (b - 1) - (c.1 - a) else c.1) = pivot) (e6 : (if c.2 = .decreasing then Go.Sort.Hint.increasing else c.2) = hint) :
    pdq ltInt d a b limit wb wp = pdqT d2 a b lim pivot hint wb wp := by
  rw [pdq, if_neg h, if_neg h0]
  simp only [e1, e2, e3, e4, e5, e6]
  rfl
theorem up_bd (p : Int → Bool) (d : Array Int) (j i : Nat) : i ≤ scanUp p d j i ∧ (scanUp p d j i ≤ i ∨ scanUp p d j i ≤ j + 1) := by
  induction h : j + 1 - i using Nat.strongRecOn generalizing i with
  | _ m ih =>
    by_cases h1 : i ≤ j ∧ p d[i]! = true
    · rw [up_go p d j i h1.1 h1.2]
      obtain ⟨q1, q2⟩ := ih _ (by omega) (i + 1) rfl
      exact ⟨by omega, by omega⟩
    · rw [up_stop p d j i (by
        by_cases h2 : i ≤ j
        · refine .inr ?_
          cases hb : p d[i]! with
          | false => rfl
          | true => exact absurd ⟨h2, hb⟩ h1
        · exact .inl h2)]
      exact ⟨Nat.le_refl _, .inl (Nat.le_refl _)⟩
theorem pe_bd (a i j b : Nat) (d : Array Int) (hi : i ≤ b) (hj : j + 1 ≤ b) : i ≤ (partEqLoop ltInt a i j d).1 ∧ (partEqLoop ltInt a i j d).1 ≤ b := by
  induction h : j + 1 - i using Nat.strongRecOn generalizing i j d with
  | _ m ih =>
    have hb := up_bd (fun x => !ltInt d[a]! x) d j i
    rw [partEqLoop]
    split
    · exact ⟨hb.1, by show scanUp _ _ _ _ ≤ b; omega⟩
    split
    · rename_i h1 h2
      have hd := scanDown_le (fun x => ltInt d[a]! x) d (scanUp (fun x => !ltInt d[a]! x) d j i) j
      obtain ⟨q1, q2⟩ := ih _ (by subst h; exact h2) (scanUp (fun x => !ltInt d[a]! x) d j i + 1) _ (swp d (scanUp (fun x => !ltInt d[a]! x) d j i) _) (by omega) (by omega) rfl
      exact ⟨by omega, q2⟩
    · exact ⟨hb.1, by show scanUp _ _ _ _ ≤ b; omega⟩
theorem pe_range (d : Array Int) (a e pivot : Nat) (h : a ≤ e) : a < (partitionEqual ltInt d a (e + 1) pivot).1 ∧ (partitionEqual ltInt d a (e + 1) pivot).1 ≤ e + 1 := by
  unfold partitionEqual
  have := pe_bd a (a + 1) e (e + 1) (swp d a pivot) (by omega) (by omega)
  rw [Nat.add_sub_cancel]
  exact ⟨by omega, this.2⟩
theorem pdqT_1 {d2 p1 : Array Int} {a b lim pivot : Nat} {hint : Go.Sort.Hint} {wb wp : Bool} (e : (if wb && wp && hint = .increasing then partialInsertionSort ltInt d2 a b else (d2, false)) = (p1, true)) : pdqT d2 a b lim pivot hint wb wp = p1 := by
  unfold pdqT
  simp only [e, if_true]
theorem pdqT_2 {d2 p1 d4 : Array Int} {a b lim pivot mid : Nat} {hint : Go.Sort.Hint} {wb wp : Bool} (e : (if wb && wp && hint = .increasing then partialInsertionSort ltInt d2 a b else (d2, false)) = (p1, false))
    (ht : (decide (a > 0) && !ltInt p1[a - 1]! p1[pivot]!) = true) (hp : partitionEqual ltInt p1 a b pivot = (mid, d4)) (h1 : a < mid) (h2 : mid ≤ b) : pdqT d2 a b lim pivot hint wb wp = pdq ltInt d4 mid b lim wb wp := by
  unfold pdqT
  simp only [e, Bool.false_eq_true, if_false, ht, if_true, hp, dif_pos (And.intro h1 h2)]
theorem pdqT_3 {d2 p1 d4 : Array Int} {a b lim pivot mid : Nat} {hint : Go.Sort.Hint} {wb wp ap : Bool} (e : (if wb && wp && hint = .increasing then partialInsertionSort ltInt d2 a b else (d2, false)) = (p1, false))
    (ht : (decide (a > 0) && !ltInt p1[a - 1]! p1[pivot]!) = false) (hp : partition ltInt p1 a b pivot = (mid, ap, d4)) (h1 : a ≤ mid) (h2 : mid < b) (h3 : mid - a < b - mid) :
    pdqT d2 a b lim pivot hint wb wp = pdq ltInt (pdq ltInt d4 a mid lim true true) (mid + 1) b lim (decide (mid - a ≥ (b - a) / 8)) ap := by
  unfold pdqT
  simp only [e, Bool.false_eq_true, if_false, ht, hp, dif_pos (And.intro h1 h2), if_pos h3]
theorem pdqT_4 {d2 p1 d4 : Array Int} {a b lim pivot mid : Nat} {hint : Go.Sort.Hint} {wb wp ap : Bool} (e : (if wb && wp && hint = .increasing then partialInsertionSort ltInt d2 a b else (d2, false)) = (p1, false))
    (ht : (decide (a > 0) && !ltInt p1[a - 1]! p1[pivot]!) = false) (hp : partition ltInt p1 a b pivot = (mid, ap, d4)) (h1 : a ≤ mid) (h2 : mid < b) (h3 : ¬ mid - a < b - mid) :
    pdqT d2 a b lim pivot hint wb wp = pdq ltInt (pdq ltInt d4 (mid + 1) b lim true true) a mid lim (decide (b - mid ≥ (b - a) / 8)) ap := by
  unfold pdqT
  simp only [e, Bool.false_eq_true, if_false, ht, hp, dif_pos (And.intro h1 h2), if_neg h3]
end
section
open Go.RowKit Go.Sort
theorem SR.more {w w1 w2 : World} {blk N : Nat} {d : Array Int} (h : SR w w1 blk N d) (k : w1.grownBy w2 none) : SR w w2 blk N d :=
  ⟨⟨k.os.trans h.1.os, k.tape.trans h.1.tape, k.output.trans h.1.output, Nat.le_trans h.1.size k.size, fun j hj hjb => (k.block j (Nat.lt_of_lt_of_le hj h.1.size) (fun e => by cases e)).trans (h.1.block j hj hjb)⟩, h.2.kept k (fun e => by cases e)⟩
set_option maxHeartbeats 1000000 in
set_option maxRecDepth 100000 in
theorem so_pdq (blk N cap n : Nat) (hn2 : n < 2305843009213693952) : ∀ (len a b limit : Nat) (d : Array Int) (w : World), b - a ≤ len → Rw w blk N d → d.size = n → a ≤ b → b ≤ n → limit < 2305843009213693952 →
    Calls Try.prog 36 #[.slice (some ⟨blk, 0, none⟩) n cap, .int .i64 a, .int .i64 b, .int .i64 limit] w fun x w' =>
      x = .returned (.tuple #[]) ∧ SR w w' blk N (pdq ltInt d a b limit true true) ∧ (pdq ltInt d a b limit true true).size = n := by
  intro len
  induction len using Nat.strongRecOn with
  | _ len ih =>
  intro a b limit d w hlen hR hn hab hb hlim
  obtain ⟨r, hr⟩ : ∃ r, pdq ltInt d a b limit true true = r := ⟨_, rfl⟩
  rw [hr]
  have IH : Hid _ := ih
  have HT0 : Hid (SR w w blk N d) := SR.refl hR
  clear ih hR
  go_enter Try.func36, Try.ntmps36
  go_wp2
  go_loopw [1, 2, 3, 8, 9] (fun va vb vl vwb vwp wr => ∃ (a' b' lim : Nat) (wb wp : Bool) (dk : Array Int), va = .int .i64 a' ∧ vb = .int .i64 b' ∧ vl = .int .i64 lim ∧ vwb = .bool wb ∧ vwp = .bool wp ∧ a' ≤ b' ∧ b' ≤ n ∧ b' - a' ≤ len ∧ lim < 2305843009213693952 ∧ dk.size = n ∧
      Hid (SR w wr blk N dk) ∧ Hid (pdq ltInt dk a' b' lim wb wp = r)) (fun va vb _ _ _ _ => (intOf vb - intOf va).toNat)
  case atStart => exact ⟨a, b, limit, true, true, d, rfl, rfl, rfl, rfl, rfl, hab, hb, hlen, hlim, hn, HT0, hr⟩
  case round =>
    obtain ⟨a', b', lim, wb, wp, dk, rfl, rfl, rfl, rfl, rfl, hab', hbn', hln', hlm', hs1, HT, HO⟩ := hrel
    clear HT0 hr hab hb hlen hlim hn
    by_cases h12 : b' - a' ≤ 12
    · have h12i : (b' : Int) - (a' : Int) ≤ 12 := by omega
      have hc := so_insertion blk N cap n a' b' dk wr HT.out.2 hs1 hab' hbn' (by omega)
      go_wp2_with (first | (go_at_call 39; refine hc.mono ?_; rintro x w2 ⟨rfl, hS⟩))
      (try simp only [Exit.inBlock, Exit.then]); refine bodyPost_ret (results_none rfl _ _ _) rfl ?_
      have q := HO.out
      rw [pdq_1 dk a' b' lim wb wp h12] at q
      rw [← q]
      exact ⟨rfl, SR.trans HT.out hS, by rw [size_insertion]; exact hs1⟩
    · have h12i : ¬ (b' : Int) - (a' : Int) ≤ 12 := by omega
      obtain ⟨l, HL⟩ : ∃ l, Hid (b' = a' + l) := ⟨b' - a', (by omega : b' = a' + (b' - a'))⟩
      by_cases h0 : lim = 0
      · subst h0
        have hc := so_heapSort blk N cap n a' b' l dk wr HT.out.2 hs1 HL.out hbn' hn2
        rw [show (((0 : Nat) : Int)) = 0 from rfl]
        go_wp2_with (first | (go_at_call 40; refine hc.mono ?_; rintro x w2 ⟨rfl, hS⟩))
        (try simp only [Exit.inBlock, Exit.then]); refine bodyPost_ret (results_none rfl _ _ _) rfl ?_
        have q := HO.out
        rw [pdq_2 dk a' b' wb wp h12] at q
        rw [← q]
        exact ⟨rfl, SR.trans HT.out hS, by rw [size_heapSort]; exact hs1⟩
      · have h0i : ((lim : Int) == 0) = false := by simp; omega
        obtain ⟨d1, e1⟩ : ∃ d1, (if !wb then breakPatterns dk a' b' else dk) = d1 := ⟨_, rfl⟩
        obtain ⟨lm, e2⟩ : ∃ lm, (if !wb then lim - 1 else lim) = lm := ⟨_, rfl⟩
        obtain ⟨⟨c1, ch⟩, e3⟩ : ∃ c, choosePivot ltInt d1 a' b' = c := ⟨_, rfl⟩
        obtain ⟨d2, e4⟩ : ∃ d2, (if ch = .decreasing then reverseRange d1 a' b' else d1) = d2 := ⟨_, rfl⟩
        obtain ⟨pivot, e5⟩ : ∃ pivot, (if ch = .decreasing then (b' - 1) - (c1 - a') else c1) = pivot := ⟨_, rfl⟩
        obtain ⟨hint, e6⟩ : ∃ hint, (if ch = .decreasing then Go.Sort.Hint.increasing else ch) = hint := ⟨_, rfl⟩
        have HQ : Hid (pdqT d2 a' b' lm pivot hint wb wp = r) := (pdq_3 dk a' b' lim wb wp h12 h0 e1 e2 e3 e4 e5 e6).symm.trans HO.out
        have hs2 : d1.size = n := by rw [← e1]; split; (· rw [size_breakP]; exact hs1); (· exact hs1)
        have hs3 : d2.size = n := by rw [← e4]; split; (· show (reverseLoop _ _ _).size = n; rw [size_reverse]; exact hs2); (· exact hs2)
        have hcr := choosePivot_holds ltInt d1 a' b' (by omega)
        rw [e3] at hcr
        have hcr : a' ≤ c1 ∧ c1 < b' := hcr
        have hpr : a' ≤ pivot ∧ pivot < b' := by rw [← e5]; split <;> omega
        have hlm : lm < 2305843009213693952 := by rw [← e2]; split <;> omega
        have E1 : Hid _ := e1
        have E2 : Hid _ := e2
        have E3 : Hid _ := e3
        have E4 : Hid _ := e4
        have E5 : Hid _ := e5
        have E6 : Hid _ := e6
        have hl12 : 12 < l := by have := HL.out; omega
        have hlb : a' + l ≤ n := by have := HL.out; omega
        clear e1 e2 e3 e4 e5 e6 HO
        go_upto_if 35 with fail
        go_cut [3, 8] from 19 to 133 (fun s3 s8 wc => s3 = .int .i64 lm ∧ s8 = .bool wb ∧ Hid (SR w wc blk N d1))
        case first =>
          have hc := so_breakP blk N cap n a' l dk wr HT.out.2 hs1 hl12 hlb hn2
          rw [← HL.out] at hc
          cases wb with
          | true =>
            go_wp2
            go_meet
            case rel =>
              refine ⟨by rw [← E2.out]; rfl, rfl, ?_⟩
              rw [← E1.out]
              exact HT.out
          | false =>
            go_wp2_with (first | (go_at_call 41; refine hc.mono ?_; rintro x w2 ⟨rfl, hS⟩))
            go_meet
            case rel =>
              refine ⟨by rw [← E2.out]; show Value.int .i64 _ = Value.int .i64 ((lim - 1 : Nat) : Int); congr 1; omega, rfl, ?_⟩
              rw [← E1.out]
              exact SR.trans HT.out hS
        case rest =>
          obtain ⟨rfl, rfl, HT1⟩ := hcut
          clear HT
          have hc := so_choose blk N cap n a' l d1 wc HT1.out.2 hs2 hl12 hlb hn2
          rw [← HL.out, E3.out] at hc
          go_upto_if 50 with (go_at_call 42; refine hc.mono ?_; rintro x w2 ⟨rfl, hg⟩)
          have HT2 : Hid (SR w w2 blk N d1) := SR.more HT1.out hg
          clear hg hc HT1
          obtain ⟨e, HE⟩ : ∃ e, Hid (b' = e + 1) := ⟨b' - 1, (by omega : b' = b' - 1 + 1)⟩
          have hen : e + 1 ≤ n := by have := HE.out; omega
          have hae : a' ≤ e := by have := HE.out; omega
          go_cut [11, 12] from 19 to 133 (fun s11 s12 wc => s11 = .int .i64 pivot ∧ s12 = .int .i64 (hintI hint) ∧ Hid (SR w wc blk N d2))
          case first =>
            cases ch with
            | decreasing =>
              have hc := so_reverse blk N cap n a' e d1 w2 HT2.out.2 hs2 hae hen hn2
              rw [← HE.out] at hc
              have hpv : (b' : Int) - 1 - ((c1 : Int) - (a' : Int)) = (pivot : Int) := by have := E5.out; simp only [if_true] at this; omega
              have hh : hintI .decreasing = 2 := rfl
              go_wp2_with (first | (go_at_call 43; refine hc.mono ?_; rintro x w3 ⟨rfl, hS⟩))
              go_meet
              case rel =>
                refine ⟨rfl, by rw [← E6.out]; rfl, ?_⟩
                rw [← E4.out]
                exact SR.trans HT2.out hS
            | unknown =>
              have hh : hintI .unknown = 0 := rfl
              go_wp2
              go_meet
              case rel => exact ⟨by rw [← E5.out]; rfl, by rw [← E6.out]; rfl, by rw [← E4.out]; exact HT2⟩
            | increasing =>
              have hh : hintI .increasing = 1 := rfl
              go_wp2
              go_meet
              case rel => exact ⟨by rw [← E5.out]; rfl, by rw [← E6.out]; rfl, by rw [← E4.out]; exact HT2⟩
          case rest =>
            obtain ⟨rfl, rfl, HT3⟩ := hcut
            clear HT2
            obtain ⟨⟨p1, pb⟩, e7⟩ : ∃ q, (if wb && wp && decide (hint = .increasing) then partialInsertionSort ltInt d2 a' b' else (d2, false)) = q := ⟨_, rfl⟩
            have E7 : Hid _ := e7
            have hs4 : p1.size = n := by
              have q : (if wb && wp && decide (hint = .increasing) then partialInsertionSort ltInt d2 a' b' else (d2, false)).1.size = n := by
                split
                · show (partialIns ltInt a' b' 5 (a' + 1) d2).1.size = n
                  rw [size_partialIns]; exact hs3
                · exact hs3
              rw [e7] at q
              exact q
            clear e7
            go_upto_region 15 with fail
            go_cut [8, 9, 12, 68] from 19 to 133 (fun s8 s9 s12 s68 wx => s8 = .bool wb ∧ s9 = .bool wp ∧ s12 = .int .i64 (hintI hint) ∧ s68 = .bool (wb && wp && decide (hint = .increasing)) ∧ wx = wc)
            case first =>
              clear HQ E7 E1 E2 E3 E4 E5 E6
              have hh0 : hintI .unknown = 0 := rfl
              have hh1 : hintI .increasing = 1 := rfl
              have hh2 : hintI .decreasing = 2 := rfl
              cases wb <;> cases wp <;> cases hint <;> (go_wp2 <;> go_meet <;> exact ⟨rfl, rfl, rfl, rfl, rfl⟩)
            case rest =>
              obtain ⟨rfl, rfl, rfl, rfl, rfl⟩ := hcut
              obtain ⟨tb, htb⟩ : ∃ tb, (wb && wp && decide (hint = .increasing)) = tb := ⟨_, rfl⟩
              rw [htb]
              have HTB : Hid _ := htb
              clear htb
              go_upto_if 68 with fail
              go_cut [] from 19 to 133 (fun wx => Hid (pb = false) ∧ Hid (SR w wx blk N p1))
              case first =>
                cases tb with
                | true =>
                  have q : partialInsertionSort ltInt d2 a' b' = (p1, pb) := by
                    have q := E7.out
                    rw [HTB.out] at q
                    simpa using q
                  have hc := so_partialIns blk N cap n a' b' d2 wc HT3.out.2 hs3 (by omega) hbn' hn2
                  rw [q] at hc
                  clear q
                  go_wp2_with (first | (go_at_call 44; refine hc.mono ?_; rintro x w3 ⟨rfl, hS⟩; refine Hid.out ?_))
                  have HS : Hid (SR w w3 blk N p1) := SR.trans HT3.out hS
                  clear hS hc
                  cases pb with
                  | true =>
                    unfold Hid
                    go_wp2
                    (try simp only [Exit.inBlock, Exit.then]); refine bodyPost_ret (results_none rfl _ _ _) rfl ?_
                    rw [← HQ.out, pdqT_1 E7.out]
                    exact ⟨rfl, HS.out, hs4⟩
                  | false =>
                    unfold Hid
                    go_wp2
                    go_meet
                    case rel => exact ⟨by first | exact rfl | exact trivial, HS⟩
                | false =>
                  have q : (d2, false) = (p1, pb) := by
                    have q := E7.out
                    rw [HTB.out] at q
                    simpa using q
                  obtain ⟨q1, q2⟩ := Prod.mk.inj q
                  have Q1 : Hid _ := q1
                  have Q2 : Hid (pb = false) := q2.symm
                  clear q q1 q2
                  go_wp2
                  go_meet
                  case rel => exact ⟨Q2, by rw [← Q1.out]; exact HT3⟩
              case rest =>
                obtain ⟨hpb, HT4⟩ := hcut
                have hpb : pb = false := hpb
                subst hpb
                clear HT3 HTB
                obtain ⟨tst, htst⟩ : ∃ t, (decide (a' > 0) && !ltInt p1[a' - 1]! p1[pivot]!) = t := ⟨_, rfl⟩
                have HTS : Hid _ := htst
                clear htst
                go_upto_region 17 with fail
                go_cut [87] from 19 to 133 (fun s87 wx => s87 = .bool tst ∧ Hid (SR w wx blk N p1))
                case first =>
                  clear HQ E7 E1 E2 E3 E4 E5 E6 IH
                  by_cases ha0 : 0 < a'
                  · obtain ⟨s, HA⟩ : ∃ s, Hid (a' = s + 1) := ⟨a' - 1, (by omega : a' = a' - 1 + 1)⟩
                    have hsi : (a' : Int) - 1 = (s : Int) := by have := HA.out; omega
                    have hsn : s < n := by have := HA.out; omega
                    have hpn : pivot < n := by omega
                    have ha0i : (0 : Int) < (a' : Int) := by omega
                    obtain ⟨x, hx⟩ : ∃ x, p1[s]! = x := ⟨_, rfl⟩
                    obtain ⟨y, hy⟩ : ∃ y, p1[pivot]! = y := ⟨_, rfl⟩
                    have c0 := HT4.out.2.cell (j := s) (by omega)
                    have c1 := HT4.out.2.cell (j := pivot) (by omega)
                    rw [hx] at c0
                    rw [hy] at c1
                    have HV : Hid ((!ltInt x y) = tst) := by
                      have q := HTS.out
                      rw [show a' - 1 = s by have := HA.out; omega, hx, hy, show decide (a' > 0) = true by simp; omega, Bool.true_and] at q
                      exact q
                    clear hx hy HTS
                    go_quiet (first | (go_at_call 45; refine Calls.quiet_of_same (so_less _ _ _)))
                    go_wp2
                    go_meet
                    case rel => exact ⟨by rw [← HV.out], HT4.out.drewN _⟩
                  · have ha0i : decide ((0 : Int) < (a' : Int)) = false := by simp; omega
                    have HV : Hid (false = tst) := by
                      have q := HTS.out
                      rw [show decide (a' > 0) = false by simp; omega, Bool.false_and] at q
                      exact q
                    clear HTS
                    go_quiet (first | (go_at_call 45; refine Calls.quiet_of_same (so_less _ _ _)))
                    go_wp2
                    go_meet
                    case rel => exact ⟨by rw [← HV.out], HT4.out.drewN _⟩
                case rest =>
                  obtain ⟨rfl, HT5⟩ := hcut
                  clear HT4
                  cases tst with
                  | true =>
                    obtain ⟨⟨mid, d4⟩, hpe⟩ : ∃ q, partitionEqual ltInt p1 a' (e + 1) pivot = q := ⟨_, rfl⟩
                    have hrg := pe_range p1 a' e pivot hae
                    have hsz := size_partEq a' (e + 1) pivot p1
                    have hc := so_partEq blk N cap n a' e pivot p1 wc HT5.out.2 hs4 hpr.1 (by have := HE.out; omega) hen hn2
                    rw [hpe] at hrg hsz hc
                    rw [← HE.out] at hpe hc hrg
                    have hrg : a' < mid ∧ mid ≤ b' := hrg
                    have hsz : d4.size = n := hsz.trans hs4
                    have HR2 : Hid (pdq ltInt d4 mid b' lm wb wp = r) := (pdqT_2 E7.out HTS.out hpe hrg.1 hrg.2).symm.trans HQ.out
                    clear hpe HQ
                    go_wp2_with (first | (go_at_call 46; refine hc.mono ?_; rintro x w3 ⟨rfl, hS⟩))
                    go_roundw
                    case rel => exact ⟨mid, b', lm, wb, wp, d4, rfl, rfl, rfl, rfl, rfl, hrg.2, hbn', by omega, hlm, hsz, SR.trans HT5.out hS, HR2⟩
                    case measure => simp [intOf] <;> omega
                  | false =>
                    obtain ⟨⟨mid, ap, d4⟩, hpt⟩ : ∃ q, partition ltInt p1 a' (e + 1) pivot = q := ⟨_, rfl⟩
                    have hpb' : pivot ≤ e := by have := HE.out; omega
                    have hrg := partition_holds ltInt swo_ltInt p1 a' (e + 1) pivot hpr.1 (by omega) (by omega)
                    have hsz := size_partition a' (e + 1) pivot p1
                    have hc := so_partition blk N cap n a' e pivot p1 wc HT5.out.2 hs4 hpr.1 hpb' (by have := HE.out; omega) hen hn2
                    rw [hpt] at hrg hsz hc
                    rw [← HE.out] at hpt hc hrg
                    have hm1 : a' ≤ mid := hrg.1
                    have hm2 : mid < b' := hrg.2.1
                    have hsz : d4.size = n := hsz.trans hs4
                    clear hrg
                    obtain ⟨t8, ht8⟩ : ∃ t8, (b' - a') / 8 = t8 := ⟨_, rfl⟩
                    have h8i : ((b' : Int) - (a' : Int)) / 8 = (t8 : Int) := by omega
                    by_cases hlr : mid - a' < b' - mid
                    · have hlri : (mid : Int) - (a' : Int) < (b' : Int) - (mid : Int) := by omega
                      obtain ⟨d5, hd5⟩ : ∃ d5, pdq ltInt d4 a' mid lm true true = d5 := ⟨_, rfl⟩
                      have HR2 : Hid (pdq ltInt d5 (mid + 1) b' lm (decide (mid - a' ≥ t8)) ap = r) := by
                        have q := (pdqT_3 E7.out HTS.out hpt hm1 hm2 hlr).symm.trans HQ.out
                        rw [hd5, ht8] at q
                        exact q
                      have hib := fun wx (hx : SR w wx blk N d4) => IH.out (mid - a') (by omega) a' mid lm d4 wx (Nat.le_refl _) hx.2 hsz hm1 (by omega) hlm
                      rw [hd5] at hib
                      have HIB : Hid _ := hib
                      clear hib hpt HQ hd5 ht8
                      go_wp2_with (first | (go_at_call 47; refine hc.mono ?_; rintro x w3 ⟨rfl, hS⟩; refine Hid.out ?_))
                      have HS3 : Hid (SR w w3 blk N d4) := SR.trans HT5.out hS
                      clear hS hc
                      have hc2 := HIB.out w3 HS3.out
                      unfold Hid
                      go_wp2_with (first | (go_at_call 36; refine hc2.mono ?_; rintro x w4 ⟨rfl, hS4, hz4⟩))
                      go_roundw
                      case rel => exact ⟨mid + 1, b', lm, decide (mid - a' ≥ t8), ap, d5, by go_num, rfl, rfl, by congr 1; exact decide_eq_decide.2 (by omega), rfl, by omega, hbn', by omega, hlm, hz4, SR.trans HS3.out hS4, HR2⟩
                      case measure => simp [intOf] <;> omega
                    · have hlri : ¬ (mid : Int) - (a' : Int) < (b' : Int) - (mid : Int) := by omega
                      obtain ⟨d5, hd5⟩ : ∃ d5, pdq ltInt d4 (mid + 1) b' lm true true = d5 := ⟨_, rfl⟩
                      have HR2 : Hid (pdq ltInt d5 a' mid lm (decide (b' - mid ≥ t8)) ap = r) := by
                        have q := (pdqT_4 E7.out HTS.out hpt hm1 hm2 hlr).symm.trans HQ.out
                        rw [hd5, ht8] at q
                        exact q
                      have hib := fun wx (hx : SR w wx blk N d4) => IH.out (b' - (mid + 1)) (by omega) (mid + 1) b' lm d4 wx (Nat.le_refl _) hx.2 hsz (by omega) hbn' hlm
                      rw [hd5] at hib
                      have HIB : Hid _ := hib
                      clear hib hpt HQ hd5 ht8
                      go_wp2_with (first | (go_at_call 47; refine hc.mono ?_; rintro x w3 ⟨rfl, hS⟩; refine Hid.out ?_))
                      have HS3 : Hid (SR w w3 blk N d4) := SR.trans HT5.out hS
                      clear hS hc
                      have hc2 := HIB.out w3 HS3.out
                      unfold Hid
                      go_wp2_with (first | (go_at_call 36; refine hc2.mono ?_; rintro x w4 ⟨rfl, hS4, hz4⟩))
                      go_roundw
                      case rel => exact ⟨a', mid, lm, decide (b' - mid ≥ t8), ap, d5, rfl, rfl, rfl, by congr 1; exact decide_eq_decide.2 (by omega), rfl, hm1, by omega, by omega, hlm, hz4, SR.trans HS3.out hS4, HR2⟩
                      case measure => simp [intOf] <;> omega
end
section
open Go.RowKit Go.Sort
set_option maxRecDepth 100000 in
theorem so_sort (blk N cap n : Nat) (d : Array Int) (w : World) (hR : Rw w blk N d) (hn : d.size = n) (hn2 : n < 2305843009213693952) :
    Calls Try.prog 31 #[.slice (some ⟨blk, 0, none⟩) n cap] w fun x w' => x = .returned (.tuple #[]) ∧ SR w w' blk N (Go.Sort.sort ltInt d) ∧ (Go.Sort.sort ltInt d).size = n := by
  have hl := Any.bits_Len Try.lenA (n : Int) w (by omega) (by omega)
  rw [Int.toNat_natCast, so_bitLen _ (by omega)] at hl
  have hk : bitsLen n ≤ 62 := (bitsLen_le_iff n 62).2 (by omega)
  have hc := so_pdq blk N cap n hn2 n 0 n (bitsLen n) d w (by omega) hR hn (by omega) (Nat.le_refl _) (by omega)
  have hd : Hid (Go.Sort.sort ltInt d = pdq ltInt d 0 n (bitsLen n) true true) := by subst hn; exact rfl
  rw [hd.out]
  clear hR
  rw [show (((0 : Nat) : Int)) = 0 from rfl] at hc
  go_enter Try.func31, Try.ntmps31
  go_wp2_with (first | (go_at_call 37; refine hl.mono ?_; rintro e w' ⟨rfl, rfl⟩; refine Hid.out ?_))
  unfold Hid
  go_wp2_with (first | (go_at_call 36; refine hc.mono ?_; rintro x w2 ⟨rfl, hS, hz⟩))
  go_end0
  exact ⟨rfl, hS, hz⟩
set_option maxRecDepth 100000 in
theorem so_sort_none (A : Option Addr) (cap : Nat) (w : World) : Calls Try.prog 31 #[.slice A 0 cap] w fun x w' => x = .returned (.tuple #[]) ∧ w' = w := by
  have hl := Any.bits_Len Try.lenA (0 : Int) w (by omega) (by omega)
  have h0 : Lib.bitLen (0 : Int).toNat = 0 := rfl
  rw [h0] at hl
  have hi : Calls Try.prog 39 #[.slice A 0 cap, .int .i64 0, .int .i64 0] w fun x w' => x = .returned (.tuple #[]) ∧ w' = w := by
    go_enter Try.func39, Try.ntmps39
    go_wp2
    refine wp_loop_rounds 1 ?_
    rw [rounds_succ]
    go_wp2
    go_end0
    exact ⟨rfl, rfl⟩
  have hp : Calls Try.prog 36 #[.slice A 0 cap, .int .i64 0, .int .i64 0, .int .i64 0] w fun x w' => x = .returned (.tuple #[]) ∧ w' = w := by
    go_enter Try.func36, Try.ntmps36
    go_wp2
    refine wp_loop_rounds 1 ?_
    rw [rounds_succ]
    go_wp2_with (first | (go_at_call 39; refine hi.mono ?_; rintro x w2 ⟨rfl, rfl⟩))
    (try simp only [Exit.inBlock, Exit.then]); refine bodyPost_ret (results_none rfl _ _ _) rfl ?_
    exact ⟨rfl, rfl⟩
  go_enter Try.func31, Try.ntmps31
  go_wp2_with (first | (go_at_call 37; refine hl.mono ?_; rintro e w' ⟨rfl, rfl⟩; refine Hid.out ?_))
  unfold Hid
  go_wp2_with (first | (go_at_call 36; refine hp.mono ?_; rintro x w2 ⟨rfl, rfl⟩))
  go_end0
  exact ⟨rfl, rfl⟩
end
section
open Go.RowKit Go.Sort
theorem sou_enters : Enters Try.prog 31 := ⟨_, Try.func31, by kernel_rfl, by kernel_rfl⟩
theorem sou_sorted (l : List Int) : (Go.Sort.sort ltInt l.toArray).toList = sortI l := sortInt l
theorem fcSortU (l : List Int) (hlen : l.length < 2305843009213693952) :
    FC Try.prog 31 [.arr .own soE 1 0 l.length (rowsT (.int .u64) l)] [.buf 0 0 0 l.length] ⟨[.arr .own soE 1 0 (sortI l).length (rowsT (.int .u64) (sortI l))], [], .tup 0 (dl [] · |>.toV)⟩ := by
  refine ⟨sou_enters, fun ok ρ w vs hgl h1 h2 h3 h4 h5 => ?_⟩
  obtain ⟨A, c, o, k0, k1, k2, -, k3⟩ := h5 0 _ rfl
  obtain ⟨-, rfl⟩ := lol_one' k2
  obtain ⟨_, _, _, _, _, ho, _, hp⟩ := k3 rfl
  clear k3
  cases ho
  have hold := h1 0 _ rfl
  rw [so_args h4, k0]
  rcases hp with ⟨p1, rfl, rfl, _⟩ | ⟨g, cs, p1, p2, p3, p4⟩
  · have hl : l.length = 0 := by omega
    obtain rfl := List.length_eq_zero_iff.1 hl
    have hs : sortI [] = [] := by simp [sortI]
    rw [hs]
    refine (so_sort_none none 0 w).mono ?_
    rintro e' w' ⟨rfl, rfl⟩
    refine ⟨ρ, _, rfl, rfl, ⟨#[], rfl, rfl, fun j hj => by omega⟩, fun k o hk => ?_, fun k o g hk hl hg => ?_, fun k k' o o' g hk hk' _ _ _ _ => (lol_one' hk).1.trans (lol_one' hk').1.symm, Ext.refl, Nat.le_refl _, rfl, rfl, rfl⟩
    · obtain ⟨rfl, rfl⟩ := lol_one' hk
      exact .inl ⟨p1, rfl⟩
    · obtain ⟨rfl, rfl⟩ := lol_one' hk
      rw [p1] at hg; cases hg
  · have hA := p2 (.inr rfl)
    rw [Nat.zero_mul] at hA
    subst hA
    rcases hold with ⟨q1, _⟩ | ⟨g', cs', cap, q1, q2, q3, q4, q5, q6⟩
    · rw [p1] at q1; cases q1
    rw [p1] at q1; cases q1
    rw [p3] at q2; cases q2
    have hlt : g < w.heap.size := (Array.getElem?_eq_some_iff.1 p3).1
    have hcell : ∀ j, j < l.length → cs.getD j undef = .int .u64 (l.getD j 0) := fun j hj => by
      have := (q6 j 0 hj (by omega)).2
      rw [Nat.mul_one, Nat.add_zero] at this
      exact this
    have hcs : l.length ≤ cs.size := by
      have : cs.size = cap * 1 := q3
      have : l.length ≤ cap := q4
      omega
    have hR : Rw w g cs.size l.toArray := ⟨cs, p3, rfl, fun j hj => by
      have hj' : j < l.length := by simpa using hj
      rw [getD_some (by omega), hcell j hj']
      rw [List.getElem!_toArray, List.getElem!_eq_getElem?_getD, List.getD_eq_getElem?_getD]
      rfl⟩
    refine (so_sort g cs.size c l.length l.toArray w hR (by simp) hlen).mono ?_
    rintro e' w' ⟨rfl, ⟨hg, cs', hat, hcs', hval⟩, hz⟩
    have hsz := sou_sorted l
    generalize Go.Sort.sort ltInt l.toArray = d at hval hz hsz
    have hne : ∀ j, j < w.heap.size → j ≠ g → w'.heap[j]? = w.heap[j]? := fun j hj hn => hg.block j hj (fun e => hn (by cases e; rfl))
    have hbig := hg.size
    have ownG : ∀ {f : Nat → Nat → T} {m : Nat}, own ρ (lol [.arr .own soE 1 0 m f]) g := ⟨0, _, rfl, rfl, p1⟩
    have ownI : ∀ {f : Nat → Nat → T} {m j : Nat}, own ρ (lol [.arr .own soE 1 0 m f]) j → j = g := fun ⟨id, o, a1, a2, a3⟩ => by
      obtain ⟨rfl, rfl⟩ := lol_one' a1
      rw [p1] at a3
      exact (Option.some.inj a3).symm
    have ext : Ext ρ (lol [.arr .own soE 1 0 l.length (rowsT (.int .u64) l)]) w ρ (lol [.arr .own soE 1 0 (sortI l).length (rowsT (.int .u64) (sortI l))]) w' := by
      refine ⟨fun j hj ho => ?_, fun j k hj ho => ?_, fun id o ho => ?_⟩
      · have hn : j ≠ g := fun e => ho (e ▸ ownG)
        exact ⟨hne j hj hn, fun k => hn (ownI k)⟩
      · have hn : j ≠ g := fun e => ho ⟨0, _, rfl, rfl, by rw [e]; exact p1, Nat.zero_le _⟩
        exact ⟨World.cell?_of_block (hne j hj hn), fun k => hn (ownI (own_of_ownc k))⟩
      · obtain ⟨rfl, rfl⟩ := lol_one' ho
        refine ⟨_, rfl, Nat.le_refl _, fun _ => ⟨rfl, ⟨rfl, rfl, by rw [sortI_len]; exact Nat.le_refl _⟩, fun g' cs1 e _ hg' hh => ?_⟩⟩
        rw [p1] at hg'
        cases hg'
        rw [p3] at hh
        cases hh
        exact ⟨cs', hat, hcs'⟩
    refine ⟨ρ, _, rfl, rfl, ⟨#[], rfl, rfl, fun j hj => by omega⟩, fun k o hk => ?_, fun k o g' hk hl hg' => ?_, fun k k' o o' g hk hk' _ _ _ _ => (lol_one' hk).1.trans (lol_one' hk').1.symm, ext, hbig, hg.os, hg.tape, hg.output⟩
    · obtain ⟨rfl, rfl⟩ := lol_one' hk
      refine .inr ⟨g, cs', cap, p1, hat, hcs'.trans q3, by rw [sortI_len]; exact q4, ⟨q5.1, nofun⟩, fun i j hi hj => ?_⟩
      obtain rfl : j = 0 := by omega
      rw [Nat.mul_one, Nat.add_zero]
      have hi' : i < d.size := by rw [hz, ← sortI_len]; exact hi
      have hv : cs'.getD i undef = .int .u64 ((sortI l).getD i 0) := by
        rw [Array.getD_eq_getD_getElem?, hval i hi', ← hsz, Option.getD_some, List.getD_eq_getElem?_getD, Array.getElem?_toList, Array.getElem!_eq_getD, Array.getD_eq_getD_getElem?]
        rfl
      rw [hv]
      exact ⟨rfl, rfl⟩
    · obtain ⟨rfl, rfl⟩ := lol_one' hk
      rw [p1] at hg'
      cases hg'
      exact ⟨.inr ownG, Nat.lt_of_lt_of_le hlt hbig⟩
def pSortU (_ : Nat) : List Int × Unit → Option ((List Int × Unit) × Unit) := fun x => bif decide (x.1.length < 2305843009213693952) then some ((sortI x.1, ()), ()) else none
def eSortU (fu : Nat) : Ent := ⟨31, .cons (.own .own soE (.int .u64)) .nil, .cons (.hole (.sl (.int .u64))) .nil, .tup 0 .nil, pSortU fu⟩
theorem gSortU (fu : Nat) : (eSortU fu).Good Try.prog := by
  rintro ⟨l, ⟨⟩⟩ y z hp
  have hp' : (bif decide (l.length < 2305843009213693952) then some ((sortI l, ()), ()) else none) = some (y, z) := hp
  have hp' := cond_some hp'
  obtain ⟨rfl, rfl⟩ := Prod.mk.inj (Option.some.inj hp'.2)
  exact fcSortU l (by simpa using hp'.1)
end
end Go.Proofs.Ytlglifgnklngfaa
