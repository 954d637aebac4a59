/-
  slices.Sort of a row of numbers of 64 bits, first part: rows, insertion, heap, pivots, partitions.
-/
import Derived.Sort.AssemblyPlain
import Derived.Sort.Row
import Derived.Maps.AppendAt
import Derived.WalkKit
import Derived.BigGuard
import Derived.BigCall
import Derived.CellFam
import Derived.Deep.Draws
import Derived.Deep.QuietTactic
import Derived.BigQuiet
import Derived.Below
import Derived.Test.YtlglifgnklngfaaChecked
import Derived.Deep.CutBlock
import Derived.Outline
namespace Go.Proofs.Ytlglifgnklngfaa
open Go.RowKit
section
open Go.RowKit Go.Sort
abbrev soE : TypeId := 31
/-- Block blk has so many cells; the first of them hold d. -/
def Rw (w : World) (blk N : Nat) (d : Array Int) : Prop := ∃ cs : Array Value, w.heap[blk]? = some (.cells cs soE (0, 0)) ∧ cs.size = N ∧ ∀ j, j < d.size → cs[j]? = some (.int .u64 d[j]!)
/-- From w on nothing has turned but that row, and new blocks. -/
def SR (w w' : World) (blk N : Nat) (d : Array Int) : Prop := w.grownBy w' (some blk) ∧ Rw w' blk N d
section
variable {w w' w'' : World} {blk N : Nat} {d d' : Array Int}
theorem Rw.lt (h : Rw w blk N d) : blk < w.heap.size := by
  obtain ⟨cs, h1, _⟩ := h
  exact (Array.getElem?_eq_some_iff.1 h1).1
theorem Rw.le (h : Rw w blk N d) : d.size ≤ N := by
  obtain ⟨cs, h1, h2, h3⟩ := h
  rcases Nat.eq_zero_or_pos d.size with h0 | h0
  · omega
  · have := (Array.getElem?_eq_some_iff.1 (h3 (d.size - 1) (by omega))).1
    omega
theorem Rw.cell (h : Rw w blk N d) {j : Nat} (hj : j < d.size) : w.cell? ⟨blk, j, none⟩ = some (.int .u64 d[j]!) := by
  obtain ⟨cs, h1, h2, h3⟩ := h
  simp only [World.cell?, h1]
  exact h3 j hj
theorem Rw.frozen (h : Rw w blk N d) (j : Nat) : w.frozen? ⟨blk, j, none⟩ = false := by
  obtain ⟨cs, h1, h2, h3⟩ := h
  simp [World.frozen?, h1]
theorem Rw.set (h : Rw w blk N d) {j : Nat} (hj : j < d.size) (x : Int) : Rw (w.setCell ⟨blk, j, none⟩ (.int .u64 x)) blk N (d.setIfInBounds j x) := by
  have hN := h.le
  obtain ⟨cs, h1, h2, h3⟩ := h
  refine ⟨cs.setIfInBounds j (.int .u64 x), ?_, by simpa using h2, fun k hk => ?_⟩
  · show (w.heap.modify blk _)[blk]? = _
    rw [Array.getElem?_modify, if_pos rfl, h1]
    rfl
  · rw [Array.size_setIfInBounds] at hk
    rw [Array.getElem?_setIfInBounds]
    by_cases e : j = k
    · subst e
      rw [if_pos rfl, if_pos (by omega), getElem!_set_same d j x hj]
    · rw [if_neg e, getElem!_set_other d j k x (Ne.symm e)]
      exact h3 k hk
theorem Rw.kept {row : Option Nat} (h : Rw w blk N d) (hg : w.grownBy w' row) (hne : some blk ≠ row) : Rw w' blk N d := by
  have hl := h.lt
  obtain ⟨cs, h1, h2, h3⟩ := h
  exact ⟨cs, (hg.block blk hl hne).trans h1, h2, h3⟩
theorem grown_setCell (w : World) (blk j : Nat) (u : Value) : w.grownBy (w.setCell ⟨blk, j, none⟩ u) (some blk) :=
  ⟨rfl, rfl, rfl, by show _ ≤ (w.heap.modify blk _).size; simp, fun k _ hk => Below.heap_setCell w _ u k (fun e => hk (by rw [e]))⟩
theorem SR.refl (h : Rw w blk N d) : SR w w blk N d := ⟨World.grownBy.refl _ _, h⟩
theorem SR.trans (h : SR w w' blk N d) (k : SR w' w'' blk N d') : SR w w'' blk N d' := ⟨h.1.trans k.1, k.2⟩
theorem SR.drew (h : SR w w' blk N d) : SR w w'.drew blk N d := ⟨⟨h.1.os, h.1.tape, h.1.output, h.1.size, h.1.block⟩, h.2⟩
theorem SR.drewN (h : SR w w' blk N d) (n : Nat) : SR w (w'.drewN n) blk N d := ⟨⟨h.1.os, h.1.tape, h.1.output, h.1.size, h.1.block⟩, h.2⟩
theorem SR.set (h : SR w w' blk N d) {j : Nat} (hj : j < d.size) (x : Int) : SR w (w'.setCell ⟨blk, j, none⟩ (.int .u64 x)) blk N (d.setIfInBounds j x) :=
  ⟨h.1.trans (grown_setCell w' blk j _), h.2.set hj x⟩
/-- Two are exchanged. -/
theorem SR.swap (h : SR w w' blk N d) {i j : Nat} (hi : i < d.size) (hj : j < d.size) : SR w ((w'.setCell ⟨blk, i, none⟩ (.int .u64 d[j]!)).setCell ⟨blk, j, none⟩ (.int .u64 d[i]!)) blk N (swp d i j) :=
  (h.set hi d[j]!).set (by simpa using hj) d[i]!
/-- The same behind draws, as the walk spells it. -/
theorem SR.swapN (h : SR w w' blk N d) {i j : Nat} {x y : Int} (hi : i < d.size) (hj : j < d.size) (hx : d[i]! = x) (hy : d[j]! = y) (q : Nat) :
    SR w (((w'.drewN q).setCell ⟨blk, i, none⟩ (.int .u64 y)).setCell ⟨blk, j, none⟩ (.int .u64 x)) blk N (swp d i j) := by
  have := (h.drewN q).swap hi hj
  rwa [hx, hy] at this
theorem SR.swapD (h : SR w w' blk N d) {i j : Nat} {x y : Int} (hi : i < d.size) (hj : j < d.size) (hx : d[i]! = x) (hy : d[j]! = y) :
    SR w ((w'.setCell ⟨blk, i, none⟩ (.int .u64 y)).setCell ⟨blk, j, none⟩ (.int .u64 x)).drew blk N (swp d i j) := by
  have := (h.swap hi hj).drew
  rwa [hx, hy] at this
theorem SR.sized (h : SR w w' blk N d) (_ : d'.size = d.size) (he : d' = d) : SR w w' blk N d' := by rw [he]; exact h
end
theorem so_isNaN (x : Int) (w : World) : Calls Try.prog 64 #[.int .u64 x] w fun e w' => e = .returned (.bool false) ∧ w' = w := by
  go_enter Try.func64, Try.ntmps64
  go_wp2
  go_ret
  simp
end
section
open Go.RowKit Go.Sort
theorem so_less (x y : Int) (w : World) : Calls Try.prog 45 #[.int .u64 x, .int .u64 y] w fun e w' => e = .returned (.bool (ltInt x y)) ∧ w' = w := by
  go_enter Try.func45, Try.ntmps45
  go_wp2
  go_ret
  exact ⟨rfl, rfl⟩
theorem ins_go (a j : Nat) (d : Array Int) (hj : a < j) (hl : ltInt d[j]! d[j - 1]! = true) : insInner ltInt a j d = insInner ltInt a (j - 1) (swp d j (j - 1)) := by
  obtain ⟨k, rfl⟩ : ∃ k, j = k + 1 := ⟨j - 1, by omega⟩
  rw [insInner]
  simp only [Nat.add_sub_cancel] at hl ⊢
  simp [hj, hl]
theorem ins_stop (a j : Nat) (d : Array Int) (h : j ≤ a ∨ ltInt d[j]! d[j - 1]! = false) : insInner ltInt a j d = d := by
  cases j with
  | zero => rw [insInner]
  | succ k =>
    rw [insInner]
    rw [Nat.add_sub_cancel] at h
    rcases h with h | h
    · simp [show ¬ k + 1 > a by omega]
    · simp [h]
set_option maxRecDepth 100000 in
theorem so_insertion (blk N cap n a b : Nat) (d : Array Int) (w : World) (hR : Rw w blk N d) (hn : d.size = n) (hab : a ≤ b) (hb : b ≤ n) (hs : n < 4611686018427387904) :
    Calls Try.prog 39 #[.slice (some ⟨blk, 0, none⟩) n cap, .int .i64 a, .int .i64 b] w fun e w' => e = .returned (.tuple #[]) ∧ SR w w' blk N (insertionSort ltInt d a b) := by
  go_enter Try.func39, Try.ntmps39
  go_wp2
  go_loopw [6] (fun vi wr => ∃ (i : Nat) (dk : Array Int), vi = .int .i64 i ∧ a < i ∧ i ≤ b + 1 ∧ dk.size = n ∧ Hid (SR w wr blk N dk) ∧ Hid (insOuter ltInt a b i dk = insertionSort ltInt d a b)) (fun vi _ => b + 1 - (intOf vi).toNat)
  case atStart => exact ⟨a + 1, d, by go_num, by omega, by omega, hn, SR.refl hR, rfl⟩
  case round =>
    obtain ⟨i, dk, rfl, hai, hib, hsk, HS, HO⟩ := hrel
    clear hR
    by_cases hlt : i < b
    · go_wp2
      go_loopw [7] (fun vj wr2 => ∃ (j : Nat) (dj : Array Int), vj = .int .i64 j ∧ a ≤ j ∧ j ≤ i ∧ dj.size = n ∧ Hid (SR w wr2 blk N dj) ∧ Hid (insInner ltInt a j dj = insInner ltInt a i dk)) (fun vj _ => (intOf vj).toNat)
      case atStart => exact ⟨i, dk, rfl, by omega, Nat.le_refl _, hsk, HS, rfl⟩
      case round =>
        obtain ⟨j, dj, rfl, haj, hji, hsj, HT, HI⟩ := hrel
        clear HS
        by_cases hja : a < j
        · obtain ⟨k, rfl⟩ : ∃ k, j = k + 1 := ⟨j - 1, by omega⟩
          obtain ⟨x, hx⟩ : ∃ x, dj[k + 1]! = x := ⟨_, rfl⟩
          obtain ⟨y, hy⟩ : ∃ y, dj[k]! = y := ⟨_, rfl⟩
          have c0 := HT.out.2.cell (j := k + 1) (by omega)
          have c1 := HT.out.2.cell (j := k) (by omega)
          have f0 := HT.out.2.frozen (k + 1)
          have f1 := HT.out.2.frozen k
          rw [hx] at c0
          rw [hy] at c1
          have HX : Hid _ := hx
          have HY : Hid _ := hy
          clear hx hy
          have hk1 : a ≤ k := by omega
          have hk2 : (a : Int) < (k : Int) + 1 := by omega
          go_wp2
          go_quiet (first | (go_at_call 45; refine Calls.quiet_of_same (so_less _ _ _)))
          go_wp2
          · have hl : ltInt x y = true := by assumption
            go_region
            all_goals go_wp2
            go_roundw
            case rel =>
              refine ⟨k, swp dj (k + 1) k, by go_num, by omega, by omega, by rw [size_swp]; exact hsj, HT.out.swapN (by omega) (by omega) HX.out HY.out _, ?_⟩
              have q := ins_go a (k + 1) dj (by omega) (by rw [Nat.add_sub_cancel, HX.out, HY.out]; exact hl)
              rw [Nat.add_sub_cancel] at q
              exact q.symm.trans HI.out
            case measure => simp [intOf] <;> omega
          · have hl : ltInt x y = false := by assumption
            go_roundw
            case rel =>
              refine ⟨i + 1, dj, by go_num, by omega, by omega, hsj, HT.out.drewN _, ?_⟩
              have q := ins_stop a (k + 1) dj (.inr (by rw [Nat.add_sub_cancel, HX.out, HY.out]; exact hl))
              have q2 := HO.out
              rw [insOuter, if_pos hlt, ← HI.out, q] at q2
              exact q2
            case measure => simp [intOf] <;> omega
        · go_wp2
          go_quiet (first | (go_at_call 45; refine Calls.quiet_of_same (so_less _ _ _)))
          go_wp2
          go_roundw
          case rel =>
            refine ⟨i + 1, dj, by go_num, by omega, by omega, hsj, HT.out.drewN _, ?_⟩
            have q := ins_stop a j dj (.inl (by omega))
            have q2 := HO.out
            rw [insOuter, if_pos hlt, ← HI.out, q] at q2
            exact q2
          case measure => simp [intOf] <;> omega
    · go_wp2
      go_end0
      refine ⟨rfl, ?_⟩
      have q := HO.out
      rw [insOuter, if_neg hlt] at q
      rw [← q]
      exact HS.out
end
section
open Go.RowKit Go.Sort
theorem sd_stop (root hi first : Nat) (d : Array Int) (h : hi ≤ 2 * root + 1) : siftDown ltInt hi first root d = d := by
  rw [siftDown, dif_pos h]
theorem sd_step (root ch hi first : Nat) (d : Array Int) (h : 2 * root + 1 < hi) (hc : (2 * root + 1 + 1 < hi ∧ ltInt d[first + (2 * root + 1)]! d[first + (2 * root + 1) + 1]! = true ∧ ch = 2 * root + 1 + 1) ∨ ((¬ 2 * root + 1 + 1 < hi ∨ ltInt d[first + (2 * root + 1)]! d[first + (2 * root + 1) + 1]! = false) ∧ ch = 2 * root + 1)) :
    siftDown ltInt hi first root d = if ltInt d[first + root]! d[first + ch]! = true then siftDown ltInt hi first ch (swp d (first + root) (first + ch)) else d := by
  rw [siftDown, dif_neg (by omega)]
  rcases hc with ⟨h1, h2, rfl⟩ | ⟨h1, rfl⟩
  · rw [if_pos (by simp [h1, h2])]
    have e : 2 * root + 1 + 1 = 2 * root + 2 := rfl
    rw [e]
    cases hb : ltInt d[first + root]! d[first + (2 * root + 2)]! with
    | true => simp [show 2 * root + 2 < hi from h1]
    | false => simp
  · rw [if_neg (by rcases h1 with h1 | h1 <;> simp [h1])]
    cases hb : ltInt d[first + root]! d[first + (2 * root + 1)]! with
    | true => simp
    | false => simp
set_option maxHeartbeats 4000000 in
set_option maxRecDepth 100000 in
theorem so_siftDown (blk N cap n lo hi first : Nat) (d : Array Int) (w : World) (hR : Rw w blk N d) (hn : d.size = n) (hlo : lo ≤ n) (hb : first + hi ≤ n) (hs : n < 2305843009213693952) :
    Calls Try.prog 59 #[.slice (some ⟨blk, 0, none⟩) n cap, .int .i64 lo, .int .i64 hi, .int .i64 first] w fun e w' => e = .returned (.tuple #[]) ∧ SR w w' blk N (siftDown ltInt hi first lo d) := by
  go_enter Try.func59, Try.ntmps59
  go_wp2
  go_loopw [8] (fun vr wr => ∃ (root : Nat) (dk : Array Int), vr = .int .i64 root ∧ root ≤ n ∧ dk.size = n ∧ Hid (SR w wr blk N dk) ∧ Hid (siftDown ltInt hi first root dk = siftDown ltInt hi first lo d)) (fun vr _ => n - (intOf vr).toNat)
  case atStart => exact ⟨lo, d, rfl, hlo, hn, SR.refl hR, rfl⟩
  case round =>
    obtain ⟨root, dk, rfl, hrn, hsk, HT, HO⟩ := hrel
    clear hR
    obtain ⟨c, hc⟩ : ∃ c, 2 * root + 1 = c := ⟨_, rfl⟩
    have hci : (2 : Int) * (root : Int) + 1 = (c : Int) := by omega
    have hcl : root < c := by omega
    have HCC : Hid _ := hc
    clear hc
    by_cases hge : c < hi
    · obtain ⟨x, hx⟩ : ∃ x, dk[first + c]! = x := ⟨_, rfl⟩
      obtain ⟨z, hz⟩ : ∃ z, dk[first + root]! = z := ⟨_, rfl⟩
      have c0 := HT.out.2.cell (j := first + c) (by omega)
      have f0 := HT.out.2.frozen (first + c)
      have cr := HT.out.2.cell (j := first + root) (by omega)
      have fr := HT.out.2.frozen (first + root)
      rw [hx] at c0
      rw [hz] at cr
      have HX : Hid _ := hx
      have HZ : Hid _ := hz
      clear hx hz
      have w1 : IntKind.i64.wrap ((first : Int) + (root : Int)) = (first : Int) + (root : Int) := by rw [IntKind.wrap_i64]; omega
      have w2 : IntKind.i64.wrap ((first : Int) + (c : Int)) = (first : Int) + (c : Int) := by rw [IntKind.wrap_i64]; omega
      have w3 : IntKind.i64.wrap ((first : Int) + ((c : Int) + 1)) = (first : Int) + ((c : Int) + 1) := by rw [IntKind.wrap_i64]; omega
      have b1 : (first : Int) + (root : Int) < (n : Int) := by omega
      have b2 : (first : Int) + (c : Int) < (n : Int) := by omega
      have p1 : (0 : Int) ≤ (first : Int) + (root : Int) := by omega
      have p2 : (0 : Int) ≤ (first : Int) + (c : Int) := by omega
      have t1 : ((first : Int) + (root : Int)).toNat = first + root := by omega
      have t2 : ((first : Int) + (c : Int)).toNat = first + c := by omega
      by_cases hg : c + 1 < hi
      · obtain ⟨y, hy⟩ : ∃ y, dk[first + c + 1]! = y := ⟨_, rfl⟩
        have c1 := HT.out.2.cell (j := first + c + 1) (by omega)
        have f1 := HT.out.2.frozen (first + c + 1)
        rw [hy] at c1
        have HY : Hid _ := hy
        clear hy
        have hgi : (c : Int) + 1 < (hi : Int) := by omega
        have b3 : (first : Int) + ((c : Int) + 1) < (n : Int) := by omega
        have p3 : (0 : Int) ≤ (first : Int) + ((c : Int) + 1) := by omega
        have t3 : ((first : Int) + ((c : Int) + 1)).toNat = first + (c + 1) := by omega
        go_wp2
        go_quiet (first | (go_at_call 45; refine Calls.quiet_of_same (so_less _ _ _)))
        go_wp2
        · have hl : ltInt x y = true := by assumption
          have c2 : wr.cell? ⟨blk, first + (c + 1), none⟩ = some (.int .u64 y) := c1
          have f2 : wr.frozen? ⟨blk, first + (c + 1), none⟩ = false := f1
          have HY' : Hid (dk[first + (c + 1)]! = y) := HY
          have HT2 : Hid (SR w (wr.drewN nq) blk N dk) := HT.out.drewN _
          clear c0 f0 cr fr c1 f1 c2 f2 HT
          generalize wr.drewN nq = wr2 at HT2 ⊢
          clear nq
          have cu := HT2.out.2.cell (j := first + (c + 1)) (by omega)
          have fu := HT2.out.2.frozen (first + (c + 1))
          have cr := HT2.out.2.cell (j := first + root) (by omega)
          have fr := HT2.out.2.frozen (first + root)
          rw [HY'.out] at cu
          rw [HZ.out] at cr
          go_quiet (first | (go_at_call 45; refine Calls.quiet_of_same (so_less _ _ _)))
          go_wp2
          · have hl2 : ltInt z y = false := by
              have : (!ltInt z y) = true := by assumption
              simpa using this
            (try simp only [Exit.inBlock, Exit.then]); refine bodyPost_ret (results_none rfl _ _ _) rfl ?_
            refine ⟨rfl, ?_⟩
            rw [← HO.out, sd_step root (c + 1) hi first dk (by rw [HCC.out]; exact hge) (.inl ⟨by rw [HCC.out]; exact hg, by rw [HCC.out, HX.out, HY.out]; exact hl, by rw [HCC.out]⟩), if_neg (by rw [HZ.out, HY'.out, hl2]; simp)]
            exact HT2.out.drewN _
          · have hl2 : ltInt z y = true := by
              have : (!ltInt z y) = false := by assumption
              simpa using this
            have HT3 : Hid (SR w (wr2.drewN nq) blk N dk) := HT2.out.drewN _
            clear cu fu cr fr HT2
            generalize wr2.drewN nq = wr3 at HT3 ⊢
            clear nq
            have cu := HT3.out.2.cell (j := first + (c + 1)) (by omega)
            have fu := HT3.out.2.frozen (first + (c + 1))
            have cr := HT3.out.2.cell (j := first + root) (by omega)
            have fr := HT3.out.2.frozen (first + root)
            rw [HY'.out] at cu
            rw [HZ.out] at cr
            go_region
            all_goals go_wp2
            go_roundw
            case rel =>
              refine ⟨c + 1, swp dk (first + root) (first + (c + 1)), by go_num, by omega, by rw [size_swp]; exact hsk, HT3.out.swapD (by omega) (by omega) HZ.out HY'.out, ?_⟩
              rw [← HO.out, sd_step root (c + 1) hi first dk (by rw [HCC.out]; exact hge) (.inl ⟨by rw [HCC.out]; exact hg, by rw [HCC.out, HX.out, HY.out]; exact hl, by rw [HCC.out]⟩)]
              rw [if_pos (by rw [HZ.out, HY'.out]; exact hl2)]
              exact rfl
            case measure => simp [intOf] <;> omega
        · have hl : ltInt x y = false := by assumption
          have HT2 : Hid (SR w (wr.drewN nq) blk N dk) := HT.out.drewN _
          clear c0 f0 cr fr c1 f1 HT
          generalize wr.drewN nq = wr2 at HT2 ⊢
          clear nq
          have cu := HT2.out.2.cell (j := first + (c)) (by omega)
          have fu := HT2.out.2.frozen (first + (c))
          have cr := HT2.out.2.cell (j := first + root) (by omega)
          have fr := HT2.out.2.frozen (first + root)
          rw [HX.out] at cu
          rw [HZ.out] at cr
          go_quiet (first | (go_at_call 45; refine Calls.quiet_of_same (so_less _ _ _)))
          go_wp2
          · have hl2 : ltInt z x = false := by
              have : (!ltInt z x) = true := by assumption
              simpa using this
            (try simp only [Exit.inBlock, Exit.then]); refine bodyPost_ret (results_none rfl _ _ _) rfl ?_
            refine ⟨rfl, ?_⟩
            rw [← HO.out, sd_step root (c) hi first dk (by rw [HCC.out]; exact hge) (.inr ⟨.inr (by rw [HCC.out, HX.out, HY.out]; exact hl), HCC.out.symm⟩), if_neg (by rw [HZ.out, HX.out, hl2]; simp)]
            exact HT2.out.drewN _
          · have hl2 : ltInt z x = true := by
              have : (!ltInt z x) = false := by assumption
              simpa using this
            have HT3 : Hid (SR w (wr2.drewN nq) blk N dk) := HT2.out.drewN _
            clear cu fu cr fr HT2
            generalize wr2.drewN nq = wr3 at HT3 ⊢
            clear nq
            have cu := HT3.out.2.cell (j := first + (c)) (by omega)
            have fu := HT3.out.2.frozen (first + (c))
            have cr := HT3.out.2.cell (j := first + root) (by omega)
            have fr := HT3.out.2.frozen (first + root)
            rw [HX.out] at cu
            rw [HZ.out] at cr
            go_region
            all_goals go_wp2
            go_roundw
            case rel =>
              refine ⟨c, swp dk (first + root) (first + (c)), by go_num, by omega, by rw [size_swp]; exact hsk, HT3.out.swapD (by omega) (by omega) HZ.out HX.out, ?_⟩
              rw [← HO.out, sd_step root (c) hi first dk (by rw [HCC.out]; exact hge) (.inr ⟨.inr (by rw [HCC.out, HX.out, HY.out]; exact hl), HCC.out.symm⟩)]
              rw [if_pos (by rw [HZ.out, HX.out]; exact hl2)]
              exact rfl
            case measure => simp [intOf] <;> omega
      · have hgi : ¬ (c : Int) + 1 < (hi : Int) := by omega
        have hgd : decide ((c : Int) + 1 < (hi : Int)) = false := by simp; omega
        go_wp2
        go_quiet (first | (go_at_call 45; refine Calls.quiet_of_same (so_less _ _ _)))
        go_wp2
        have HT2 : Hid (SR w (wr.drewN nq) blk N dk) := HT.out.drewN _
        clear c0 f0 cr fr HT
        generalize wr.drewN nq = wr2 at HT2 ⊢
        clear nq
        have cu := HT2.out.2.cell (j := first + (c)) (by omega)
        have fu := HT2.out.2.frozen (first + (c))
        have cr := HT2.out.2.cell (j := first + root) (by omega)
        have fr := HT2.out.2.frozen (first + root)
        rw [HX.out] at cu
        rw [HZ.out] at cr
        go_quiet (first | (go_at_call 45; refine Calls.quiet_of_same (so_less _ _ _)))
        go_wp2
        · have hl2 : ltInt z x = false := by
            have : (!ltInt z x) = true := by assumption
            simpa using this
          (try simp only [Exit.inBlock, Exit.then]); refine bodyPost_ret (results_none rfl _ _ _) rfl ?_
          refine ⟨rfl, ?_⟩
          rw [← HO.out, sd_step root (c) hi first dk (by rw [HCC.out]; exact hge) (.inr ⟨.inl (by rw [HCC.out]; exact hg), HCC.out.symm⟩), if_neg (by rw [HZ.out, HX.out, hl2]; simp)]
          exact HT2.out.drewN _
        · have hl2 : ltInt z x = true := by
            have : (!ltInt z x) = false := by assumption
            simpa using this
          have HT3 : Hid (SR w (wr2.drewN nq) blk N dk) := HT2.out.drewN _
          clear cu fu cr fr HT2
          generalize wr2.drewN nq = wr3 at HT3 ⊢
          clear nq
          have cu := HT3.out.2.cell (j := first + (c)) (by omega)
          have fu := HT3.out.2.frozen (first + (c))
          have cr := HT3.out.2.cell (j := first + root) (by omega)
          have fr := HT3.out.2.frozen (first + root)
          rw [HX.out] at cu
          rw [HZ.out] at cr
          go_region
          all_goals go_wp2
          go_roundw
          case rel =>
            refine ⟨c, swp dk (first + root) (first + (c)), by go_num, by omega, by rw [size_swp]; exact hsk, HT3.out.swapD (by omega) (by omega) HZ.out HX.out, ?_⟩
            rw [← HO.out, sd_step root (c) hi first dk (by rw [HCC.out]; exact hge) (.inr ⟨.inl (by rw [HCC.out]; exact hg), HCC.out.symm⟩)]
            rw [if_pos (by rw [HZ.out, HX.out]; exact hl2)]
            exact rfl
          case measure => simp [intOf] <;> omega
    · have hgi : (hi : Int) ≤ (c : Int) := by omega
      go_wp2
      go_end0
      refine ⟨rfl, ?_⟩
      rw [← HO.out, sd_stop root hi first dk (by rw [HCC.out]; omega)]
      exact HT.out
end
section
open Go.RowKit Go.Sort
theorem size_siftDown (hi first root : Nat) (d : Array Int) : (siftDown ltInt hi first root d).size = d.size := by
  induction h : hi - root using Nat.strongRecOn generalizing root d with
  | _ m ih =>
    by_cases h1 : 2 * root + 1 < hi
    · obtain ⟨ch, hch, hlt⟩ : ∃ ch, siftDown ltInt hi first root d = (if ltInt d[first + root]! d[first + ch]! = true then siftDown ltInt hi first ch (swp d (first + root) (first + ch)) else d) ∧ root < ch := by
        by_cases h2 : 2 * root + 1 + 1 < hi ∧ ltInt d[first + (2 * root + 1)]! d[first + (2 * root + 1) + 1]! = true
        · exact ⟨_, sd_step root (2 * root + 1 + 1) hi first d h1 (.inl ⟨h2.1, h2.2, rfl⟩), by omega⟩
        · refine ⟨_, sd_step root (2 * root + 1) hi first d h1 (.inr ⟨?_, rfl⟩), by omega⟩
          by_cases h3 : 2 * root + 1 + 1 < hi
          · refine .inr ?_
            cases hb : ltInt d[first + (2 * root + 1)]! d[first + (2 * root + 1) + 1]! with
            | false => rfl
            | true => exact absurd ⟨h3, hb⟩ h2
          · exact .inl h3
      rw [hch]
      split
      · rw [ih (hi - ch) (by omega) ch _ rfl, size_swp]
      · rfl
    · rw [sd_stop root hi first d (by omega)]
set_option maxHeartbeats 4000000 in
set_option maxRecDepth 100000 in
theorem so_heapSort (blk N cap n a b h : Nat) (d : Array Int) (w : World) (hR : Rw w blk N d) (hn : d.size = n) (hab : b = a + h) (hb : b ≤ n) (hs : n < 2305843009213693952) :
    Calls Try.prog 40 #[.slice (some ⟨blk, 0, none⟩) n cap, .int .i64 a, .int .i64 b] w fun e w' => e = .returned (.tuple #[]) ∧ SR w w' blk N (heapSort ltInt d a b) := by
  have hbi : (b : Int) - (a : Int) = (h : Int) := by omega
  have hfin : Hid (heapSort ltInt d a b = heapPop ltInt a h (heapBuild ltInt h a ((h - 1) / 2 + 1) d)) := by
    unfold heapSort
    rw [show b - a = h by omega]
    exact rfl
  have hq : IntKind.i64.wrap (((h : Int) - 1).tdiv 2) = (((h - 1) / 2 : Nat) : Int) := by
    rw [IntKind.wrap_i64]
    rcases Nat.eq_zero_or_pos h with h0 | h0
    · subst h0; rfl
    · rw [Int.tdiv_eq_ediv_of_nonneg (by omega)]; omega
  have HAB : Hid _ := hab
  clear hab
  go_enter Try.func40, Try.ntmps40
  go_wp2
  go_loopw [9] (fun vi wr => ∃ (k : Nat) (dk : Array Int), vi = .int .i64 ((k : Int) - 1) ∧ k ≤ n + 1 ∧ dk.size = n ∧ Hid (SR w wr blk N dk) ∧ Hid (heapBuild ltInt h a k dk = heapBuild ltInt h a ((h - 1) / 2 + 1) d)) (fun vi _ => (intOf vi + 1).toNat)
  case atStart => exact ⟨(h - 1) / 2 + 1, d, by congr 1; omega, by have := HAB.out; omega, hn, SR.refl hR, rfl⟩
  case round =>
    obtain ⟨k, dk, rfl, hkn, hsk, HT, HO⟩ := hrel
    clear hR
    by_cases hk0 : k = 0
    · subst hk0
      rw [show (((0 : Nat) : Int) - 1) = -1 from rfl]
      go_wp2
      have HB : Hid (dk = heapBuild ltInt h a ((h - 1) / 2 + 1) d) := HO.out
      clear HO
      go_loopw [10] (fun vi wr => ∃ (k : Nat) (dj : Array Int), vi = .int .i64 ((k : Int) - 1) ∧ k ≤ h ∧ dj.size = n ∧ Hid (SR w wr blk N dj) ∧ Hid (heapPop ltInt a k dj = heapPop ltInt a h dk)) (fun vi _ => (intOf vi + 1).toNat)
      case atStart => exact ⟨h, dk, rfl, Nat.le_refl _, hsk, HT, rfl⟩
      case round =>
        obtain ⟨k, dj, rfl, hkn, hsj, HU, HO⟩ := hrel
        clear HT
        by_cases hk0 : k = 0
        · subst hk0
          go_wp2
          go_end0
          refine ⟨rfl, ?_⟩
          have q : dj = heapPop ltInt a h dk := HO.out
          rw [hfin.out, ← HB.out, ← q]
          exact HU.out
        · obtain ⟨k', rfl⟩ : ∃ k', k = k' + 1 := ⟨k - 1, by omega⟩
          have han : a + h ≤ n := by have := HAB.out; omega
          obtain ⟨x, hx⟩ : ∃ x, dj[a]! = x := ⟨_, rfl⟩
          obtain ⟨y, hy⟩ : ∃ y, dj[a + k']! = y := ⟨_, rfl⟩
          have c0 := HU.out.2.cell (j := a) (by omega)
          have f0 := HU.out.2.frozen a
          have c1 := HU.out.2.cell (j := a + k') (by omega)
          have f1 := HU.out.2.frozen (a + k')
          rw [hx] at c0
          rw [hy] at c1
          have HX : Hid _ := hx
          have HY : Hid _ := hy
          have b1 : (a : Int) + (k' : Int) < (n : Int) := by omega
          have w1 : IntKind.i64.wrap ((a : Int) + (k' : Int)) = (a : Int) + (k' : Int) := by rw [IntKind.wrap_i64]; omega
          have p1 : (0 : Int) ≤ (a : Int) + (k' : Int) := by omega
          have t1 : ((a : Int) + (k' : Int)).toNat = a + k' := by omega
          clear hx hy
          have U1 := ((HU.out.set (j := a) (by omega) y).drew).2
          have e1 := U1.cell (j := a + k') (by simp; omega)
          have e2 := U1.frozen (a + k')
          obtain ⟨z, hz⟩ : ∃ z, (dj.setIfInBounds a y)[a + k']! = z := ⟨_, rfl⟩
          rw [hz] at e1
          clear hz U1
          go_wp2
          go_region
          have S := HU.out.swapD (i := a) (j := a + k') (by omega) (by omega) HX.out HY.out
          clear c0 f0 c1 f1 e1 e2 HU
          generalize ((wr.setCell ⟨blk, a, none⟩ (.int .u64 y)).setCell ⟨blk, a + k', none⟩ (.int .u64 x)).drew = wr2 at S ⊢
          have hc := so_siftDown blk N cap n 0 k' a (swp dj a (a + k')) wr2 S.2 (by rw [size_swp]; exact hsj) (by omega) (by omega) hs
          have S' := (show Hid _ from S)
          clear S
          go_wp2_with (go_at_call 59; refine hc.mono ?_; rintro e w2 ⟨rfl, hS⟩)
          go_roundw
          case rel => exact ⟨k', siftDown ltInt k' a 0 (swp dj a (a + k')), rfl, by omega, by rw [size_siftDown, size_swp]; exact hsj, SR.trans S'.out hS, HO⟩
          case measure => simp [intOf] <;> omega
    · obtain ⟨k', rfl⟩ : ∃ k', k = k' + 1 := ⟨k - 1, by omega⟩
      have hc := so_siftDown blk N cap n k' h a dk wr HT.out.2 hsk (by omega) (by have := HAB.out; omega) hs
      go_wp2_with (go_at_call 59; refine hc.mono ?_; rintro e w2 ⟨rfl, hS⟩)
      go_roundw
      case rel => exact ⟨k', siftDown ltInt h a k' dk, rfl, by omega, by rw [size_siftDown]; exact hsk, HT.out.trans hS, HO⟩
      case measure => simp [intOf] <;> omega
end
section
open Go.RowKit Go.Sort
theorem rv_go (i j : Nat) (d : Array Int) (h : i < j) : reverseLoop i j d = reverseLoop (i + 1) (j - 1) (swp d i j) := by rw [reverseLoop, if_pos h]
theorem rv_stop (i j : Nat) (d : Array Int) (h : ¬ i < j) : reverseLoop i j d = d := by rw [reverseLoop, if_neg h]
theorem size_reverse (i j : Nat) (d : Array Int) : (reverseLoop i j d).size = d.size := by
  induction h : j - i using Nat.strongRecOn generalizing i j d with
  | _ m ih =>
    by_cases h1 : i < j
    · rw [rv_go i j d h1, ih (j - 1 - (i + 1)) (by omega) _ _ _ rfl, size_swp]
    · rw [rv_stop i j d h1]
set_option maxHeartbeats 4000000 in
set_option maxRecDepth 100000 in
theorem so_reverse (blk N cap n a e : Nat) (d : Array Int) (w : World) (hR : Rw w blk N d) (hn : d.size = n) (hab : a ≤ e) (hb : e + 1 ≤ n) (hs : n < 2305843009213693952) :
    Calls Try.prog 43 #[.slice (some ⟨blk, 0, none⟩) n cap, .int .i64 a, .int .i64 ((e + 1 : Nat) : Int)] w fun x w' => x = .returned (.tuple #[]) ∧ SR w w' blk N (reverseRange d a (e + 1)) := by
  have hei : (((e + 1 : Nat) : Int)) - 1 = (e : Int) := by omega
  go_enter Try.func43, Try.ntmps43
  go_wp2
  go_loopw [6, 7] (fun vi vj wr => ∃ (i j : Nat) (dk : Array Int), vi = .int .i64 i ∧ vj = .int .i64 j ∧ i ≤ j + 1 ∧ j + 1 ≤ n ∧ dk.size = n ∧ Hid (SR w wr blk N dk) ∧ Hid (reverseLoop i j dk = reverseLoop a e d)) (fun vi vj _ => (intOf vj - intOf vi + 1).toNat)
  case atStart => exact ⟨a, e, d, rfl, rfl, by omega, by omega, hn, SR.refl hR, rfl⟩
  case round =>
    obtain ⟨i, j, dk, rfl, rfl, hij, hjn, hsk, HT, HO⟩ := hrel
    clear hR
    by_cases hlt : i < j
    · obtain ⟨q, rfl⟩ : ∃ q, j = q + 1 := ⟨j - 1, by omega⟩
      obtain ⟨x, hx⟩ : ∃ x, dk[i]! = x := ⟨_, rfl⟩
      obtain ⟨y, hy⟩ : ∃ y, dk[q + 1]! = y := ⟨_, rfl⟩
      have c0 := HT.out.2.cell (j := i) (by omega)
      have f0 := HT.out.2.frozen i
      have c1 := HT.out.2.cell (j := q + 1) (by omega)
      have f1 := HT.out.2.frozen (q + 1)
      rw [hx] at c0
      rw [hy] at c1
      have HX : Hid _ := hx
      have HY : Hid _ := hy
      clear hx hy
      have U1 := ((HT.out.set (j := i) (by omega) y).drew).2
      have e1 := U1.cell (j := q + 1) (by simp; omega)
      have e2 := U1.frozen (q + 1)
      obtain ⟨z, hz⟩ : ∃ z, (dk.setIfInBounds i y)[q + 1]! = z := ⟨_, rfl⟩
      rw [hz] at e1
      clear hz U1
      have hlz : (i : Int) < ((q + 1 : Nat) : Int) := by omega
      go_wp2
      go_region
      have S := (show Hid _ from HT.out.swapD (i := i) (j := q + 1) (by omega) (by omega) HX.out HY.out)
      all_goals go_wp2
      go_roundw
      case rel =>
        refine ⟨i + 1, q, swp dk i (q + 1), by go_num, by go_num, by omega, by omega, by rw [size_swp]; exact hsk, S.out, ?_⟩
        have q1 := rv_go i (q + 1) dk (by omega)
        exact (q1.symm).trans HO.out
      case measure => simp [intOf] <;> omega
    · go_wp2
      go_end0
      refine ⟨rfl, ?_⟩
      have q1 := HO.out
      rw [rv_stop i j dk hlt] at q1
      show SR _ _ _ _ (reverseLoop a e d)
      rw [← q1]
      exact HT.out
/-- A variable that counts. -/
def Ct (w : World) (sb s : Nat) : Prop := ∃ e, w.heap[sb]? = some (.cells #[.int .i64 s] e (0, 0))
def Sw (w w' : World) (sb s : Nat) : Prop := w.grownBy w' (some sb) ∧ Ct w' sb s
theorem Ct.cell {w : World} {sb s : Nat} (h : Ct w sb s) : w.cell? ⟨sb, 0, none⟩ = some (.int .i64 s) := by
  obtain ⟨e, h⟩ := h
  simp [World.cell?, h]
theorem Ct.frozen {w : World} {sb s : Nat} (h : Ct w sb s) : w.frozen? ⟨sb, 0, none⟩ = false := by
  obtain ⟨e, h⟩ := h
  simp [World.frozen?, h]
theorem Ct.set {w : World} {sb s : Nat} (h : Ct w sb s) (t : Nat) : Ct (w.setCell ⟨sb, 0, none⟩ (.int .i64 t)) sb t := by
  obtain ⟨e, h⟩ := h
  refine ⟨e, ?_⟩
  show (w.heap.modify sb _)[sb]? = _
  rw [Array.getElem?_modify, if_pos rfl, h]
  rfl
theorem Ct.drewN {w : World} {sb s : Nat} (h : Ct w sb s) (n : Nat) : Ct (w.drewN n) sb s := h
theorem grown_drewN {w w' : World} {row : Option Nat} (h : w.grownBy w' row) (n : Nat) : w.grownBy (w'.drewN n) row := ⟨h.os, h.tape, h.output, h.size, h.block⟩
theorem Sw.trans {w w' w'' : World} {sb s t : Nat} (h : Sw w w' sb s) (k : Sw w' w'' sb t) : Sw w w'' sb t := ⟨h.1.trans k.1, k.2⟩
set_option maxRecDepth 100000 in
theorem so_order2 (blk N cap n a b sb s : Nat) (d : Array Int) (w : World) (hR : Rw w blk N d) (hn : d.size = n) (ha : a < n) (hb : b < n) (hs : s < 100) (hc : Ct w sb s) :
    Calls Try.prog 69 #[.slice (some ⟨blk, 0, none⟩) n cap, .int .i64 a, .int .i64 b, .pointer (some ⟨sb, 0, none⟩)] w fun x w' =>
      x = .returned (.tuple #[.int .i64 ((order2 ltInt d a b s).1 : Nat), .int .i64 ((order2 ltInt d a b s).2.1 : Nat)]) ∧ Sw w w' sb (order2 ltInt d a b s).2.2 := by
  obtain ⟨x, hx⟩ : ∃ x, d[a]! = x := ⟨_, rfl⟩
  obtain ⟨y, hy⟩ : ∃ y, d[b]! = y := ⟨_, rfl⟩
  have c0 := hR.cell (j := a) (by omega)
  have c1 := hR.cell (j := b) (by omega)
  have cs := hc.cell
  have fs := hc.frozen
  rw [hx] at c0
  rw [hy] at c1
  have HX : Hid _ := hx
  have HY : Hid _ := hy
  have HC : Hid _ := hc
  clear hx hy hR hc
  go_enter Try.func69, Try.ntmps69
  go_wp2
  go_quiet (first | (go_at_call 45; refine Calls.quiet_of_same (so_less _ _ _)))
  go_wp2
  · have hl : ltInt y x = true := by assumption
    have ho : order2 ltInt d a b s = (b, a, s + 1) := by unfold order2; rw [HX.out, HY.out, if_pos hl]
    go_ret2
    rw [ho]
    refine ⟨rfl, ?_⟩
    exact ⟨(grown_drewN (World.grownBy.refl _ _) _).trans (grown_setCell _ _ _ _), (Ct.drewN HC.out _).set (s + 1)⟩
  · have hl : ltInt y x = false := by assumption
    have ho : order2 ltInt d a b s = (a, b, s) := by unfold order2; rw [HX.out, HY.out, hl]; rfl
    go_ret2
    rw [ho]
    exact ⟨rfl, grown_drewN (World.grownBy.refl _ _) _, Ct.drewN HC.out _⟩
theorem o2_le (d : Array Int) (a b s : Nat) : (order2 ltInt d a b s).2.2 ≤ s + 1 ∧ ∀ n, a < n → b < n → (order2 ltInt d a b s).1 < n ∧ (order2 ltInt d a b s).2.1 < n := by
  unfold order2
  split
  · exact ⟨Nat.le_refl _, fun n h1 h2 => ⟨h2, h1⟩⟩
  · exact ⟨Nat.le_succ _, fun n h1 h2 => ⟨h1, h2⟩⟩
theorem Ct.kept {w w' : World} {row : Option Nat} {sb s : Nat} (h : Ct w sb s) (hg : w.grownBy w' row) (hne : some sb ≠ row) : Ct w' sb s := by
  obtain ⟨e, h⟩ := h
  exact ⟨e, (hg.block sb (Array.getElem?_eq_some_iff.1 h).1 hne).trans h⟩
set_option maxHeartbeats 400000 in
set_option maxRecDepth 100000 in
theorem so_median (blk N cap n a b c sb s : Nat) (d : Array Int) (w : World) (hR : Rw w blk N d) (hn : d.size = n) (ha : a < n) (hb : b < n) (hcn : c < n) (hs : s < 90) (hc : Ct w sb s) (hne : some blk ≠ some sb) :
    Calls Try.prog 63 #[.slice (some ⟨blk, 0, none⟩) n cap, .int .i64 a, .int .i64 b, .int .i64 c, .pointer (some ⟨sb, 0, none⟩)] w fun x w' =>
      x = .returned (.int .i64 ((median ltInt d a b c s).1 : Nat)) ∧ Sw w w' sb (median ltInt d a b c s).2 := by
  obtain ⟨⟨u1, v1, t1⟩, hr1⟩ : ∃ r, order2 ltInt d a b s = r := ⟨_, rfl⟩
  have l1 := o2_le d a b s
  rw [hr1] at l1
  obtain ⟨⟨u2, v2, t2⟩, hr2⟩ : ∃ r, order2 ltInt d v1 c t1 = r := ⟨_, rfl⟩
  have l2 := o2_le d v1 c t1
  rw [hr2] at l2
  obtain ⟨⟨u3, v3, t3⟩, hr3⟩ : ∃ r, order2 ltInt d u1 u2 t2 = r := ⟨_, rfl⟩
  have l3 := o2_le d u1 u2 t2
  rw [hr3] at l3
  have hm : Hid (median ltInt d a b c s = (v3, t3)) := (show _ = _ by unfold median; simp only [hr1, hr2, hr3])
  have k1 : u1 < n ∧ v1 < n := l1.2 n ha hb
  have k2 : u2 < n ∧ v2 < n := l2.2 n k1.2 hcn
  have k3 : u3 < n ∧ v3 < n := l3.2 n k1.1 k2.1
  have e1 : t1 ≤ s + 1 := l1.1
  have e2 : t2 ≤ t1 + 1 := l2.1
  clear l1 l2 l3
  have hc1 := so_order2 blk N cap n a b sb s d w hR hn ha hb (by omega) hc
  have hc2 : ∀ w1, Sw w w1 sb t1 → _ := fun w1 h1 => so_order2 blk N cap n v1 c sb t1 d w1 (hR.kept h1.1 hne) hn k1.2 hcn (by omega) h1.2
  have hc3 : ∀ w1, Sw w w1 sb t2 → _ := fun w1 h1 => so_order2 blk N cap n u1 u2 sb t2 d w1 (hR.kept h1.1 hne) hn k1.1 k2.1 (by omega) h1.2
  rw [hr1] at hc1
  rw [hr2] at hc2
  rw [hr3] at hc3
  have HC2 : Hid _ := hc2
  have HC3 : Hid _ := hc3
  clear hc2 hc3 hr1 hr2 hr3 hR hc
  go_enter Try.func63, Try.ntmps63
  go_wp2_with (go_at_call 69; refine hc1.mono ?_; rintro x w1 ⟨rfl, hS1⟩; refine Hid.out ?_)
  have HS1 : Hid _ := hS1
  clear hS1 hc1
  unfold Hid
  have hd2 := HC2.out w1 HS1.out
  go_wp2_with (go_at_call 69; refine hd2.mono ?_; rintro x w2 ⟨rfl, hS2⟩; refine Hid.out ?_)
  have HS2 : Hid _ := Sw.trans HS1.out hS2
  clear hS2 hd2
  unfold Hid
  have hd3 := HC3.out w2 HS2.out
  go_wp2_with (go_at_call 69; refine hd3.mono ?_; rintro x w3 ⟨rfl, hS3⟩)
  go_ret
  rw [hm.out]
  exact ⟨rfl, Sw.trans HS2.out hS3⟩
end
section
open Go.RowKit Go.Sort
theorem med_le (d : Array Int) (a b c s n : Nat) (ha : a < n) (hb : b < n) (hc : c < n) : (median ltInt d a b c s).1 < n ∧ (median ltInt d a b c s).2 ≤ s + 3 := by
  obtain ⟨⟨u1, v1, t1⟩, hr1⟩ : ∃ r, order2 ltInt d a b s = r := ⟨_, rfl⟩
  have l1 := o2_le d a b s
  rw [hr1] at l1
  obtain ⟨⟨u2, v2, t2⟩, hr2⟩ : ∃ r, order2 ltInt d v1 c t1 = r := ⟨_, rfl⟩
  have l2 := o2_le d v1 c t1
  rw [hr2] at l2
  obtain ⟨⟨u3, v3, t3⟩, hr3⟩ : ∃ r, order2 ltInt d u1 u2 t2 = r := ⟨_, rfl⟩
  have l3 := o2_le d u1 u2 t2
  rw [hr3] at l3
  have hm : median ltInt d a b c s = (v3, t3) := by unfold median; simp only [hr1, hr2, hr3]
  have k1 : u1 < n ∧ v1 < n := l1.2 n ha hb
  have k2 : u2 < n ∧ v2 < n := l2.2 n k1.2 hc
  have k3 : u3 < n ∧ v3 < n := l3.2 n k1.1 k2.1
  have e1 : t1 ≤ s + 1 := l1.1
  have e2 : t2 ≤ t1 + 1 := l2.1
  have e3 : t3 ≤ t2 + 1 := l3.1
  rw [hm]
  exact ⟨k3.2, by show t3 ≤ _; omega⟩
set_option maxHeartbeats 400000 in
set_option maxRecDepth 100000 in
theorem so_medAdj (blk N cap n p sb s : Nat) (d : Array Int) (w : World) (hR : Rw w blk N d) (hn : d.size = n) (hp : p + 2 < n) (hn2 : n < 2305843009213693952) (hs : s < 90) (hc : Ct w sb s) (hne : some blk ≠ some sb) :
    Calls Try.prog 62 #[.slice (some ⟨blk, 0, none⟩) n cap, .int .i64 ((p + 1 : Nat) : Int), .pointer (some ⟨sb, 0, none⟩)] w fun x w' =>
      x = .returned (.int .i64 ((medianAdjacent ltInt d (p + 1) s).1 : Nat)) ∧ Sw w w' sb (medianAdjacent ltInt d (p + 1) s).2 := by
  have hc1 := so_median blk N cap n p (p + 1) (p + 2) sb s d w hR hn (by omega) (by omega) hp hs hc hne
  have e1 : ((p + 2 : Nat) : Int) = ((p + 1 : Nat) : Int) + 1 := by omega
  rw [e1] at hc1
  clear hR hc
  go_enter Try.func62, Try.ntmps62
  go_wp2_with (go_at_call 63; refine hc1.mono ?_; rintro x w1 ⟨rfl, hS1⟩)
  go_ret
  exact ⟨rfl, hS1⟩
def hintI : Go.Sort.Hint → Int
  | .unknown => 0
  | .increasing => 1
  | .decreasing => 2
def hintS (s : Nat) : Go.Sort.Hint := if s = 0 then .increasing else if s = 12 then .decreasing else .unknown
theorem medAdj_le (d : Array Int) (p s n : Nat) (hp : p + 2 < n) : (medianAdjacent ltInt d (p + 1) s).1 < n ∧ (medianAdjacent ltInt d (p + 1) s).2 ≤ s + 3 :=
  med_le d p (p + 1) (p + 2) s n (by omega) (by omega) hp
theorem choose_50 (d : Array Int) (a l q pi pj pk i1 j1 k1 s1 s2 s3 v s : Nat) (hl : 50 ≤ l) (hq : l / 4 = q) (hi : a + q = pi + 1) (hj : a + q * 2 = pj + 1) (hk : a + q * 3 = pk + 1)
    (e1 : medianAdjacent ltInt d (pi + 1) 0 = (i1, s1)) (e2 : medianAdjacent ltInt d (pj + 1) s1 = (j1, s2)) (e3 : medianAdjacent ltInt d (pk + 1) s2 = (k1, s3)) (e4 : median ltInt d i1 j1 k1 s3 = (v, s)) :
    choosePivot ltInt d a (a + l) = (v, hintS s) := by
  unfold choosePivot
  simp only [Nat.add_sub_cancel_left, hq, Nat.mul_one, hi, hj, hk, if_pos hl, if_pos (show l ≥ 8 by omega), e1, e2, e3, e4]
  rfl
theorem choose_8 (d : Array Int) (a l q v s : Nat) (hl : ¬ 50 ≤ l) (h8 : 8 ≤ l) (hq : l / 4 = q) (e4 : median ltInt d (a + q) (a + q * 2) (a + q * 3) 0 = (v, s)) :
    choosePivot ltInt d a (a + l) = (v, hintS s) := by
  unfold choosePivot
  simp only [Nat.add_sub_cancel_left, hq, Nat.mul_one, if_neg hl, if_pos (show l ≥ 8 by omega), e4]
  rfl
theorem hintI_0 : hintI (hintS 0) = 1 := rfl
theorem hintI_12 : hintI (hintS 12) = 2 := rfl
theorem hintI_u {s : Nat} (h0 : s ≠ 0) (h1 : s ≠ 12) : hintI (hintS s) = 0 := by
  unfold hintS
  rw [if_neg h0, if_neg h1]
  rfl
set_option maxHeartbeats 1000000 in
set_option maxRecDepth 100000 in
theorem so_choose (blk N cap n a l : Nat) (d : Array Int) (w : World) (hR : Rw w blk N d) (hn : d.size = n) (hl : 12 < l) (hb : a + l ≤ n) (hn2 : n < 2305843009213693952) :
    Calls Try.prog 42 #[.slice (some ⟨blk, 0, none⟩) n cap, .int .i64 a, .int .i64 ((a + l : Nat) : Int)] w fun x w' =>
      x = .returned (.tuple #[.int .i64 ((choosePivot ltInt d a (a + l)).1 : Nat), .int .i64 (hintI (choosePivot ltInt d a (a + l)).2)]) ∧ w.grownBy w' none := by
  obtain ⟨b, hbl⟩ : ∃ b, a + l = b := ⟨_, rfl⟩
  rw [hbl] at hb
  have hbi : (b : Int) - (a : Int) = (l : Int) := by omega
  obtain ⟨q, hq⟩ : ∃ q, l / 4 = q := ⟨_, rfl⟩
  have hqi : (l : Int) / 4 = (q : Int) := by omega
  have hq3 : 3 ≤ q := by omega
  have hqn : a + q * 3 + 3 < n := by omega
  obtain ⟨pi, hpi⟩ : ∃ pi, a + q = pi + 1 := ⟨a + q - 1, by omega⟩
  obtain ⟨pj, hpj⟩ : ∃ pj, a + q * 2 = pj + 1 := ⟨a + q * 2 - 1, by omega⟩
  obtain ⟨pk, hpk⟩ : ∃ pk, a + q * 3 = pk + 1 := ⟨a + q * 3 - 1, by omega⟩
  have hI : (a : Int) + (q : Int) = ((pi + 1 : Nat) : Int) := by omega
  have hJ : (a : Int) + (q : Int) * 2 = ((pj + 1 : Nat) : Int) := by omega
  have hK : (a : Int) + (q : Int) * 3 = ((pk + 1 : Nat) : Int) := by omega
  have bI : pi + 2 < n := by omega
  have bJ : pj + 2 < n := by omega
  have bK : pk + 2 < n := by omega
  have hne : some blk ≠ some w.heap.size := fun e => by cases e; exact absurd hR.lt (Nat.lt_irrefl _)
  have hg1 : w.grownBy (w.alloc (.cells #[.int .i64 0] 3)) none := World.grownBy_alloc _ _ _
  have hR1 := hR.kept hg1 (by simp)
  have hC1 : Ct (w.alloc (.cells #[.int .i64 0] 3)) w.heap.size 0 := ⟨3, by show (w.heap.push _)[w.heap.size]? = _; simp⟩
  have fin : Hid (∀ w' s, Sw (w.alloc (.cells #[.int .i64 0] 3)) w' w.heap.size s → w.grownBy w' none) := fun w' s h =>
    ⟨h.1.os, h.1.tape, h.1.output, Nat.le_trans hg1.size h.1.size, fun k hk _ => (h.1.block k (Nat.lt_of_lt_of_le hk hg1.size) (fun e => by cases e; omega)).trans (hg1.block k hk (by simp))⟩
  by_cases h50 : 50 ≤ l
  · obtain ⟨⟨i1, s1⟩, e1⟩ : ∃ r, medianAdjacent ltInt d (pi + 1) 0 = r := ⟨_, rfl⟩
    have l1 := medAdj_le d pi 0 n bI
    rw [e1] at l1
    obtain ⟨⟨j1, s2⟩, e2⟩ : ∃ r, medianAdjacent ltInt d (pj + 1) s1 = r := ⟨_, rfl⟩
    have l2 := medAdj_le d pj s1 n bJ
    rw [e2] at l2
    obtain ⟨⟨k1, s3⟩, e3⟩ : ∃ r, medianAdjacent ltInt d (pk + 1) s2 = r := ⟨_, rfl⟩
    have l3 := medAdj_le d pk s2 n bK
    rw [e3] at l3
    have m1 : i1 < n ∧ s1 ≤ 3 := ⟨l1.1, by have := l1.2; simp only at this; omega⟩
    have m2 : j1 < n ∧ s2 ≤ s1 + 3 := l2
    have m3 : k1 < n ∧ s3 ≤ s2 + 3 := l3
    clear l1 l2 l3
    obtain ⟨⟨v, s⟩, e4⟩ : ∃ r, median ltInt d i1 j1 k1 s3 = r := ⟨_, rfl⟩
    have hch : Hid (choosePivot ltInt d a (a + l) = (v, hintS s)) := choose_50 d a l q pi pj pk i1 j1 k1 s1 s2 s3 v s h50 hq hpi hpj hpk e1 e2 e3 e4
    rw [hbl] at hch ⊢
    have hc1 := so_medAdj blk N cap n pi w.heap.size 0 d _ hR1 hn bI hn2 (by omega) hC1 hne
    have HC2 : Hid (∀ w1, Sw (w.alloc (.cells #[.int .i64 0] 3)) w1 w.heap.size s1 → _) := fun w1 h1 => so_medAdj blk N cap n pj w.heap.size s1 d w1 (hR1.kept h1.1 hne) hn bJ hn2 (by omega) h1.2 hne
    have HC3 : Hid (∀ w1, Sw (w.alloc (.cells #[.int .i64 0] 3)) w1 w.heap.size s2 → _) := fun w1 h1 => so_medAdj blk N cap n pk w.heap.size s2 d w1 (hR1.kept h1.1 hne) hn bK hn2 (by omega) h1.2 hne
    have HC4 : Hid (∀ w1, Sw (w.alloc (.cells #[.int .i64 0] 3)) w1 w.heap.size s3 → _) := fun w1 h1 => so_median blk N cap n i1 j1 k1 w.heap.size s3 d w1 (hR1.kept h1.1 hne) hn m1.1 m2.1 m3.1 (by omega) h1.2 hne
    rw [e1] at hc1
    rw [e2] at HC2
    rw [e3] at HC3
    rw [e4] at HC4
    clear hR hR1 hC1 e1 e2 e3 e4 hpi hpj hpk hbl hg1 hq hne
    have h50i : (50 : Int) ≤ (l : Int) := by omega
    have h8i : (8 : Int) ≤ (l : Int) := by omega
    go_enter Try.func42, Try.ntmps42
    go_wp2_with (go_at_call 62; refine hc1.mono ?_; rintro x w1 ⟨rfl, hS1⟩; refine Hid.out ?_)
    have HS1 : Hid _ := hS1
    clear hS1 hc1
    have hd2 := HC2.out w1 HS1.out
    unfold Hid
    go_wp2_with (go_at_call 62; refine hd2.mono ?_; rintro x w2 ⟨rfl, hS2⟩; refine Hid.out ?_)
    have HS2 : Hid _ := Sw.trans HS1.out hS2
    clear hS2 hd2
    have hd3 := HC3.out w2 HS2.out
    unfold Hid
    go_wp2_with (go_at_call 62; refine hd3.mono ?_; rintro x w3 ⟨rfl, hS3⟩; refine Hid.out ?_)
    have HS3 : Hid _ := Sw.trans HS2.out hS3
    clear hS3 hd3
    have hd4 := HC4.out w3 HS3.out
    unfold Hid
    go_wp2_with (go_at_call 63; refine hd4.mono ?_; rintro x w4 ⟨rfl, hS4⟩; refine Hid.out ?_)
    have HS4 : Hid _ := Sw.trans HS3.out hS4
    clear hS4
    have cS := HS4.out.2.cell
    clear hd4
    unfold Hid
    go_wp2
    · have h0 : s = 0 := by
        have : ((s : Int) == 0) = true := by assumption
        have := this; simp at this; omega
      subst h0
      go_ret2
      rw [hch.out]
      exact ⟨rfl, fin.out _ _ HS4.out⟩
    · have h0 : s ≠ 0 := by
        have : ((s : Int) == 0) = false := by assumption
        have := this; simp at this; omega
      have h1 : s = 12 := by
        have : ((s : Int) == 12) = true := by assumption
        have := this; simp at this; omega
      subst h1
      go_ret2
      rw [hch.out]
      exact ⟨rfl, fin.out _ _ HS4.out⟩
    · have h0 : s ≠ 0 := by
        have : ((s : Int) == 0) = false := by assumption
        have := this; simp at this; omega
      have h1 : s ≠ 12 := by
        have : ((s : Int) == 12) = false := by assumption
        have := this; simp at this; omega
      go_ret2
      rw [hch.out, hintI_u h0 h1]
      exact ⟨rfl, fin.out _ _ HS4.out⟩
  · obtain ⟨⟨v, s⟩, e4⟩ : ∃ r, median ltInt d (pi + 1) (pj + 1) (pk + 1) 0 = r := ⟨_, rfl⟩
    have hch : Hid (choosePivot ltInt d a (a + l) = (v, hintS s)) := choose_8 d a l q v s h50 (by omega) hq (by rw [hpi, hpj, hpk]; exact e4)
    rw [hbl] at hch ⊢
    have hd4 := so_median blk N cap n (pi + 1) (pj + 1) (pk + 1) w.heap.size 0 d _ hR1 hn (by omega) (by omega) (by omega) (by omega) hC1 hne
    rw [e4] at hd4
    clear hR hR1 hC1 e4 hpi hpj hpk hbl hg1 hq hne
    have h50i : ¬ (50 : Int) ≤ (l : Int) := by omega
    have h8i : (8 : Int) ≤ (l : Int) := by omega
    go_enter Try.func42, Try.ntmps42
    go_wp2_with (go_at_call 63; refine hd4.mono ?_; rintro x w4 ⟨rfl, hS4⟩; refine Hid.out ?_)
    have HS4 : Hid _ := hS4
    clear hS4
    have cS := HS4.out.2.cell
    clear hd4
    unfold Hid
    go_wp2
    · have h0 : s = 0 := by
        have : ((s : Int) == 0) = true := by assumption
        have := this; simp at this; omega
      subst h0
      go_ret2
      rw [hch.out]
      exact ⟨rfl, fin.out _ _ HS4.out⟩
    · have h0 : s ≠ 0 := by
        have : ((s : Int) == 0) = false := by assumption
        have := this; simp at this; omega
      have h1 : s = 12 := by
        have : ((s : Int) == 12) = true := by assumption
        have := this; simp at this; omega
      subst h1
      go_ret2
      rw [hch.out]
      exact ⟨rfl, fin.out _ _ HS4.out⟩
    · have h0 : s ≠ 0 := by
        have : ((s : Int) == 0) = false := by assumption
        have := this; simp at this; omega
      have h1 : s ≠ 12 := by
        have : ((s : Int) == 12) = false := by assumption
        have := this; simp at this; omega
      go_ret2
      rw [hch.out, hintI_u h0 h1]
      exact ⟨rfl, fin.out _ _ HS4.out⟩
end
section
open Go.RowKit Go.Sort
theorem up_go (p : Int → Bool) (d : Array Int) (j i : Nat) (h : i ≤ j) (hp : p d[i]! = true) : scanUp p d j i = scanUp p d j (i + 1) := by
  rw [scanUp, if_pos (by simp [h, hp])]
theorem up_stop (p : Int → Bool) (d : Array Int) (j i : Nat) (h : ¬ i ≤ j ∨ p d[i]! = false) : scanUp p d j i = i := by
  rw [scanUp, if_neg (by rcases h with h | h <;> simp [h])]
theorem dn_go (p : Int → Bool) (d : Array Int) (i j : Nat) (h : i ≤ j + 1) (hp : p d[j + 1]! = true) : scanDown p d i (j + 1) = scanDown p d i j := by
  rw [scanDown, if_pos (by simp [h, hp])]
theorem dn_stop (p : Int → Bool) (d : Array Int) (i j : Nat) (_ : 1 ≤ i) (h : ¬ i ≤ j ∨ p d[j]! = false) : scanDown p d i j = j := by
  cases j with
  | zero => rw [scanDown]
  | succ j => rw [scanDown, if_neg (by rcases h with h | h <;> simp [h])]
theorem part_1 {d d1 : Array Int} {a e pivot i j : Nat} (h1 : swp d a pivot = d1) (hU : scanUp (fun x => ltInt x d1[a]!) d1 e (a + 1) = i) (hV : scanDown (fun x => !ltInt x d1[a]!) d1 i e = j) (hij : j < i) : partition ltInt d a (e + 1) pivot = (j, true, swp d1 j a) := by
  unfold partition
  simp only [h1, Nat.add_sub_cancel, hU, hV, if_pos (show i > j from hij)]
theorem part_2 {d d1 : Array Int} {a e pivot i j : Nat} (h1 : swp d a pivot = d1) (hU : scanUp (fun x => ltInt x d1[a]!) d1 e (a + 1) = i) (hV : scanDown (fun x => !ltInt x d1[a]!) d1 i e = j) (hij : ¬ j < i) {r : Nat × Array Int} (hr : partLoop ltInt a (i + 1) (j - 1) (swp d1 i j) = r) : partition ltInt d a (e + 1) pivot = (r.1, false, swp r.2 r.1 a) := by
  unfold partition
  simp only [h1, Nat.add_sub_cancel, hU, hV, if_neg (show ¬ i > j from hij), hr]
theorem pl_stop {dk : Array Int} {a i j i2 j2 : Nat} (hU : scanUp (fun x => ltInt x dk[a]!) dk j i = i2) (hV : scanDown (fun x => !ltInt x dk[a]!) dk i2 j = j2) (h : j2 < i2) : partLoop ltInt a i j dk = (j2, dk) := by
  rw [partLoop]
  simp only [hU, hV, if_pos (show i2 > j2 from h)]
theorem pl_go {dk : Array Int} {a i j i2 j2 : Nat} (hU : scanUp (fun x => ltInt x dk[a]!) dk j i = i2) (hV : scanDown (fun x => !ltInt x dk[a]!) dk i2 j = j2) (h : ¬ j2 < i2) (h1 : i ≤ i2) (h2 : j2 ≤ j) (h3 : 1 ≤ j2) : partLoop ltInt a i j dk = partLoop ltInt a (i2 + 1) (j2 - 1) (swp dk i2 j2) := by
  rw [partLoop]
  simp only [hU, hV, if_neg (show ¬ i2 > j2 from h)]
  rw [dif_pos (by omega)]
set_option maxHeartbeats 4000000 in
set_option maxRecDepth 100000 in
theorem so_partition (blk N cap n a e pivot : Nat) (d : Array Int) (w : World) (hR : Rw w blk N d) (hn : d.size = n) (_ : a ≤ pivot) (hpe : pivot ≤ e) (hae : a < e) (he : e + 1 ≤ n) (hn2 : n < 2305843009213693952) :
    Calls Try.prog 47 #[.slice (some ⟨blk, 0, none⟩) n cap, .int .i64 a, .int .i64 ((e + 1 : Nat) : Int), .int .i64 pivot] w fun x w' =>
      x = .returned (.tuple #[.int .i64 ((partition ltInt d a (e + 1) pivot).1 : Nat), .bool (partition ltInt d a (e + 1) pivot).2.1]) ∧ SR w w' blk N (partition ltInt d a (e + 1) pivot).2.2 := by
  obtain ⟨x, hx⟩ : ∃ x, d[a]! = x := ⟨_, rfl⟩
  obtain ⟨y, hy⟩ : ∃ y, d[pivot]! = y := ⟨_, rfl⟩
  have c0 := hR.cell (j := a) (by omega)
  have f0 := hR.frozen a
  have c1 := hR.cell (j := pivot) (by omega)
  have f1 := hR.frozen pivot
  rw [hx] at c0
  rw [hy] at c1
  have U1 := (((SR.refl hR).set (j := a) (by omega) y).drew).2
  have e1 := U1.cell (j := pivot) (by simp; omega)
  have e2 := U1.frozen pivot
  obtain ⟨z, hz⟩ : ∃ z, (d.setIfInBounds a y)[pivot]! = z := ⟨_, rfl⟩
  rw [hz] at e1
  have S0 : Hid _ := (SR.refl hR).swapD (i := a) (j := pivot) (by omega) (by omega) hx hy
  clear hz U1 hx hy hR
  go_enter Try.func47, Try.ntmps47
  go_wp2
  go_region
  clear c0 f0 c1 f1 e1 e2
  generalize ((w.setCell ⟨blk, a, none⟩ (.int .u64 y)).setCell ⟨blk, pivot, none⟩ (.int .u64 x)).drew = w1 at S0 ⊢
  obtain ⟨d1, hd1⟩ : ∃ d1, swp d a pivot = d1 := ⟨_, rfl⟩
  rw [hd1] at S0
  have hs1 : d1.size = n := by rw [← hd1, size_swp]; exact hn
  have HD1 : Hid _ := hd1
  clear hd1
  have hei : (((e + 1 : Nat) : Int)) - 1 = (e : Int) := by omega
  go_upto_block 0 with fail
  go_cut [10] from 12 (fun vi wc => ∃ i : Nat, vi = .int .i64 i ∧ (a + 1) ≤ i ∧ i ≤ e + 2 ∧ Hid (SR w wc blk N d1) ∧ Hid (scanUp (fun x => ltInt x d1[a]!) d1 e (a + 1) = i))
  case first =>
    go_wp2_with fail
    go_loopw [10] (fun vi wr => ∃ i : Nat, vi = .int .i64 i ∧ (a + 1) ≤ i ∧ i ≤ e + 2 ∧ Hid (SR w wr blk N d1) ∧ Hid (scanUp (fun x => ltInt x d1[a]!) d1 e i = scanUp (fun x => ltInt x d1[a]!) d1 e (a + 1))) (fun vi _ => e + 1 - (intOf vi).toNat)
    case atStart => exact ⟨(a + 1), rfl, Nat.le_refl _, by omega, S0.out, rfl⟩
    case round =>
      obtain ⟨i, rfl, hi0, hi1, HT, HO⟩ := hrel
      by_cases hij : i ≤ e
      · obtain ⟨x, hx⟩ : ∃ x, d1[i]! = x := ⟨_, rfl⟩
        obtain ⟨z, hz⟩ : ∃ z, d1[a]! = z := ⟨_, rfl⟩
        have c0 := HT.out.2.cell (j := i) (by omega)
        have c1 := HT.out.2.cell (j := a) (by omega)
        rw [hx] at c0
        rw [hz] at c1
        have HX : Hid _ := hx
        have HZ : Hid _ := hz
        clear hx hz
        go_wp2
        go_quiet (first | (go_at_call 45; refine Calls.quiet_of_same (so_less _ _ _)))
        go_wp2
        · have hl : ltInt x z = true := by assumption
          go_roundw
          case rel => exact ⟨i + 1, by go_num, by omega, by omega, HT.out.drewN _, ((up_go (fun x => ltInt x d1[a]!) d1 e i hij (by show ltInt d1[i]! d1[a]! = true; rw [HX.out, HZ.out, hl])).symm.trans HO.out : _ = _)⟩
          case measure => simp [intOf] <;> omega
        · have hl : ltInt x z = false := by assumption
          go_meet
          case rel => exact ⟨i, rfl, hi0, hi1, HT.out.drewN _, (HO.out.symm.trans (up_stop (fun x => ltInt x d1[a]!) d1 e i (.inr (by show ltInt d1[i]! d1[a]! = false; rw [HX.out, HZ.out, hl]))) : _ = _)⟩
      · have hd : decide ((i : Int) ≤ (e : Int)) = false := by simp; omega
        go_wp2
        go_quiet (first | (go_at_call 45; refine Calls.quiet_of_same (so_less _ _ _)))
        go_wp2
        go_meet
        case rel => exact ⟨i, rfl, hi0, hi1, HT.out.drewN _, (HO.out.symm.trans (up_stop (fun x => ltInt x d1[a]!) d1 e i (.inl hij)) : _ = _)⟩
  case rest =>
    obtain ⟨i, rfl, hi0, hi1, HT, HU⟩ := hcut
    go_upto_block 2 with fail
    go_cut [11] from 12 (fun vj wc => ∃ j : Nat, vj = .int .i64 j ∧ i ≤ j + 2 ∧ j ≤ e ∧ Hid (SR w wc blk N d1) ∧ Hid (scanDown (fun x => !ltInt x d1[a]!) d1 i e = j))
    case first =>
      go_wp2_with fail
      go_loopw [11] (fun vj wr => ∃ j : Nat, vj = .int .i64 j ∧ i ≤ j + 2 ∧ j ≤ e ∧ Hid (SR w wr blk N d1) ∧ Hid (scanDown (fun x => !ltInt x d1[a]!) d1 i j = scanDown (fun x => !ltInt x d1[a]!) d1 i e)) (fun vj _ => (intOf vj).toNat)
      case atStart => exact ⟨e, rfl, hi1, Nat.le_refl _, HT, rfl⟩
      case round =>
        obtain ⟨j, rfl, hj0, hj1, HT, HO⟩ := hrel
        by_cases hij : i ≤ j
        · obtain ⟨q, rfl⟩ : ∃ q, j = q + 1 := ⟨j - 1, by omega⟩
          obtain ⟨x, hx⟩ : ∃ x, d1[q + 1]! = x := ⟨_, rfl⟩
          obtain ⟨z, hz⟩ : ∃ z, d1[a]! = z := ⟨_, rfl⟩
          have c0 := HT.out.2.cell (j := q + 1) (by omega)
          have c1 := HT.out.2.cell (j := a) (by omega)
          rw [hx] at c0
          rw [hz] at c1
          have HX : Hid _ := hx
          have HZ : Hid _ := hz
          clear hx hz
          have hdi : (i : Int) ≤ ((q + 1 : Nat) : Int) := by omega
          have hdj : (i : Int) ≤ (q : Int) + 1 := by omega
          go_wp2
          go_quiet (first | (go_at_call 45; refine Calls.quiet_of_same (so_less _ _ _)))
          go_wp2
          · have hl : ltInt x z = false := by
              have : (!ltInt x z) = true := by assumption
              simpa using this
            go_roundw
            case rel => exact ⟨q, by go_num, by omega, by omega, HT.out.drewN _, ((dn_go (fun x => !ltInt x d1[a]!) d1 i q hij (by show (!ltInt d1[q + 1]! d1[a]!) = true; rw [HX.out, HZ.out, hl]; rfl)).symm.trans HO.out : _ = _)⟩
            case measure => simp [intOf] <;> omega
          · have hl : ltInt x z = true := by
              have : (!ltInt x z) = false := by assumption
              simpa using this
            go_meet
            case rel => exact ⟨q + 1, rfl, hj0, hj1, HT.out.drewN _, (HO.out.symm.trans (dn_stop (fun x => !ltInt x d1[a]!) d1 i (q + 1) (by omega) (.inr (by show (!ltInt d1[q + 1]! d1[a]!) = false; rw [HX.out, HZ.out, hl]; rfl))) : _ = _)⟩
        · have hd : decide ((i : Int) ≤ (j : Int)) = false := by simp; omega
          go_wp2
          go_quiet (first | (go_at_call 45; refine Calls.quiet_of_same (so_less _ _ _)))
          go_wp2
          go_meet
          case rel => exact ⟨j, rfl, hj0, hj1, HT.out.drewN _, (HO.out.symm.trans (dn_stop (fun x => !ltInt x d1[a]!) d1 i j (by omega) (.inl hij)) : _ = _)⟩
    case rest =>
      obtain ⟨j, rfl, hj0, hj1, HT2, HV⟩ := hcut
      clear HT S0
      by_cases hij : j < i
      · have hij2 : (j : Int) < (i : Int) := by omega
        obtain ⟨x, hx⟩ : ∃ x, d1[j]! = x := ⟨_, rfl⟩
        obtain ⟨y, hy⟩ : ∃ y, d1[a]! = y := ⟨_, rfl⟩
        have c0 := HT2.out.2.cell (j := j) (by omega)
        have f0 := HT2.out.2.frozen (j)
        have c1 := HT2.out.2.cell (j := a) (by omega)
        have f1 := HT2.out.2.frozen (a)
        rw [hx] at c0
        rw [hy] at c1
        have U1 := ((HT2.out.set (j := j) (by omega) y).drew).2
        have e1 := U1.cell (j := a) (by simp; omega)
        have e2 := U1.frozen (a)
        obtain ⟨z, hz⟩ : ∃ z, (d1.setIfInBounds (j) y)[a]! = z := ⟨_, rfl⟩
        rw [hz] at e1
        have S3 : Hid _ := HT2.out.swapD (i := j) (j := a) (by omega) (by omega) hx hy
        clear hz U1 hx hy HT2
        go_wp2
        go_region
        clear c0 f0 c1 f1 e1 e2
        generalize ((wc.setCell ⟨blk, j, none⟩ (.int .u64 y)).setCell ⟨blk, a, none⟩ (.int .u64 x)).drew = w3 at S3 ⊢
        go_wp2
        go_ret2
        rw [part_1 HD1.out HU.out HV.out hij]
        exact ⟨rfl, S3.out⟩
      · have hij2 : ¬ (j : Int) < (i : Int) := by omega
        have hij3 : (i : Int) ≤ (j : Int) := by omega
        obtain ⟨q, rfl⟩ : ∃ q, j = q + 1 := ⟨j - 1, by omega⟩
        obtain ⟨x, hx⟩ : ∃ x, d1[i]! = x := ⟨_, rfl⟩
        obtain ⟨y, hy⟩ : ∃ y, d1[q + 1]! = y := ⟨_, rfl⟩
        have c0 := HT2.out.2.cell (j := i) (by omega)
        have f0 := HT2.out.2.frozen (i)
        have c1 := HT2.out.2.cell (j := q + 1) (by omega)
        have f1 := HT2.out.2.frozen (q + 1)
        rw [hx] at c0
        rw [hy] at c1
        have U1 := ((HT2.out.set (j := i) (by omega) y).drew).2
        have e1 := U1.cell (j := q + 1) (by simp; omega)
        have e2 := U1.frozen (q + 1)
        obtain ⟨z, hz⟩ : ∃ z, (d1.setIfInBounds (i) y)[q + 1]! = z := ⟨_, rfl⟩
        rw [hz] at e1
        have S3 : Hid _ := HT2.out.swapD (i := i) (j := q + 1) (by omega) (by omega) hx hy
        clear hz U1 hx hy HT2
        go_wp2
        go_region
        clear c0 f0 c1 f1 e1 e2
        generalize ((wc.setCell ⟨blk, i, none⟩ (.int .u64 y)).setCell ⟨blk, q + 1, none⟩ (.int .u64 x)).drew = w3 at S3 ⊢
        go_wp2
        obtain ⟨r, hr⟩ : ∃ r, partLoop ltInt a (i + 1) q (swp d1 i (q + 1)) = r := ⟨_, rfl⟩
        have HP : Hid (partition ltInt d a (e + 1) pivot = (r.1, false, swp r.2 r.1 a)) := part_2 HD1.out HU.out HV.out hij (by rw [Nat.add_sub_cancel]; exact hr)
        go_loopw [10, 11] (fun vi vj wr => ∃ (i j : Nat) (dk : Array Int), vi = .int .i64 i ∧ vj = .int .i64 j ∧ a + 1 ≤ i ∧ i ≤ j + 2 ∧ j ≤ e ∧ dk.size = n ∧ Hid (SR w wr blk N dk) ∧ Hid (partLoop ltInt a i j dk = r)) (fun vi vj _ => (intOf vj + 2 - intOf vi).toNat)
        case atStart => exact ⟨i + 1, q, swp d1 i (q + 1), by go_num, by go_num, by omega, by omega, by omega, by rw [size_swp]; exact hs1, S3, hr⟩
        case round =>
          obtain ⟨i0, j0, dk, rfl, rfl, ha0, hij0, hje, hs1', HT, HO⟩ := hrel
          clear HU HV HD1 hs1 hij hij2 hij3 hi0 hi1 hj0 hj1 S3 hr
          have hs1 := hs1'
          clear hs1'
          go_upto_block 6 with fail
          go_cut [10] from 99 to 152 (fun vi wc => ∃ i : Nat, vi = .int .i64 i ∧ i0 ≤ i ∧ i ≤ j0 + 2 ∧ Hid (SR w wc blk N dk) ∧ Hid (scanUp (fun x => ltInt x dk[a]!) dk j0 i0 = i))
          case first =>
            go_wp2_with fail
            go_loopw [10] (fun vi wr => ∃ i : Nat, vi = .int .i64 i ∧ i0 ≤ i ∧ i ≤ j0 + 2 ∧ Hid (SR w wr blk N dk) ∧ Hid (scanUp (fun x => ltInt x dk[a]!) dk j0 i = scanUp (fun x => ltInt x dk[a]!) dk j0 i0)) (fun vi _ => j0 + 1 - (intOf vi).toNat)
            case atStart => exact ⟨i0, rfl, Nat.le_refl _, by omega, HT, rfl⟩
            case round =>
              obtain ⟨i, rfl, hi0, hi1, HT, HO⟩ := hrel
              by_cases hij : i ≤ j0
              · obtain ⟨x, hx⟩ : ∃ x, dk[i]! = x := ⟨_, rfl⟩
                obtain ⟨z, hz⟩ : ∃ z, dk[a]! = z := ⟨_, rfl⟩
                have c0 := HT.out.2.cell (j := i) (by omega)
                have c1 := HT.out.2.cell (j := a) (by omega)
                rw [hx] at c0
                rw [hz] at c1
                have HX : Hid _ := hx
                have HZ : Hid _ := hz
                clear hx hz
                go_wp2
                go_quiet (first | (go_at_call 45; refine Calls.quiet_of_same (so_less _ _ _)))
                go_wp2
                · have hl : ltInt x z = true := by assumption
                  go_roundw
                  case rel => exact ⟨i + 1, by go_num, by omega, by omega, HT.out.drewN _, ((up_go (fun x => ltInt x dk[a]!) dk j0 i hij (by show ltInt dk[i]! dk[a]! = true; rw [HX.out, HZ.out, hl])).symm.trans HO.out : _ = _)⟩
                  case measure => simp [intOf] <;> omega
                · have hl : ltInt x z = false := by assumption
                  go_meet
                  case rel => exact ⟨i, rfl, hi0, hi1, HT.out.drewN _, (HO.out.symm.trans (up_stop (fun x => ltInt x dk[a]!) dk j0 i (.inr (by show ltInt dk[i]! dk[a]! = false; rw [HX.out, HZ.out, hl]))) : _ = _)⟩
              · have hd : decide ((i : Int) ≤ (j0 : Int)) = false := by simp; omega
                go_wp2
                go_quiet (first | (go_at_call 45; refine Calls.quiet_of_same (so_less _ _ _)))
                go_wp2
                go_meet
                case rel => exact ⟨i, rfl, hi0, hi1, HT.out.drewN _, (HO.out.symm.trans (up_stop (fun x => ltInt x dk[a]!) dk j0 i (.inl hij)) : _ = _)⟩
          case rest =>
            clear HT
            obtain ⟨i, rfl, hi0, hi1, HT, HU⟩ := hcut
            go_upto_block 8 with fail
            go_cut [11] from 99 to 152 (fun vj wc => ∃ j : Nat, vj = .int .i64 j ∧ i ≤ j + 2 ∧ j ≤ j0 ∧ Hid (SR w wc blk N dk) ∧ Hid (scanDown (fun x => !ltInt x dk[a]!) dk i j0 = j))
            case first =>
              go_wp2_with fail
              go_loopw [11] (fun vj wr => ∃ j : Nat, vj = .int .i64 j ∧ i ≤ j + 2 ∧ j ≤ j0 ∧ Hid (SR w wr blk N dk) ∧ Hid (scanDown (fun x => !ltInt x dk[a]!) dk i j = scanDown (fun x => !ltInt x dk[a]!) dk i j0)) (fun vj _ => (intOf vj).toNat)
              case atStart => exact ⟨j0, rfl, hi1, Nat.le_refl _, HT, rfl⟩
              case round =>
                obtain ⟨j, rfl, hj0, hj1, HT, HO⟩ := hrel
                by_cases hij : i ≤ j
                · obtain ⟨q, rfl⟩ : ∃ q, j = q + 1 := ⟨j - 1, by omega⟩
                  obtain ⟨x, hx⟩ : ∃ x, dk[q + 1]! = x := ⟨_, rfl⟩
                  obtain ⟨z, hz⟩ : ∃ z, dk[a]! = z := ⟨_, rfl⟩
                  have c0 := HT.out.2.cell (j := q + 1) (by omega)
                  have c1 := HT.out.2.cell (j := a) (by omega)
                  rw [hx] at c0
                  rw [hz] at c1
                  have HX : Hid _ := hx
                  have HZ : Hid _ := hz
                  clear hx hz
                  have hdi : (i : Int) ≤ ((q + 1 : Nat) : Int) := by omega
                  have hdj : (i : Int) ≤ (q : Int) + 1 := by omega
                  go_wp2
                  go_quiet (first | (go_at_call 45; refine Calls.quiet_of_same (so_less _ _ _)))
                  go_wp2
                  · have hl : ltInt x z = false := by
                      have : (!ltInt x z) = true := by assumption
                      simpa using this
                    go_roundw
                    case rel => exact ⟨q, by go_num, by omega, by omega, HT.out.drewN _, ((dn_go (fun x => !ltInt x dk[a]!) dk i q hij (by show (!ltInt dk[q + 1]! dk[a]!) = true; rw [HX.out, HZ.out, hl]; rfl)).symm.trans HO.out : _ = _)⟩
                    case measure => simp [intOf] <;> omega
                  · have hl : ltInt x z = true := by
                      have : (!ltInt x z) = false := by assumption
                      simpa using this
                    go_meet
                    case rel => exact ⟨q + 1, rfl, hj0, hj1, HT.out.drewN _, (HO.out.symm.trans (dn_stop (fun x => !ltInt x dk[a]!) dk i (q + 1) (by omega) (.inr (by show (!ltInt dk[q + 1]! dk[a]!) = false; rw [HX.out, HZ.out, hl]; rfl))) : _ = _)⟩
                · have hd : decide ((i : Int) ≤ (j : Int)) = false := by simp; omega
                  go_wp2
                  go_quiet (first | (go_at_call 45; refine Calls.quiet_of_same (so_less _ _ _)))
                  go_wp2
                  go_meet
                  case rel => exact ⟨j, rfl, hj0, hj1, HT.out.drewN _, (HO.out.symm.trans (dn_stop (fun x => !ltInt x dk[a]!) dk i j (by omega) (.inl hij)) : _ = _)⟩
            case rest =>
              clear HT
              obtain ⟨j, rfl, hj0, hj1, HT2, HV⟩ := hcut
              by_cases hij : j < i
              · have hij2 : (j : Int) < (i : Int) := by omega
                have HE : Hid (r = (j, dk)) := HO.out.symm.trans (pl_stop HU.out HV.out hij)
                obtain ⟨x, hx⟩ : ∃ x, dk[j]! = x := ⟨_, rfl⟩
                obtain ⟨y, hy⟩ : ∃ y, dk[a]! = y := ⟨_, rfl⟩
                have c0 := HT2.out.2.cell (j := j) (by omega)
                have f0 := HT2.out.2.frozen (j)
                have c1 := HT2.out.2.cell (j := a) (by omega)
                have f1 := HT2.out.2.frozen (a)
                rw [hx] at c0
                rw [hy] at c1
                have U1 := ((HT2.out.set (j := j) (by omega) y).drew).2
                have e1 := U1.cell (j := a) (by simp; omega)
                have e2 := U1.frozen (a)
                obtain ⟨z, hz⟩ : ∃ z, (dk.setIfInBounds (j) y)[a]! = z := ⟨_, rfl⟩
                rw [hz] at e1
                have S4 : Hid _ := HT2.out.swapD (i := j) (j := a) (by omega) (by omega) hx hy
                clear hz U1 hx hy HT2
                go_wp2
                go_region
                clear c0 f0 c1 f1 e1 e2
                generalize ((wc.setCell ⟨blk, j, none⟩ (.int .u64 y)).setCell ⟨blk, a, none⟩ (.int .u64 x)).drew = w4 at S4 ⊢
                go_wp2
                go_ret2
                rw [HP.out, HE.out]
                exact ⟨rfl, S4.out⟩
              · have hij2 : ¬ (j : Int) < (i : Int) := by omega
                have hij3 : (i : Int) ≤ (j : Int) := by omega
                obtain ⟨q, rfl⟩ : ∃ q, j = q + 1 := ⟨j - 1, by omega⟩
                have HG : Hid (partLoop ltInt a (i + 1) q (swp dk i (q + 1)) = r) := (pl_go HU.out HV.out hij hi0 hj1 (by omega)).symm.trans HO.out
                obtain ⟨x, hx⟩ : ∃ x, dk[i]! = x := ⟨_, rfl⟩
                obtain ⟨y, hy⟩ : ∃ y, dk[q + 1]! = y := ⟨_, rfl⟩
                have c0 := HT2.out.2.cell (j := i) (by omega)
                have f0 := HT2.out.2.frozen (i)
                have c1 := HT2.out.2.cell (j := q + 1) (by omega)
                have f1 := HT2.out.2.frozen (q + 1)
                rw [hx] at c0
                rw [hy] at c1
                have U1 := ((HT2.out.set (j := i) (by omega) y).drew).2
                have e1 := U1.cell (j := q + 1) (by simp; omega)
                have e2 := U1.frozen (q + 1)
                obtain ⟨z, hz⟩ : ∃ z, (dk.setIfInBounds (i) y)[q + 1]! = z := ⟨_, rfl⟩
                rw [hz] at e1
                have S4 : Hid _ := HT2.out.swapD (i := i) (j := q + 1) (by omega) (by omega) hx hy
                clear hz U1 hx hy HT2
                go_wp2
                go_region
                clear c0 f0 c1 f1 e1 e2
                generalize ((wc.setCell ⟨blk, i, none⟩ (.int .u64 y)).setCell ⟨blk, q + 1, none⟩ (.int .u64 x)).drew = w4 at S4 ⊢
                go_wp2
                go_roundw
                case rel => exact ⟨i + 1, q, swp dk i (q + 1), by go_num, by go_num, by omega, by omega, by omega, by rw [size_swp]; exact hs1, S4, HG⟩
                case measure => simp [intOf] <;> omega
end
section
open Go.RowKit Go.Sort
theorem pe_stop {dk : Array Int} {a i j i2 j2 : Nat} (hU : scanUp (fun x => !ltInt dk[a]! x) dk j i = i2) (hV : scanDown (fun x => ltInt dk[a]! x) dk i2 j = j2) (h : j2 < i2) : partEqLoop ltInt a i j dk = (i2, dk) := by
  rw [partEqLoop]
  simp only [hU, hV, if_pos (show i2 > j2 from h)]
theorem pe_go {dk : Array Int} {a i j i2 j2 : Nat} (hU : scanUp (fun x => !ltInt dk[a]! x) dk j i = i2) (hV : scanDown (fun x => ltInt dk[a]! x) dk i2 j = j2) (h : ¬ j2 < i2) (h1 : i ≤ i2) (h2 : j2 ≤ j) (h3 : 1 ≤ j2) : partEqLoop ltInt a i j dk = partEqLoop ltInt a (i2 + 1) (j2 - 1) (swp dk i2 j2) := by
  rw [partEqLoop]
  simp only [hU, hV, if_neg (show ¬ i2 > j2 from h)]
  rw [dif_pos (by omega)]
set_option maxHeartbeats 4000000 in
set_option maxRecDepth 100000 in
theorem so_partEq (blk N cap n a e pivot : Nat) (d : Array Int) (w : World) (hR : Rw w blk N d) (hn : d.size = n) (hap : a ≤ pivot) (hpe : pivot ≤ e) (he : e + 1 ≤ n) (hn2 : n < 2305843009213693952) :
    Calls Try.prog 46 #[.slice (some ⟨blk, 0, none⟩) n cap, .int .i64 a, .int .i64 ((e + 1 : Nat) : Int), .int .i64 pivot] w fun x w' =>
      x = .returned (.int .i64 ((partitionEqual ltInt d a (e + 1) pivot).1 : Nat)) ∧ SR w w' blk N (partitionEqual ltInt d a (e + 1) pivot).2 := by
  obtain ⟨r, hr⟩ : ∃ r, partEqLoop ltInt a (a + 1) e (swp d a pivot) = r := ⟨_, rfl⟩
  have HP : Hid (partitionEqual ltInt d a (e + 1) pivot = r) := by unfold partitionEqual; rw [Nat.add_sub_cancel, hr]; exact rfl
  have hs0 : (swp d a pivot).size = n := by rw [size_swp]; exact hn
  rw [show (((e + 1 : Nat) : Int)) = (e : Int) + 1 by omega]
  have HT0 : Hid (SR w w blk N d) := SR.refl hR
  clear hR
  go_enter Try.func46, Try.ntmps46
  obtain ⟨x, hx⟩ : ∃ x, d[a]! = x := ⟨_, rfl⟩
  obtain ⟨y, hy⟩ : ∃ y, d[pivot]! = y := ⟨_, rfl⟩
  have c0 := HT0.out.2.cell (j := a) (by omega)
  have f0 := HT0.out.2.frozen (a)
  have c1 := HT0.out.2.cell (j := pivot) (by omega)
  have f1 := HT0.out.2.frozen (pivot)
  rw [hx] at c0
  rw [hy] at c1
  have U1 := ((HT0.out.set (j := a) (by omega) y).drew).2
  have e1 := U1.cell (j := pivot) (by simp; omega)
  have e2 := U1.frozen (pivot)
  obtain ⟨z, hz⟩ : ∃ z, (d.setIfInBounds (a) y)[pivot]! = z := ⟨_, rfl⟩
  rw [hz] at e1
  have S0 : Hid _ := HT0.out.swapD (i := a) (j := pivot) (by omega) (by omega) hx hy
  clear hz U1 hx hy HT0
  go_wp2
  go_region
  clear c0 f0 c1 f1 e1 e2
  generalize ((w.setCell ⟨blk, a, none⟩ (.int .u64 y)).setCell ⟨blk, pivot, none⟩ (.int .u64 x)).drew = w1 at S0 ⊢
  go_wp2
  go_loopw [9, 10] (fun vi vj wr => ∃ (i j : Nat) (dk : Array Int), vi = .int .i64 i ∧ vj = .int .i64 j ∧ a + 1 ≤ i ∧ i ≤ j + 2 ∧ j ≤ e ∧ dk.size = n ∧ Hid (SR w wr blk N dk) ∧ Hid (partEqLoop ltInt a i j dk = r)) (fun vi vj _ => (intOf vj + 2 - intOf vi).toNat)
  case atStart => exact ⟨a + 1, e, swp d a pivot, by go_num, by go_num, by omega, by omega, by omega, hs0, S0, hr⟩
  case round =>
    obtain ⟨i0, j0, dk, rfl, rfl, ha0, hij0, hje, hs1, HT, HO⟩ := hrel
    clear S0 hr hs0
    go_upto_block 2 with fail
    go_cut [9] from 29 to 82 (fun vi wc => ∃ i : Nat, vi = .int .i64 i ∧ i0 ≤ i ∧ i ≤ j0 + 2 ∧ Hid (SR w wc blk N dk) ∧ Hid (scanUp (fun x => !ltInt dk[a]! x) dk j0 i0 = i))
    case first =>
      go_wp2_with fail
      go_loopw [9] (fun vi wr => ∃ i : Nat, vi = .int .i64 i ∧ i0 ≤ i ∧ i ≤ j0 + 2 ∧ Hid (SR w wr blk N dk) ∧ Hid (scanUp (fun x => !ltInt dk[a]! x) dk j0 i = scanUp (fun x => !ltInt dk[a]! x) dk j0 i0)) (fun vi _ => j0 + 1 - (intOf vi).toNat)
      case atStart => exact ⟨i0, rfl, Nat.le_refl _, by omega, HT, rfl⟩
      case round =>
        obtain ⟨i, rfl, hi0, hi1, HT, HO⟩ := hrel
        by_cases hij : i ≤ j0
        · obtain ⟨x, hx⟩ : ∃ x, dk[i]! = x := ⟨_, rfl⟩
          obtain ⟨z, hz⟩ : ∃ z, dk[a]! = z := ⟨_, rfl⟩
          have c0 := HT.out.2.cell (j := i) (by omega)
          have c1 := HT.out.2.cell (j := a) (by omega)
          rw [hx] at c0
          rw [hz] at c1
          have HX : Hid _ := hx
          have HZ : Hid _ := hz
          clear hx hz
          go_wp2
          go_quiet (first | (go_at_call 45; refine Calls.quiet_of_same (so_less _ _ _)))
          go_wp2
          · have hl : ltInt z x = false := by
                have : (!ltInt z x) = true := by assumption
                simpa using this
            go_roundw
            case rel => exact ⟨i + 1, by go_num, by omega, by omega, HT.out.drewN _, ((up_go (fun x => !ltInt dk[a]! x) dk j0 i hij (by show (!ltInt dk[a]! dk[i]!) = true; rw [HX.out, HZ.out, hl]; rfl)).symm.trans HO.out : _ = _)⟩
            case measure => simp [intOf] <;> omega
          · have hl : ltInt z x = true := by
                have : (!ltInt z x) = false := by assumption
                simpa using this
            go_meet
            case rel => exact ⟨i, rfl, hi0, hi1, HT.out.drewN _, (HO.out.symm.trans (up_stop (fun x => !ltInt dk[a]! x) dk j0 i (.inr (by show (!ltInt dk[a]! dk[i]!) = false; rw [HX.out, HZ.out, hl]; rfl))) : _ = _)⟩
        · have hd : decide ((i : Int) ≤ (j0 : Int)) = false := by simp; omega
          go_wp2
          go_quiet (first | (go_at_call 45; refine Calls.quiet_of_same (so_less _ _ _)))
          go_wp2
          go_meet
          case rel => exact ⟨i, rfl, hi0, hi1, HT.out.drewN _, (HO.out.symm.trans (up_stop (fun x => !ltInt dk[a]! x) dk j0 i (.inl hij)) : _ = _)⟩
    case rest =>
      clear HT
      obtain ⟨i, rfl, hi0, hi1, HT, HU⟩ := hcut
      go_upto_block 4 with fail
      go_cut [10] from 29 to 82 (fun vj wc => ∃ j : Nat, vj = .int .i64 j ∧ i ≤ j + 2 ∧ j ≤ j0 ∧ Hid (SR w wc blk N dk) ∧ Hid (scanDown (fun x => ltInt dk[a]! x) dk i j0 = j))
      case first =>
        go_wp2_with fail
        go_loopw [10] (fun vj wr => ∃ j : Nat, vj = .int .i64 j ∧ i ≤ j + 2 ∧ j ≤ j0 ∧ Hid (SR w wr blk N dk) ∧ Hid (scanDown (fun x => ltInt dk[a]! x) dk i j = scanDown (fun x => ltInt dk[a]! x) dk i j0)) (fun vj _ => (intOf vj).toNat)
        case atStart => exact ⟨j0, rfl, hi1, Nat.le_refl _, HT, rfl⟩
        case round =>
          obtain ⟨j, rfl, hj0, hj1, HT, HO⟩ := hrel
          by_cases hij : i ≤ j
          · obtain ⟨q, rfl⟩ : ∃ q, j = q + 1 := ⟨j - 1, by omega⟩
            obtain ⟨x, hx⟩ : ∃ x, dk[q + 1]! = x := ⟨_, rfl⟩
            obtain ⟨z, hz⟩ : ∃ z, dk[a]! = z := ⟨_, rfl⟩
            have c0 := HT.out.2.cell (j := q + 1) (by omega)
            have c1 := HT.out.2.cell (j := a) (by omega)
            rw [hx] at c0
            rw [hz] at c1
            have HX : Hid _ := hx
            have HZ : Hid _ := hz
            clear hx hz
            have hdi : (i : Int) ≤ ((q + 1 : Nat) : Int) := by omega
            have hdj : (i : Int) ≤ (q : Int) + 1 := by omega
            go_wp2
            go_quiet (first | (go_at_call 45; refine Calls.quiet_of_same (so_less _ _ _)))
            go_wp2
            · have hl : ltInt z x = true := by
                have : ltInt z x = true := by assumption
                simpa using this
              go_roundw
              case rel => exact ⟨q, by go_num, by omega, by omega, HT.out.drewN _, ((dn_go (fun x => ltInt dk[a]! x) dk i q hij (by show ltInt dk[a]! dk[q + 1]! = true; rw [HX.out, HZ.out, hl])).symm.trans HO.out : _ = _)⟩
              case measure => simp [intOf] <;> omega
            · have hl : ltInt z x = false := by
                have : ltInt z x = false := by assumption
                simpa using this
              go_meet
              case rel => exact ⟨q + 1, rfl, hj0, hj1, HT.out.drewN _, (HO.out.symm.trans (dn_stop (fun x => ltInt dk[a]! x) dk i (q + 1) (by omega) (.inr (by show ltInt dk[a]! dk[q + 1]! = false; rw [HX.out, HZ.out, hl]))) : _ = _)⟩
          · have hd : decide ((i : Int) ≤ (j : Int)) = false := by simp; omega
            go_wp2
            go_quiet (first | (go_at_call 45; refine Calls.quiet_of_same (so_less _ _ _)))
            go_wp2
            go_meet
            case rel => exact ⟨j, rfl, hj0, hj1, HT.out.drewN _, (HO.out.symm.trans (dn_stop (fun x => ltInt dk[a]! x) dk i j (by omega) (.inl hij)) : _ = _)⟩
      case rest =>
        clear HT
        obtain ⟨j, rfl, hj0, hj1, HT2, HV⟩ := hcut
        by_cases hij : j < i
        · have hij2 : (j : Int) < (i : Int) := by omega
          have HE : Hid (r = (i, dk)) := HO.out.symm.trans (pe_stop HU.out HV.out hij)
          go_wp2
          go_ret
          rw [HP.out, HE.out]
          exact ⟨rfl, HT2.out⟩
        · have hij2 : ¬ (j : Int) < (i : Int) := by omega
          have hij3 : (i : Int) ≤ (j : Int) := by omega
          obtain ⟨q, rfl⟩ : ∃ q, j = q + 1 := ⟨j - 1, by omega⟩
          have HG : Hid (partEqLoop ltInt a (i + 1) q (swp dk i (q + 1)) = r) := (pe_go HU.out HV.out hij hi0 hj1 (by omega)).symm.trans HO.out
          obtain ⟨x, hx⟩ : ∃ x, dk[i]! = x := ⟨_, rfl⟩
          obtain ⟨y, hy⟩ : ∃ y, dk[q + 1]! = y := ⟨_, rfl⟩
          have c0 := HT2.out.2.cell (j := i) (by omega)
          have f0 := HT2.out.2.frozen (i)
          have c1 := HT2.out.2.cell (j := q + 1) (by omega)
          have f1 := HT2.out.2.frozen (q + 1)
          rw [hx] at c0
          rw [hy] at c1
          have U1 := ((HT2.out.set (j := i) (by omega) y).drew).2
          have e1 := U1.cell (j := q + 1) (by simp; omega)
          have e2 := U1.frozen (q + 1)
          obtain ⟨z, hz⟩ : ∃ z, (dk.setIfInBounds (i) y)[q + 1]! = z := ⟨_, rfl⟩
          rw [hz] at e1
          have S4 : Hid _ := HT2.out.swapD (i := i) (j := q + 1) (by omega) (by omega) hx hy
          clear hz U1 hx hy HT2
          go_wp2
          go_region
          clear c0 f0 c1 f1 e1 e2
          generalize ((wc.setCell ⟨blk, i, none⟩ (.int .u64 y)).setCell ⟨blk, q + 1, none⟩ (.int .u64 x)).drew = w4 at S4 ⊢
          go_wp2
          go_roundw
          case rel => exact ⟨i + 1, q, swp dk i (q + 1), by go_num, by go_num, by omega, by omega, by omega, by rw [size_swp]; exact hs1, S4, HG⟩
          case measure => simp [intOf] <;> omega
end
end Go.Proofs.Ytlglifgnklngfaa
