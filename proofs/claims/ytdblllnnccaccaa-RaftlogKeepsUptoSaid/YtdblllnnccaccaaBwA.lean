/-
  slices.Backward over entries: what its closure does, round by round.
-/
import Derived.RangeFuncBox
import Derived.RangeFuncLeaves
import Derived.Shelf.Abstract
import Derived.WalkKit
import Derived.OwnWalkIn
import Derived.TacticsInMore
import Derived.LoopNIn
import Derived.LoopIn
import Derived.Test.YtdblllnnccaccaaChecked
namespace Go.Proofs.Ytdblllnnccaccaa
open Go.RowKit Go.Shelf
attribute [local go_sem] Oper.semAt_some
def bwD (len : Nat) : List (Fin len) := List.ofFn fun i : Fin len => (⟨len - 1 - i.1, by have := i.2; omega⟩ : Fin len)
theorem bwD_len (len : Nat) : (bwD len).length = len := by simp [bwD]
theorem bwD_take (len t : Nat) (h : t < len) : (bwD len).take (t + 1) = (bwD len).take t ++ [⟨len - 1 - t, by omega⟩] := by
  rw [List.take_succ_eq_append_getElem (by rw [bwD_len]; exact h)]
  simp [bwD]
def bwV (cs : Nat → Nat → Value) (j : Nat) : Value := .agg #[cs j 0, cs j 1, cs j 2, cs j 3, cs j 4, cs j 5]
set_option maxRecDepth 100000 in
set_option maxHeartbeats 2000000 in
theorem bw1_in (F : Fence) (n : Nat) (h7 : F.fn 56) (hro : F.round = none) (hn : 1 ≤ n) (l Bs n₀ b off len cap : Nat) (cs : Nat → Nat → Value) (hreach : len ≤ 140737488351232) (hb : b < n₀) (J Jx : List (Fin len) → World → Prop)
    (hY : ∀ pre x W, J pre W → pre.length < len → YieldAt F (n - 1) Try.prog l #[.int .i64 (x.1 : Int), bwV cs x.1] W fun e W' =>
      (e = .returned (.bool true) ∧ J (pre ++ [x]) W' ∧ Below n₀ W W') ∨ (e = .returned (.bool false) ∧ Jx (pre ++ [x]) W'))
    (W : World) (hBs : W.cell? ⟨Bs, 0, none⟩ = some (.slice (some ⟨b, off, none⟩) len cap)) (hBn : Bs < n₀) (hc : ∀ j, j < len → ∀ c, c < 6 → W.cell? ⟨b, off + j * 6 + c, none⟩ = some (cs j c)) (h0 : J [] W) :
    CallsIn F n Try.prog 56 #[.func (.yield l) #[] #[], .pointer (some ⟨Bs, 0, none⟩)] W fun e W' => (∃ v, e = .returned v) ∧
      ((∃ ys, ys = bwD len ∧ J ys W') ∨ (∃ pre, (∃ k, k ≤ len ∧ pre = (bwD len).take k) ∧ Jx pre W')) := by
  refine callsIn_of_wp Try.func56 rfl h7 ?_ hro
  simp only [Try.ntmps56, List.size_toArray, List.length_cons, List.length_nil, Nat.reduceAdd, Nat.reduceSub, Array.replicate_succ, Array.replicate_zero, List.push_toArray, List.append_toArray, List.nil_append, List.cons_append]
  have hw0 : IntKind.wrap .i64 ((len : Int) - 1) = (len : Int) - 1 := by rw [IntKind.wrap_i64]; omega
  gi_wp2
  gi_loopw [3] (fun i wr => ∃ k : Nat, k ≤ len ∧ i = .int .i64 ((len : Int) - 1 - k) ∧ J ((bwD len).take k) wr ∧ Below n₀ W wr)
    (fun i _ => (intOf i + 1).toNat)
  case atStart => exact ⟨0, Nat.zero_le _, by simp, h0, Below.refl _ _⟩
  case round =>
    obtain ⟨k, hk, rfl, hJs, hnx⟩ := hrel
    have hBs' := (hnx.cell (p := ⟨Bs, 0, none⟩) hBn).trans hBs
    by_cases hlt : k < len
    · obtain ⟨j, hjk⟩ : ∃ j, j + 1 + k = len := ⟨len - k - 1, by omega⟩
      have hj : j < len := by omega
      obtain ⟨fn, tmps, assign, body, hy, hR⟩ := hY _ ⟨j, hj⟩ wr hJs (by rw [List.length_take, bwD_len]; omega)
      dsimp only [bwV] at hy
      have hcell : ∀ c, c < 6 → wr.cell? ⟨b, off + j * 6 + c, none⟩ = some (cs j c) := fun c hc6 => (hnx.cell (p := ⟨b, off + j * 6 + c, none⟩) hb).trans (hc j hj c hc6)
      have e0 : wr.cell? ⟨b, off + j * 6, none⟩ = some (cs j 0) := hcell 0 (by decide)
      have e1 := hcell 1 (by decide)
      have e2 := hcell 2 (by decide)
      have e3 := hcell 3 (by decide)
      have e4 := hcell 4 (by decide)
      have e5 := hcell 5 (by decide)
      clear hcell
      have hi : ((len : Int) - 1 - (k : Int)) = (j : Int) := by omega
      rw [hi]
      have g0 : (0 : Int) ≤ (j : Int) := by omega
      have g2 : IntKind.wrap .i64 ((j : Int) - 1) = (j : Int) - 1 := by rw [IntKind.wrap_i64]; omega
      gi_wp2
      have hT : (bwD len).take k ++ [⟨j, hj⟩] = (bwD len).take (k + 1) := by
        rw [bwD_take _ _ hlt]
        congr 2
        exact Fin.ext (show j = len - 1 - k by omega)
      rw [hT] at hR
      refine hR.mono ?_
      rintro e W3 (⟨rfl, hJ3, hk3⟩ | ⟨rfl, hJx3⟩)
      · gi_wp2
        go_roundw
        case rel =>
          exact ⟨k + 1, by omega, by rw [show ((len : Int) - 1 - ((k + 1 : Nat) : Int)) = (j : Int) - 1 by omega], hJ3, hnx.trans hk3⟩
        case measure =>
          simp [intOf]
      · gi_wp2
        refine bodyPost_ret (results_none rfl _ _ _) rfl ?_
        exact ⟨⟨_, rfl⟩, .inr ⟨_, ⟨k + 1, by omega, rfl⟩, hJx3⟩⟩
    · obtain rfl : k = len := by omega
      have hi : ((k : Int) - 1 - (k : Int)) = -1 := by omega
      rw [hi]
      gi_wp2
      go_end0
      exact ⟨⟨_, rfl⟩, .inl ⟨_, (List.take_of_length_le (by rw [bwD_len]; exact Nat.le_refl _)), hJs⟩⟩
set_option maxRecDepth 100000 in
set_option maxHeartbeats 1000000 in
theorem bw1_nil_in (F : Fence) (n : Nat) (h7 : F.fn 56) (hro : F.round = none) (l Bs : Nat) (J : List (Fin 0) → World → Prop) (W : World) (a : Option Addr) (c : Nat) (hBs : W.cell? ⟨Bs, 0, none⟩ = some (.slice a 0 c)) (h0 : J [] W) :
    CallsIn F n Try.prog 56 #[.func (.yield l) #[] #[], .pointer (some ⟨Bs, 0, none⟩)] W fun e W' => (∃ v, e = .returned v) ∧ J [] W' := by
  refine callsIn_of_wp Try.func56 rfl h7 ?_ hro
  simp only [Try.ntmps56, List.size_toArray, List.length_cons, List.length_nil, Nat.reduceAdd, Nat.reduceSub, Array.replicate_succ, Array.replicate_zero, List.push_toArray, List.append_toArray, List.nil_append, List.cons_append]
  gi_wp2
  gi_loopw [3] (fun i wr => i = .int .i64 (-1) ∧ J [] wr) (fun _ _ => 0)
  case atStart => exact ⟨rfl, h0⟩
  case round =>
    obtain ⟨rfl, hJs⟩ := hrel
    gi_wp2
    go_end0
    exact ⟨⟨_, rfl⟩, hJs⟩
theorem bw_in (F : Fence) (n : Nat) (h5 : F.fn 44) (hro : F.round = none) (a : Option Addr) (len cap : Nat) (w : World) :
    CallsIn F n Try.prog 44 #[.slice a len cap] w fun e w' => e = .returned (.func (.func 56) #[] #[.pointer (some ⟨w.heap.size, 0, none⟩)]) ∧ w' = w.alloc (.cells #[.slice a len cap] 29) := by
  refine callsIn_of_wp Try.func44 rfl h5 ?_ hro
  simp only [Try.ntmps44, List.size_toArray, List.length_cons, List.length_nil, Nat.reduceAdd, Nat.reduceSub, Array.replicate_succ, Array.replicate_zero, List.push_toArray, List.append_toArray, List.nil_append, List.cons_append]
  gi_wp2
  go_ret
  exact ⟨rfl, rfl⟩
def BwS (n₀ : Nat) (W : World) (sv : Value) (len : Nat) (cs : Nat → Nat → Value) : Prop :=
  ((∃ a c, sv = .slice a 0 c) ∧ len = 0) ∨ ∃ b off cap, sv = .slice (some ⟨b, off, none⟩) len cap ∧ b < n₀ ∧ ∀ j, j < len → ∀ c, c < 6 → W.cell? ⟨b, off + j * 6 + c, none⟩ = some (cs j c)
theorem BwS.below {n₀ : Nat} {A B : World} (h : Below n₀ A B) {sv : Value} {len : Nat} {cs : Nat → Nat → Value} : BwS n₀ A sv len cs → BwS n₀ B sv len cs
  | .inl e => .inl e
  | .inr ⟨b, off, cap, e, hb, hc⟩ => .inr ⟨b, off, cap, e, hb, fun j hj c hc6 => (h.cell (p := ⟨b, off + j * 6 + c, none⟩) hb).trans (hc j hj c hc6)⟩
theorem bw_stops (F : Fence) (n : Nat) (h7 : F.fn 56) (hro : F.round = none) (hn : 1 ≤ n) (Bs n₀ : Nat) (sv : Value) (len : Nat) (cs : Nat → Nat → Value) (hreach : len ≤ 140737488351232) (w : World) (hBs : Bs < n₀) (hn₀ : n₀ ≤ w.heap.size)
    (hc : w.cell? ⟨Bs, 0, none⟩ = some sv) (hI : BwS n₀ w sv len cs) :
    SeqStopsK F n Try.prog 56 #[.pointer (some ⟨Bs, 0, none⟩)] (fun x : Fin len => #[.int .i64 (x.1 : Int), bwV cs x.1]) (Below n₀) (fun ys => ys = bwD len) (fun pre => ∃ k, k ≤ len ∧ pre = (bwD len).take k) len w := fun l J Jx W hW _ _ hY h0 => by
  have hc' := (hW.cell (p := ⟨Bs, 0, none⟩) (Nat.lt_of_lt_of_le hBs hn₀)).trans hc
  rcases hI.below (hW.mono hn₀) with ⟨⟨a, c, rfl⟩, rfl⟩ | ⟨b, off, cap, rfl, hb, hcs⟩
  · exact (bw1_nil_in F n h7 hro l Bs J W a c hc' h0).mono fun e W' ⟨he, hj⟩ => ⟨he, .inl ⟨_, rfl, hj⟩⟩
  · exact bw1_in F n h7 hro hn l Bs n₀ b off len cap cs hreach hb J Jx hY W hc' hBs hcs h0
end Go.Proofs.Ytdblllnnccaccaa
