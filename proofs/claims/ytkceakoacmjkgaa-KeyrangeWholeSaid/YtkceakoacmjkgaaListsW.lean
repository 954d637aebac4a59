/-
  KeyrangeLists: the law's own walk.
-/
import Derived.Test.YtkceakoacmjkgaaAgree
import Derived.Test.YtkceakoacmjkgaaFrame
import Derived.Test.YtkceakoacmjkgaaKeep
import Derived.Test.YtkceakoacmjkgaaWholeK
import Derived.Test.YtkceakoacmjkgaaFind
import Derived.Test.YtkceakoacmjkgaaAppend
namespace Go.Proofs.Ytkceakoacmjkgaa
open Go.RowKit Go.BigFrame

theorem info_range : (Try.prog.info? 24).map (fun i => (i.zero, i.size, i.bytes)) = some (some (.agg #[.string ⟨#[]⟩, .string ⟨#[]⟩]), 2, 32) := by kernel_rfl

/-- The cells of so many ranges. -/
def rcells (rs : Nat → ByteArray × ByteArray) : Nat → List Value
  | 0 => []
  | n + 1 => rcells rs n ++ [.string (rs n).1, .string (rs n).2]
theorem rcells_length (rs : Nat → ByteArray × ByteArray) : ∀ n, (rcells rs n).length = n * 2
  | 0 => rfl
  | n + 1 => by rw [rcells, List.length_append, rcells_length rs n]; simp; omega
theorem rcells_at (rs : Nat → ByteArray × ByteArray) : ∀ n i, i < n → (rcells rs n)[i * 2]? = some (.string (rs i).1) ∧ (rcells rs n)[i * 2 + 1]? = some (.string (rs i).2)
  | 0, i, h => absurd h (by omega)
  | n + 1, i, h => by
    rw [rcells]
    by_cases e : i = n
    · subst e
      rw [List.getElem?_append_right (by rw [rcells_length]; omega), List.getElem?_append_right (by rw [rcells_length]; omega), rcells_length]
      exact ⟨by simp, by rw [show i * 2 + 1 - i * 2 = 1 by omega]; rfl⟩
    · obtain ⟨a, b⟩ := rcells_at rs n i (by omega)
      rw [List.getElem?_append_left (by rw [rcells_length]; omega), List.getElem?_append_left (by rw [rcells_length]; omega)]
      exact ⟨a, b⟩
theorem rcells_one (rs : Nat → ByteArray × ByteArray) : ∀ n, ∀ u ∈ rcells rs n, u.oneCell' = true
  | 0, u, h => by cases h
  | n + 1, u, h => by
    rw [rcells, List.mem_append] at h
    rcases h with h | h
    · exact rcells_one rs n u h
    · simp at h
      rcases h with rfl | rfl <;> rfl
theorem rcells_of (rs : Nat → ByteArray × ByteArray) (n j : Nat) (u : Value) (h : (rcells rs n)[j]? = some u) : ∃ i, i < n ∧ ((j = i * 2 ∧ u = .string (rs i).1) ∨ (j = i * 2 + 1 ∧ u = .string (rs i).2)) := by
  have hl := (List.getElem?_eq_some_iff.1 h).1
  rw [rcells_length] at hl
  refine ⟨j / 2, by omega, ?_⟩
  obtain ⟨a, b⟩ := rcells_at rs n (j / 2) (by omega)
  rcases Nat.mod_two_eq_zero_or_one j with e | e
  · left
    have ej : j / 2 * 2 = j := by omega
    rw [ej, h] at a
    exact ⟨ej.symm, Option.some.inj a⟩
  · right
    have ej : j / 2 * 2 + 1 = j := by omega
    rw [ej, h] at b
    exact ⟨ej.symm, Option.some.inj b⟩

theorem reads_ranges {W : World} {A : Option Addr} {n : Nat} {rs : Nat → ByteArray × ByteArray} (h : RangesAt W W.heap.size A n rs) : Reads W W.heap.size 2 A n (rcells rs n) := by
  refine ⟨rcells_length rs n, fun hn => ?_⟩
  obtain ⟨b, off, rfl, hb, _, _⟩ := h 0 hn
  refine ⟨_, rfl, hb, fun j u hu => ?_⟩
  obtain ⟨i, hi, hju⟩ := rcells_of rs n j u hu
  obtain ⟨b', off', e, _, c0, c1⟩ := h i hi
  cases e
  rw [Go.WideShapes.add_plain]
  rcases hju with ⟨rfl, rfl⟩ | ⟨rfl, rfl⟩
  · exact c0
  · rw [← Nat.add_assoc]; exact c1
theorem ranges_own {W : World} {base : Nat} {v : Value} {n : Nat} {rs : Nat → ByteArray × ByteArray} (h : W.ownsRow base 24 2 v n (rcells rs n)) : ∃ A cap, v = .slice A n cap ∧ RangesAt W W.heap.size A n rs := by
  obtain ⟨_, h2⟩ := id h
  rcases h2 with ⟨rfl, rfl⟩ | ⟨g, cap, cur, rfl, _, hh, _⟩
  · exact ⟨none, 0, rfl, fun i hi => absurd hi (by omega)⟩
  · refine ⟨_, cap, rfl, fun i hi => ⟨g, 0, rfl, ?_, ?_, ?_⟩⟩
    · exact (h.lt g rfl).2
    · have := h.cells (g := g) rfl (i * 2) _ (rcells_at rs n i hi).1
      rw [Go.WideShapes.add_plain] at this
      exact this
    · have := h.cells (g := g) rfl (i * 2 + 1) _ (rcells_at rs n i hi).2
      rw [Go.WideShapes.add_plain, ← Nat.add_assoc] at this
      exact this
theorem ranges_below {W w1 : World} {B : Nat} {A : Option Addr} {n : Nat} {rs : Nat → ByteArray × ByteArray} (h : RangesAt W B A n rs) (hb : Below B W w1) {B' : Nat} (hB : B ≤ B') : RangesAt w1 B' A n rs := fun i hi => by
  obtain ⟨b, off, e, hlt, c0, c1⟩ := h i hi
  exact ⟨b, off, e, by omega, (hb.cell (p := ⟨b, off + i * 2, none⟩) hlt).trans c0, (hb.cell (p := ⟨b, off + i * 2 + 1, none⟩) hlt).trans c1⟩
theorem keys_below {W w1 : World} {B : Nat} {A : Option Addr} {n : Nat} {ks : Nat → ByteArray} (h : KeysAt W B A n ks) (hb : Below B W w1) {B' : Nat} (hB : B ≤ B') : KeysAt w1 B' A n ks := fun i hi => by
  obtain ⟨b, off, e, hlt, c0⟩ := h i hi
  exact ⟨b, off, e, by omega, (hb.cell (p := ⟨b, off + i, none⟩) hlt).trans c0⟩

set_option maxRecDepth 100000 in
set_option maxHeartbeats 8000000 in
theorem lists_walk (A : Option Addr) (n cap : Nat) (rs : Nat → ByteArray × ByteArray) (A2 : Option Addr) (m cap2 : Nat) (ks : Nat → ByteArray) (hn : n * 32 ≤ 140737488351232) (hm : m ≤ 9223372036854775807) (w : World)
    (hr : RangesAt w w.heap.size A n rs) (hk : KeysAt w w.heap.size A2 m ks) :
    Calls Try.prog 5 #[.slice A n cap, .slice A2 m cap2] w (Yes w) := by
  obtain ⟨i0, hi, hz0, hz1, hz2⟩ := info_parts info_range
  have HR := Lib.hid hr
  have HK := Lib.hid hk
  clear hr hk
  have L := lives_yes
  go_enter Try.func5, Try.ntmps5
  generalize hwe : (whole rs n).1 = we at *
  generalize hwa : (whole rs n).2 = wa at *
  go_wp2_with (first
    | (go_at_call 9; refine (L _).mono ?_; rintro e w1 ⟨rfl, hB1⟩)
    | (at_builtin
       have hr0 := reads_ranges (ranges_below HR.out (box hB1 (.cells #[] 24)) (Nat.le_trans hB1.size (by simp)))
       refine wpList_append_any _ rfl (.tmp 18) (.tmp 19) _ rfl w1.heap.size 24 i0 _ 2 32 Try.underlying35 hi hz0 hz1 hz2 rfl (by omega) (.slice (some ⟨w1.heap.size, 0, none⟩) 0 0) 0 [] rfl (World.ownsRow_lit w1 #[] 0 (Nat.le_refl _) (by unfold maxLen; omega) rfl) _ A n cap (rcells rs n) rfl hr0 (rcells_one rs n) (by unfold maxLen; omega) (by omega) (by simp) ?_
       intro v1 w2 hown hg hat
       obtain ⟨A1, cap1, rfl, hr1⟩ := ranges_own (n := n) (rs := rs) (by simpa using hown)
       have hb2 : Below w1.heap.size w1 w2 := (box1 w1 _).grown hg (by simp) (by simp [Value.ownBlock])
       have hB2 := after hB1 hb2
       have HR1 := Lib.hid hr1
       have HR2 := Lib.hid (ranges_below HR.out hB2 hB2.size)
       have HK2 := Lib.hid (keys_below HK.out hB2 hB2.size)
       clear hr0 hown hg hat hr1 hb2 HR HK)
    | (go_at_call 14; refine (whole_any A1 n cap1 rs (by omega) _ HR1.out).mono ?_; rintro e w3 ⟨rfl, hb3⟩; have hB3 := after hB2 hb3)
    | (go_at_call 21; refine (refWhole_any A n cap rs (by omega) _ (ranges_below HR2.out hb3 hb3.size)).mono ?_; rintro e w4 ⟨rfl, hb4⟩; have hB4 := after hB3 hb4; have hC4 := after hb3 hb4; clear hB3 hb3 hb4))
  go_loopw [11] (fun i wr => ∃ j : Nat, j ≤ m ∧ i = .int .i64 j ∧ Below w2.heap.size w2 wr) (fun i _ => m - (intOf i).toNat)
  case atStart => exact ⟨0, Nat.zero_le _, rfl, hC4⟩
  case round =>
    rename_i wr
    obtain ⟨j, hj, rfl, hC⟩ := hrel
    clear hB4 hC4
    by_cases hlt : j < m
    · obtain ⟨b0, off, rfl, hbl, hcell⟩ := HK2.out j hlt
      have eK := (hC.cell (p := ⟨b0, off + j, none⟩) hbl).trans hcell
      have i1 : (0 : Int) ≤ (j : Int) := by omega
      have i2 : (j : Int) < (m : Int) := by omega
      have F1 := find_any A1 n cap1 rs (ks j) (by omega) wr (ranges_below HR1.out hC hC.size)
      have F2 := fun (x : World) (hx : Below w2.heap.size w2 x) => refFind_any A n cap rs (ks j) (by omega) x (ranges_below HR2.out hx hx.size)
      generalize (find rs n (ks j)).1 = p at *
      generalize (find rs n (ks j)).2 = v at *
      have hx0 := hC.size
      have zK : b0 < wr.heap.size := by omega
      clear hcell hwe hwa
      go_wp2_with (first
        | (go_at_call 22; refine F1.mono ?_; rintro e x1 ⟨rfl, hx1⟩; have eK1 := (hx1.cell (p := ⟨b0, off + j, none⟩) zK).trans eK; have hC1 := after hC hx1)
        | (go_at_call 23; refine (F2 _ hC1).mono ?_; rintro e x2 ⟨rfl, hx2⟩; have hC2 := after hC1 hx2))
      go_roundw
      case rel => exact ⟨j + 1, by omega, by go_num, hC2⟩
      case measure => simp [intOf]; omega
    · go_wp2
      obtain ⟨wo, rfl⟩ : ∃ wo : World, wo = wr := ⟨_, rfl⟩
      go_loopw [16] (fun i wr => ∃ k : Nat, k ≤ n ∧ i = .int .i64 k ∧ Below w2.heap.size w2 wr) (fun i _ => n - (intOf i).toNat)
      case atStart => exact ⟨0, Nat.zero_le _, rfl, hC⟩
      case round =>
        rename_i wq
        obtain ⟨k, hk, rfl, hD⟩ := hrel
        by_cases hlt2 : k < n
        · obtain ⟨b1, off1, rfl, hl1, c0, c1⟩ := HR1.out k hlt2
          obtain ⟨b2, off2, rfl, hl2, c2, c3⟩ := HR2.out k hlt2
          have d0 := (hD.cell (p := ⟨b1, off1 + k * 2, none⟩) hl1).trans c0
          have d1 := (hD.cell (p := ⟨b1, off1 + k * 2 + 1, none⟩) hl1).trans c1
          have d2 := (hD.cell (p := ⟨b2, off2 + k * 2, none⟩) hl2).trans c2
          have d3 := (hD.cell (p := ⟨b2, off2 + k * 2 + 1, none⟩) hl2).trans c3
          have i1 : (0 : Int) ≤ (k : Int) := by omega
          have i2 : (k : Int) < (n : Int) := by omega
          have Q := neqRange_is (rs k).1 (rs k).2 (rs k).1 (rs k).2 false (by simp)
          clear c0 c1 c2 c3 hC
          go_wp2
          go_quiet (fail)
          go_wp2
          go_roundw
          case rel => exact ⟨k + 1, by omega, by go_num, below_drewN hD _⟩
          case measure => simp [intOf]; omega
        · go_wp2
          go_ret
          exact ⟨rfl, hB2.trans (hD.mono hB2.size)⟩
end Go.Proofs.Ytkceakoacmjkgaa
