/-
  Layer 15: what is kept of tables that are moved and put together.
-/
import Derived.Test.YtggbfmjcceblkaaPrF
namespace Go.Proofs.Ytggbfmjcceblkaa
open Go.RowKit
variable {fu : Nat}
theorem both_len (a b : List Pr) (ta tb : List Int) : (bothS a b ta tb).1.length ≤ 256 := by
  unfold bothS
  split
  · simp
  · split
    · simp
    · split
      · simp
      · simp only; omega
theorem newB_both (a b : Option Pr) (ta tb : List Int) (id seq : Int) : newB (comb laterP (a.map (mv ta)) (b.map (mv tb))) id seq = (newB a id seq && newB b id seq) := by
  unfold newB
  cases h1 : (!(id == 0)) with
  | false => simp
  | true =>
    cases h2 : seqB seq with
    | false => simp
    | true =>
      simp only [Bool.true_and]
      cases a with
      | none => cases b with
        | none => rfl
        | some y => simp only [Option.map_none, Option.map_some, comb, mv_2, Bool.true_and]
      | some x => cases b with
        | none => simp only [Option.map_none, Option.map_some, comb, mv_2, Bool.and_true]
        | some y => simp only [Option.map_some, comb, later_new, mv_2]
theorem newB_map (a : Option Pr) (ta : List Int) (id seq : Int) : newB (a.map (mv ta)) id seq = newB a id seq := by
  unfold newB
  cases a with
  | none => rfl
  | some x => simp only [Option.map_some, mv_2]
theorem both_ok {a b : List Pr} {ta tb : List Int} (h : (bothS a b ta tb).2 = 0) :
    tabI (bothS a b ta tb).1 = true ∧ ∀ id seq, newB (find (bothS a b ta tb).1 id) id seq = (newB (find a id) id seq && newB (find b id) id seq) := by
  unfold bothS at h ⊢
  by_cases h1 : tabI a = false
  · rw [if_pos h1] at h; simp at h
  · rw [if_neg h1] at h ⊢
    by_cases h2 : tabI b = false
    · rw [if_pos h2] at h; simp at h
    · rw [if_neg h2] at h ⊢
      by_cases h3 : (merge laterP (a.map (mv ta)) (b.map (mv tb))).length > 256
      · rw [if_pos h3] at h; simp at h
      · rw [if_neg h3]
        obtain ⟨a1, a2, _⟩ := (tab_iff a).1 (by simpa using h1)
        obtain ⟨b1, b2, _⟩ := (tab_iff b).1 (by simpa using h2)
        have ka : ∀ z ∈ a.map (mv ta), okP z = true := fun z hz => by
          obtain ⟨x, hx, rfl⟩ := List.mem_map.1 hz
          exact mv_ok ta (a1 x hx)
        have kb : ∀ z ∈ b.map (mv tb), okP z = true := fun z hz => by
          obtain ⟨x, hx, rfl⟩ := List.mem_map.1 hz
          exact mv_ok tb (b1 x hx)
        refine ⟨(tab_iff _).2 ⟨merge_all (p := fun z => okP z = true) (fun x y hx hy _ => ?_) _ _ ka kb, merge_sp later_1 _ _ (map_sp ta a2) (map_sp tb b2), Nat.le_of_not_gt h3⟩, fun id seq => ?_⟩
        · show okP (laterP x y) = true
          unfold laterP
          split
          · exact hy
          · split
            · exact hy
            · exact hx
        · rw [merge_find later_1 id _ _ (map_sp ta a2) (map_sp tb b2), map_find, map_find, newB_both]
theorem p7_is (a b : List Pr) (ta tb : List Int) (n : List Nu) (ha0 : ∀ x ∈ a, 0 ≤ x.2.2.2) (hb0 : ∀ x ∈ b, 0 ≤ x.2.2.2) (ha : a.length * 32 ≤ 140737488355328) (hb : b.length * 32 ≤ 140737488355328) (hta : ta.length ≤ 9223372036854775807) (htb : tb.length ≤ 9223372036854775807)
    (hn : n.length ≤ 9223372036854775807) (hf : a.length + b.length + n.length + 1000 < fu) : p7 fu ((a, b, ta, tb, ()), n, ()) = some ((), true) := by
  unfold p7
  have hl := both_len a b ta tb
  have ok := both_ok (a := a) (b := b) (ta := ta) (tb := tb)
  have e14 := p14_is (fu := fu) a b ta tb ha0 hb0 ha hb hta htb (by omega)
  generalize bothS a b ta tb = r at hl ok e14
  obtain ⟨j, e⟩ := r
  simp only at hl ok e14
  simp only [p9_is (fu := fu) (by omega), p13_is (fu := fu) a ta ha0 ha hta (by omega), e14, p16_is (fu := fu) a (by omega) (by omega), bind_val]
  refine loopO_eq (I := fun s => ∃ i : Nat, s = (((i : Int), ()), ()) ∧ i ≤ n.length) (m := fun s => n.length - s.1.1.toNat) (g := fun _ => ((), true)) ?_ fu _ ⟨0, rfl, Nat.zero_le _⟩ (by simp; omega)
  rintro s ⟨i, rfl, h1⟩
  by_cases hi : i < n.length
  · left
    refine ⟨((((i + 1 : Nat) : Int), ()), ()), ?_, ⟨i + 1, rfl, hi⟩, by simp only [Int.toNat_natCast]; omega, rfl⟩
    rcases hx : n.getD i (dflt T_gazettelaw15_Number) with ⟨id, seq, off⟩
    have ja := p11_is (fu := fu) a id seq (by omega) (by omega)
    have jb := p11_is (fu := fu) b id seq (by omega) (by omega)
    have jm := p11_is (fu := fu) (a.map (mv ta)) id seq (by simp; omega) (by simp; omega)
    have jj := p11_is (fu := fu) j id seq (by omega) (by omega)
    simp only [Int.ofNat_lt, hi, decide_true, cond_true, Int.natCast_nonneg, true_and, Int.toNat_natCast, hx, ja, jb, jm, jj, bind_val, judge_new, map_find, newB_map, i64_succ hi hn, beq_self_eq_true, Bool.not_true, cond_false]
    by_cases he : e = 0
    · have := (ok he).2 id seq
      rw [this]
      cases tabI a <;> cases newB (find a id) id seq <;> simp [orK, he]
    · have he' : (e == 0) = false := by simpa using he
      cases tabI a <;> simp [orK, he']
  · right
    obtain rfl : i = n.length := by omega
    by_cases he : e = 0
    · have := (ok he).1
      simp [inrO, he, p16_is (fu := fu) j (by omega) (by omega), bind_val, this]
    · have he' : (e != 0) = true := by simpa using he
      simp [inrO, he']
end Go.Proofs.Ytggbfmjcceblkaa
