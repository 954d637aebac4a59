/-
  Layer 15: whatever numbers come, each is accepted at most once.
-/
import Derived.Test.YtggbfmjcceblkaaPrC
namespace Go.Proofs.Ytggbfmjcceblkaa
open Go.RowKit
variable {fu : Nat}
abbrev Nu := Int × Int × Int
def lastOf (done : List Nu) (id : Int) : Nu := done.foldl (fun a d => if d.1 = id then d else a) (0, 0, 0)
def aboveOf (done : List Nu) (id seq : Int) : Bool := done.all fun d => !(d.1 == id) || decide (seq > d.2.1)
theorem lastOf_snoc (done : List Nu) (x : Nu) (id : Int) : lastOf (done ++ [x]) id = if x.1 = id then x else lastOf done id := by
  unfold lastOf; rw [List.foldl_append]; rfl
theorem take_snoc' {α : Type} {l : List α} {i : Nat} (h : i < l.length) (d : α) : l.take (i + 1) = l.take i ++ [l.getD i d] := by
  rw [List.take_succ_eq_append_getElem h, getD_lt h]
/-- A loop that ends at one state. -/
theorem loopO_to {S R : Type} {f : S → Option (S ⊕ R)} {sF : S} {r : R} (I : S → Prop) (m : S → Nat) {n : Nat} {s : S} (hs : I s) (hn : m s < n) (h : ∀ s, I s → s = sF ∨ ∃ s', f s = some (.inl s') ∧ I s' ∧ m s' < m s) (hF : f sF = some (.inr r)) : loopO n f s = some r := by
  refine loopO_eq I m (fun _ => r) (fun s hI => ?_) n s hs hn
  rcases h s hI with rfl | ⟨s', h1, h2, h3⟩
  · exact .inr hF
  · exact .inl ⟨s', h1, h2, h3, rfl⟩
theorem loopO_ex {S R S' : Type} {f : S → Option (S ⊕ (S' ⊕ R))} {sF : S} {Q : S' → Prop} (I : S → Prop) (m : S → Nat) {n : Nat} {s : S} (hs : I s) (hn : m s < n) (h : ∀ s, I s → s = sF ∨ ∃ s', f s = some (.inl s') ∧ I s' ∧ m s' < m s)
    (hF : ∃ s', f sF = some (.inr (.inl s')) ∧ Q s') : ∃ s', loopO n f s = some (.inl s') ∧ Q s' := by
  obtain ⟨s', h1, h2⟩ := hF
  exact ⟨s', loopO_to I m hs hn h h1, h2⟩
structure Held (l : List Pr) (done : List Nu) : Prop where
  tab : tabI l = true
  no : ∀ id, find l id = none → ∀ d ∈ done, d.1 ≠ id
  yes : ∀ id y, find l id = some y → y.2.2.1 = true ∧ (lastOf done id).2.1 = y.2.1 ∧ (lastOf done id).2.2 = y.2.2.2 ∧ ∀ d ∈ done, d.1 = id → d.2.1 ≤ y.2.1
theorem judge_cases (l : List Pr) (id seq : Int) : (judge l id seq = (4, 0) ∧ (id = 0 ∨ seqB seq = false)) ∨ (id ≠ 0 ∧ seqB seq = true ∧ ((judge l id seq = (1, 0) ∧ find l id = none) ∨ (∃ y, find l id = some y ∧ judge l id seq = (1, 0) ∧ seq > y.2.1) ∨
    (∃ y, find l id = some y ∧ judge l id seq = (2, y.2.2.2) ∧ seq = y.2.1) ∨ ∃ y, find l id = some y ∧ judge l id seq = (3, 0))) := by
  unfold judge
  by_cases h0 : id = 0
  · exact .inl ⟨by simp [h0], .inl h0⟩
  · cases hs : seqB seq with
    | false => exact .inl ⟨by simp [h0], .inr rfl⟩
    | true =>
      refine .inr ⟨h0, rfl, ?_⟩
      simp only [h0, if_false, Bool.true_eq_false]
      cases hf : find l id with
      | none => exact .inl ⟨rfl, rfl⟩
      | some y =>
        refine .inr ?_
        by_cases h1 : seq > y.2.1
        · exact .inl ⟨y, rfl, by simp [h1], h1⟩
        · by_cases h2 : seq = y.2.1 ∧ y.2.2.1 = true
          · refine .inr (.inl ⟨y, rfl, ?_, h2.1⟩)
            simp only [h1, if_false]
            rw [if_pos h2]
          · refine .inr (.inr ⟨y, rfl, ?_⟩)
            simp only [h1, if_false]
            rw [if_neg h2]
/-- What becomes of a number. -/
theorem put_cases {l : List Pr} {done : List Nu} (h : Held l done) (id seq off : Int) :
    ((putS l (id, seq, true, off)).2 ≠ 0 ∧ ¬ ((judge l id seq).1 = 1 ∧ l.length < 256) ∧ ((judge l id seq).1 = 2 → (lastOf done id).2.1 = seq ∧ (lastOf done id).2.2 = (judge l id seq).2)) ∨
    ((putS l (id, seq, true, off)).2 = 0 ∧ (judge l id seq).1 = 1 ∧ aboveOf done id seq = true ∧ tabI (putS l (id, seq, true, off)).1 = true ∧ Held (putS l (id, seq, true, off)).1 (done ++ [(id, seq, off)])) := by
  have ht := h.tab
  have new : judge l id seq = (1, 0) → id ≠ 0 → seqB seq = true → aboveOf done id seq = true → (∀ d ∈ done, d.1 = id → d.2.1 ≤ seq) →
      ((putS l (id, seq, true, off)).2 ≠ 0 ∧ ¬ ((judge l id seq).1 = 1 ∧ l.length < 256) ∧ ((judge l id seq).1 = 2 → (lastOf done id).2.1 = seq ∧ (lastOf done id).2.2 = (judge l id seq).2)) ∨
      ((putS l (id, seq, true, off)).2 = 0 ∧ (judge l id seq).1 = 1 ∧ aboveOf done id seq = true ∧ tabI (putS l (id, seq, true, off)).1 = true ∧ Held (putS l (id, seq, true, off)).1 (done ++ [(id, seq, off)])) := by
    intro hj h0 hs ha hle
    have e : putS l (id, seq, true, off) = if (ins l (id, seq, true, off)).length > 256 then ([], 153) else (ins l (id, seq, true, off), 0) := by
      unfold putS
      simp only [ht, hj, Bool.true_eq_false, if_false]
      simp
    by_cases hl : (ins l (id, seq, true, off)).length > 256
    · left
      rw [e, if_pos hl, hj]
      have := ins_len (id, seq, true, off) l
      exact ⟨by simp, fun ⟨_, h2⟩ => by omega, fun h2 => by simp at h2⟩
    · right
      rw [e, if_neg hl, hj]
      have hok : okP (id, seq, true, off) = true := by unfold okP; simp [h0, hs]
      have htab := ins_tab ht hok (by omega)
      refine ⟨rfl, rfl, ha, htab, htab, fun id' hn d hd => ?_, fun id' y hy => ?_⟩
      · rw [ins_find] at hn
        by_cases hi : id = id'
        · rw [if_pos hi] at hn; cases hn
        · rw [if_neg hi] at hn
          rcases List.mem_append.1 hd with hd | hd
          · exact h.no id' hn d hd
          · have : d = (id, seq, off) := by simpa using hd
            subst this; exact hi
      · rw [ins_find] at hy
        rw [lastOf_snoc]
        by_cases hi : id = id'
        · rw [if_pos hi] at hy
          cases hy
          simp only [hi, if_true]
          refine ⟨trivial, trivial, trivial, fun d hd hdi => ?_⟩
          rcases List.mem_append.1 hd with hd | hd
          · exact hle d hd (by rw [hi]; exact hdi)
          · have : d = (id, seq, off) := by simpa [hi] using hd
            subst this; exact Int.le_refl _
        · rw [if_neg hi] at hy
          obtain ⟨k1, k2, k3, k4⟩ := h.yes id' y hy
          simp only [hi, if_false]
          refine ⟨k1, k2, k3, fun d hd hdi => ?_⟩
          rcases List.mem_append.1 hd with hd | hd
          · exact k4 d hd hdi
          · have : d = (id, seq, off) := by simpa using hd
            subst this; exact absurd hdi hi
  have bad : (putS l (id, seq, true, off)).2 ≠ 0 → (judge l id seq).1 ≠ 1 → ((judge l id seq).1 = 2 → (lastOf done id).2.1 = seq ∧ (lastOf done id).2.2 = (judge l id seq).2) →
      ((putS l (id, seq, true, off)).2 ≠ 0 ∧ ¬ ((judge l id seq).1 = 1 ∧ l.length < 256) ∧ ((judge l id seq).1 = 2 → (lastOf done id).2.1 = seq ∧ (lastOf done id).2.2 = (judge l id seq).2)) := fun h1 h2 h3 => ⟨h1, fun h => h2 h.1, h3⟩
  rcases judge_cases l id seq with ⟨hj, _⟩ | ⟨h0, hs, hj⟩
  · left
    exact bad (by unfold putS; simp [ht, hj]) (by rw [hj]; simp) (fun h2 => by rw [hj] at h2; simp at h2)
  · rcases hj with ⟨hj, hf⟩ | ⟨y, hf, hj, hgt⟩ | ⟨y, hf, hj, heq⟩ | ⟨y, hf, hj⟩
    · exact new hj h0 hs (List.all_eq_true.2 fun d hd => by have := h.no id hf d hd; simp [this]) fun d hd hdi => absurd hdi (h.no id hf d hd)
    · obtain ⟨k1, k2, k3, k4⟩ := h.yes id y hf
      refine new hj h0 hs (List.all_eq_true.2 fun d hd => ?_) fun d hd hdi => by have := k4 d hd hdi; omega
      by_cases hdi : d.1 = id
      · have := k4 d hd hdi
        have : seq > d.2.1 := by omega
        simp [this]
      · simp [hdi]
    · left
      obtain ⟨k1, k2, k3, k4⟩ := h.yes id y hf
      exact bad (by unfold putS; simp [ht, hj]) (by rw [hj]; simp) (fun _ => by rw [hj]; exact ⟨by rw [k2, heq], k3⟩)
    · left
      exact bad (by unfold putS; simp [ht, hj]) (by rw [hj]; simp) (fun h2 => by rw [hj] at h2; simp at h2)
theorem held_nil : Held [] [] := ⟨by decide, (fun _ _ d hd => by cases hd), (fun id y h => by cases h)⟩
theorem aboveOf_snoc (done : List Nu) (d : Nu) (id seq : Int) : aboveOf (done ++ [d]) id seq = (aboveOf done id seq && (!(d.1 == id) || decide (seq > d.2.1))) := by
  unfold aboveOf; rw [List.all_append]; simp

theorem p6_is (n : List Nu) (hn : n.length * 24 ≤ 140737488351232) (hf : n.length + 1000 < fu) : p6 fu (n, ()) = some ((), true) := by
  unfold p6
  rw [p9_is (by omega)]
  simp only [bind_val]
  refine loopO_eq (I := fun s => ∃ (l : List Pr) (done : List Nu) (i : Nat), s = ((l, done, (i : Int), ()), ()) ∧ i ≤ n.length ∧ done.length ≤ i ∧ Held l done) (m := fun s => n.length - s.1.2.2.1.toNat) (g := fun _ => ((), true)) ?_ fu _
    ⟨[], [], 0, rfl, Nat.zero_le _, Nat.le_refl _, held_nil⟩ (by simp; omega)
  rintro s ⟨l, done, i, rfl, h1, h2, h3⟩
  by_cases hi : i < n.length
  · left
    have hl : l.length ≤ 256 := ((tab_iff l).1 h3.tab).2.2
    rcases hx : n.getD i (dflt T_gazettelaw15_Number) with ⟨id, seq, off⟩
    have e11 := p11_is (fu := fu) l id seq (by omega) (by omega)
    have e12 := p12_is (fu := fu) l id seq off (by omega) (by omega)
    simp only [Int.ofNat_lt, hi, decide_true, cond_true, Int.natCast_nonneg, true_and, Int.toNat_natCast, hx, e11, e12, bind_val]
    refine loopO_ex (sF := ((aboveOf done id seq, (done.length : Int), ()), ((lastOf done id).1, (lastOf done id).2.1, (lastOf done id).2.2, ()), ()))
      (I := fun s => ∃ k : Nat, k ≤ done.length ∧ s = ((aboveOf (done.take k) id seq, (k : Int), ()), ((lastOf (done.take k) id).1, (lastOf (done.take k) id).2.1, (lastOf (done.take k) id).2.2, ()), ()))
      (m := fun s => done.length - s.1.2.1.toNat) ⟨0, Nat.zero_le _, rfl⟩ (by simp; omega) ?_ ?_
    · rintro s ⟨k, hk, rfl⟩
      by_cases hk' : k < done.length
      · right
        have a1 : aboveOf (done.take (k + 1)) id seq = (aboveOf (done.take k) id seq && (!((done.getD k (dflt T_gazettelaw15_Number)).1 == id) || decide (seq > (done.getD k (dflt T_gazettelaw15_Number)).2.1))) := by
          rw [take_snoc' hk' (dflt T_gazettelaw15_Number), aboveOf_snoc]
        have a2 : lastOf (done.take (k + 1)) id = if (done.getD k (dflt T_gazettelaw15_Number)).1 = id then done.getD k (dflt T_gazettelaw15_Number) else lastOf (done.take k) id := by
          rw [take_snoc' hk' (dflt T_gazettelaw15_Number), lastOf_snoc]
        rcases hd : done.getD k (dflt T_gazettelaw15_Number) with ⟨x, y, z⟩
        rw [hd] at a1 a2
        refine ⟨((aboveOf (done.take (k + 1)) id seq, ((k + 1 : Nat) : Int), ()), ((lastOf (done.take (k + 1)) id).1, (lastOf (done.take (k + 1)) id).2.1, (lastOf (done.take (k + 1)) id).2.2, ()), ()), ?_, ⟨k + 1, by omega, rfl⟩, by simp only [Int.toNat_natCast]; omega⟩
        simp only [Int.ofNat_lt, hk', decide_true, cond_true, Int.natCast_nonneg, true_and, and_true, Int.toNat_natCast, hd, i64_succ hk' (by omega), a1, a2]
        by_cases hx : x = id
        · subst hx
          cases aboveOf (done.take k) x seq <;> simp [orK_inl]
        · have hx' : (x == id) = false := by simpa using hx
          simp [hx, hx']
      · left
        obtain rfl : k = done.length := by omega
        rw [List.take_length]
    · have hw : (done.length + [(id, seq, off)].length ≤ maxLen ∧ (done.length + [(id, seq, off)].length) * 24 ≤ 140737488355328) := by
        simp only [List.length_singleton]; exact ⟨by show _ ≤ 9223372036854775807; omega, by omega⟩
      simp only [Int.lt_irrefl, decide_false, cond_false, i64_succ hi (by omega), hw, decide_true, cond_true]
      have same : ∃ (l' : List Pr) (done' : List Nu) (i' : Nat), ((l, done, ((i + 1 : Nat) : Int), ()), ()) = ((l', done', (i' : Int), ()), ()) ∧ i' ≤ n.length ∧ done'.length ≤ i' ∧ Held l' done' := ⟨l, done, i + 1, rfl, hi, by omega, h3⟩
      rcases put_cases h3 id seq off with ⟨c1, c2, c3⟩ | ⟨c1, c2, c3, c4, c5⟩
      · refine ⟨((l, done, ((i + 1 : Nat) : Int), ()), ()), ?_, same, by simp only [Int.toNat_natCast]; omega, trivial⟩
        have b1 : ((putS l (id, seq, true, off)).2 != 0) = true := by simpa using c1
        by_cases hj : (judge l id seq).1 = 1
        · have hl' : ¬ ((l.length : Int) < 256) := fun h => c2 ⟨hj, by omega⟩
          have b2 : ((1 : Int) == 2) = false := rfl
          simp only [b1, hj, hl', b2, beq_self_eq_true, decide_false, cond_true, cond_false, inrO_val]
        · have b2 : ((judge l id seq).1 == 1) = false := by simpa using hj
          by_cases hj2 : (judge l id seq).1 = 2
          · obtain ⟨d1, d2⟩ := c3 hj2
            have b4 : ((2 : Int) == 1) = false := rfl
            simp only [b1, b4, hj2, d1, d2, beq_self_eq_true, bne_self_eq_false, cond_true, cond_false, inrO_val]
          · have b3 : ((judge l id seq).1 == 2) = false := by simpa using hj2
            simp only [b1, b2, b3, cond_true, cond_false, inrO_val]
      · have e16 := p16_is (fu := fu) (putS l (id, seq, true, off)).1 (by have := ((tab_iff _).1 c4).2.2; omega) (by have := ((tab_iff _).1 c4).2.2; omega)
        rw [e16, c4]
        simp only [c1, c2, c3, bind_val]
        refine ⟨(((putS l (id, seq, true, off)).1, done ++ [(id, seq, off)], ((i + 1 : Nat) : Int), ()), ()), rfl, ⟨_, _, i + 1, rfl, hi, by simp; omega, c5⟩, by simp only [Int.toNat_natCast]; omega, trivial⟩
  · right
    obtain rfl : i = n.length := by omega
    simp [inrO]
end Go.Proofs.Ytggbfmjcceblkaa
