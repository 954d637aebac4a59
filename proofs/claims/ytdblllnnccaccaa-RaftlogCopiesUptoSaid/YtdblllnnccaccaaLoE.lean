/-
  Layer 6: logs that are alike; merges.
-/
import Derived.Test.YtdblllnnccaccaaLoD
namespace Go.Proofs.Ytdblllnnccaccaa
open Go.RowKit
variable {fu : Nat}
/-- What a round comes to, whose end is of a form. -/
@[reducible] def LStepG {S R R' : Type} (g : R' → R) (I : S → Prop) (m : S → Nat) (Q : R' → Prop) (s : S) : S ⊕ R → Prop
  | .inl s' => I s' ∧ m s' < m s
  | .inr r => ∃ r', r = g r' ∧ Q r'
theorem loopO_img {S R R' : Type} {f : S → Option (S ⊕ R)} {s : S} {n : Nat} (g : R' → R) (I : S → Prop) (m : S → Nat) (Q : R' → Prop) (hs : I s) (hn : m s < n) (h : ∀ s, I s → ∃ o, f s = some o ∧ LStepG g I m Q s o) : ∃ r, loopO n f s = some (g r) ∧ Q r := by
  obtain ⟨r, h1, r', h2, h3⟩ := loopO_rule I m (fun r => ∃ r', r = g r' ∧ Q r') (fun s hs => by
    obtain ⟨o, e1, e2⟩ := h s hs
    refine ⟨o, e1, ?_⟩
    cases o with
    | inl s' => exact e2
    | inr r => exact e2) n s hs hn
  exact ⟨r', by rw [h1, h2], h3⟩
theorem p46_refl (a : List Int) (h : a.length ≤ 9223372036854775807) (hf : a.length < fu) : p46 fu (a, a, ()) = some ((), true) := by
  unfold p46
  simp only [bne_self_eq_false, cond_false]
  refine loopO_eq (I := fun s => ∃ i : Nat, s = (((i : Int), ()), ()) ∧ i ≤ a.length) (m := fun s => a.length - s.1.1.toNat) (g := fun _ => ((), true)) ?_ fu _ ⟨0, rfl, Nat.zero_le _⟩ (by simpa using hf)
  rintro s ⟨i, rfl, h1⟩
  by_cases hi : i < a.length
  · left
    refine ⟨((((i + 1 : Nat) : Int), ()), ()), ?_, ⟨i + 1, rfl, hi⟩, by simp only [Int.toNat_natCast]; omega, rfl⟩
    simp only [Int.ofNat_lt, hi, decide_true, cond_true, Int.natCast_nonneg, true_and, Int.toNat_natCast, bne_self_eq_false, cond_false, i64_succ hi h]
  · right
    obtain rfl : i = a.length := by omega
    simp [inrO]
theorem p24_refl (a b : List Int) (h : a.length ≤ 1048576) (h' : b.length ≤ 1048576) (hf : 1048576 < fu) : p24 fu ((a, b, ()), (a, b, ()), ()) = some ((), true) := by
  simp only [p24, p46_refl a (by omega) (show a.length < fu by omega), p46_refl b (by omega) (show b.length < fu by omega), bind_val, cond_true]
theorem p34_refl (x : En) (hx : smallX x) (hf : 1048576 < fu) : p34 fu ((x.1, x.2.1, x.2.2.1, x.2.2.2.1, x.2.2.2.2.1, x.2.2.2.2.2, ()), (x.1, x.2.1, x.2.2.1, x.2.2.2.1, x.2.2.2.2.1, x.2.2.2.2.2, ()), ()) = some ((), true) := by
  simp only [p34, p24_refl _ _ hx.2.1 hx.2.2 hf, bind_val, cond_true, beq_self_eq_true]
theorem p14_refl (l : List En) {n : Nat} (hs : small n l) (hn : n ≤ 4194304) (hf : 4194304 < fu) : p14 fu (l, l, ()) = some ((), true) := by
  have hl := hs.1
  unfold p14
  simp only [bne_self_eq_false, cond_false]
  refine loopO_eq (I := fun s => ∃ i : Nat, s = (((i : Int), ()), ()) ∧ i ≤ l.length) (m := fun s => l.length - s.1.1.toNat) (g := fun _ => ((), true)) ?_ fu _ ⟨0, rfl, Nat.zero_le _⟩ (by simp; omega)
  rintro s ⟨i, rfl, h1⟩
  by_cases hi : i < l.length
  · left
    refine ⟨((((i + 1 : Nat) : Int), ()), ()), ?_, ⟨i + 1, rfl, hi⟩, by simp only [Int.toNat_natCast]; omega, rfl⟩
    simp only [Int.ofNat_lt, hi, decide_true, cond_true, Int.natCast_nonneg, true_and, Int.toNat_natCast, and_self, p34_refl _ (small_get hs hi) (show 1048576 < fu by omega), bind_val, Bool.not_true, cond_false, i64_succ hi (show l.length ≤ 9223372036854775807 by omega)]
  · right
    obtain rfl : i = l.length := by omega
    simp [inrO]
def smallB (a2 a3 a4 : List Int) : Prop := a2.length ≤ 1048576 ∧ a3.length ≤ 1048576 ∧ a4.length ≤ 1048576
theorem p16_refl (b t : Int) (a2 a3 a4 : List Int) (l : List En) {n : Nat} (hb : smallB a2 a3 a4) (hs : small n l) (hn : n ≤ 4194304) (hf : 4194304 < fu) : p16 fu ((b, t, a2, a3, a4, l, ()), (b, t, a2, a3, a4, l, ()), ()) = some ((), true) := by
  simp only [p16, p35, p24_refl a2 a3 hb.1 hb.2.1 (show 1048576 < fu by omega), p14_refl l hs hn hf, bind_val, cond_true, beq_self_eq_true]
theorem p43_is (b t : Int) (a2 a3 a4 : List Int) (hb : smallB a2 a3 a4) : p43 fu ((b, t, a2, a3, a4, ()), ()) = some ((), (b, t, a2, a3, a4, ())) := by
  obtain ⟨h2, h3, h4⟩ := hb
  simp only [p43, p45_is a2 a3 (by omega) (by omega), p36_is a4 (by omega), bind_val, decide_true, cond_true]
theorem p42_is (b t : Int) (a2 a3 a4 : List Int) (l : List En) {n : Nat} (hb : smallB a2 a3 a4) (hs : small n l) (hn : n ≤ 4194304) (hf : 4194304 < fu) : p42 fu ((b, t, a2, a3, a4, l, ()), ()) = some ((), (b, t, a2, a3, a4, l, ())) := by
  have := hs.1
  simp only [p42, p43_is b t a2 a3 a4 hb, p30_is l (small_fits hn hs) (show l.length < fu by omega), bind_val, decide_true, cond_true]
/-- An entry is there already. -/
def known (b t : Int) (l : List En) (x : En) : Prop := termI b t l x.1 = (x.2.1, true)
theorem p41_ex (x : En) (b t : Int) (a2 a3 a4 : List Int) (l : List En) (hc : contig b l) (hl : l.length ≤ 4611686018427387903) (hf : l.length < fu) :
    ∃ r, p41 fu ((x.1, x.2.1, x.2.2.1, x.2.2.2.1, x.2.2.2.2.1, x.2.2.2.2.2, ()), (b, t, a2, a3, a4, l, ()), ()) = some (((b, t, a2, a3, a4, l, ()), ()), r) ∧ (r = false ↔ known b t l x) := by
  unfold p41 known
  simp only [p21_is b t a2 a3 a4 l x.1 hc hl hf, bind_val]
  obtain ⟨u, ok, e⟩ : ∃ u ok, termI b t l x.1 = (u, ok) := ⟨_, _, rfl⟩
  rw [e]
  cases ok with
  | false => exact ⟨_, rfl, by simp⟩
  | true => exact ⟨_, rfl, by simp⟩
/-- The first of those that come that is not there already, or none. -/
theorem p40_ex (b t : Int) (a2 a3 a4 : List Int) (l m : List En) (hc : contig b l) (hl : l.length ≤ 4611686018427387903) (hf : l.length < fu) (hm : m.length ≤ 4611686018427387903) (hf' : m.length < fu) :
    ∃ r, p40 fu (m, ((), ((b, t, a2, a3, a4, l, ()), ())), ()) = some (((b, t, a2, a3, a4, l, ()), ()), r) ∧
      ((r = -1 ∧ ∀ j, j < m.length → known b t l (m.getD j (dflt T_api_Entry))) ∨ ∃ k : Nat, r = (k : Int) ∧ k < m.length ∧ (∀ j, j < k → known b t l (m.getD j (dflt T_api_Entry))) ∧ ¬ known b t l (m.getD k (dflt T_api_Entry))) := by
  unfold p40
  refine loopO_img (g := fun r => (((b, t, a2, a3, a4, l, ()), ()), r)) (I := fun s => ∃ i : Nat, s = (((i : Int), ()), ((b, t, a2, a3, a4, l, ()), ())) ∧ i ≤ m.length ∧ ∀ j, j < i → known b t l (m.getD j (dflt T_api_Entry)))
    (m := fun s => m.length - s.1.1.toNat) (Q := fun r => (r = -1 ∧ ∀ j, j < m.length → known b t l (m.getD j (dflt T_api_Entry))) ∨ ∃ k : Nat, r = (k : Int) ∧ k < m.length ∧ (∀ j, j < k → known b t l (m.getD j (dflt T_api_Entry))) ∧ ¬ known b t l (m.getD k (dflt T_api_Entry)))
    ⟨0, rfl, Nat.zero_le _, fun j hj => absurd hj (Nat.not_lt_zero _)⟩ (by simpa using hf') ?_
  rintro s ⟨i, rfl, hi, hk⟩
  by_cases hi' : i < m.length
  · obtain ⟨r, e1, e2⟩ := p41_ex (fu := fu) (m.getD i (dflt T_api_Entry)) b t a2 a3 a4 l hc hl hf
    simp only [Int.ofNat_lt, hi', decide_true, cond_true, Int.natCast_nonneg, true_and, Int.toNat_natCast, e1, bind_val]
    cases r with
    | true => exact ⟨_, rfl, _, rfl, .inr ⟨i, rfl, hi', hk, fun h => by cases e2.2 h⟩⟩
    | false =>
      refine ⟨_, rfl, ⟨i + 1, by rw [i64_succ hi' (by omega)], hi', fun j hj => ?_⟩, by simp only [i64_succ hi' (show m.length ≤ 9223372036854775807 by omega), Int.toNat_natCast]; omega⟩
      rcases Nat.lt_succ_iff_lt_or_eq.1 hj with hj | rfl
      · exact hk j hj
      · exact e2.1 rfl
  · obtain rfl : i = m.length := by omega
    simp only [Int.lt_irrefl, decide_false, cond_false]
    exact ⟨_, rfl, _, rfl, .inl ⟨rfl, hk⟩⟩
/-- A committed entry would be lost. -/
def held (b t : Int) (l : List En) (commit : Int) (x : En) : Prop := x.1 ≤ commit ∧ (termI b t l x.1).2 = true ∧ (termI b t l x.1).1 ≠ x.2.1
abbrev Lg := Int × Int × List Int × List Int × List Int × List En × Unit
abbrev zeroL : Lg := (0, 0, [], [], [], [], ())
/-- What a merge comes to. -/
def MergeIs (b t : Int) (a2 a3 a4 : List Int) (l : List En) (commit index term : Int) (m : List En) (r : Lg × Int × List En × Int × Unit) : Prop :=
  (¬ (Fol index term m ∧ termI b t l index = (term, true) ∧ ∀ j, j < m.length → ¬ held b t l commit (m.getD j (dflt T_api_Entry))) ∧ ∃ e, e ≠ 0 ∧ r = (zeroL, 0, [], e, ())) ∨
  ((Fol index term m ∧ termI b t l index = (term, true) ∧ ∀ j, j < m.length → ¬ held b t l commit (m.getD j (dflt T_api_Entry))) ∧
    (((∀ j, j < m.length → known b t l (m.getD j (dflt T_api_Entry))) ∧ r = ((b, t, a2, a3, a4, l, ()), 0, [], 0, ())) ∨
      ∃ k, k < m.length ∧ (∀ j, j < k → known b t l (m.getD j (dflt T_api_Entry))) ∧ ¬ known b t l (m.getD k (dflt T_api_Entry)) ∧
        r = ((b, t, a2, a3, a4, l.take (placeI b l (m.getD k (dflt T_api_Entry)).1) ++ m.drop k, ()), (if placeI b l (m.getD k (dflt T_api_Entry)).1 < l.length then (m.getD k (dflt T_api_Entry)).1 else 0), m.drop k, 0, ())))
theorem slice_drop {α : Type} (l : List α) (k : Nat) : slice' l k none = l.drop k := by cases k <;> rfl
theorem getD_drop {α : Type} (l : List α) (k i : Nat) (d : α) : (l.drop k).getD i d = l.getD (k + i) d := by
  simp [List.getD_eq_getElem?_getD]
theorem p19_ex (b t : Int) (a2 a3 a4 : List Int) (l : List En) (commit index term : Int) (m : List En) {n n' : Nat} (h0 : 0 ≤ index) (hb : smallB a2 a3 a4) (hs : small n l) (hm : small n' m) (hn : n + n' ≤ 4194304) (hc : contig b l) (hf : 4194304 < fu) :
    ∃ r, p19 fu ((b, t, a2, a3, a4, l, ()), commit, index, term, m, ()) = some ((), r) ∧ MergeIs b t a2 a3 a4 l commit index term m r := by
  have hl := hs.1
  have hml := hm.1
  unfold p19
  simp only
  obtain ⟨r, e1, e2⟩ := p39_ex (fu := fu) index term m h0 hm (by omega) (by omega)
  simp only [e1, bind_val]
  cases r with
  | false =>
    refine ⟨_, rfl, .inl ⟨fun h => ?_, 1, by decide, rfl⟩⟩
    cases e2.2 h.1
  | true =>
    have hfol := e2.1 rfl
    simp only [Bool.not_true, cond_false, p21_is b t a2 a3 a4 l index hc (by omega) (show l.length < fu by omega), bind_val]
    have ht : ∃ r, (bif !(termI b t l index).2 then some (Sum.inl ((true, ()), ())) else some (Sum.inl (((termI b t l index).1 != term, ()), ())) : Option (((Bool × Unit) × Unit) ⊕ (Unit × (Lg × Int × List En × Int × Unit)))) = some (.inl ((r, ()), ())) ∧ (r = false ↔ termI b t l index = (term, true)) := by
      obtain ⟨u, ok, e⟩ : ∃ u ok, termI b t l index = (u, ok) := ⟨_, _, rfl⟩
      rw [e]
      cases ok with
      | false => exact ⟨_, rfl, by simp⟩
      | true => exact ⟨_, rfl, by simp⟩
    obtain ⟨r, q1, q2⟩ := ht
    simp only [q1, orK_inl]
    cases r with
    | true =>
      refine ⟨_, rfl, .inl ⟨fun h => ?_, 61, by decide, rfl⟩⟩
      cases q2.2 h.2.1
    | false =>
      have hterm := q2.1 rfl
      simp only [cond_false]
      clear q1 q2 e1 e2
      refine loopO_img (g := fun r => ((), r)) (I := fun s => ∃ i : Nat, s = (((i : Int), ()), ()) ∧ i ≤ m.length ∧ ∀ j, j < i → ¬ held b t l commit (m.getD j (dflt T_api_Entry)))
        (m := fun s => m.length - s.1.1.toNat) (Q := fun r => MergeIs b t a2 a3 a4 l commit index term m r) ⟨0, rfl, Nat.zero_le _, fun j hj => absurd hj (Nat.not_lt_zero _)⟩ (by simp; omega) ?_
      rintro s ⟨i, rfl, hi, hk⟩
      by_cases hi' : i < m.length
      · obtain ⟨x, ex⟩ : ∃ x, m.getD i (dflt T_api_Entry) = x := ⟨_, rfl⟩
        simp only [Int.ofNat_lt, hi', decide_true, cond_true, Int.natCast_nonneg, true_and, Int.toNat_natCast, and_self, ex, p21_is b t a2 a3 a4 l x.1 hc (show l.length ≤ 4611686018427387903 by omega) (show l.length < fu by omega), bind_val]
        have ht : ∃ r, (bif decide (x.1 ≤ commit) then bif (termI b t l x.1).2 then some (Sum.inl (((termI b t l x.1).1 != x.2.1, ()), ())) else some (Sum.inl ((false, ()), ())) else some (Sum.inl ((false, ()), ())) : Option (((Bool × Unit) × Unit) ⊕ ((((Int × Unit) × Unit)) ⊕ (Unit × (Lg × Int × List En × Int × Unit))))) = some (.inl ((r, ()), ())) ∧ (r = true ↔ held b t l commit x) := by
          unfold held
          obtain ⟨u, ok, e⟩ : ∃ u ok, termI b t l x.1 = (u, ok) := ⟨_, _, rfl⟩
          rw [e]
          by_cases hx : x.1 ≤ commit
          · simp only [hx, decide_true, cond_true]
            cases ok with
            | false => exact ⟨_, rfl, by simp⟩
            | true => exact ⟨_, rfl, by simp⟩
          · simp only [hx, decide_false, cond_false]
            exact ⟨_, rfl, by simp⟩
        obtain ⟨r, q1, q2⟩ := ht
        simp only [q1, orK_inl]
        cases r with
        | true =>
          refine ⟨_, rfl, _, rfl, .inl ⟨fun h => h.2.2 i hi' (by rw [ex]; exact q2.1 rfl), 62, by decide, rfl⟩⟩
        | false =>
          refine ⟨_, rfl, ⟨i + 1, by rw [i64_succ hi' (by omega)], hi', fun j hj => ?_⟩, by simp only [i64_succ hi' (show m.length ≤ 9223372036854775807 by omega), Int.toNat_natCast]; omega⟩
          rcases Nat.lt_succ_iff_lt_or_eq.1 hj with hj | rfl
          · exact hk j hj
          · rw [ex]; exact fun h => by cases q2.2 h
      · obtain rfl : i = m.length := by omega
        simp only [Int.lt_irrefl, decide_false, cond_false]
        obtain ⟨r, e1, e2⟩ := p40_ex (fu := fu) b t a2 a3 a4 l m hc (by omega) (by omega) (by omega) (by omega)
        simp only [e1, bind_val]
        rcases e2 with ⟨rfl, e2⟩ | ⟨k, rfl, k1, k2, k3⟩
        · simp only [show decide ((-1 : Int) < 0) = true from rfl, cond_true, p42_is b t a2 a3 a4 l hb hs (by omega) hf, bind_val, decide_true]
          exact ⟨_, rfl, _, rfl, .inr ⟨⟨hfol, hterm, hk⟩, .inl ⟨e2, rfl⟩⟩⟩
        · have g1 : ¬ ((k : Int) < 0) := by omega
          have g2 : k ≤ m.length := by omega
          have g3 : 0 < (m.drop k).length := by simp; omega
          have g4 : (0 : Int) < ((m.drop k).length : Int) := by omega
          simp only [g1, decide_false, cond_false, Int.natCast_nonneg, decide_true, cond_true, Int.toNat_natCast, g2, slice_drop, g3, g4, Int.le_refl, true_and, getD_drop, Nat.add_zero, p29_is b t a2 a3 a4 l b (m.getD k (dflt T_api_Entry)).1 hc (show l.length ≤ 4611686018427387903 by omega) (show l.length < fu by omega), bind_val, Int.ofNat_lt]
          obtain ⟨x, ex⟩ : ∃ x, m.getD k (dflt T_api_Entry) = x := ⟨_, rfl⟩
          rw [ex]
          have g5 : placeI b l x.1 ≤ l.length := Nat.min_le_right _ _
          have ht : (bif decide (placeI b l x.1 < l.length) then some (Sum.inl ((x.1, ()), ())) else some (Sum.inl (((0 : Int), ()), ())) : Option (((Int × Unit) × Unit) ⊕ (Unit × (Lg × Int × List En × Int × Unit)))) = some (.inl (((if placeI b l x.1 < l.length then x.1 else 0), ()), ())) := by
            by_cases hx : placeI b l x.1 < l.length <;> simp [hx]
          have s1 := small_take (k := placeI b l x.1) hs
          have s2 := small_drop (k := k) hm
          have l1 := s1.1
          have l2 := s2.1
          have g6 : (l.take (placeI b l x.1)).length + (m.drop k).length ≤ maxLen ∧ ((l.take (placeI b l x.1)).length + (m.drop k).length) * 96 ≤ 140737488355328 := ⟨by show _ ≤ 9223372036854775807; omega, by omega⟩
          simp only [ht, orK_inl, Int.natCast_nonneg, decide_true, cond_true, Int.toNat_natCast, Nat.zero_le, g5, and_self, true_and, p30_is _ (small_fits (by omega) s1) (show (l.take (placeI b l x.1)).length < fu by omega), p30_is _ (small_fits (by omega) s2) (show (m.drop k).length < fu by omega), p43_is b t a2 a3 a4 hb, bind_val, g6]
          refine ⟨_, rfl, _, rfl, .inr ⟨⟨hfol, hterm, hk⟩, .inr ⟨k, k1, k2, by rw [ex]; rw [ex] at k3; exact k3, ?_⟩⟩⟩
          rw [ex]
end Go.Proofs.Ytdblllnnccaccaa
