/-
  Layer 6: which entries may follow; what a merge comes to.
-/
import Derived.Test.YtdblllnnccaccaaLoC
namespace Go.Proofs.Ytdblllnnccaccaa
open Go.RowKit
variable {fu : Nat}
def smallX (x : En) : Prop := x.2.2.2.1.length ≤ 1048576 ∧ x.2.2.2.2.1.length ≤ 1048576 ∧ x.2.2.2.2.2.length ≤ 1048576
/-- Few entries, small ones. -/
def small (n : Nat) (l : List En) : Prop := l.length ≤ n ∧ ∀ x ∈ l, smallX x
theorem small_fits {n : Nat} {l : List En} (hn : n ≤ 4194304) (h : small n l) : fitsE l := by
  refine ⟨by have := h.1; omega, ?_, fun x hx => by have := h.2 x hx; unfold smallX at this; omega⟩
  have : ∀ l : List En, (∀ x ∈ l, smallX x) → (datas l).length ≤ l.length * 1048576 := by
    intro l
    induction l with
    | nil => intro _; simp [datas]
    | cons x l ih =>
      intro h
      have h1 := ih fun y hy => h y (List.mem_cons_of_mem _ hy)
      have h2 := (h x List.mem_cons_self).1
      simp only [datas, List.flatMap_cons, List.length_append, List.length_cons] at h1 ⊢
      omega
  have h1 := this l h.2
  have := h.1
  omega
theorem small_take {n k : Nat} {l : List En} (h : small n l) : small n (l.take k) := ⟨by have := h.1; simp; omega, fun x hx => h.2 x (List.mem_of_mem_take hx)⟩
theorem small_drop {n k : Nat} {l : List En} (h : small n l) : small n (l.drop k) := ⟨by have := h.1; simp; omega, fun x hx => h.2 x (List.mem_of_mem_drop hx)⟩
theorem small_app {n m : Nat} {l k : List En} (h : small n l) (h' : small m k) : small (n + m) (l ++ k) := ⟨by have := h.1; have := h'.1; simp; omega, fun x hx => by
  rcases List.mem_append.1 hx with hx | hx
  · exact h.2 x hx
  · exact h'.2 x hx⟩
theorem small_get {n i : Nat} {l : List En} (h : small n l) (hi : i < l.length) : smallX (l.getD i (dflt T_api_Entry)) := by rw [getD_lt hi]; exact h.2 _ (List.getElem_mem _)
def isE (x : En) : Bool := if x.2.2.1 = 2 then decide (x.2.2.2.2.1.length + x.2.2.2.2.2.length = 0) else if x.2.2.1 = 1 then decide (x.2.2.2.1.length + x.2.2.2.2.1.length + x.2.2.2.2.2.length = 0) else if x.2.2.1 = 3 then decide (x.2.2.2.1.length = 0) else false
theorem p55_is (x : En) (h : smallX x) : p55 fu ((x.1, x.2.1, x.2.2.1, x.2.2.2.1, x.2.2.2.2.1, x.2.2.2.2.2, ()), ()) = some ((), isE x) := by
  obtain ⟨a, b, k, d, v, l⟩ := x
  obtain ⟨h1, h2, h3⟩ := h
  simp only at h1 h2 h3
  unfold p55 isE
  simp only
  have w1 : IntKind.wrap .i64 ((v.length : Int) + (l.length : Int)) = ((v.length + l.length : Nat) : Int) := by rw [i64_wrap (by omega) (by omega)]; try omega
  have w2 : IntKind.wrap .i64 ((IntKind.wrap .i64 ((d.length : Int) + (v.length : Int))) + (l.length : Int)) = ((d.length + v.length + l.length : Nat) : Int) := by
    rw [i64_wrap (x := (d.length : Int) + v.length) (by omega) (by omega), i64_wrap (by omega) (by omega)]; try omega
  have z : ∀ n : Nat, (((n : Nat) : Int) == (0 : Int)) = decide (n = 0) := fun n => by rw [Bool.eq_iff_iff]; simp
  rw [w1, w2, z, z, z]
  by_cases k2 : k = 2
  · subst k2; rfl
  · have : (k == (2 : Int)) = false := by simpa using k2
    simp only [this, cond_false, k2, if_false]
    by_cases k1 : k = 1
    · subst k1; rfl
    · have : (k == (1 : Int)) = false := by simpa using k1
      simp only [this, cond_false, k1, if_false]
      by_cases k3 : k = 3
      · subst k3; rfl
      · have : (k == (3 : Int)) = false := by simpa using k3
        simp only [this, cond_false, k3, if_false]
theorem loopO_bool {S : Type} {f : S → Option (S ⊕ (Unit × Bool))} {s : S} {n : Nat} (I : S → Prop) (m : S → Nat) (Q : Bool → Prop) (hs : I s) (hn : m s < n) (h : ∀ s, I s → ∃ o, f s = some o ∧ LStep I m (fun r : Unit × Bool => Q r.2) s o) : ∃ r, loopO n f s = some ((), r) ∧ Q r := by
  obtain ⟨⟨_, r⟩, h1, h2⟩ := loopO_rule I m (fun r : Unit × Bool => Q r.2) h n s hs hn
  exact ⟨r, h1, h2⟩
def termAt (t : Int) (l : List En) (i : Nat) : Int := if i = 0 then t else (l.getD (i - 1) (dflt T_api_Entry)).2.1
/-- An entry may stand in its place. -/
def okE (b t : Int) (l : List En) (i : Nat) : Prop := (l.getD i (dflt T_api_Entry)).1 = b + 1 + (i : Int) ∧ termAt t l i ≤ (l.getD i (dflt T_api_Entry)).2.1 ∧ isE (l.getD i (dflt T_api_Entry)) = true
/-- Entries may follow. -/
def Fol (b t : Int) (l : List En) : Prop := b < 4611686018427387904 ∧ (l.length : Int) < 4611686018427387904 - b ∧ ∀ i, i < l.length → okE b t l i
theorem Fol.contig {b t : Int} {l : List En} (h : Fol b t l) : contig b l := fun j hj => (h.2.2 j hj).1
theorem u64_succ {b : Int} {i : Nat} (h0 : 0 ≤ b) (h : b + (i : Int) < 4611686018427387904) : IntKind.wrap .u64 (b + (i : Int) + 1) = b + ((i + 1 : Nat) : Int) := by
  rw [wrap_u64 (by omega) (by omega)]; omega
theorem p39_ex (b t : Int) (l : List En) {n : Nat} (h0 : 0 ≤ b) (hs : small n l) (hn : n ≤ 4194304) (hf : l.length < fu) : ∃ r, p39 fu (b, t, l, ()) = some ((), r) ∧ (r = true ↔ Fol b t l) := by
  have hl := hs.1
  unfold p39
  simp only
  by_cases h1 : b ≥ 4611686018427387904
  · simp only [h1, decide_true, cond_true]
    exact ⟨_, rfl, by simp [Fol]; omega⟩
  · have w1 : IntKind.wrap .u64 (l.length : Int) = (l.length : Int) := wrap_u64 (by omega) (by omega)
    have w2 : IntKind.wrap .u64 (4611686018427387904 - b) = 4611686018427387904 - b := wrap_u64 (by omega) (by omega)
    simp only [h1, decide_false, cond_false, w1, w2]
    by_cases h2 : (l.length : Int) ≥ 4611686018427387904 - b
    · simp only [h2, decide_true, cond_true]
      exact ⟨_, rfl, by simp [Fol]; omega⟩
    · simp only [h2, decide_false, cond_false]
      refine loopO_bool (I := fun s => ∃ i : Nat, s = ((b + (i : Int), termAt t l i, (i : Int), ()), ()) ∧ i ≤ l.length ∧ ∀ j, j < i → okE b t l j) (m := fun s => l.length - s.1.2.2.1.toNat)
        (Q := fun r => r = true ↔ Fol b t l) ⟨0, by simp [termAt], Nat.zero_le _, fun j hj => absurd hj (Nat.not_lt_zero _)⟩ (by simpa using hf) ?_
      rintro s ⟨i, rfl, hi, hk⟩
      by_cases hi' : i < l.length
      · have g1 : ((i : Int) < (l.length : Int)) := by omega
        simp only [g1, decide_true, cond_true, Int.natCast_nonneg, true_and, and_self, Int.toNat_natCast, hi', u64_succ h0 (show b + (i : Int) < 4611686018427387904 by omega)]
        have hx := small_get hs hi'
        have bad : ¬ okE b t l i → ¬ Fol b t l := fun h k => h (k.2.2 i hi')
        obtain ⟨x, ex⟩ : ∃ x, l.getD i (dflt T_api_Entry) = x := ⟨_, rfl⟩
        rw [ex] at hx
        have okx : okE b t l i ↔ x.1 = b + 1 + (i : Int) ∧ termAt t l i ≤ x.2.1 ∧ isE x = true := by unfold okE; rw [ex]
        rw [okx] at bad
        have tx : termAt t l (i + 1) = x.2.1 := by unfold termAt; rw [if_neg (Nat.succ_ne_zero i), Nat.add_sub_cancel, ex]
        simp only [ex, p55_is x hx, bind_val]
        by_cases e1 : x.1 = b + ((i + 1 : Nat) : Int)
        · simp only [e1, bne_self_eq_false, cond_false]
          by_cases e2 : x.2.1 < termAt t l i
          · simp only [e2, decide_true, cond_true]
            exact ⟨_, rfl, show false = true ↔ Fol b t l from ⟨fun h => (by cases h), fun h => absurd h (bad (by omega))⟩⟩
          · simp only [e2, decide_false, cond_false]
            cases e3 : isE x with
            | false =>
              refine ⟨_, rfl, ?_⟩
              show false = true ↔ Fol b t l
              rw [Bool.false_eq_true, false_iff]
              exact bad (by rw [e3]; simp)
            | true =>
              refine ⟨_, rfl, ⟨i + 1, ?_, hi', fun j hj => ?_⟩, ?_⟩
              · rw [tx, i64_succ hi' (by omega)]
              · rcases Nat.lt_succ_iff_lt_or_eq.1 hj with hj | rfl
                · exact hk j hj
                · exact okx.2 ⟨by omega, by omega, e3⟩
              · simp only [i64_succ hi' (show l.length ≤ 9223372036854775807 by omega), Int.toNat_natCast]; omega
        · have e1' : (x.1 != b + ((i + 1 : Nat) : Int)) = true := by simpa using e1
          simp only [e1', cond_true]
          exact ⟨_, rfl, show false = true ↔ Fol b t l from ⟨fun h => (by cases h), fun h => absurd h (bad (by omega))⟩⟩
      · obtain rfl : i = l.length := by omega
        simp only [Int.lt_irrefl, decide_false, cond_false]
        exact ⟨_, rfl, show true = true ↔ Fol b t l from ⟨fun _ => ⟨by omega, by omega, hk⟩, fun _ => rfl⟩⟩
theorem p20_ex (b t : Int) (a2 a3 a4 : List Int) (l : List En) {n : Nat} (h0 : 0 ≤ b) (hs : small n l) (hn : n ≤ 4194304) (hf : l.length < fu) : ∃ r, p20 fu ((b, t, a2, a3, a4, l, ()), ()) = some ((), r) ∧ (r = true ↔ Fol b t l) := by
  obtain ⟨r, h1, h2⟩ := p39_ex (fu := fu) b t l h0 hs hn hf
  exact ⟨r, by simp only [p20, h1, bind_val], h2⟩
theorem p54_ex (x : En) (i t : Int) (h : smallX x) : ∃ r, p54 fu ((x.1, x.2.1, x.2.2.1, x.2.2.2.1, x.2.2.2.2.1, x.2.2.2.2.2, ()), i, t, ()) = some ((), r) ∧ (r = true → x.1 = i ∧ t ≤ x.2.1 ∧ isE x = true) := by
  obtain ⟨a, b, k, d, v, l⟩ := x
  obtain ⟨h1, h2, h3⟩ := h
  simp only at h1 h2 h3
  unfold p54 isE
  simp only
  have z : ∀ n : Nat, (((n : Nat) : Int) == (0 : Int)) = decide (n = 0) := fun n => by rw [Bool.eq_iff_iff]; simp
  rw [z, z, z]
  by_cases e1 : a = i
  · subst e1
    simp only [bne_self_eq_false, cond_false]
    by_cases e2 : b < t
    · simp only [e2, decide_true, cond_true]; exact ⟨_, rfl, by simp⟩
    · simp only [e2, decide_false, cond_false]
      by_cases e3 : b ≥ 4611686018427387904
      · simp only [e3, decide_true, cond_true]; exact ⟨_, rfl, by simp⟩
      · simp only [e3, decide_false, cond_false]
        have hh : orK (if v.length = 0 then some (Sum.inl (((decide (l.length = 0)), ()), ())) else some (Sum.inl ((false, ()), ()))) = orK (E := (Bool × Unit) × Unit) (R := Unit × Bool) (some (.inl ((decide (v.length = 0 ∧ l.length = 0), ()), ()))) := by
          by_cases hv : v.length = 0 <;> simp [hv]
        rw [show (bif decide (v.length = 0) then some (Sum.inl (((decide (l.length = 0)), ()), ())) else some (Sum.inl ((false, ()), ()))) = (if v.length = 0 then some (Sum.inl (((decide (l.length = 0)), ()), ())) else some (Sum.inl ((false, ()), ())) : Option (((Bool × Unit) × Unit) ⊕ (Unit × Bool))) by
          by_cases hv : v.length = 0 <;> simp [hv], hh]
        simp only [orK_inl]
        by_cases k1 : k = 1
        · subst k1
          simp only [beq_self_eq_true, cond_true]
          by_cases hv : v.length = 0 ∧ l.length = 0
          · simp only [hv, and_self, decide_true, cond_true]
            exact ⟨_, rfl, by simp [-List.length_eq_zero_iff]; omega⟩
          · simp only [hv, decide_false, cond_false]
            exact ⟨_, rfl, by simp⟩
        · have : (k == (1 : Int)) = false := by simpa using k1
          simp only [this, cond_false]
          by_cases k2 : k = 2
          · subst k2
            simp only [beq_self_eq_true, cond_true]
            exact ⟨_, rfl, by simp [-List.length_eq_zero_iff]; omega⟩
          · have : (k == (2 : Int)) = false := by simpa using k2
            simp only [this, cond_false]
            by_cases k3 : k = 3
            · subst k3
              simp only [beq_self_eq_true, cond_true]
              exact ⟨_, rfl, by simp [-List.length_eq_zero_iff]; omega⟩
            · have : (k == (3 : Int)) = false := by simpa using k3
              simp only [this, cond_false]
              exact ⟨_, rfl, by simp⟩
  · have e1' : (a != i) = true := by simpa using e1
    simp only [e1', cond_true]
    exact ⟨_, rfl, by simp⟩
theorem p31_ex (b t : Int) (l : List En) {n : Nat} (h0 : 0 ≤ b) (hs : small n l) (hn : n ≤ 4194304) (hf : l.length < fu) : ∃ r, p31 fu (b, t, l, ()) = some ((), r) ∧ (r = true → Fol b t l) := by
  have hl := hs.1
  unfold p31
  simp only
  by_cases h1 : b ≥ 4611686018427387904
  · simp only [h1, decide_true, cond_true]
    exact ⟨_, rfl, by simp⟩
  · have w1 : IntKind.wrap .u64 (l.length : Int) = (l.length : Int) := wrap_u64 (by omega) (by omega)
    have w2 : IntKind.wrap .u64 (4611686018427387904 - b) = 4611686018427387904 - b := wrap_u64 (by omega) (by omega)
    simp only [h1, decide_false, cond_false, w1, w2]
    by_cases h2 : (l.length : Int) ≥ 4611686018427387904 - b
    · simp only [h2, decide_true, cond_true]
      exact ⟨_, rfl, by simp⟩
    · simp only [h2, decide_false, cond_false]
      refine loopO_bool (I := fun s => ∃ i : Nat, s = ((termAt t l i, (i : Int), ()), ()) ∧ i ≤ l.length ∧ ∀ j, j < i → okE b t l j) (m := fun s => l.length - s.1.2.1.toNat)
        (Q := fun r => r = true → Fol b t l) ⟨0, by simp [termAt], Nat.zero_le _, fun j hj => absurd hj (Nat.not_lt_zero _)⟩ (by simpa using hf) ?_
      rintro s ⟨i, rfl, hi, hk⟩
      by_cases hi' : i < l.length
      · have g1 : ((i : Int) < (l.length : Int)) := by omega
        have w3 : IntKind.wrap .u64 (i : Int) = (i : Int) := wrap_u64 (by omega) (by omega)
        have w4 : IntKind.wrap .u64 (b + (i : Int)) = b + (i : Int) := wrap_u64 (by omega) (by omega)
        simp only [g1, decide_true, cond_true, Int.natCast_nonneg, true_and, and_self, Int.toNat_natCast, hi', w3, w4, u64_succ h0 (show b + (i : Int) < 4611686018427387904 by omega)]
        have hx := small_get hs hi'
        obtain ⟨x, ex⟩ : ∃ x, l.getD i (dflt T_api_Entry) = x := ⟨_, rfl⟩
        rw [ex] at hx
        have okx : okE b t l i ↔ x.1 = b + 1 + (i : Int) ∧ termAt t l i ≤ x.2.1 ∧ isE x = true := by unfold okE; rw [ex]
        have tx : termAt t l (i + 1) = x.2.1 := by unfold termAt; rw [if_neg (Nat.succ_ne_zero i), Nat.add_sub_cancel, ex]
        obtain ⟨r, hr, hr2⟩ := p54_ex (fu := fu) x (b + ((i + 1 : Nat) : Int)) (termAt t l i) hx
        simp only [ex, hr, bind_val]
        cases r with
        | false => exact ⟨_, rfl, show false = true → Fol b t l from fun h => by cases h⟩
        | true =>
          obtain ⟨q1, q2, q3⟩ := hr2 rfl
          refine ⟨_, rfl, ⟨i + 1, ?_, hi', fun j hj => ?_⟩, ?_⟩
          · rw [tx, i64_succ hi' (by omega)]
          · rcases Nat.lt_succ_iff_lt_or_eq.1 hj with hj | rfl
            · exact hk j hj
            · exact okx.2 ⟨by omega, q2, q3⟩
          · simp only [i64_succ hi' (show l.length ≤ 9223372036854775807 by omega), Int.toNat_natCast]; omega
      · obtain rfl : i = l.length := by omega
        simp only [Int.lt_irrefl, decide_false, cond_false]
        exact ⟨_, rfl, show true = true → Fol b t l from fun _ => ⟨by omega, by omega, hk⟩⟩
theorem p12_ex (b t : Int) (a2 a3 a4 : List Int) (l : List En) {n : Nat} (h0 : 0 ≤ b) (hs : small n l) (hn : n ≤ 4194304) (hf : l.length < fu) : ∃ r, p12 fu ((b, t, a2, a3, a4, l, ()), ()) = some ((), r) ∧ (r = true → Fol b t l) := by
  obtain ⟨r, h1, h2⟩ := p31_ex (fu := fu) b t l h0 hs hn hf
  unfold p12
  by_cases h : t < 4611686018427387904
  · exact ⟨r, by simp only [h, decide_true, cond_true, h1, bind_val], h2⟩
  · exact ⟨false, by simp only [h, decide_false, cond_false], by simp⟩
end Go.Proofs.Ytdblllnnccaccaa
