/-
  Layer 8: lists of nodes: what is in them, with one more, without one.
-/
import Derived.Test.YtglholedidkbcaaPt
import Derived.Test.YtglholedidkbcaaDaP
namespace Go.Proofs.Ytglholedidkbcaa
open Go.RowKit
section
variable {fu : Nat}

theorem take_one {α : Type} (l : List α) (i : Nat) (d : α) (h : i < l.length) : l.take (i + 1) = l.take i ++ [l.getD i d] := by
  rw [getD_lt h]; exact List.take_succ_eq_append_getElem h
theorem take_all {α : Type} (l : List α) : l.take l.length = l := List.take_length
theorem loop_val {S R : Type} {f : S → Option (S ⊕ R)} (I : S → Prop) (m : S → Nat) {n : Nat} {s : S} {r : R} (hI : I s) (hm : m s < n) (h : ∀ s, I s → ∃ o, f s = some o ∧ LStep I m (fun q => q = r) s o) : loopO n f s = some r := by
  obtain ⟨q, e, rfl⟩ := loopO_rule I m (fun q => q = r) h n s hI hm
  exact e
theorem loop_ex {S R X : Type} {f : S → Option (S ⊕ R)} (mk : X → R) (J : X → Prop) (I : S → Prop) (m : S → Nat) {n : Nat} {s : S} (hI : I s) (hm : m s < n) (h : ∀ s, I s → ∃ o, f s = some o ∧ LStep I m (fun q => ∃ x, q = mk x ∧ J x) s o) : ∃ x, loopO n f s = some (mk x) ∧ J x := by
  obtain ⟨q, e, x, rfl, hx⟩ := loopO_rule I m (fun q => ∃ x, q = mk x ∧ J x) h n s hI hm
  exact ⟨x, e, hx⟩
/-- Few enough. -/
abbrev few (l : List Int) : Prop := l.length ≤ 4194304
theorem few64 {l : List Int} (h : few l) : l.length ≤ 9223372036854775807 := by unfold few at h; omega
theorem contains_take (l : List Int) (x : Int) {i : Nat} (h : i < l.length) (hx : (l.getD i (dflt (.int .i64)) == x) = true) : l.contains x = true := by
  have h1 : l.getD i (dflt (.int .i64)) = x := by simpa using hx
  rw [List.contains_iff_mem, ← h1, getD_lt h]
  exact List.getElem_mem _
theorem contains_next (l : List Int) (x : Int) {i : Nat} (h : i < l.length) (hx : (l.getD i (dflt (.int .i64)) == x) = false) (hn : (l.take i).contains x = false) : (l.take (i + 1)).contains x = false := by
  have h1 : ¬ l.getD i (dflt (.int .i64)) = x := by simpa using hx
  rw [take_one l i (dflt (.int .i64)) h]
  simp only [List.contains_eq_mem, List.mem_append, List.mem_singleton, decide_eq_false_iff_not, not_or] at hn ⊢
  exact ⟨hn, fun e => h1 e.symm⟩
theorem p15_is (l : List Int) (x : Int) (hl : few l) (hf : l.length < fu) : p15 fu (l, x, ()) = some ((), l.contains x) := by
  unfold p15
  refine loop_val (I := fun s => ∃ i : Nat, s = (((i : Int), ()), ()) ∧ i ≤ l.length ∧ (l.take i).contains x = false) (m := fun s => (l.length - Int.toNat s.1.1)) ⟨0, rfl, Nat.zero_le _, by simp⟩ (by simpa using hf) fun s hs => ?_
  obtain ⟨i, rfl, h1, h2⟩ := hs
  by_cases h : i < l.length
  · have hi : (i : Int) < (l.length : Int) := by omega
    have h0 : (0 : Int) ≤ (i : Int) := by omega
    simp only [hi, h0, decide_true, cond_true, Int.toNat_natCast, h, and_self, i64_succ h (few64 hl)]
    cases hb : (l.getD i (dflt (.int .i64)) == x) with
    | true => exact ⟨_, rfl, by rw [contains_take l x h hb]⟩
    | false => exact ⟨_, rfl, ⟨i + 1, rfl, h, contains_next l x h hb h2⟩, by simp only [Int.toNat_natCast]; omega⟩
  · have hi : ¬ ((i : Int) < (l.length : Int)) := by omega
    obtain rfl : i = l.length := by omega
    rw [take_all] at h2
    simp only [hi, decide_false, cond_false]
    exact ⟨_, rfl, by rw [h2]⟩
theorem p33_is (l : List Int) (x : Int) (hl : few l) (hf : l.length < fu) : p33 fu (l, x, ()) = some ((), l.contains x) := by
  obtain ⟨r, hr, h⟩ : ∃ r : Int, p50 fu (l, x, ()) = some ((), r) ∧ decide (r ≥ 0) = l.contains x := by
    unfold p50
    refine loop_ex (fun r => ((), r)) (fun r : Int => decide (r ≥ 0) = l.contains x) (I := fun s => ∃ i : Nat, s = (((i : Int), ()), ()) ∧ i ≤ l.length ∧ (l.take i).contains x = false) (m := fun s => (l.length - Int.toNat s.1.1)) ⟨0, rfl, Nat.zero_le _, by simp⟩ (by simpa using hf) fun s hs => ?_
    obtain ⟨i, rfl, h1, h2⟩ := hs
    by_cases h : i < l.length
    · have hi : (i : Int) < (l.length : Int) := by omega
      have h0 : (0 : Int) ≤ (i : Int) := by omega
      simp only [hi, h0, decide_true, cond_true, Int.toNat_natCast, h, and_self, i64_succ h (few64 hl)]
      cases hb : (x == l.getD i (dflt (.int .i64))) with
      | true => exact ⟨_, rfl, _, rfl, by rw [contains_take l x h (by rw [Bool.beq_comm]; exact hb)]; simp⟩
      | false => exact ⟨_, rfl, ⟨i + 1, rfl, h, contains_next l x h (by rw [Bool.beq_comm]; exact hb) h2⟩, by simp only [Int.toNat_natCast]; omega⟩
    · have hi : ¬ ((i : Int) < (l.length : Int)) := by omega
      obtain rfl : i = l.length := by omega
      rw [take_all] at h2
      simp only [hi, decide_false, cond_false]
      exact ⟨_, rfl, _, rfl, by rw [h2]; decide⟩
  simp only [p33, hr, bind_val, h]
theorem p14_is (a c : List Int) (x : Int) (hl : few a) (hf : a.length < fu) : p14 fu ((a, c, ()), x, ()) = some ((), a.contains x) := by
  simp only [p14, p33_is a x hl hf, bind_val]
theorem p16_is (a c : List Int) (x : Int) (hl : few c) (hf : c.length < fu) : p16 fu ((a, c, ()), x, ()) = some ((), c.contains x) := by
  simp only [p16, p33_is c x hl hf, bind_val]
theorem p43_is (a c : List Int) (x : Int) (ha : few a) (hl : few c) (hf : a.length < fu) (hf2 : c.length < fu) : p43 fu ((a, c, ()), x, ()) = some ((), a.contains x || c.contains x) := by
  simp only [p43, p14_is a c x ha hf, p16_is a c x hl hf2, bind_val]
  cases a.contains x <;> rfl
def okN (n : Int) : Bool := decide (1 ≤ n ∧ n ≤ 7)
theorem p24_is (n : Int) : p24 fu (n, ()) = some ((), okN n) := by
  unfold p24 okN
  by_cases h : (1 : Int) ≤ n
  · have h' : n ≥ 1 := h
    simp only [h', decide_true, cond_true, true_and]
  · have h' : ¬ n ≥ 1 := h
    simp only [h', decide_false, cond_false, false_and]
theorem p26_is (n : Int) : p26 fu (n, ()) = some ((), okN n) := p24_is (fu := fu) n
/-- Does it rise? -/
def risesS (l : List Int) : Bool := (List.range (l.length - 1)).all fun i => decide (l.getD i 0 < l.getD (i + 1) 0)
theorem rises_iff (l : List Int) : risesS l = true ↔ ∀ i, i + 1 < l.length → l.getD i 0 < l.getD (i + 1) 0 := by
  unfold risesS
  rw [List.all_eq_true]
  simp only [List.mem_range, decide_eq_true_eq]
  exact ⟨fun h i hi => h i (by omega), fun h i hi => h i (by omega)⟩
theorem p25_is (l : List Int) (hl : few l) (hf : l.length + 1 < fu) : p25 fu (l, ()) = some ((), risesS l) := by
  unfold p25
  refine loop_val (I := fun s => ∃ i : Nat, s = (((i : Int), ()), ()) ∧ 1 ≤ i ∧ ∀ k, k + 1 < i → k + 1 < l.length → l.getD k 0 < l.getD (k + 1) 0) (m := fun s => (l.length + 1 - Int.toNat s.1.1)) ⟨1, rfl, Nat.le_refl _, fun k hk => by omega⟩ (by simp; omega) fun s hs => ?_
  obtain ⟨i, rfl, h1, h2⟩ := hs
  by_cases h : i < l.length
  · have hi : (i : Int) < (l.length : Int) := by omega
    have h0 : (0 : Int) ≤ (i : Int) := by omega
    have hp : IntKind.wrap .i64 ((i : Int) - 1) = ((i - 1 : Nat) : Int) := i64_pred (by omega) (by unfold few at hl; omega)
    have h3 : (0 : Int) ≤ ((i - 1 : Nat) : Int) := by omega
    have h4 : ((i - 1 : Nat) : Int) < (l.length : Int) := by omega
    have h5 : i - 1 < l.length := by omega
    simp only [hi, h0, decide_true, cond_true, Int.toNat_natCast, h, and_self, i64_succ h (few64 hl), hp, h3, h4, h5]
    by_cases hb : l.getD i (dflt (.int .i64)) ≤ l.getD (i - 1) (dflt (.int .i64))
    · simp only [hb, decide_true, cond_true]
      refine ⟨_, rfl, ?_⟩
      have : risesS l = false := by
        rw [← Bool.not_eq_true, rises_iff]
        intro hh
        have := hh (i - 1) (by omega)
        rw [show i - 1 + 1 = i by omega] at this
        have hb' : l.getD i 0 ≤ l.getD (i - 1) 0 := hb
        omega
      rw [this]
    · simp only [hb, decide_false, cond_false]
      refine ⟨_, rfl, ⟨i + 1, rfl, by omega, fun k hk hk2 => ?_⟩, by simp only [Int.toNat_natCast]; omega⟩
      rcases Nat.lt_or_ge (k + 1) i with hlt | hge
      · exact h2 k hlt hk2
      · obtain rfl : k = i - 1 := by omega
        rw [show i - 1 + 1 = i by omega]
        have hb' : ¬ l.getD i 0 ≤ l.getD (i - 1) 0 := hb
        omega
  · have hi : ¬ ((i : Int) < (l.length : Int)) := by omega
    simp only [hi, decide_false, cond_false]
    refine ⟨_, rfl, ?_⟩
    rw [(rises_iff l).2 fun k hk => h2 k (by omega) hk]
theorem p27_is (l : List Int) (hl : few l) (hf : l.length + 1 < fu) : p27 fu (l, ()) = some ((), risesS l) := by
  unfold p27
  refine loop_val (I := fun s => ∃ i : Nat, s = (((i : Int), ()), ()) ∧ 1 ≤ i ∧ ∀ k, k + 1 < i → k + 1 < l.length → l.getD k 0 < l.getD (k + 1) 0) (m := fun s => (l.length + 1 - Int.toNat s.1.1)) ⟨1, rfl, Nat.le_refl _, fun k hk => by omega⟩ (by simp; omega) fun s hs => ?_
  obtain ⟨i, rfl, h1, h2⟩ := hs
  by_cases h : i < l.length
  · have hi : (i : Int) < (l.length : Int) := by omega
    have h0 : (0 : Int) ≤ (i : Int) := by omega
    have hp : IntKind.wrap .i64 ((i : Int) - 1) = ((i - 1 : Nat) : Int) := i64_pred (by omega) (by unfold few at hl; omega)
    have h3 : (0 : Int) ≤ ((i - 1 : Nat) : Int) := by omega
    have h4 : ((i - 1 : Nat) : Int) < (l.length : Int) := by omega
    have h5 : i - 1 < l.length := by omega
    simp only [hi, h0, decide_true, cond_true, Int.toNat_natCast, h, and_self, i64_succ h (few64 hl), hp, h3, h4, h5]
    by_cases hb : l.getD (i - 1) (dflt (.int .i64)) ≥ l.getD i (dflt (.int .i64))
    · simp only [hb, decide_true, cond_true]
      refine ⟨_, rfl, ?_⟩
      have : risesS l = false := by
        rw [← Bool.not_eq_true, rises_iff]
        intro hh
        have := hh (i - 1) (by omega)
        rw [show i - 1 + 1 = i by omega] at this
        have hb' : l.getD (i - 1) 0 ≥ l.getD i 0 := hb
        omega
      rw [this]
    · simp only [hb, decide_false, cond_false]
      refine ⟨_, rfl, ⟨i + 1, rfl, by omega, fun k hk hk2 => ?_⟩, by simp only [Int.toNat_natCast]; omega⟩
      rcases Nat.lt_or_ge (k + 1) i with hlt | hge
      · exact h2 k hlt hk2
      · obtain rfl : k = i - 1 := by omega
        rw [show i - 1 + 1 = i by omega]
        have hb' : ¬ l.getD (i - 1) 0 ≥ l.getD i 0 := hb
        omega
  · have hi : ¬ ((i : Int) < (l.length : Int)) := by omega
    simp only [hi, decide_false, cond_false]
    refine ⟨_, rfl, ?_⟩
    rw [(rises_iff l).2 fun k hk => h2 k (by omega) hk]
/-- A copy. -/
theorem p47_is (l : List Int) (hl : few l) : p47 fu (l, ()) = some ((), l) := by
  unfold few at hl
  unfold p47
  by_cases h : l.length = 0
  · obtain rfl := List.length_eq_zero_iff.1 h
    rfl
  · have hb : ((l.length : Int) == 0) = false := by simpa using h
    have hc : (0 : Int) ≤ (l.length : Int) ∧ (l.length : Int) ≤ (l.length : Int) ∧ (l.length : Int) ≤ 9223372036854775807 ∧ (8 : Int) * (l.length : Int) ≤ 140737488355328 := by omega
    have he : copyL (List.replicate l.length (0 : Int)) 0 l.length l = l := by simp [copyL]
    simp only [hb, cond_false, hc, and_self, decide_true, cond_true, Int.toNat_natCast, List.length_replicate, he]
theorem p51_is (a c : List Int) (ha : few a) (hc : few c) : p51 fu ((a, c, ()), ()) = some ((), a, c, ()) := by
  simp only [p51, p47_is a ha, p47_is c hc, bind_val, decide_true, cond_true]
theorem p9_is (a c : List Int) (ha : few a) (hc : few c) : p9 fu ((a, c, ()), ()) = some ((), a, c, ()) := by
  unfold few at ha hc
  have hm : maxLen = 9223372036854775807 := rfl
  have h1 : a.length ≤ maxLen ∧ a.length * 8 ≤ 140737488355328 := by omega
  have h2 : c.length ≤ maxLen ∧ c.length * 8 ≤ 140737488355328 := by omega
  simp only [p9, List.length_nil, Nat.zero_add, List.nil_append, decide_true, cond_true, h1, h2, and_self]
end
section
variable {fu : Nat}

/-- A loop over a list, as a function of the list. -/
def foldE {A X R : Type} (step : A → X → A ⊕ R) (fin : A → R) : List X → A → R
  | [], a => fin a
  | x :: l, a => match step a x with
    | .inl a' => foldE step fin l a'
    | .inr r => r
def stepS {A S R : Type} (mk : A → S) : A ⊕ R → S ⊕ R
  | .inl a => .inl (mk a)
  | .inr r => .inr r
theorem loop_fold {A X S R : Type} {f : S → Option (S ⊕ R)} (l : List X) (mk : Nat → A → S) (J : Nat → A → Prop) (step : A → X → A ⊕ R) (fin : A → R) {a0 : A} (h0 : J 0 a0) (hf : l.length < fu)
    (hs : ∀ i a (h : i < l.length), J i a → f (mk i a) = some (stepS (mk (i + 1)) (step a l[i])) ∧ ∀ a', step a l[i] = .inl a' → J (i + 1) a')
    (he : ∀ a, J l.length a → f (mk l.length a) = some (.inr (fin a))) : loopO fu f (mk 0 a0) = some (foldE step fin l a0) := by
  have key : ∀ k i a n, i + k = l.length → J i a → k < n → loopO n f (mk i a) = some (foldE step fin (l.drop i) a) := by
    intro k
    induction k with
    | zero =>
      intro i a n hi hJ hn
      obtain ⟨m, rfl⟩ : ∃ m, n = m + 1 := ⟨n - 1, by omega⟩
      obtain rfl : i = l.length := by omega
      simp only [loopO, he a hJ, List.drop_length, foldE]
    | succ k ih =>
      intro i a n hi hJ hn
      obtain ⟨m, rfl⟩ : ∃ m, n = m + 1 := ⟨n - 1, by omega⟩
      have hlt : i < l.length := by omega
      obtain ⟨h1, h2⟩ := hs i a hlt hJ
      rw [List.drop_eq_getElem_cons hlt]
      simp only [loopO, h1, foldE]
      cases hst : step a l[i] with
      | inl a' => exact ih (i + 1) a' m (by omega) (h2 a' hst) (by omega)
      | inr r => rfl
  exact key l.length 0 a0 fu (by omega) h0 hf
/-- A loop that looks for one. -/
theorem loop_any {X S R : Type} {f : S → Option (S ⊕ R)} (l : List X) (mk : Nat → S) (q : X → Bool) (r fin : R) (hf : l.length < fu)
    (hs : ∀ i (h : i < l.length), f (mk i) = some (bif q l[i] then .inr r else .inl (mk (i + 1))))
    (he : f (mk l.length) = some (.inr fin)) : loopO fu f (mk 0) = some (bif l.any q then r else fin) := by
  rw [loop_fold (a0 := ()) l (fun i _ => mk i) (fun _ _ => True) (fun _ x => bif q x then .inr r else .inl ()) (fun _ => fin) trivial hf (fun i a h _ => ⟨?_, fun _ _ => trivial⟩) (fun _ _ => he)]
  · congr 1
    clear hs he hf
    induction l with
    | nil => rfl
    | cons x l ih =>
      simp only [foldE, List.any_cons]
      cases q x with
      | true => rfl
      | false => exact ih
  · rw [hs i h]
    cases q l[i] <;> rfl

/-- It rises. -/
abbrev Rise (l : List Int) : Prop := l.Pairwise (· < ·)
theorem rise_iff : ∀ l : List Int, risesS l = true ↔ Rise l
  | [] => by simp [rises_iff]
  | x :: l => by
    rw [rises_iff, Rise, List.pairwise_cons]
    have ih := (rises_iff l).symm.trans (rise_iff l)
    constructor
    · intro h
      have h2 : Rise l := ih.1 fun i hi => by
        have := h (i + 1) (by simp only [List.length_cons]; omega)
        simpa using this
      refine ⟨fun y hy => ?_, h2⟩
      match l, h, h2, hy with
      | z :: t, h, h2, hy =>
        have h3 : x < z := by simpa using h 0 (by simp)
        rcases List.mem_cons.1 hy with rfl | hy
        · exact h3
        · have := (List.pairwise_cons.1 h2).1 y hy
          omega
    · rintro ⟨h1, h2⟩ i hi
      rcases i with _ | i
      · match l, h1, hi with
        | z :: t, h1, hi => simpa using h1 z (by simp)
        | [], h1, hi => simp at hi
      · have := ih.2 h2 i (by simp only [List.length_cons] at hi; omega)
        simpa using this
/-- Rising lists of the same ones are one list. -/
theorem rise_ext : ∀ {a b : List Int}, Rise a → Rise b → (∀ x, x ∈ a ↔ x ∈ b) → a = b
  | [], [], _, _, _ => rfl
  | [], y :: b, _, _, h => by have := (h y).2 (by simp); cases this
  | x :: a, [], _, _, h => by have := (h x).1 (by simp); cases this
  | x :: a, y :: b, ha, hb, h => by
    obtain ⟨ha1, ha2⟩ := List.pairwise_cons.1 ha
    obtain ⟨hb1, hb2⟩ := List.pairwise_cons.1 hb
    have hxy : x = y := by
      rcases List.mem_cons.1 ((h x).1 (by simp)) with e | hx
      · exact e
      · rcases List.mem_cons.1 ((h y).2 (by simp)) with e | hy
        · exact e.symm
        · have := ha1 y hy; have := hb1 x hx; omega
    subst hxy
    congr 1
    refine rise_ext ha2 hb2 fun z => ⟨fun hz => ?_, fun hz => ?_⟩
    · rcases List.mem_cons.1 ((h z).1 (List.mem_cons_of_mem _ hz)) with e | hz'
      · have := ha1 z hz; omega
      · exact hz'
    · rcases List.mem_cons.1 ((h z).2 (List.mem_cons_of_mem _ hz)) with e | hz'
      · have := hb1 z hz; omega
      · exact hz'

/-- What Check answers. -/
def checkS (a c : List Int) : Int := if (a ++ c).any (fun x => !okN x) then 81 else if !(risesS a && risesS c) then 1 else if a.any c.contains then 82 else if a.isEmpty then 84 else 0
theorem any_swap (a c : List Int) : c.any a.contains = a.any c.contains := by
  rw [Bool.eq_iff_iff]
  simp only [List.any_eq_true, List.contains_eq_mem, decide_eq_true_eq]
  exact ⟨fun ⟨x, h1, h2⟩ => ⟨x, h2, h1⟩, fun ⟨x, h1, h2⟩ => ⟨x, h2, h1⟩⟩
theorem len0 (a : List Int) : (((a.length : Nat) : Int) == 0) = a.isEmpty := by cases a <;> simp <;> omega
/-- A bound on the fuel of these functions. -/
theorem p10_is (a c : List Int) (ha : few a) (hc : few c) (hf : a.length + c.length + 3 < fu) : p10 fu ((a, c, ()), ()) = some ((), checkS a c) := by
  have hr : (bif [a, c].any (fun l => l.any fun x => !okN x) then ((), (81 : Int)) else ((), if !(risesS a && risesS c) then 1 else if a.any c.contains then 82 else if a.isEmpty then 84 else 0)) = ((), checkS a c) := by
    simp only [List.any_cons, List.any_nil, Bool.or_false, checkS, List.any_append]
    cases (a.any fun x => !okN x) <;> cases (c.any fun x => !okN x) <;> rfl
  rw [← hr]
  unfold p10
  refine loop_any [a, c] (fun i => (((i : Int), ()), ())) (fun l => l.any fun x => !okN x) ((), 81) _ (by simp; omega) (fun i h => ?_) ?_
  · have h2 : i < 2 := h
    have h3 : (i : Int) < 2 := by omega
    have hm : few [a, c][i] ∧ [a, c][i].length < fu := by
      rcases i with _ | _ | i
      · exact ⟨ha, by simp; omega⟩
      · exact ⟨hc, by simp; omega⟩
      · omega
    simp only [h3, Int.natCast_nonneg, h, decide_true, cond_true, and_self, Int.toNat_natCast, getD_lt h, i64_succ h2 (by omega)]
    refine loop_any [a, c][i] (fun k => (((k : Int), ()), ())) (fun x => !okN x) _ _ hm.2 (fun k hk => ?_) ?_
    · simp only [Int.ofNat_lt, Int.natCast_nonneg, hk, decide_true, cond_true, and_self, Int.toNat_natCast, getD_lt hk, p24_is, bind_val, i64_succ hk (few64 hm.1)]
      cases okN [a, c][i][k] <;> rfl
    · simp only [Int.ofNat_lt, Nat.lt_irrefl, decide_false, cond_false]
      rfl
  · have hn : ([a, c].length : Nat) = 2 := rfl
    simp only [hn, Int.cast_ofNat_Int, Int.lt_irrefl, decide_false, cond_false, p25_is (fu := fu) a ha (by omega), p25_is (fu := fu) c hc (by omega), bind_val]
    cases risesS a <;> cases risesS c <;> try rfl
    have hr2 : (bif c.any a.contains then ((), (82 : Int)) else ((), if a.isEmpty then 84 else 0)) = ((), if a.any c.contains then 82 else if a.isEmpty then 84 else 0) := by
      rw [any_swap]; cases a.any c.contains <;> rfl
    simp only [Bool.not_true, Bool.and_self, cond_false]
    refine Eq.trans (congrArg (Option.map Sum.inr) (?_ : _ = some ((), if a.any c.contains then (82 : Int) else if a.isEmpty then 84 else 0))) rfl
    rw [← hr2]
    refine loop_any c (fun i => (((i : Int), ()), ())) a.contains ((), 82) _ (by omega) (fun i h => ?_) ?_
    · simp only [Int.ofNat_lt, Int.natCast_nonneg, h, decide_true, cond_true, and_self, Int.toNat_natCast, getD_lt h, p14_is (fu := fu) a c _ ha (by omega), bind_val, i64_succ h (few64 hc)]
      cases a.contains c[i] <;> rfl
    · simp only [Int.ofNat_lt, Nat.lt_irrefl, decide_false, cond_false, len0]
      cases a.isEmpty <;> rfl
theorem p11_is (a c : List Int) (ha : few a) (hc : few c) (hf : a.length + c.length + 3 < fu) : p11 fu ((a, c, ()), ()) = some ((), checkS a c) := by
  have hac : (a ++ c).length = a.length + c.length := List.length_append
  unfold few at ha hc
  have hm : maxLen = 9223372036854775807 := rfl
  have h1 : a.length ≤ maxLen ∧ a.length * 8 ≤ 140737488355328 := by omega
  have h2 : a.length + c.length ≤ maxLen ∧ (a.length + c.length) * 8 ≤ 140737488355328 := by omega
  simp only [p11, List.length_nil, Nat.zero_add, List.nil_append, decide_true, cond_true, h1, h2, and_self, p27_is (fu := fu) a ha (by omega), p27_is (fu := fu) c hc (by omega), bind_val]
  have hr : (bif (a ++ c).any (fun x => !okN x) then ((), (81 : Int)) else ((), if !(risesS a && risesS c) then 1 else if a.any c.contains then 82 else if a.isEmpty then 84 else 0)) = ((), checkS a c) := by
    unfold checkS
    cases ((a ++ c).any fun x => !okN x) <;> rfl
  rw [← hr]
  refine loop_any (a ++ c) (fun i => (((i : Int), ()), ())) (fun x => !okN x) ((), 81) _ (by omega) (fun i h => ?_) ?_
  · have h' : i < a.length + c.length := by omega
    simp only [Int.ofNat_lt, Int.natCast_nonneg, h, decide_true, cond_true, and_self, Int.toNat_natCast, getD_lt h, p26_is, bind_val, i64_succ h (by omega : (a ++ c).length ≤ 9223372036854775807)]
    cases okN (a ++ c)[i] <;> rfl
  · simp only [Int.ofNat_lt, Nat.lt_irrefl, decide_false, cond_false]
    cases risesS a <;> cases risesS c <;> try rfl
    have hr2 : (bif a.any c.contains then ((), (82 : Int)) else ((), if a.isEmpty then 84 else 0)) = ((), if a.any c.contains then 82 else if a.isEmpty then 84 else 0) := by
      cases a.any c.contains <;> rfl
    simp only [Bool.not_true, Bool.and_self, cond_false]
    refine Eq.trans (congrArg (Option.map Sum.inr) (?_ : _ = some ((), if a.any c.contains then (82 : Int) else if a.isEmpty then 84 else 0))) rfl
    rw [← hr2]
    refine loop_any a (fun i => (((i : Int), ()), ())) c.contains ((), 82) _ (by omega) (fun i h => ?_) ?_
    · simp only [Int.ofNat_lt, Int.natCast_nonneg, h, decide_true, cond_true, and_self, Int.toNat_natCast, getD_lt h, p15_is (fu := fu) c _ hc (by omega), bind_val, i64_succ h (few64 ha)]
      cases c.contains a[i] <;> rfl
    · simp only [Int.ofNat_lt, Nat.lt_irrefl, decide_false, cond_false, len0]
      cases a.isEmpty <;> rfl
end
section
variable {fu : Nat}

theorem filter_any (l : List Int) (x : Int) (h : l.any (· == x) = false) : l.filter (· != x) = l := by
  rw [List.filter_eq_self]
  intro y hy
  rw [List.any_eq_false] at h
  simpa using h y hy
theorem p65_is (a : List Int) (c : Int) (ha : few a) (hf : a.length < fu) : ∃ r : Int, p65 fu (a, ((), ((c, ()), ())), ()) = some (((c, ()), ()), r) ∧ ((r = -1 ∧ c ∉ a) ∨ ∃ k : Nat, r = k ∧ k < a.length ∧ c ∉ a.take k ∧ a.getD k 0 = c) := by
  unfold p65
  refine loop_ex (fun r => (((c, ()), ()), r)) (fun r : Int => ((r = -1 ∧ c ∉ a) ∨ ∃ k : Nat, r = k ∧ k < a.length ∧ c ∉ a.take k ∧ a.getD k 0 = c)) (I := fun s => ∃ i : Nat, s = (((i : Int), ()), ()) ∧ i ≤ a.length ∧ c ∉ a.take i) (m := fun s => (a.length - Int.toNat s.1.1)) ⟨0, rfl, Nat.zero_le _, by simp⟩ (by simpa using hf) fun s hs => ?_
  obtain ⟨i, rfl, h1, h2⟩ := hs
  by_cases h : i < a.length
  · simp only [Int.ofNat_lt, Int.natCast_nonneg, h, decide_true, cond_true, and_self, Int.toNat_natCast, p49, bind_val, i64_succ h (few64 ha)]
    have hg : a.getD i 0 = a.getD i (dflt (.int .i64)) := rfl
    by_cases hb : a.getD i 0 = c
    · have hb' : (a.getD i (dflt (.int .i64)) == c) = true := by rw [← hg]; simpa using hb
      simp only [hb', cond_true]
      exact ⟨_, rfl, _, rfl, .inr ⟨i, rfl, h, h2, hb⟩⟩
    · have hb' : (a.getD i (dflt (.int .i64)) == c) = false := by rw [← hg]; simpa using hb
      simp only [hb', cond_false]
      refine ⟨_, rfl, ⟨i + 1, rfl, h, ?_⟩, by simp only [Int.toNat_natCast]; omega⟩
      rw [take_one a i 0 h]
      simp only [List.mem_append, List.mem_singleton, not_or]
      exact ⟨h2, fun e => hb e.symm⟩
  · obtain rfl : i = a.length := by omega
    rw [take_all] at h2
    simp only [Int.ofNat_lt, Nat.lt_irrefl, decide_false, cond_false]
    exact ⟨_, rfl, _, rfl, .inl ⟨rfl, h2⟩⟩
theorem getD_drop (l : List Int) (k : Nat) (h : k < l.length) : l.drop k = l.getD k 0 :: l.drop (k + 1) := by
  rw [getD_lt h]; exact List.drop_eq_getElem_cons h
theorem p48_is (a : List Int) (c : Int) (ha : few a) (hf : a.length < fu) : p48 fu (a, ((), ((c, ()), ())), ()) = some (((), (c, ()), ()), a.filter (· != c)) := by
  obtain ⟨r, hr, h⟩ := p65_is (fu := fu) a c ha hf
  have hfew := ha
  unfold few at ha
  simp only [p48, hr, bind_val]
  rcases h with ⟨rfl, hn⟩ | ⟨k, rfl, hk, h1, h2⟩
  · have : a.filter (· != c) = a := by
      rw [List.filter_eq_self]; intro y hy
      have : y ≠ c := fun e => hn (e ▸ hy)
      simpa using this
    simp only [beq_self_eq_true, decide_true, cond_true, this]
  · have hb : (((k : Nat) : Int) == (-1 : Int)) = false := by
      have : ¬ ((k : Nat) : Int) = -1 := by omega
      simp only [beq_eq_false_iff_ne, ne_eq]; exact this
    simp only [hb, cond_false, i64_succ hk (few64 hfew)]
    have hfk : (a.take k).filter (· != c) = a.take k := by
      rw [List.filter_eq_self]; intro y hy
      have : y ≠ c := fun e => h1 (e ▸ hy)
      simpa using this
    refine loop_val (I := fun s => ∃ (i : List Int) (j m : Nat), s = ((i, (j : Int), (m : Int), ()), ()) ∧ i.length = a.length ∧ j < m ∧ m ≤ a.length ∧ i.take j = (a.take m).filter (· != c) ∧ i.drop m = a.drop m) (m := fun s => (a.length - Int.toNat s.1.2.2.1)) ⟨a, k, k + 1, rfl, rfl, by omega, by omega, ?_, rfl⟩ (by simp only [Int.toNat_natCast]; omega) fun s hs => ?_
    · rw [take_one a k 0 hk, List.filter_append, hfk, h2]; simp
    · obtain ⟨i, j, m, rfl, e1, e2, e3, e4, e5⟩ := hs
      by_cases h : m < a.length
      · have hj : j < i.length := by omega
        have hm : m < i.length := by omega
        have hgm : i.getD m (dflt (.int .i64)) = a.getD m 0 := by
          rw [getD_drop i m hm, getD_drop a m h] at e5
          exact (List.cons.inj e5).1
        simp only [e1, Int.ofNat_lt, Int.natCast_nonneg, h, decide_true, cond_true, and_self, Int.toNat_natCast, hgm, p49, bind_val, i64_succ h (few64 hfew)]
        have hd : i.drop (m + 1) = a.drop (m + 1) := by
          rw [getD_drop i m hm, getD_drop a m h] at e5
          exact (List.cons.inj e5).2
        by_cases hb : a.getD m 0 = c
        · have hb' : (a.getD m 0 == c) = true := by simpa using hb
          simp only [hb', Bool.not_true, cond_false]
          refine ⟨_, rfl, ⟨i, j, m + 1, rfl, e1, by omega, h, ?_, hd⟩, by simp only [Int.toNat_natCast]; omega⟩
          rw [take_one a m 0 h, List.filter_append, ← e4, hb]; simp
        · have hb' : (a.getD m 0 == c) = false := by simpa using hb
          have hj' : j < a.length := by omega
          simp only [hb', Bool.not_false, cond_true, hj', decide_true, List.length_set, e1, i64_succ hj' (few64 hfew)]
          refine ⟨_, rfl, ⟨_, j + 1, m + 1, rfl, by simpa using e1, by omega, h, ?_, ?_⟩, by simp only [Int.toNat_natCast]; omega⟩
          · have hne : (a.getD m 0 != c) = true := by simpa using hb
            rw [take_one a m 0 h, List.filter_append, ← e4, List.filter_cons, hne, take_one _ j 0 (by simpa using hj), List.take_set_of_le (Nat.le_refl _), getD_lt (by simpa using hj)]
            simp
          · rw [List.drop_set_of_lt (by omega), hd]
      · obtain rfl : m = a.length := by omega
        rw [take_all] at e4
        have hj : j ≤ a.length := by omega
        have hj2 : j + (a.length - j) ≤ a.length := by omega
        have hc : List.take j (copyL i j (a.length - j) (List.replicate (a.length - j) (0 : Int))) = i.take j := by
          cases j with
          | zero => simp
          | succ o =>
            show List.take (o + 1) (i.take (o + 1) ++ _) = _
            rw [List.take_append_of_le_length (by simp; omega), List.take_take, Nat.min_self]
        have hlen : (copyL i j (a.length - j) (List.replicate (a.length - j) (0 : Int))).length ≥ j := by
          have := congrArg List.length hc
          simp only [List.length_take] at this
          omega
        have hlt : (i.take j).length = j := by simp; omega
        simp only [e1, Int.ofNat_lt, Nat.lt_irrefl, decide_false, cond_false, Int.natCast_nonneg, decide_true, cond_true, Int.toNat_natCast, hj, Nat.zero_add, Nat.le_refl, and_self, hj2, Nat.zero_le, hlen, hc, hlt]
        simp only [e4]
        exact ⟨_, rfl, rfl⟩
theorem p30_is (a : List Int) (c : Int) (ha : few a) (hf : a.length < fu) : p30 fu (a, c, ()) = some (((), ()), a.filter (· != c)) := by
  have hl : few (a.filter (· != c)) := Nat.le_trans (List.length_filter_le _ _) ha
  simp only [p30, p48_is a c ha hf, bind_val, p47_is _ hl, decide_true, cond_true]
/-- The document's Without. -/
theorem p37_is (a : List Int) (c : Int) (ha : few a) (hf : a.length < fu) : p37 fu (a, c, ()) = some ((), a.filter (· != c)) := by
  have hfew := ha
  unfold few at ha
  have hm : maxLen = 9223372036854775807 := rfl
  have hfold : ∀ (l : List Int) (o : List Int), foldE (R := Unit × List Int) (fun (o : List Int) x => .inl (if x = c then o else o ++ [x])) (fun o => ((), o)) l o = ((), o ++ l.filter (· != c)) := by
    intro l
    induction l with
    | nil => intro o; simp [foldE]
    | cons x l ih =>
      intro o
      simp only [foldE, ih]
      by_cases hx : x = c
      · subst hx; simp
      · have hne : (x != c) = true := by simpa using hx
        simp [hx, hne]
  have := hfold a []
  rw [List.nil_append] at this
  rw [← this]
  unfold p37
  refine loop_fold a (fun i (o : List Int) => ((o, (i : Int), ()), ())) (fun i o => o.length ≤ i) (fun (o : List Int) x => .inl (if x = c then o else o ++ [x])) (fun o => ((), o)) (Nat.le_refl _) hf (fun i o h hJ => ⟨?_, fun o' ho => ?_⟩) (fun o hJ => ?_)
  · have h1 : o.length + 1 ≤ maxLen ∧ (o.length + 1) * 8 ≤ 140737488355328 := by omega
    simp only [Int.ofNat_lt, Int.natCast_nonneg, h, decide_true, cond_true, and_self, Int.toNat_natCast, getD_lt h, List.length_singleton, h1, i64_succ h (few64 hfew), stepS]
    by_cases hb : a[i] = c
    · have hb' : (a[i] != c) = false := by simpa using hb
      simp only [hb', cond_false, if_pos hb]
    · have hb' : (a[i] != c) = true := by simpa using hb
      simp only [hb', cond_true, hb, if_false]
  · obtain rfl := Sum.inl.inj ho
    split
    · omega
    · simp only [List.length_append, List.length_singleton]; omega
  · simp only [Int.ofNat_lt, Nat.lt_irrefl, decide_false, cond_false, decide_true, cond_true]
    rfl
/-- The document's With. -/
def withS (n : Int) : List Int → List Int
  | [] => [n]
  | x :: l => if x > n then n :: x :: l else x :: withS n l
theorem withS_len (n : Int) : ∀ l, (withS n l).length = l.length + 1
  | [] => rfl
  | x :: l => by unfold withS; split <;> simp [withS_len n l]
theorem withS_mem (n : Int) : ∀ l x, x ∈ withS n l ↔ x = n ∨ x ∈ l
  | [], x => by simp [withS]
  | y :: l, x => by
    unfold withS
    split
    · simp
    · simp only [List.mem_cons, withS_mem n l x]
      exact ⟨fun h => by rcases h with h | h | h <;> simp [h], fun h => by rcases h with h | h | h <;> simp [h]⟩
theorem withS_rise (n : Int) : ∀ l, Rise l → n ∉ l → Rise (withS n l)
  | [], _, _ => by simp [withS, Rise]
  | y :: l, h, hn => by
    obtain ⟨h1, h2⟩ := List.pairwise_cons.1 h
    have hy : n ≠ y := fun e => hn (by simp [e])
    have hl : n ∉ l := fun e => hn (by simp [e])
    unfold withS
    split
    · rename_i hg
      refine List.pairwise_cons.2 ⟨fun z hz => ?_, h⟩
      rcases List.mem_cons.1 hz with rfl | hz
      · exact hg
      · have := h1 z hz; omega
    · rename_i hg
      refine List.pairwise_cons.2 ⟨fun z hz => ?_, withS_rise n l h2 hl⟩
      rcases (withS_mem n l z).1 hz with rfl | hz
      · omega
      · exact h1 z hz
theorem p32_is (a : List Int) (c : Int) (ha : few a) (hf : a.length < fu) : p32 fu (a, c, ()) = some ((), withS c a) := by
  have hfew := ha
  unfold few at ha
  have hm : maxLen = 9223372036854775807 := rfl
  have hfold1 : ∀ (l : List Int) (o : List Int), foldE (R := Unit × List Int) (fun (o : List Int × Bool) x => .inl (if !o.2 && decide (x > c) then ((o.1 ++ [c]) ++ [x], true) else (o.1 ++ [x], o.2))) (fun o => ((), if o.2 then o.1 else o.1 ++ [c])) l (o, true) = ((), o ++ l) := by
    intro l
    induction l with
    | nil => intro o; simp [foldE]
    | cons x l ih =>
      intro o
      simp only [foldE, Bool.not_true, Bool.false_and, Bool.false_eq_true, if_false, ih]
      simp
  have hfold : ∀ (l : List Int) (o : List Int), foldE (R := Unit × List Int) (fun (o : List Int × Bool) x => .inl (if !o.2 && decide (x > c) then ((o.1 ++ [c]) ++ [x], true) else (o.1 ++ [x], o.2))) (fun o => ((), if o.2 then o.1 else o.1 ++ [c])) l (o, false) = ((), o ++ withS c l) := by
    intro l
    induction l with
    | nil => intro o; simp [foldE, withS]
    | cons x l ih =>
      intro o
      unfold withS
      simp only [foldE]
      by_cases hx : x > c
      · simp only [hx, Bool.not_false, decide_true, Bool.and_true, if_true, hfold1]; simp
      · simp only [hx, Bool.not_false, decide_false, Bool.and_false, if_false, Bool.false_eq_true, ih]; simp
  have := hfold a []
  rw [List.nil_append] at this
  rw [← this]
  unfold p32
  refine loop_fold a (a0 := ([], false)) (fun i (o : List Int × Bool) => ((o.1, o.2, (i : Int), ()), ())) (fun i o => o.1.length ≤ i + (if o.2 then 1 else 0)) (fun (o : List Int × Bool) x => .inl (if !o.2 && decide (x > c) then ((o.1 ++ [c]) ++ [x], true) else (o.1 ++ [x], o.2))) (fun o => ((), if o.2 then o.1 else o.1 ++ [c])) (Nat.zero_le _) hf (fun i o h hJ => ⟨?_, fun o' ho => ?_⟩) (fun o hJ => ?_)
  · obtain ⟨o, q⟩ := o
    have h0 : o.length ≤ i + 1 := by cases q <;> simp at hJ <;> omega
    have h1 : o.length + 1 ≤ maxLen ∧ (o.length + 1) * 8 ≤ 140737488355328 := by omega
    have h2 : o.length + 1 + 1 ≤ maxLen ∧ (o.length + 1 + 1) * 8 ≤ 140737488355328 := by omega
    simp only [Int.ofNat_lt, Int.natCast_nonneg, h, decide_true, cond_true, and_self, Int.toNat_natCast, getD_lt h, List.length_singleton, List.length_append, i64_succ h (few64 hfew), stepS]
    cases q with
    | true => simp [orK_inl, h1]
    | false =>
      by_cases hx : a[i] > c
      · simp [orK_inl, h1, h2, hx]
      · simp [orK_inl, h1, hx]
  · obtain ⟨o, q⟩ := o
    obtain rfl := Sum.inl.inj ho
    cases q with
    | true => simp at hJ ⊢; omega
    | false =>
      by_cases hx : a[i] > c
      · simp [hx] at hJ ⊢; omega
      · simp [hx] at hJ ⊢; omega
  · obtain ⟨o, q⟩ := o
    have h0 : o.length ≤ a.length + 1 := by cases q <;> simp at hJ <;> omega
    have h1 : o.length + 1 ≤ maxLen ∧ (o.length + 1) * 8 ≤ 140737488355328 := by omega
    simp only [Int.ofNat_lt, Nat.lt_irrefl, decide_false, cond_false, decide_true, cond_true, List.length_singleton, h1, and_self]
    cases q <;> rfl
/-- Where one of them stands in rows that rise. -/
theorem mid_is {lo hi : Nat} (h : lo + hi ≤ 9223372036854775807) : IntKind.wrap .i64 (Int.fdiv (IntKind.wrap .u64 (IntKind.wrap .i64 ((lo : Int) + (hi : Int)))) (2 ^ (min (Int.toNat (1 : Int)) (IntKind.bits .u64)))) = (((lo + hi) / 2 : Nat) : Int) := by
  have e1 : IntKind.wrap .i64 ((lo : Int) + (hi : Int)) = ((lo + hi : Nat) : Int) := by rw [i64_wrap (by omega) (by omega)]; omega
  have e2 : IntKind.wrap .u64 ((lo + hi : Nat) : Int) = ((lo + hi : Nat) : Int) := wrap_u64 (by omega) (by omega)
  have e3 : (2 : Int) ^ (min (Int.toNat (1 : Int)) (IntKind.bits .u64)) = 2 := rfl
  have e4 : Int.fdiv ((lo + hi : Nat) : Int) 2 = (((lo + hi) / 2 : Nat) : Int) := by
    rw [Int.fdiv_eq_ediv_of_nonneg _ (by omega)]; omega
  rw [e1, e2, e3, e4, i64_wrap (by omega) (by omega)]
theorem p60_is (x y : Int) : p60 fu (x, y, ()) = some ((), decide (x < y)) := by
  simp only [p60, p73, bne_self_eq_false, bind_val, cond_false]
theorem rise_lt {l : List Int} (h : Rise l) {i j : Nat} (hi : i < j) (hj : j < l.length) : l.getD i 0 < l.getD j 0 := by
  rw [getD_lt (by omega), getD_lt hj]
  exact List.pairwise_iff_getElem.1 h i j (by omega) hj hi
theorem p66_is (l : List Int) (x : Int) (hl : few l) (hr : Rise l) (hf : l.length < fu) : ∃ r : Int × Bool × Unit, p66 fu (l, x, ()) = some ((), r) ∧ ∃ k : Nat, r.1 = k ∧ k ≤ l.length ∧ (∀ i, i < k → l.getD i 0 < x) ∧ (∀ i, k ≤ i → i < l.length → x ≤ l.getD i 0) := by
  unfold p66
  refine loop_ex (fun r => ((), r)) (fun r : Int × Bool × Unit => ∃ k : Nat, r.1 = k ∧ k ≤ l.length ∧ (∀ i, i < k → l.getD i 0 < x) ∧ (∀ i, k ≤ i → i < l.length → x ≤ l.getD i 0)) (I := fun s => ∃ lo hi : Nat, s = (((lo : Int), (hi : Int), ()), ()) ∧ lo ≤ hi ∧ hi ≤ l.length ∧ (∀ i, i < lo → l.getD i 0 < x) ∧ (∀ i, hi ≤ i → i < l.length → x ≤ l.getD i 0)) (m := fun s => (s.1.2.1 - s.1.1).toNat) ⟨0, l.length, rfl, Nat.zero_le _, Nat.le_refl _, fun i hi => by omega, fun i hi hi2 => by omega⟩ (by simp; omega) fun s hs => ?_
  obtain ⟨lo, hi, rfl, h1, h2, h3, h4⟩ := hs
  have hfew := hl
  unfold few at hl
  by_cases h : lo < hi
  · have hmid : (lo + hi) / 2 < l.length := by omega
    simp only [mid_is (lo := lo) (hi := hi) (by omega), Int.ofNat_lt, Int.natCast_nonneg, h, decide_true, cond_true, and_self, Int.toNat_natCast, hmid, p60_is, bind_val, i64_succ hmid (few64 hfew)]
    have hg : l.getD ((lo + hi) / 2) (dflt (.int .i64)) = l.getD ((lo + hi) / 2) 0 := rfl
    rw [hg]
    by_cases hb : l.getD ((lo + hi) / 2) 0 < x
    · simp only [hb, decide_true, cond_true]
      refine ⟨_, rfl, ⟨(lo + hi) / 2 + 1, hi, rfl, by omega, h2, fun i hi' => ?_, h4⟩, by simp only []; omega⟩
      rcases Nat.lt_or_ge i ((lo + hi) / 2) with hlt | hge
      · have := rise_lt hr hlt hmid; omega
      · obtain rfl : i = (lo + hi) / 2 := by omega
        exact hb
    · simp only [hb, decide_false, cond_false]
      refine ⟨_, rfl, ⟨lo, (lo + hi) / 2, rfl, by omega, by omega, h3, fun i hi' hil => ?_⟩, by simp only []; omega⟩
      rcases Nat.lt_or_ge ((lo + hi) / 2) i with hlt | hge
      · have := rise_lt hr hlt hil; omega
      · obtain rfl : i = (lo + hi) / 2 := by omega
        omega
  · obtain rfl : lo = hi := by omega
    simp only [Int.ofNat_lt, Nat.lt_irrefl, decide_false, cond_false]
    by_cases hlt : lo < l.length
    · simp only [Int.natCast_nonneg, hlt, decide_true, cond_true, and_self, Int.toNat_natCast, p74, bne_self_eq_false, bind_val, cond_false]
      cases (l.getD lo (dflt (.int .i64)) == x)
      · exact ⟨_, rfl, _, rfl, lo, rfl, h2, h3, h4⟩
      · exact ⟨_, rfl, _, rfl, lo, rfl, h2, h3, h4⟩
    · simp only [hlt, decide_false, cond_false]
      exact ⟨_, rfl, _, rfl, lo, rfl, h2, h3, h4⟩
theorem withS_ins (n : Int) : ∀ (l : List Int) (k : Nat), Rise l → n ∉ l → k ≤ l.length → (∀ i, i < k → l.getD i 0 < n) → (∀ i, k ≤ i → i < l.length → n ≤ l.getD i 0) → l.take k ++ [n] ++ l.drop k = withS n l
  | [], k, _, _, hk, _, _ => by
    obtain rfl : k = 0 := by simpa using hk
    rfl
  | x :: l, 0, hr, hn, _, _, h2 => by
    have h : n ≤ x := h2 0 (Nat.le_refl _) (by simp)
    have hx : n ≠ x := fun e => hn (by simp [e])
    have hg : x > n := by omega
    simp [withS, hg]
  | x :: l, k + 1, hr, hn, hk, h1, h2 => by
    have h : x < n := h1 0 (by omega)
    have hg : ¬ x > n := by omega
    have ih := withS_ins n l k (List.pairwise_cons.1 hr).2 (fun e => hn (by simp [e])) (by simpa using hk) (fun i hi => by simpa using h1 (i + 1) (by omega)) (fun i hi hil => by simpa using h2 (i + 1) (by omega) (by simpa using hil))
    simp only [withS, if_neg hg, ← ih, List.take_succ_cons, List.drop_succ_cons, List.cons_append]
theorem p52_is (l : List Int) (n : Int) (hl : few l) (hr : Rise l) (hn : n ∉ l) (hf : l.length < fu) : p52 fu (l, n, ()) = some (((), ()), withS n l) := by
  obtain ⟨⟨r, b, ⟨⟩⟩, h, k, rfl, h1, h2, h3⟩ := p66_is (fu := fu) l n hl hr hf
  unfold few at hl
  have hc : (l.length + 1) * 8 ≤ 140737488355328 := by omega
  simp only [p52, h, bind_val, decide_true, cond_true, pInsert, Int.natCast_nonneg, Int.toNat_natCast, h1, List.length_singleton, Nat.zero_lt_one, hc, and_self, insI, withS_ins n l k hr hn h1 h2 h3]
end
section
variable {fu : Nat}

theorem p34_is (a c : List Int) (ha : few a) (hf : a.length < fu) : p34 fu (a, c, ()) = some ((), decide (a = c)) := by
  have hfew := ha
  unfold few at ha
  unfold p34
  by_cases hl : a.length = c.length
  · have hb : ((a.length : Int) != (c.length : Int)) = false := by rw [hl]; simp
    simp only [hb, cond_false]
    refine loop_val (I := fun s => ∃ i : Nat, s = (((i : Int), ()), ()) ∧ i ≤ a.length ∧ a.take i = c.take i) (m := fun s => (a.length - Int.toNat s.1.1)) ⟨0, rfl, Nat.zero_le _, by simp⟩ (by simpa using hf) fun s hs => ?_
    obtain ⟨i, rfl, h1, h2⟩ := hs
    by_cases h : i < a.length
    · have h' : i < c.length := by omega
      simp only [Int.ofNat_lt, Int.natCast_nonneg, h, h', decide_true, cond_true, and_self, Int.toNat_natCast, getD_lt h, getD_lt h', i64_succ h (few64 hfew)]
      by_cases hx : a[i] = c[i]
      · have hb : (a[i] != c[i]) = false := by simpa using hx
        simp only [hb, cond_false]
        refine ⟨_, rfl, ⟨i + 1, rfl, h, ?_⟩, by simp only [Int.toNat_natCast]; omega⟩
        rw [take_one a i 0 h, take_one c i 0 h', h2, getD_lt h, getD_lt h', hx]
      · have hb : (a[i] != c[i]) = true := by simpa using hx
        simp only [hb, cond_true]
        refine ⟨_, rfl, ?_⟩
        have : ¬ a = c := fun e => hx (by subst e; rfl)
        simp only [this, decide_false]
    · obtain rfl : i = a.length := by omega
      simp only [Int.ofNat_lt, Nat.lt_irrefl, decide_false, cond_false]
      refine ⟨_, rfl, ?_⟩
      rw [take_all, hl, take_all] at h2
      simp only [h2, decide_true]
  · have hb : ((a.length : Int) != (c.length : Int)) = true := by
      have : ¬ (a.length : Int) = (c.length : Int) := by omega
      exact bne_iff_ne.2 this
    have : ¬ a = c := fun e => hl (by rw [e])
    simp only [hb, cond_true, this, decide_false]
theorem p17_is (a c f h : List Int) (ha : few a) (hc : few c) (hf : a.length < fu) (hf2 : c.length < fu) : p17 fu ((a, c, ()), (f, h, ()), ()) = some ((), decide (a = f) && decide (c = h)) := by
  simp only [p17, p34_is a f ha hf, p34_is c h hc hf2, bind_val]
  cases decide (a = f) <;> rfl

/-- A configuration that is right. -/
structure Right (a c : List Int) : Prop where
  ok : ∀ x, x ∈ a ∨ x ∈ c → 1 ≤ x ∧ x ≤ 7
  ra : Rise a
  rc : Rise c
  dis : ∀ x, x ∈ a → x ∉ c
  some : a ≠ []
theorem check_right (a c : List Int) : checkS a c = 0 ↔ Right a c := by
  unfold checkS
  constructor
  · intro h
    split at h
    · omega
    · rename_i h1
      split at h
      · omega
      · rename_i h2
        split at h
        · omega
        · rename_i h3
          split at h
          · omega
          · rename_i h4
            refine ⟨fun x hx => ?_, (rise_iff a).1 ?_, (rise_iff c).1 ?_, fun x hx hx2 => h3 ?_, fun e => h4 (by rw [e]; rfl)⟩
            · rw [List.any_eq_true] at h1
              have : ¬ okN x = false := fun e => h1 ⟨x, by simpa using hx, by simpa using e⟩
              have : okN x = true := by simpa using this
              exact of_decide_eq_true this
            · cases hr : risesS a
              · simp [hr] at h2
              · rfl
            · cases hr : risesS c
              · simp [hr] at h2
              · rfl
            · rw [List.any_eq_true]; exact ⟨x, hx, by simpa using hx2⟩
  · rintro ⟨h1, h2, h3, h4, h5⟩
    have e1 : ((a ++ c).any fun x => !okN x) = false := by
      rw [List.any_eq_false]
      intro x hx
      have : okN x = true := decide_eq_true (h1 x (by simpa using hx))
      simp [this]
    have e2 : a.any c.contains = false := by
      rw [List.any_eq_false]
      intro x hx
      simpa using h4 x hx
    have e3 : a.isEmpty = false := by cases a with
      | nil => exact absurd rfl h5
      | cons x l => rfl
    simp [e1, (rise_iff a).2 h2, (rise_iff c).2 h3, e2, e3]
/-- A step. -/
def applyS (a c : List Int) (k n : Int) : (List Int × List Int) × Int :=
  if checkS a c ≠ 0 then (([], []), checkS a c) else if okN n = false then (([], []), 81)
  else if k = 1 then (if a.contains n || c.contains n then (([], []), 82) else ((a, withS n c), 0))
  else if k = 2 then (if c.contains n = false then (([], []), 83) else ((withS n a, c.filter (· != n)), 0))
  else if k = 3 then (if a.contains n = false ∧ c.contains n = false then (([], []), 83) else if a.contains n = true ∧ a.length = 1 then (([], []), 84) else ((a.filter (· != n), c.filter (· != n)), 0))
  else (([], []), 1)
abbrev outS (r : (List Int × List Int) × Int) : Unit × ((List Int × (List Int × Unit)) × (Int × Unit)) := ((), ((r.1.1, r.1.2, ()), r.2, ()))
theorem p19_is (a c : List Int) (k n : Int) (ha : few a) (hc : few c) (hf : a.length + c.length + 3 < fu) : p19 fu ((a, c, ()), (k, n, ()), ()) = some (outS (applyS a c k n)) := by
  have hm : maxLen = 9223372036854775807 := rfl
  have ha' := ha
  have hc' := hc
  unfold few at ha' hc'
  have h1 : a.length ≤ maxLen ∧ a.length * 8 ≤ 140737488355328 := by omega
  have h2 : c.length ≤ maxLen ∧ c.length * 8 ≤ 140737488355328 := by omega
  simp only [p19, p11_is a c ha hc hf, bind_val, p26_is, p15_is (fu := fu) a n ha (by omega), p15_is (fu := fu) c n hc (by omega), List.length_nil, Nat.zero_add, List.nil_append, decide_true, cond_true, h1, h2, and_self, p32_is (fu := fu) a n ha (by omega), p32_is (fu := fu) c n hc (by omega), p37_is (fu := fu) a n ha (by omega), p37_is (fu := fu) c n hc (by omega)]
  unfold applyS
  by_cases he : checkS a c = 0
  · have hb : (checkS a c != 0) = false := by simpa using he
    simp only [he, ne_eq, not_true_eq_false, if_false]
    cases hn : okN n with
    | false => rfl
    | true =>
      simp only [Bool.not_true, cond_false, Bool.true_eq_false, if_false]
      by_cases k1 : k = 1
      · subst k1
        simp only [beq_self_eq_true, cond_true, if_true]
        cases a.contains n <;> cases c.contains n <;> rfl
      · have b1 : (k == 1) = false := by simpa using k1
        simp only [b1, cond_false, if_neg k1]
        by_cases k2 : k = 2
        · subst k2
          simp only [beq_self_eq_true, cond_true, if_true]
          cases c.contains n <;> rfl
        · have b2 : (k == 2) = false := by simpa using k2
          simp only [b2, cond_false, if_neg k2]
          by_cases k3 : k = 3
          · subst k3
            simp only [beq_self_eq_true, cond_true, if_true]
            by_cases h1 : a.length = 1
            · have hl : (((a.length : Nat) : Int) == 1) = true := by rw [h1]; rfl
              cases a.contains n <;> cases c.contains n <;> simp [orK_inl, h1]
            · have hl : (((a.length : Nat) : Int) == 1) = false := by
                have : ¬ ((a.length : Nat) : Int) = 1 := by omega
                simpa using this
              cases a.contains n <;> cases c.contains n <;> simp [orK_inl, hl, h1]
          · have b3 : (k == 3) = false := by simpa using k3
            simp only [b3, cond_false, if_neg k3]
            rfl
  · have hb : (checkS a c != 0) = true := by simpa using he
    simp only [hb, cond_true, if_pos (show checkS a c ≠ 0 from he)]
theorem p35_is (a c : List Int) (k n : Int) (ha : few a) (hc : few c) (hr : Right a c) (hf : a.length + c.length + 3 < fu) :
    p35 fu ((a, c, ()), (k, n, ()), ()) = some ((), if k = 1 then (if a.contains n || c.contains n then 82 else 0) else if k = 2 then (if c.contains n = false then 83 else 0) else if k = 3 then (if a.contains n = false ∧ c.contains n = false then 83 else if a.contains n = true ∧ a.length = 1 then 84 else 0) else 0) := by
  have hp : 0 < a.length := List.length_pos_iff.2 hr.some
  have hp' : (0 : Int) < (a.length : Int) := by omega
  simp only [p35, hp, hp', decide_true, cond_true, and_self, Int.le_refl, p43_is (fu := fu) a c n ha hc (by omega) (by omega), p16_is (fu := fu) a c n hc (by omega), bind_val]
  by_cases k1 : k = 1
  · subst k1
    have e2 : ((1 : Int) == 2) = false := rfl
    have e3 : ((1 : Int) == 3) = false := rfl
    simp only [beq_self_eq_true, cond_true, if_true, orK_inl, e2, e3, cond_false, Bool.false_and]
    cases (a.contains n || c.contains n) <;> cases (((a.length : Nat) : Int) == 1) <;> rfl
  · have b1 : (k == 1) = false := by simpa using k1
    simp only [b1, cond_false, if_neg k1, orK_inl]
    by_cases k2 : k = 2
    · subst k2
      have e3 : ((2 : Int) == 3) = false := rfl
      simp only [beq_self_eq_true, cond_true, if_true, orK_inl, e3, cond_false, Bool.false_and]
      cases c.contains n <;> cases (((a.length : Nat) : Int) == 1) <;> rfl
    · have b2 : (k == 2) = false := by simpa using k2
      simp only [b2, cond_false, if_neg k2, orK_inl]
      by_cases k3 : k = 3
      · subst k3
        simp only [beq_self_eq_true, cond_true, if_true, orK_inl, Bool.true_and, Bool.and_true]
        by_cases h1 : a.length = 1
        · have hl : (((a.length : Nat) : Int) == 1) = true := by rw [h1]; rfl
          obtain ⟨y, rfl⟩ := List.length_eq_one_iff.1 h1
          have hy : (n == List.getD [y] 0 (dflt (.int .i64))) = [y].contains n := by rw [Bool.eq_iff_iff]; simp
          simp only [hl, cond_true, hy]
          cases [y].contains n <;> cases c.contains n <;> simp
        · have hl : (((a.length : Nat) : Int) == 1) = false := by
            have : ¬ ((a.length : Nat) : Int) = 1 := by omega
            simpa using this
          simp only [hl, cond_false]
          cases a.contains n <;> cases c.contains n <;> simp [h1]
      · have b3 : (k == 3) = false := by simpa using k3
        simp only [b3, cond_false, if_neg k3, Bool.false_and]
        cases (((a.length : Nat) : Int) == 1) <;> rfl
theorem p36_add (a c : List Int) (n : Int) (ha : few a) (hc : few c) (hr : Right a c) (hn : n ∉ c) (hf : a.length + c.length + 3 < fu) : p36 fu ((a, c, ()), (1, n, ()), ()) = some ((), a, withS n c, ()) := by
  simp only [p36, p51_is a c ha hc, bind_val, p52_is (fu := fu) c n hc hr.rc hn (by omega), decide_true, cond_true]
  rfl
theorem p36_pro (a c : List Int) (n : Int) (ha : few a) (hc : few c) (hr : Right a c) (hn : n ∉ a) (hf : a.length + c.length + 3 < fu) : p36 fu ((a, c, ()), (2, n, ()), ()) = some ((), withS n a, c.filter (· != n), ()) := by
  have e3 : ((2 : Int) == 3) = false := rfl
  simp only [p36, p51_is a c ha hc, bind_val, decide_true, e3, cond_false, beq_self_eq_true, cond_true, orK_inl, p30_is (fu := fu) c n hc (by omega), p52_is (fu := fu) a n ha hr.ra hn (by omega)]
theorem p36_rem (a c : List Int) (n : Int) (ha : few a) (hc : few c) (hf : a.length + c.length + 3 < fu) : p36 fu ((a, c, ()), (3, n, ()), ()) = some ((), a.filter (· != n), c.filter (· != n), ()) := by
  have e3 : ((3 : Int) == 2) = false := rfl
  simp only [p36, p51_is a c ha hc, bind_val, decide_true, e3, cond_false, beq_self_eq_true, cond_true, orK_inl, p30_is (fu := fu) c n hc (by omega), p30_is (fu := fu) a n ha (by omega)]
theorem p18_is (a c : List Int) (k n : Int) (ha : few a) (hc : few c) (hf : a.length + c.length + 3 < fu) : p18 fu ((a, c, ()), (k, n, ()), ()) = some (outS (applyS a c k n)) := by
  simp only [p18, p10_is a c ha hc hf, bind_val, p24_is]
  unfold applyS
  by_cases he : checkS a c = 0
  · have hr := (check_right a c).1 he
    simp only [he, bne_self_eq_false, cond_false, ne_eq, not_true_eq_false, if_false, p35_is a c k n ha hc hr hf]
    cases hn : okN n with
    | false => rfl
    | true =>
      simp only [Bool.not_true, cond_false, Bool.true_eq_false, if_false]
      by_cases k1 : k = 1
      · subst k1
        have d1 : ¬ (1 : Int) < 1 := by decide
        have d2 : ¬ (1 : Int) > 3 := by decide
        simp only [d1, d2, decide_false, cond_false, orK_inl, bind_val, if_true]
        cases ha1 : a.contains n with
        | true => rfl
        | false =>
          cases hc1 : c.contains n with
          | true => rfl
          | false =>
            have : n ∉ c := fun e => by rw [List.contains_iff_mem.2 e] at hc1; cases hc1
            simp only [Bool.or_false, Bool.false_eq_true, if_false, bne_self_eq_false, cond_false, p36_add a c n ha hc hr this hf, bind_val, decide_true, cond_true]
      · by_cases k2 : k = 2
        · subst k2
          have d1 : ¬ (2 : Int) < 1 := by decide
          have d2 : ¬ (2 : Int) > 3 := by decide
          simp only [d1, d2, decide_false, cond_false, orK_inl, bind_val, if_neg k1, if_true]
          cases hc1 : c.contains n with
          | false => rfl
          | true =>
            have : n ∉ a := fun e => hr.dis n e (List.contains_iff_mem.1 hc1)
            simp only [Bool.true_eq_false, if_false, bne_self_eq_false, cond_false, p36_pro a c n ha hc hr this hf, bind_val, decide_true, cond_true]
        · by_cases k3 : k = 3
          · subst k3
            have d1 : ¬ (3 : Int) < 1 := by decide
            have d2 : ¬ (3 : Int) > 3 := by decide
            simp only [d1, d2, decide_false, cond_false, orK_inl, bind_val, if_neg k1, if_neg k2, if_true]
            by_cases g1 : a.contains n = false ∧ c.contains n = false
            · simp only [if_pos g1]; rfl
            · simp only [if_neg g1]
              by_cases g2 : a.contains n = true ∧ a.length = 1
              · simp only [if_pos g2]; rfl
              · simp only [if_neg g2, bne_self_eq_false, cond_false, p36_rem a c n ha hc hf, bind_val, decide_true, cond_true]
          · simp only [if_neg k1, if_neg k2, if_neg k3]
            by_cases d1 : k < 1
            · simp only [d1, decide_true, cond_true, orK_inl, bind_val]; rfl
            · have d2 : k > 3 := by omega
              simp only [d1, d2, decide_true, decide_false, cond_true, cond_false, orK_inl, bind_val]; rfl
  · have hb : (checkS a c != 0) = true := by simpa using he
    simp only [hb, cond_true, orK_inl, if_pos (show checkS a c ≠ 0 from he)]
theorem p8_is (hf : 10 < fu) : p8 fu () = some ((), true) := by
  have := p18_is (fu := fu) [1, 2] [3] 2 3 (by decide) (by decide) (by simp; omega)
  simp only [p8, this, bind_val]
  rfl
/-- Writes into what came out: nothing else. -/
theorem p20_is (a c : List Int) (ha : few a) (hc : few c) (hf : a.length + c.length + 3 < fu) : p20 fu ((a, c, ()), ()) = some (((), (), ()), ()) := by
  unfold p20
  simp only [decide_true, cond_true]
  refine loop_val (I := fun s => ∃ (i : Nat) (h : List Int), s = (((i : Int), ()), ((h, c, ()), ())) ∧ h.length = a.length ∧ i ≤ a.length) (m := fun s => (a.length - Int.toNat s.1.1)) ⟨0, a, rfl, rfl, Nat.zero_le _⟩ (by simp; omega) fun s hs => ?_
  obtain ⟨i, h, rfl, h1, h2⟩ := hs
  by_cases hi : i < a.length
  · simp only [h1, Int.ofNat_lt, Int.natCast_nonneg, hi, decide_true, cond_true, and_self, Int.toNat_natCast, List.length_set, i64_succ hi (few64 ha)]
    exact ⟨_, rfl, ⟨i + 1, _, rfl, by simpa using h1, hi⟩, by simp only [Int.toNat_natCast]; omega⟩
  · obtain rfl : i = a.length := by omega
    simp only [h1, Int.ofNat_lt, Nat.lt_irrefl, decide_false, cond_false]
    refine ⟨_, congrArg (Option.map Sum.inr) (?_ : _ = some (((), (), ()), ())), trivial⟩
    refine loop_val (I := fun s => ∃ (i : Nat) (g : List Int), s = (((i : Int), ()), ((h, g, ()), ())) ∧ g.length = c.length ∧ i ≤ c.length) (m := fun s => (c.length - Int.toNat s.1.1)) ⟨0, c, rfl, rfl, Nat.zero_le _⟩ (by simp; omega) fun s hs => ?_
    obtain ⟨i, g, rfl, g1, g2⟩ := hs
    by_cases hi : i < c.length
    · simp only [g1, Int.ofNat_lt, Int.natCast_nonneg, hi, decide_true, cond_true, and_self, Int.toNat_natCast, List.length_set, i64_succ hi (few64 hc)]
      exact ⟨_, rfl, ⟨i + 1, _, rfl, by simpa using g1, hi⟩, by simp only [Int.toNat_natCast]; omega⟩
    · obtain rfl : i = c.length := by omega
      simp only [g1, Int.ofNat_lt, Nat.lt_irrefl, decide_false, cond_false]
      exact ⟨_, rfl, trivial⟩
theorem applyS_len (a c : List Int) (k n : Int) : (applyS a c k n).1.1.length ≤ a.length + 1 ∧ (applyS a c k n).1.2.length ≤ c.length + 1 := by
  have h1 := List.length_filter_le (· != n) a
  have h2 := List.length_filter_le (· != n) c
  have h3 := withS_len n a
  have h4 := withS_len n c
  unfold applyS
  repeat' split
  all_goals simp only [List.length_nil]
  all_goals omega
theorem p4_is (a c : List Int) (f : List D_api_Change) (ha : a.length ≤ 1048576) (hc : c.length ≤ 1048576) (hl : f.length ≤ 4194304) (hf : 4194304 < fu) : p4 fu ((a, c, ()), f, ()) = some ((), true) := by
  have hfa : few a := by unfold few; omega
  have hfc : few c := by unfold few; omega
  simp only [p4, p8_is (fu := fu) (by omega), p9_is a c hfa hfc, bind_val, decide_true, cond_true]
  refine loop_val (I := fun s => ∃ i : Nat, s = (((i : Int), ()), ()) ∧ i ≤ f.length) (m := fun s => (f.length - Int.toNat s.1.1)) ⟨0, rfl, Nat.zero_le _⟩ (by simp; omega) fun s hs => ?_
  obtain ⟨i, rfl, h1⟩ := hs
  by_cases h : i < f.length
  · obtain ⟨l1, l2⟩ := applyS_len a c (List.getD f i (dflt T_api_Change)).1 (List.getD f i (dflt T_api_Change)).2
    simp only [Int.ofNat_lt, Int.natCast_nonneg, h, decide_true, cond_true, and_self, Int.toNat_natCast, p18_is (fu := fu) a c _ _ hfa hfc (by omega), p19_is (fu := fu) a c _ _ hfa hfc (by omega), bind_val, i64_succ h (by omega : f.length ≤ 9223372036854775807), outS]
    simp only [p17_is (fu := fu) (applyS a c (List.getD f i (dflt T_api_Change)).1 (List.getD f i (dflt T_api_Change)).2).1.1 (applyS a c (List.getD f i (dflt T_api_Change)).1 (List.getD f i (dflt T_api_Change)).2).1.2 _ _ (by unfold few; omega) (by unfold few; omega) (by omega) (by omega), p17_is (fu := fu) a c _ _ hfa hfc (by omega) (by omega), p20_is (fu := fu) (applyS a c (List.getD f i (dflt T_api_Change)).1 (List.getD f i (dflt T_api_Change)).2).1.1 (applyS a c (List.getD f i (dflt T_api_Change)).1 (List.getD f i (dflt T_api_Change)).2).1.2 (by unfold few; omega) (by unfold few; omega) (by omega), bind_val, decide_true, Bool.and_self, Bool.not_true, cond_false, bne_self_eq_false]
    exact ⟨_, rfl, ⟨i + 1, rfl, h⟩, by simp only [Int.toNat_natCast]; omega⟩
  · simp only [Int.ofNat_lt, h, decide_false, cond_false]
    exact ⟨_, rfl, rfl⟩
end
section
section
variable {fu : Nat}
theorem maxLen_is : maxLen = 9223372036854775807 := rfl
/-- The same ones, each once. -/
def Dist (d a : List Int) : Prop := d.Nodup ∧ ∀ x, x ∈ d ↔ x ∈ a
theorem Dist.perm {d d' a : List Int} (h : Dist d a) (h' : Dist d' a) : d.Perm d' := (List.perm_ext_iff_of_nodup h.1 h'.1).2 fun x => (h.2 x).trans (h'.2 x).symm

theorem compactUpTo_mem (d : Array Int) : ∀ m, m ≤ d.size → ∀ x, x ∈ Lib.compactUpTo d m ↔ ∃ j, j < m ∧ d[j]! = x
  | 0, _, x => by simp [Lib.compactUpTo]
  | m + 1, hm, x => by
    rw [Lib.compactUpTo_succ, List.mem_append, compactUpTo_mem d m (by omega) x]
    constructor
    · rintro (⟨j, h1, h2⟩ | h)
      · exact ⟨j, by omega, h2⟩
      · by_cases hk : Lib.keeps d m = true
        · rw [if_pos hk] at h
          exact ⟨m, by omega, (List.mem_singleton.1 h).symm⟩
        · rw [if_neg hk] at h; cases h
    · rintro ⟨j, h1, h2⟩
      rcases Nat.lt_or_ge j m with h3 | h3
      · exact .inl ⟨j, h3, h2⟩
      · obtain rfl : j = m := by omega
        by_cases hk : Lib.keeps d j = true
        · rw [if_pos hk]
          exact .inr (by rw [← h2]; exact List.mem_singleton.2 rfl)
        · have : ¬ (j = 0 ∨ d[j]! ≠ d[j - 1]!) := fun h => hk (by unfold Lib.keeps; exact decide_eq_true h)
          have h0 : j ≠ 0 := fun h => this (.inl h)
          have h4 : d[j]! = d[j - 1]! := Classical.byContradiction fun h => this (.inr h)
          exact .inl ⟨j - 1, by omega, by rw [← h4]; exact h2⟩
theorem compactUpTo_nodup (d : Array Int) (hs : ∀ i j, i ≤ j → j < d.size → d[i]! ≤ d[j]!) : ∀ m, m ≤ d.size → (Lib.compactUpTo d m).Nodup
  | 0, _ => by simp [Lib.compactUpTo]
  | m + 1, hm => by
    rw [Lib.compactUpTo_succ, List.nodup_append]
    refine ⟨compactUpTo_nodup d hs m (by omega), ?_, fun x hx y hy e => ?_⟩
    · split <;> simp
    · by_cases hk : Lib.keeps d m = true
      · rw [if_pos hk] at hy
        obtain ⟨j, h1, h2⟩ := (compactUpTo_mem d m (by omega) x).1 hx
        have hy : y = d[m]! := List.mem_singleton.1 hy
        have hk' : m = 0 ∨ d[m]! ≠ d[m - 1]! := by unfold Lib.keeps at hk; exact of_decide_eq_true hk
        have h3 := hs j (m - 1) (by omega) (by omega)
        have h4 := hs (m - 1) m (by omega) (by omega)
        rcases hk' with h5 | h5
        · omega
        · rw [e, hy] at h2; omega
      · rw [if_neg hk] at hy; cases hy
theorem getB_toArray (l : List Int) (i : Nat) (h : i < l.length) : l.toArray[i]! = l[i] := by
  rw [getElem!_pos l.toArray i (by simpa using h)]; simp
theorem compact_mem (l : List Int) (x : Int) : x ∈ Lib.compact l ↔ x ∈ l := by
  unfold Lib.compact
  rw [compactUpTo_mem l.toArray l.length (by simp) x, List.mem_iff_getElem]
  constructor
  · rintro ⟨j, h1, h2⟩; exact ⟨j, h1, by rw [← h2, getB_toArray l j h1]⟩
  · rintro ⟨j, h1, h2⟩; exact ⟨j, h1, by rw [← h2, getB_toArray l j h1]⟩
theorem sortI_mem (l : List Int) (x : Int) : x ∈ sortI l ↔ x ∈ l := (List.mergeSort_perm l _).mem_iff
theorem sortI_le (l : List Int) : ∀ i j, i ≤ j → j < (sortI l).toArray.size → (sortI l).toArray[i]! ≤ (sortI l).toArray[j]! := fun i j hij hj => by
  have hj' : j < (sortI l).length := by simpa using hj
  rw [getB_toArray _ i (by omega), getB_toArray _ j hj']
  rcases Nat.eq_or_lt_of_le hij with rfl | hlt
  · exact Int.le_refl _
  · have := List.pairwise_mergeSort (le := fun x y : Int => decide (x ≤ y)) (fun a b c h1 h2 => by simp at *; omega) (fun a b => by simp; omega) l
    have := List.pairwise_iff_getElem.1 this i j (by exact Nat.lt_trans hlt hj') hj' hlt
    exact of_decide_eq_true this
/-- The nodes in order, each once. -/
def distI (a : List Int) : List Int := Lib.compact (sortI a)
theorem distI_dist (a : List Int) : Dist (distI a) a := by
  refine ⟨?_, fun x => (compact_mem _ x).trans (sortI_mem a x)⟩
  have := compactUpTo_nodup (sortI a).toArray (sortI_le a) (sortI a).length (by simp)
  exact this
theorem distI_len (a : List Int) : (distI a).length ≤ a.length := by
  rw [← sortI_len a]
  unfold distI Lib.compact Lib.compactUpTo
  rw [List.length_map]
  exact Nat.le_trans (List.length_filter_le _ _) (by simp)
theorem p53_is (a : List Int) (h : a.length * 8 ≤ 140737488355328) : p53 fu (a, ()) = some ((), a) := by
  have hm : maxLen = 9223372036854775807 := rfl
  have h1 : a.length ≤ maxLen := by omega
  by_cases h0 : 0 < a.length
  · simp only [p53, h0, decide_true, cond_true, List.length_nil, Nat.zero_add, h1, h, and_self, List.nil_append]
  · obtain rfl : a = [] := List.length_eq_zero_iff.1 (by omega)
    rfl
theorem p38_is (a : List Int) (h : a.length * 8 ≤ 140737488355328) : p38 fu (a, ()) = some ((), distI a) := by
  have hb : a.length < 4611686018427387904 := by omega
  have hs := sortI_len a
  have hc : a.length ≤ 9223372036854775807 := by omega
  simp only [p38, p53_is a h, bind_val, decide_true, cond_true, pSort, hb, hs, pCompact, hc]
  rfl

theorem eqK_int (a b : Int) : eqK (.int .i64) a b = (a == b) := rfl
theorem hasM_set {α : Type} : ∀ (m : List (Int × α)) (k : Int) (v : α) (q : Int), hasM (.int .i64) (setM (.int .i64) m k v) q = (q == k || hasM (.int .i64) m q)
  | [], k, v, q => by simp only [setM, hasM, eqK_int]
  | p :: m, k, v, q => by
    simp only [setM, eqK_int]
    cases hk : (k == p.1) with
    | true =>
      obtain rfl : k = p.1 := by simpa using hk
      simp only [cond_true, hasM, eqK_int]
      cases q == p.1 <;> simp
    | false =>
      simp only [cond_false, hasM, eqK_int, hasM_set m k v q]
      cases q == p.1 <;> cases q == k <;> simp
def mostN (n : Nat) : Nat := if n = 0 then 0 else n / 2 + 1
theorem most_wrap {n : Nat} (h : n ≤ 9223372036854775806) : IntKind.wrap .i64 ((IntKind.wrap .i64 (Int.tdiv (n : Int) (2 : Int))) + (1 : Int)) = ((n / 2 + 1 : Nat) : Int) := by
  have e : Int.tdiv (n : Int) 2 = ((n / 2 : Nat) : Int) := by
    rw [Int.tdiv_eq_ediv_of_nonneg (by omega)]; omega
  rw [e, i64_wrap (x := ((n / 2 : Nat) : Int)) (by omega) (by omega), i64_wrap (by omega) (by omega)]; omega
theorem p42_is {n : Nat} (h : n ≤ 9223372036854775806) : p42 fu ((n : Int), ()) = some ((), ((mostN n : Nat) : Int)) := by
  unfold p42 mostN
  by_cases h0 : n = 0
  · subst h0; rfl
  · have h1 : ¬ ((n : Int) < 1) := by omega
    simp only [h1, decide_false, cond_false, most_wrap h, h0, if_false]
/-- Nodes by themselves. -/
theorem p39_is (c : List Int) (hc : c.length ≤ 9223372036854775807) (hf : c.length < fu) : ∃ m : List (Int × Int), p39 fu (c, ((), ()), ((), ()), ()) = some ((), m) ∧ ∀ k, hasM (.int .i64) m k = c.contains k := by
  unfold p39
  refine loop_ex (fun m => ((), m)) (fun m => ∀ k, hasM (.int .i64) m k = c.contains k) (I := fun s : (List (Int × Int) × Int × Unit) × Unit => ∃ (i : Nat) (m : List (Int × Int)), s = ((m, (i : Int), ()), ()) ∧ i ≤ c.length ∧ ∀ k, hasM (.int .i64) m k = (c.take i).contains k) (m := fun s => (c.length - Int.toNat s.1.2.1)) ⟨0, [], rfl, Nat.zero_le _, fun k => by simp [hasM]⟩ (by simpa using hf) fun s hs => ?_
  · obtain ⟨i, m, rfl, h1, h2⟩ := hs
    by_cases h : i < c.length
    · have hi : (i : Int) < (c.length : Int) := by omega
      have h0 : (0 : Int) ≤ (i : Int) := by omega
      have ht := take_one c i (dflt (.int .i64)) h
      have fin : ∀ v, ∀ k, hasM (.int .i64) (setM (.int .i64) m (c.getD i (dflt (.int .i64))) v) k = (c.take (i + 1)).contains k := fun v k => by
        rw [hasM_set, h2 k, ht]
        have hc : (c.take i ++ [c.getD i (dflt (.int .i64))]).contains k = ((c.take i).contains k || k == c.getD i (dflt (.int .i64))) := by
          rw [List.contains_append]; congr 1; simp only [List.contains_cons, List.contains_nil, Bool.or_false]
        rw [hc, Bool.or_comm]
      simp only [hi, h0, decide_true, cond_true, Int.toNat_natCast, h, and_self, i64_succ h hc, p40, p41, bind_val]
      cases hb : hasM (.int .i64) m (c.getD i (dflt (.int .i64))) with
      | true => exact ⟨_, rfl, ⟨i + 1, _, rfl, h, fin _⟩, by simp only [Int.toNat_natCast]; omega⟩
      | false => exact ⟨_, rfl, ⟨i + 1, _, rfl, h, fin _⟩, by simp only [Int.toNat_natCast]; omega⟩
    · have hi : ¬ ((i : Int) < (c.length : Int)) := by omega
      obtain rfl : i = c.length := by omega
      rw [take_all] at h2
      simp only [hi, decide_false, cond_false]
      exact ⟨_, rfl, m, rfl, h2⟩
/-- Are those of the nodes a majority of them? -/
def majS (d : List Int) (p : Int → Bool) : Bool := decide (0 < d.length ∧ mostN d.length ≤ d.countP p)
theorem maj_val {n k : Nat} : (decide (((n : Nat) : Int) ≥ ((k : Nat) : Int))) = decide (k ≤ n) := by
  by_cases h : k ≤ n <;> simp [h] 
theorem countP_take (d : List Int) (p : Int → Bool) (i : Nat) (h : i < d.length) : (d.take (i + 1)).countP p = (d.take i).countP p + (if p (d.getD i (dflt (.int .i64))) then 1 else 0) := by
  rw [take_one d i (dflt (.int .i64)) h, List.countP_append, List.countP_singleton]
theorem maj_end {d : List Int} {p : Int → Bool} (hd : d.length ≤ 9223372036854775806) (pp : Int × Unit → Option (Unit × Int)) (hp : pp ((d.length : Int), ()) = some ((), ((mostN d.length : Nat) : Int))) :
    (bif decide (((List.length d) : Int) > (0 : Int)) then Option.bind (pp (((List.length d) : Int), ())) fun ⟨_, k⟩ => some ((), decide (((d.countP p : Nat) : Int) ≥ k)) else some ((), false)) = some ((), majS d p) := by
  unfold majS
  by_cases h : 0 < d.length
  · have h1 : ((d.length : Nat) : Int) > 0 := by omega
    simp only [h1, decide_true, cond_true, hp, bind_val, maj_val, h, true_and]
  · have h1 : ¬ ((d.length : Nat) : Int) > 0 := by omega
    simp only [h1, decide_false, cond_false, h, false_and]
theorem cnt_step (d : List Int) (p : Int → Bool) {j : Nat} (h : j < d.length) (hl : d.length ≤ 9223372036854775806) (hb : p (d.getD j (dflt (.int .i64))) = true) : IntKind.wrap .i64 ((((d.take j).countP p : Nat) : Int) + 1) = (((d.take (j + 1)).countP p : Nat) : Int) := by
  have h1 : (d.take j).countP p ≤ (d.take j).length := List.countP_le_length
  rw [List.length_take] at h1
  rw [countP_take d p j h, hb, if_pos rfl, i64_wrap (by omega) (by omega)]; omega
theorem cnt_stay (d : List Int) (p : Int → Bool) {j : Nat} (h : j < d.length) (hb : p (d.getD j (dflt (.int .i64))) = false) : (d.take (j + 1)).countP p = (d.take j).countP p := by
  rw [countP_take d p j h, hb]; rfl
theorem p21_is (a c : List Int) (ha : a.length * 8 ≤ 140737488355328) (hc : c.length ≤ 9223372036854775807) (hf : a.length < fu) (hf2 : c.length < fu) : p21 fu (a, c, ()) = some ((), majS (distI a) c.contains) := by
  obtain ⟨m, h39, hm⟩ := p39_is (fu := fu) c hc hf2
  have hd := distI_len a
  simp only [p21, p38_is a ha, bind_val, h39]
  generalize distI a = d at *
  have hdl : d.length ≤ 9223372036854775806 := by omega
  refine loop_val (I := fun s : (Int × Int × Unit) × Unit => ∃ j : Nat, s = (((((d.take j).countP c.contains : Nat) : Int), (j : Int), ()), ()) ∧ j ≤ d.length) (m := fun s => d.length - Int.toNat s.1.2.1) ⟨0, by simp, Nat.zero_le _⟩ (by simp; omega) fun s hs => ?_
  obtain ⟨j, rfl, h1⟩ := hs
  by_cases h : j < d.length
  · have hi : (j : Int) < (d.length : Int) := by omega
    have h0 : (0 : Int) ≤ (j : Int) := by omega
    simp only [hi, h0, decide_true, cond_true, Int.toNat_natCast, h, and_self, i64_succ h (show d.length ≤ 9223372036854775807 by omega), hm]
    cases hb : c.contains (d.getD j (dflt (.int .i64))) with
    | true =>
      simp only [cond_true, cnt_step d c.contains h hdl hb]
      exact ⟨_, rfl, ⟨j + 1, rfl, h⟩, by simp only [Int.toNat_natCast]; omega⟩
    | false =>
      simp only [cond_false]
      exact ⟨_, rfl, ⟨j + 1, by rw [cnt_stay d c.contains h hb], h⟩, by simp only [Int.toNat_natCast]; omega⟩
  · have hi : ¬ ((j : Int) < (d.length : Int)) := by omega
    obtain rfl : j = d.length := by omega
    simp only [hi, decide_false, cond_false, take_all]
    rw [maj_end (p := c.contains) hdl (p42 fu) (p42_is hdl)]
    exact ⟨_, rfl, rfl⟩
theorem majS_perm {d o : List Int} (h : d.Perm o) (p : Int → Bool) : majS d p = majS o p := by
  unfold majS
  rw [h.length_eq, h.countP_eq p]
theorem both_count (p q : Int → Bool) : ∀ d : List Int, d.length < d.countP p + d.countP q → ∃ x, x ∈ d ∧ p x = true ∧ q x = true
  | [], h => by simp at h
  | k :: d, h => by
    by_cases hk : p k = true ∧ q k = true
    · exact ⟨k, List.mem_cons_self .., hk.1, hk.2⟩
    · have : (if p k = true then 1 else 0) + (if q k = true then 1 else 0) ≤ 1 := by
        by_cases h1 : p k = true <;> by_cases h2 : q k = true <;> simp_all
      rw [List.countP_cons, List.countP_cons, List.length_cons] at h
      obtain ⟨x, h1, h2, h3⟩ := both_count p q d (by omega)
      exact ⟨x, List.mem_cons_of_mem _ h1, h2, h3⟩
theorem majS_iff {d : List Int} {p : Int → Bool} : majS d p = true ↔ 0 < d.length ∧ d.length / 2 + 1 ≤ d.countP p := by
  unfold majS mostN
  rw [decide_eq_true_eq]
  constructor
  · rintro ⟨h1, h2⟩; rw [if_neg (by omega)] at h2; exact ⟨h1, h2⟩
  · rintro ⟨h1, h2⟩; rw [if_neg (by omega)]; exact ⟨h1, h2⟩
theorem maj_meet {d : List Int} {p q : Int → Bool} (h : majS d p = true) (k : majS d q = true) : ∃ x, p x = true ∧ q x = true := by
  rw [majS_iff] at h k
  obtain ⟨x, _, h1, h2⟩ := both_count p q d (by omega)
  exact ⟨x, h1, h2⟩
/-- One more node, or none. -/
theorem dist_more (a : List Int) (c : Int) : (distI (a ++ [c])).Perm (distI a) ∨ (distI (a ++ [c])).Perm (distI a ++ [c]) := by
  by_cases h : c ∈ a
  · refine .inl ((distI_dist (a ++ [c])).perm ⟨(distI_dist a).1, fun x => ?_⟩)
    rw [(distI_dist a).2 x, List.mem_append, List.mem_singleton]
    constructor
    · exact .inl
    · rintro (h1 | rfl)
      · exact h1
      · exact h
  · refine .inr ((distI_dist (a ++ [c])).perm ⟨List.nodup_append.2 ⟨(distI_dist a).1, by simp, fun x hx y hy e => ?_⟩, fun x => ?_⟩)
    · rw [List.mem_singleton.1 hy] at e
      rw [e] at hx
      exact h (((distI_dist a).2 c).1 hx)
    · rw [List.mem_append, (distI_dist a).2 x, List.mem_append]
theorem maj_meet_more {a : List Int} {c : Int} {p q : Int → Bool} (h : majS (distI a) p = true) (k : majS (distI (a ++ [c])) q = true) : ∃ x, p x = true ∧ q x = true := by
  rcases dist_more a c with hp | hp
  · rw [majS_perm hp] at k
    exact maj_meet h k
  · rw [majS_perm hp, majS_iff, List.length_append, List.countP_append, List.countP_singleton] at k
    rw [majS_iff] at h
    have h1 : (if q c = true then 1 else 0) ≤ 1 := by split <;> omega
    simp only [List.length_cons, List.length_nil] at k
    obtain ⟨x, _, h1, h2⟩ := both_count p q (distI a) (by omega)
    exact ⟨x, h1, h2⟩
/-- One of the one list stands in the other one. -/
theorem p6_find (f h : List Int) (hfl : f.length ≤ 9223372036854775807) (hhl : h.length ≤ 9223372036854775807) (hf1 : f.length < fu) (hf2 : h.length < fu) (hx : ∃ x, x ∈ f ∧ x ∈ h) :
    loopO (S := ((Int) × (Unit)) × (Unit)) fu (fun ⟨⟨m, _⟩, _⟩ =>
 bif decide (m < (List.length f : Int)) then
 loopO (S := ((Int) × (Unit)) × (Unit)) fu (fun ⟨⟨n, _⟩, _⟩ =>
 bif decide (n < (List.length h : Int)) then
 bif decide ((0 : Int) ≤ m ∧ m < (List.length f : Int)) then
 bif decide (Int.toNat m < List.length f) then
 bif decide ((0 : Int) ≤ n ∧ n < (List.length h : Int)) then
 bif decide (Int.toNat n < List.length h) then
 bif ((List.getD f (Int.toNat m) (dflt (.int .i64))) == (List.getD h (Int.toNat n) (dflt (.int .i64)))) then
 inrO (inrO (some ((), true)))
 else
 some (.inl ((IntKind.wrap .i64 (n + (1 : Int)), ()), ()))
 else none
 else none
 else none
 else none
 else
 inrO (some (.inl ((IntKind.wrap .i64 (m + (1 : Int)), ()), ()))))
 (((0 : Int), ()), ())
 else
 inrO (some ((), false)))
 (((0 : Int), ()), ()) = some ((), true) := by
  obtain ⟨x, hx1, hx2⟩ := hx
  refine loop_val (I := fun s : (Int × Unit) × Unit => ∃ i : Nat, s = (((i : Int), ()), ()) ∧ i ≤ f.length ∧ ∀ y ∈ f.take i, y ∉ h) (m := fun s => f.length - Int.toNat s.1.1) ⟨0, rfl, Nat.zero_le _, by simp⟩ (by simpa using hf1) fun s hs => ?_
  obtain ⟨i, rfl, h1, h2⟩ := hs
  by_cases hi : i < f.length
  · have hii : (i : Int) < (f.length : Int) := by omega
    have h0 : (0 : Int) ≤ (i : Int) := by omega
    have ht := take_one f i (dflt (.int .i64)) hi
    simp only [hii, h0, decide_true, cond_true, Int.toNat_natCast, hi, and_self, i64_succ hi hfl]
    generalize hv : f.getD i (dflt (.int .i64)) = v at *
    by_cases hm : v ∈ h
    · refine ⟨.inr ((), true), ?_, rfl⟩
      refine loop_val (I := fun s : (Int × Unit) × Unit => ∃ k : Nat, s = (((k : Int), ()), ()) ∧ k ≤ h.length ∧ v ∉ h.take k) (m := fun s => h.length - Int.toNat s.1.1) ⟨0, rfl, Nat.zero_le _, by simp⟩ (by simpa using hf2) fun s hs => ?_
      obtain ⟨k, rfl, g1, g2⟩ := hs
      by_cases hk : k < h.length
      · have hki : (k : Int) < (h.length : Int) := by omega
        have hk0 : (0 : Int) ≤ (k : Int) := by omega
        have ht2 := take_one h k (dflt (.int .i64)) hk
        simp only [hki, hk0, decide_true, cond_true, Int.toNat_natCast, hk, and_self, i64_succ hk hhl]
        cases hb : (v == h.getD k (dflt (.int .i64))) with
        | true => exact ⟨_, rfl, rfl⟩
        | false =>
          have hne : ¬ v = h.getD k (dflt (.int .i64)) := by simpa using hb
          refine ⟨_, rfl, ⟨k + 1, rfl, hk, ?_⟩, by simp only [Int.toNat_natCast]; omega⟩
          rw [ht2, List.mem_append, List.mem_singleton, not_or]
          exact ⟨g2, hne⟩
      · obtain rfl : k = h.length := by omega
        rw [take_all] at g2
        exact absurd hm g2
    · refine ⟨.inl ((((i + 1 : Nat) : Int), ()), ()), ?_, ⟨i + 1, rfl, hi, fun y hy => ?_⟩, by simp only [Int.toNat_natCast]; omega⟩
      · refine loop_val (I := fun s : (Int × Unit) × Unit => ∃ k : Nat, s = (((k : Int), ()), ()) ∧ k ≤ h.length) (m := fun s => h.length - Int.toNat s.1.1) ⟨0, rfl, Nat.zero_le _⟩ (by simpa using hf2) fun s hs => ?_
        obtain ⟨k, rfl, g1⟩ := hs
        by_cases hk : k < h.length
        · have hki : (k : Int) < (h.length : Int) := by omega
          have hk0 : (0 : Int) ≤ (k : Int) := by omega
          have hne : (v == h.getD k (dflt (.int .i64))) = false := by
            refine beq_eq_false_iff_ne.2 fun e => hm ?_
            rw [e, getD_lt hk]
            exact List.getElem_mem _
          simp only [hki, hk0, decide_true, cond_true, Int.toNat_natCast, hk, and_self, i64_succ hk hhl, hne, cond_false]
          exact ⟨_, rfl, ⟨k + 1, rfl, hk⟩, by simp only [Int.toNat_natCast]; omega⟩
        · have hki : ¬ ((k : Int) < (h.length : Int)) := by omega
          simp only [hki, decide_false, cond_false]
          exact ⟨_, rfl, rfl⟩
      · rw [ht, List.mem_append, List.mem_singleton] at hy
        rcases hy with hy | rfl
        · exact h2 y hy
        · exact hm
  · obtain rfl : i = f.length := by omega
    rw [take_all] at h2
    exact absurd hx2 (h2 x hx1)
end
end
section
variable {fu : Nat}

theorem compactUpTo_sorted (d : Array Int) (hs : ∀ i j, i ≤ j → j < d.size → d[i]! ≤ d[j]!) : ∀ m, m ≤ d.size → (Lib.compactUpTo d m).Pairwise (· ≤ ·)
  | 0, _ => by simp [Lib.compactUpTo]
  | m + 1, hm => by
    rw [Lib.compactUpTo_succ, List.pairwise_append]
    refine ⟨compactUpTo_sorted d hs m (by omega), ?_, fun x hx y hy => ?_⟩
    · split <;> simp
    · obtain ⟨j, h1, h2⟩ := (compactUpTo_mem d m (by omega) x).1 hx
      by_cases hk : Lib.keeps d m = true
      · rw [if_pos hk] at hy
        have hy : y = d[m]! := List.mem_singleton.1 hy
        have h3 := hs j m (by omega) (by omega)
        rw [← h2, hy]; exact h3
      · rw [if_neg hk] at hy; cases hy
theorem rise_of {l : List Int} (h1 : l.Pairwise (· ≤ ·)) (h2 : l.Nodup) : Rise l := by
  refine (h1.and h2).imp fun {x y} h => ?_
  have := h.1; have := h.2; omega
theorem distI_rise (a : List Int) : Rise (distI a) := by
  refine rise_of ?_ (distI_dist a).1
  have := compactUpTo_sorted (sortI a).toArray (sortI_le a) (sortI a).length (by simp)
  exact this
theorem distI_ext {a b : List Int} (h : ∀ x, x ∈ a ↔ x ∈ b) : distI a = distI b :=
  rise_ext (distI_rise a) (distI_rise b) fun x => by rw [(distI_dist a).2 x, (distI_dist b).2 x]; exact h x
/-- The others than n. -/
def othersS (a c : List Int) (n : Int) : List Int := (distI (a ++ c)).filter (· != n)
theorem othersS_mem (a c : List Int) (n x : Int) : x ∈ othersS a c n ↔ (x ∈ a ∨ x ∈ c) ∧ x ≠ n := by
  unfold othersS
  rw [List.mem_filter, (distI_dist _).2 x, List.mem_append, bne_iff_ne]
theorem othersS_rise (a c : List Int) (n : Int) : Rise (othersS a c n) := (distI_rise _).filter _
theorem othersS_len (a c : List Int) (n : Int) : (othersS a c n).length ≤ a.length + c.length := by
  have h1 := List.length_filter_le (· != n) (distI (a ++ c))
  have h2 := distI_len (a ++ c)
  rw [List.length_append] at h2
  exact Nat.le_trans h1 h2
theorem loopO_in {S R : Type} {n : Nat} {f : S → Option (S ⊕ R)} {s s' : S} (h : f s = some (.inl s')) : loopO (n + 1) f s = loopO n f s' := by simp only [loopO, h]
theorem loopO_out {S R : Type} {n : Nat} {f : S → Option (S ⊕ R)} {s : S} {r : R} (h : f s = some (.inr r)) : loopO (n + 1) f s = some r := by simp only [loopO, h]
theorem p44_is {n : Nat} (h : n ≤ 8388608) : p44 fu ((), (n : Int), ()) = some ((), []) := by
  have h0 : ¬ (n : Int) < 0 := by omega
  have e : IntKind.wrap .i64 ((n : Int) - (0 : Int)) = (n : Int) := by rw [Int.sub_zero, i64_wrap (by omega) (by omega)]
  simp only [p44, h0, decide_false, cond_false, e]
  by_cases hn : (n : Int) > 0
  · have h1 : (0 : Int) < (n : Int) ∧ (n : Int) * 8 ≤ 140737488355328 ∧ (n : Int) ≤ 9223372036854775807 := by omega
    simp only [hn, h1, decide_true, cond_true, and_self, Nat.le_refl, Nat.zero_le, List.take_zero, List.length_nil]
  · simp only [hn, decide_false, cond_false]
theorem p28_is (a c : List Int) (ha : few a) (hc : few c) (hf : 3 < fu) : p28 fu ([a, c], ()) = some ((), a ++ c) := by
  obtain ⟨m, rfl⟩ : ∃ m, fu = m + 3 := ⟨fu - 3, by omega⟩
  have ha' := ha
  have hc' := hc
  unfold few at ha' hc'
  have hm : maxLen = 9223372036854775807 := rfl
  have e1 : IntKind.wrap .i64 ((0 : Int) + (a.length : Int)) = (a.length : Int) := by rw [Int.zero_add, i64_wrap (by omega) (by omega)]
  have e2 : IntKind.wrap .i64 ((a.length : Int) + (c.length : Int)) = ((a.length + c.length : Nat) : Int) := by rw [i64_wrap (by omega) (by omega)]; omega
  have e3 : IntKind.wrap .i64 ((0 : Int) + 1) = 1 := rfl
  have e4 : IntKind.wrap .i64 ((1 : Int) + 1) = 2 := rfl
  have n1 : ¬ (a.length : Int) < 0 := by omega
  have n2 : ¬ ((a.length + c.length : Nat) : Int) < 0 := by omega
  have m1 : a.length ≤ maxLen ∧ a.length * 8 ≤ 140737488355328 := by omega
  have m2 : a.length + c.length ≤ maxLen ∧ (a.length + c.length) * 8 ≤ 140737488355328 := by omega
  have l2 : ((([a, c] : List (List Int)).length : Nat) : Int) = 2 := rfl
  have g0 : List.getD [a, c] (Int.toNat 0) (dflt (.sl (.int .i64))) = a := rfl
  have g1 : List.getD [a, c] (Int.toNat 1) (dflt (.sl (.int .i64))) = c := rfl
  simp only [p28]
  rw [loopO_in (s' := ((((a.length : Nat) : Int), (1 : Int), ()), ())) (by simp only [l2, g0, e1, e3, n1]; rfl), loopO_in (s' := ((((a.length + c.length : Nat) : Int), (2 : Int), ()), ())) (by simp only [l2, g1, e2, e4, n2]; rfl), loopO_out (r := ((), a ++ c))]
  simp only [l2, Int.lt_irrefl, decide_false, cond_false, p44_is (show a.length + c.length ≤ 8388608 by omega), bind_val, decide_true, cond_true]
  rw [loopO_in (s' := ((a, (1 : Int), ()), ())) (by simp only [g0, e3, List.nil_append, List.length_nil, Nat.zero_add, m1, and_self, decide_true]; rfl), loopO_in (s' := ((a ++ c, (2 : Int), ()), ())) (by simp only [g1, e4, m2, and_self, decide_true]; rfl), loopO_out (r := ((), a ++ c)) (by simp only [Int.lt_irrefl, decide_false, cond_false]; rfl)]
  rfl
theorem p12_is (a c : List Int) (n : Int) (hl : a.length + c.length ≤ 4194304) (hf : a.length + c.length + 4 < fu) : p12 fu ((a, c, ()), n, ()) = some ((), othersS a c n) := by
  have ha : few a := by unfold few; omega
  have hc : few c := by unfold few; omega
  have hs := sortI_len (a ++ c)
  have hd := distI_len (a ++ c)
  rw [List.length_append] at hs hd
  have hb : a.length + c.length < 4611686018427387904 := by omega
  have hb2 : a.length + c.length ≤ 9223372036854775807 := by omega
  have h1 := p30_is (fu := fu) (distI (a ++ c)) n (by unfold few; omega) (by omega)
  unfold distI at h1
  simp only [p12, p28_is (fu := fu) a c ha hc (by omega), bind_val, pSort, List.length_append, hb, hb2, hs, decide_true, cond_true, pCompact, h1]
  rfl
theorem foldE_l {A X : Type} (g : A → X → A) : ∀ (l : List X) (a : A), foldE (R := Unit × A) (fun a x => .inl (g a x)) (fun a => ((), a)) l a = ((), l.foldl g a)
  | [], _ => rfl
  | x :: l, a => foldE_l g l (g a x)
/-- One more, if it is not in and not n. -/
def putS (n : Int) (h : List Int) (x : Int) : List Int := bif x != n && !h.contains x then withS x h else h
theorem putS_all (n : Int) : ∀ (l h : List Int), Rise h → Rise (l.foldl (putS n) h) ∧ ∀ x, x ∈ l.foldl (putS n) h ↔ x ∈ h ∨ (x ∈ l ∧ x ≠ n)
  | [], h, hr => ⟨hr, fun x => by simp⟩
  | y :: l, h, hr => by
    have key : Rise (putS n h y) ∧ ∀ x, x ∈ putS n h y ↔ x ∈ h ∨ (x = y ∧ x ≠ n) := by
      unfold putS
      cases hb : y != n && !h.contains y with
      | true =>
        simp only [Bool.and_eq_true, bne_iff_ne, ne_eq, Bool.not_eq_true', List.contains_eq_mem, decide_eq_false_iff_not] at hb
        simp only [cond_true]
        refine ⟨withS_rise y h hr hb.2, fun x => ?_⟩
        rw [withS_mem]
        constructor
        · rintro (rfl | h1)
          · exact .inr ⟨rfl, hb.1⟩
          · exact .inl h1
        · rintro (h1 | ⟨rfl, _⟩)
          · exact .inr h1
          · exact .inl rfl
      | false =>
        refine ⟨hr, fun x => ⟨.inl, ?_⟩⟩
        rintro (h1 | ⟨rfl, h2⟩)
        · exact h1
        · simp only [Bool.and_eq_false_iff, bne_eq_false_iff_eq, Bool.not_eq_false', List.contains_eq_mem, decide_eq_true_eq] at hb
          rcases hb with hb | hb
          · exact absurd hb h2
          · exact hb
    obtain ⟨h1, h2⟩ := putS_all n l (putS n h y) key.1
    refine ⟨h1, fun x => ?_⟩
    show x ∈ l.foldl (putS n) (putS n h y) ↔ _
    rw [h2 x, key.2 x, List.mem_cons]
    constructor
    · rintro ((h3 | h3) | h3)
      · exact .inl h3
      · exact .inr ⟨.inl h3.1, h3.2⟩
      · exact .inr ⟨.inr h3.1, h3.2⟩
    · rintro (h3 | ⟨h3 | h3, h4⟩)
      · exact .inl (.inl h3)
      · exact .inl (.inr ⟨h3, h4⟩)
      · exact .inr ⟨h3, h4⟩
theorem putS_len (n : Int) (h : List Int) (x : Int) : (putS n h x).length ≤ h.length + 1 := by
  unfold putS
  cases x != n && !h.contains x with
  | true => exact Nat.le_of_eq (withS_len x h)
  | false => exact Nat.le_succ _
/-- The document's Others. -/
theorem p13_is (a c : List Int) (n : Int) (hl : a.length + c.length ≤ 4194304) (hf : a.length + c.length + 4 < fu) : p13 fu ((a, c, ()), n, ()) = some ((), othersS a c n) := by
  have hm : maxLen = 9223372036854775807 := rfl
  have m1 : a.length ≤ maxLen ∧ a.length * 8 ≤ 140737488355328 := by omega
  have m2 : a.length + c.length ≤ maxLen ∧ (a.length + c.length) * 8 ≤ 140737488355328 := by omega
  have hr : othersS a c n = (a ++ c).foldl (putS n) [] := by
    obtain ⟨h1, h2⟩ := putS_all n (a ++ c) [] List.Pairwise.nil
    refine rise_ext (othersS_rise a c n) h1 fun x => ?_
    rw [othersS_mem, h2 x, List.mem_append]
    simp
  rw [hr, ← foldE_l]
  simp only [p13, List.length_nil, Nat.zero_add, List.nil_append, decide_true, cond_true, m1, m2, and_self]
  have hlen : (a ++ c).length = a.length + c.length := List.length_append
  have hfew : few (a ++ c) := by unfold few; omega
  refine loop_fold (a ++ c) (fun i (o : List Int) => ((o, (i : Int), ()), ())) (fun i o => o.length ≤ i) (fun (o : List Int) x => .inl (putS n o x)) (fun o => ((), o)) (Nat.le_refl _) (by omega) (fun i o h hJ => ⟨?_, fun o' ho => ?_⟩) (fun o hJ => ?_)
  · have ho : few o := by unfold few; omega
    simp only [Int.ofNat_lt, Int.natCast_nonneg, h, decide_true, cond_true, and_self, Int.toNat_natCast, getD_lt h, p15_is (fu := fu) o _ ho (by omega), bind_val, p32_is (fu := fu) o _ ho (by omega), i64_succ h (few64 hfew), stepS, putS]
    cases hx : ((a ++ c)[i] != n) with
    | false => simp only [cond_false, orK_inl, Bool.false_and]
    | true =>
      cases o.contains (a ++ c)[i] with
      | false => simp only [cond_true, orK_inl, Bool.not_false, Bool.and_self]
      | true => simp only [cond_true, cond_false, orK_inl, Bool.not_true, Bool.and_false]
  · obtain rfl := Sum.inl.inj ho
    have := putS_len n o (a ++ c)[i]
    omega
  · simp only [Int.ofNat_lt, Nat.lt_irrefl, decide_false, cond_false]
    rfl
/-- RaftconfTells. -/
theorem p3_is (a c : List Int) (f : List Int) (ha : a.length ≤ 1048576) (hc : c.length ≤ 1048576) (hl : f.length ≤ 4194304) (hf : 4194304 < fu) : p3 fu ((a, c, ()), f, ()) = some ((), true) := by
  have hfa : few a := by unfold few; omega
  have hfc : few c := by unfold few; omega
  simp only [p3, p8_is (fu := fu) (by omega), p9_is a c hfa hfc, bind_val, p10_is (fu := fu) a c hfa hfc (by omega), p11_is (fu := fu) a c hfa hfc (by omega), bne_self_eq_false, cond_false]
  refine loop_val (I := fun s => ∃ i : Nat, s = (((i : Int), ()), ()) ∧ i ≤ f.length) (m := fun s => (f.length - Int.toNat s.1.1)) ⟨0, rfl, Nat.zero_le _⟩ (by simp; omega) fun s hs => ?_
  obtain ⟨i, rfl, h1⟩ := hs
  by_cases h : i < f.length
  · simp only [Int.ofNat_lt, Int.natCast_nonneg, h, decide_true, cond_true, and_self, Int.toNat_natCast, p12_is (fu := fu) a c _ (show a.length + c.length ≤ 4194304 by omega) (by omega), p13_is (fu := fu) a c _ (show a.length + c.length ≤ 4194304 by omega) (by omega), p14_is (fu := fu) a c _ hfa (by omega), p15_is (fu := fu) a _ hfa (by omega), p15_is (fu := fu) c _ hfc (by omega), p16_is (fu := fu) a c _ hfc (by omega), bind_val, beq_self_eq_true, Bool.not_true, cond_false, bne_self_eq_false, i64_succ h (by omega : f.length ≤ 9223372036854775807)]
    have ho := othersS_len a c (f.getD i (dflt (.int .i64)))
    generalize othersS a c (f.getD i (dflt (.int .i64))) = o at ho ⊢
    refine ⟨.inl ((((i + 1 : Nat) : Int), ()), ()), ?_, ⟨i + 1, rfl, h⟩, by simp only [Int.toNat_natCast]; omega⟩
    refine loop_val (I := fun s => ∃ (x : Nat) (w : List Int), s = ((w, (x : Int), ()), ()) ∧ w.length = o.length ∧ x ≤ o.length ∧ w.drop x = o.drop x) (m := fun s => (o.length - Int.toNat s.1.2.1)) ⟨0, o, rfl, rfl, Nat.zero_le _, rfl⟩ (by simp; omega) fun s hs => ?_
    obtain ⟨x, w, rfl, e1, e2, e3⟩ := hs
    by_cases hx : x < o.length
    · have hxw : x < w.length := by omega
      have hg : w.getD x (dflt (.int .i64)) = o.getD x (dflt (.int .i64)) := by
        rw [getD_drop w x hxw, getD_drop o x hx] at e3
        exact (List.cons.inj e3).1
      have hd : w.drop (x + 1) = o.drop (x + 1) := by
        rw [getD_drop w x hxw, getD_drop o x hx] at e3
        exact (List.cons.inj e3).2
      simp only [e1, Int.ofNat_lt, Int.natCast_nonneg, hx, decide_true, cond_true, and_self, Int.toNat_natCast, hg, bne_self_eq_false, cond_false, List.length_set, i64_succ hx (by omega : o.length ≤ 9223372036854775807)]
      refine ⟨_, rfl, ⟨x + 1, _, rfl, by simpa using e1, hx, ?_⟩, by simp only [Int.toNat_natCast]; omega⟩
      rw [List.drop_set_of_lt (by omega), hd]
    · simp only [e1, Int.ofNat_lt, hx, decide_false, cond_false]
      exact ⟨_, rfl, rfl⟩
  · simp only [Int.ofNat_lt, h, decide_false, cond_false, cond_true, p17_is (fu := fu) a c a c hfa hfc (by omega) (by omega), bind_val, decide_true, Bool.and_self]
    exact ⟨_, rfl, rfl⟩
end
section
variable {fu : Nat}

theorem Rise.nodup {l : List Int} (h : Rise l) : l.Nodup := h.imp fun {x y} hxy => by omega
theorem applyS_add {a c : List Int} {n : Int} (hr : Right a c) (hn : 1 ≤ n ∧ n ≤ 7) (h1 : n ∉ a) (h2 : n ∉ c) : applyS a c 1 n = ((a, withS n c), 0) := by
  have hk : okN n = true := decide_eq_true hn
  simp [applyS, (check_right a c).2 hr, hk, h1, h2]
theorem applyS_pro {a c : List Int} {n : Int} (hr : Right a c) (h2 : n ∈ c) : applyS a c 2 n = ((withS n a, c.filter (· != n)), 0) := by
  have hk : okN n = true := decide_eq_true (hr.ok n (.inr h2))
  simp [applyS, (check_right a c).2 hr, hk, h2]
theorem applyS_rem {a c : List Int} {n : Int} (hr : Right a c) (h : n ∈ a ∨ n ∈ c) (h1 : ¬ (n ∈ a ∧ a.length = 1)) : applyS a c 3 n = ((a.filter (· != n), c.filter (· != n)), 0) := by
  have hk : okN n = true := decide_eq_true (hr.ok n h)
  have h3 : ¬ (n ∉ a ∧ n ∉ c) := fun e => h.elim e.1 e.2
  simp [applyS, (check_right a c).2 hr, hk, h3, h1]
theorem applyS_ok {a c : List Int} {k n : Int} (h : (applyS a c k n).2 = 0) : Right a c ∧ (1 ≤ n ∧ n ≤ 7) ∧
    ((k = 1 ∧ n ∉ a ∧ n ∉ c ∧ (applyS a c k n).1 = (a, withS n c)) ∨ (k = 2 ∧ n ∈ c ∧ (applyS a c k n).1 = (withS n a, c.filter (· != n))) ∨
      (k = 3 ∧ (n ∈ a ∨ n ∈ c) ∧ ¬ (n ∈ a ∧ a.length = 1) ∧ (applyS a c k n).1 = (a.filter (· != n), c.filter (· != n)))) := by
  by_cases he : checkS a c = 0
  · have hr := (check_right a c).1 he
    refine ⟨hr, ?_⟩
    cases hk : okN n with
    | false => simp [applyS, he, hk] at h
    | true =>
      have hn : 1 ≤ n ∧ n ≤ 7 := of_decide_eq_true hk
      refine ⟨hn, ?_⟩
      by_cases k1 : k = 1
      · subst k1
        by_cases h1 : n ∈ a
        · simp [applyS, he, hk, h1] at h
        · by_cases h2 : n ∈ c
          · simp [applyS, he, hk, h2] at h
          · exact .inl ⟨rfl, h1, h2, by rw [applyS_add hr hn h1 h2]⟩
      · by_cases k2 : k = 2
        · subst k2
          by_cases h2 : n ∈ c
          · exact .inr (.inl ⟨rfl, h2, by rw [applyS_pro hr h2]⟩)
          · simp [applyS, he, hk, h2] at h
        · by_cases k3 : k = 3
          · subst k3
            by_cases h1 : n ∈ a ∨ n ∈ c
            · by_cases h2 : n ∈ a ∧ a.length = 1
              · simp [applyS, he, hk, h2.1, h2.2] at h
              · exact .inr (.inr ⟨rfl, h1, h2, by rw [applyS_rem hr h1 h2]⟩)
            · have h3 : n ∉ a ∧ n ∉ c := ⟨fun e => h1 (.inl e), fun e => h1 (.inr e)⟩
              simp [applyS, he, hk, h3.1, h3.2] at h
          · simp [applyS, he, hk, k1, k2, k3] at h
  · simp [applyS, he] at h
theorem right_add {a c : List Int} {n : Int} (hr : Right a c) (hn : 1 ≤ n ∧ n ≤ 7) (h1 : n ∉ a) (h2 : n ∉ c) : Right a (withS n c) := by
  refine ⟨fun x hx => ?_, hr.ra, withS_rise n c hr.rc h2, fun x hx hx2 => ?_, hr.some⟩
  · rcases hx with hx | hx
    · exact hr.ok x (.inl hx)
    · rcases (withS_mem n c x).1 hx with rfl | hx
      · exact hn
      · exact hr.ok x (.inr hx)
  · rcases (withS_mem n c x).1 hx2 with rfl | hx2
    · exact h1 hx
    · exact hr.dis x hx hx2
theorem mem_without {c : List Int} {n x : Int} : x ∈ c.filter (· != n) ↔ x ∈ c ∧ x ≠ n := by rw [List.mem_filter, bne_iff_ne]
theorem right_pro {a c : List Int} {n : Int} (hr : Right a c) (h2 : n ∈ c) : Right (withS n a) (c.filter (· != n)) := by
  have h1 : n ∉ a := fun e => hr.dis n e h2
  refine ⟨fun x hx => ?_, withS_rise n a hr.ra h1, hr.rc.filter _, fun x hx hx2 => ?_, fun e => ?_⟩
  · rcases hx with hx | hx
    · rcases (withS_mem n a x).1 hx with rfl | hx
      · exact hr.ok x (.inr h2)
      · exact hr.ok x (.inl hx)
    · exact hr.ok x (.inr (mem_without.1 hx).1)
  · obtain ⟨h3, h4⟩ := mem_without.1 hx2
    rcases (withS_mem n a x).1 hx with rfl | hx
    · exact h4 rfl
    · exact hr.dis x hx h3
  · have := withS_len n a
    rw [e] at this
    simp at this
theorem right_rem {a c : List Int} {n : Int} (hr : Right a c) (h1 : ¬ (n ∈ a ∧ a.length = 1)) : Right (a.filter (· != n)) (c.filter (· != n)) := by
  refine ⟨fun x hx => ?_, hr.ra.filter _, hr.rc.filter _, fun x hx hx2 => ?_, fun e => h1 ?_⟩
  · rcases hx with hx | hx
    · exact hr.ok x (.inl (mem_without.1 hx).1)
    · exact hr.ok x (.inr (mem_without.1 hx).1)
  · exact hr.dis x (mem_without.1 hx).1 (mem_without.1 hx2).1
  · have hall : ∀ x ∈ a, x = n := fun x hx => Classical.byContradiction fun hne => by
      have : x ∈ a.filter (· != n) := mem_without.2 ⟨hx, hne⟩
      rw [e] at this; cases this
    match a, hr, hall with
    | [], hr, _ => exact absurd rfl hr.some
    | [x], _, hall => exact ⟨by rw [hall x (by simp)]; simp, rfl⟩
    | x :: y :: l, hr, hall =>
      have h2 := hall x (by simp)
      have h3 := hall y (by simp)
      have h4 := (List.pairwise_cons.1 hr.ra).1 y (by simp)
      omega
theorem applyS_right {a c : List Int} {k n : Int} (h : (applyS a c k n).2 = 0) : Right (applyS a c k n).1.1 (applyS a c k n).1.2 := by
  obtain ⟨hr, hn, ⟨-, h1, h2, e⟩ | ⟨-, h2, e⟩ | ⟨-, h1, h2, e⟩⟩ := applyS_ok h
  · rw [e]; exact right_add hr hn h1 h2
  · rw [e]; exact right_pro hr h2
  · rw [e]; exact right_rem hr h2
theorem maj_meet_step {a c : List Int} {k n : Int} {p q : Int → Bool} (h : (applyS a c k n).2 = 0) (h1 : majS (distI a) p = true) (h2 : majS (distI (applyS a c k n).1.1) q = true) : ∃ x, p x = true ∧ q x = true := by
  obtain ⟨hr, hn, ⟨-, -, -, e⟩ | ⟨-, -, e⟩ | ⟨-, -, -, e⟩⟩ := applyS_ok h
  · rw [e] at h2; exact maj_meet h1 h2
  · rw [e] at h2
    have : distI (withS n a) = distI (a ++ [n]) := distI_ext fun x => by rw [withS_mem, List.mem_append, List.mem_singleton]; exact Or.comm
    have h2 : majS (distI (withS n a)) q = true := h2
    rw [this] at h2
    exact maj_meet_more h1 h2
  · rw [e] at h2
    have h2 : majS (distI (a.filter (· != n))) q = true := h2
    by_cases hm : n ∈ a
    · have : distI a = distI (a.filter (· != n) ++ [n]) := distI_ext fun x => by
        rw [List.mem_append, mem_without, List.mem_singleton]
        constructor
        · intro hx
          by_cases hxn : x = n
          · exact .inr hxn
          · exact .inl ⟨hx, hxn⟩
        · rintro (h3 | rfl)
          · exact h3.1
          · exact hm
      rw [this] at h1
      obtain ⟨x, h3, h4⟩ := maj_meet_more h2 h1
      exact ⟨x, h4, h3⟩
    · have : a.filter (· != n) = a := by
        rw [List.filter_eq_self]; intro y hy
        have : y ≠ n := fun e => hm (e ▸ hy)
        simpa using this
      rw [this] at h2
      exact maj_meet h1 h2
/-- RaftconfMeets. -/
theorem p5_is (a c i j : List Int) (k n : Int) (ha : a.length ≤ 1048576) (hc : c.length ≤ 1048576) (hi : i.length ≤ 4194304) (hj : j.length ≤ 4194304) (hf : 4194304 < fu) : p5 fu ((a, c, ()), (k, n, ()), i, j, ()) = some ((), true) := by
  have hfa : few a := by unfold few; omega
  have hfc : few c := by unfold few; omega
  simp only [p5, p8_is (fu := fu) (by omega), p18_is (fu := fu) a c k n hfa hfc (by omega), bind_val, outS, Bool.not_true, cond_false]
  by_cases he : (applyS a c k n).2 = 0
  · have hr := applyS_right he
    obtain ⟨l1, l2⟩ := applyS_len a c k n
    have hb : ((applyS a c k n).2 != 0) = false := by simpa using he
    have hm := @maj_meet_step a c k n i.contains j.contains he
    generalize applyS a c k n = r at he hr l1 l2 hb hm ⊢
    have f1 : few r.1.1 := by unfold few; omega
    have f2 : few r.1.2 := by unfold few; omega
    simp only [hb, cond_false, p10_is (fu := fu) r.1.1 r.1.2 f1 f2 (by omega), bind_val, (check_right _ _).2 hr, bne_self_eq_false, p21_is (fu := fu) a i (by omega) (by omega) (by omega) (by omega), p21_is (fu := fu) r.1.1 j (by omega) (by omega) (by omega) (by omega)]
    cases h1 : majS (distI a) i.contains with
    | false => rfl
    | true =>
      cases h2 : majS (distI r.1.1) j.contains with
      | false => rfl
      | true =>
        obtain ⟨x, h3, h4⟩ := hm h1 h2
        simp only [Bool.not_true, cond_false]
        exact p6_find i j (by omega) (by omega) (by omega) (by omega) ⟨x, by simpa using h3, by simpa using h4⟩
  · have hb : ((applyS a c k n).2 != 0) = true := by simpa using he
    simp only [hb, cond_true]
end
section
variable {fu : Nat}

/-- The nodes that may be. -/
def N7 : List Int := [1, 2, 3, 4, 5, 6, 7]
theorem mem_N7 (x : Int) : x ∈ N7 ↔ 1 ≤ x ∧ x ≤ 7 := by
  simp only [N7, List.mem_cons, List.not_mem_nil, or_false]
  omega
theorem N7_rise : Rise N7 := by decide
theorem N7_get (i : Nat) (h : i < N7.length) : N7[i]'h = (i : Int) + 1 := by
  have h' : i < 7 := h
  rcases i with _ | _ | _ | _ | _ | _ | _ | i
  all_goals first | rfl | omega
def addP (a c f h : List Int) (x : Int) : Bool := (f.contains x || h.contains x) && !(a.contains x || c.contains x)
def proP (a f : List Int) (x : Int) : Bool := f.contains x && !a.contains x
def remP (a c f h : List Int) (x : Int) : Bool := ((a.contains x || c.contains x) && !(f.contains x || h.contains x)) || (a.contains x && h.contains x)
def bakP (a h : List Int) (x : Int) : Bool := a.contains x && h.contains x
abbrev Ch := Int × Int
def chg (k : Int) (n : Int) : Ch := (k, n)
def stepsS (a c f h : List Int) : List Ch := (((N7.filter (addP a c f h)).map (chg 1) ++ (N7.filter (proP a f)).map (chg 2)) ++ (N7.filter (remP a c f h)).map (chg 3)) ++ (N7.filter (bakP a h)).map (chg 1)
/-- What Path answers. -/
def pathS (a c f h : List Int) : List Ch × Int := if checkS a c ≠ 0 then ([], checkS a c) else if checkS f h ≠ 0 then ([], checkS f h) else (stepsS a c f h, 0)
abbrev outP (r : List Ch × Int) : Unit × (List Ch × (Int × Unit)) := ((), (r.1, r.2, ()))
theorem fold4 (P1 P2 P3 P4 : Int → Bool) : ∀ (l : List Int) (s1 s2 s3 s4 : List Ch),
    foldE (R := Unit × (List Ch × (Int × Unit))) (fun (s : List Ch × List Ch × List Ch × List Ch) x => .inl ((bif P1 x then s.1 ++ [chg 1 x] else s.1), (bif P2 x then s.2.1 ++ [chg 2 x] else s.2.1), (bif P3 x then s.2.2.1 ++ [chg 3 x] else s.2.2.1), (bif P4 x then s.2.2.2 ++ [chg 1 x] else s.2.2.2)))
      (fun s => ((), (((s.1 ++ s.2.1) ++ s.2.2.1) ++ s.2.2.2, 0, ()))) l (s1, s2, s3, s4) =
    ((), ((((s1 ++ (l.filter P1).map (chg 1)) ++ (s2 ++ (l.filter P2).map (chg 2))) ++ (s3 ++ (l.filter P3).map (chg 3))) ++ (s4 ++ (l.filter P4).map (chg 1)), 0, ()))
  | [], s1, s2, s3, s4 => by simp [foldE]
  | x :: l, s1, s2, s3, s4 => by
    simp only [foldE, fold4 P1 P2 P3 P4 l, List.filter_cons]
    cases P1 x <;> cases P2 x <;> cases P3 x <;> cases P4 x <;> simp
/-- The document's Path. -/
theorem p23_is (a c f h : List Int) (ha : few a) (hc : few c) (hf' : few f) (hh : few h) (hf : a.length + c.length + f.length + h.length + 12 < fu) : p23 fu ((a, c, ()), (f, h, ()), ()) = some (outP (pathS a c f h)) := by
  have hm : maxLen = 9223372036854775807 := rfl
  simp only [p23, p11_is (fu := fu) a c ha hc (by omega), p11_is (fu := fu) f h hf' hh (by omega), bind_val, pathS]
  by_cases h1 : checkS a c = 0
  · by_cases h2 : checkS f h = 0
    · simp only [h1, h2, beq_self_eq_true, cond_true, orK_inl, bne_self_eq_false, cond_false, ne_eq, not_true_eq_false, if_false, outP]
      have key := fold4 (addP a c f h) (proP a f) (remP a c f h) (bakP a h) N7 [] [] [] []
      simp only [List.nil_append] at key
      rw [show stepsS a c f h = (((N7.filter (addP a c f h)).map (chg 1) ++ (N7.filter (proP a f)).map (chg 2)) ++ (N7.filter (remP a c f h)).map (chg 3)) ++ (N7.filter (bakP a h)).map (chg 1) from rfl, ← key]
      refine loop_fold N7 (fun i (s : List Ch × List Ch × List Ch × List Ch) => ((s.1, s.2.1, s.2.2.1, s.2.2.2, ((i : Int) + 1), ()), ())) (fun i s => s.1.length ≤ i ∧ s.2.1.length ≤ i ∧ s.2.2.1.length ≤ i ∧ s.2.2.2.length ≤ i) _ _ (a0 := ([], [], [], [])) ⟨Nat.le_refl _, Nat.le_refl _, Nat.le_refl _, Nat.le_refl _⟩ (by show 7 < fu; omega) (fun i s hi hJ => ⟨?_, fun s' hs => ?_⟩) (fun s hJ => ?_)
      · have hi7 : i < 7 := hi
        obtain ⟨l, m, n, o⟩ := s
        obtain ⟨j1, j2, j3, j4⟩ := hJ
        dsimp only at j1 j2 j3 j4
        have hq : (i : Int) + 1 ≤ 7 := by omega
        have b1 : l.length + 1 ≤ maxLen ∧ (l.length + 1) * 16 ≤ 140737488355328 := by omega
        have b2 : m.length + 1 ≤ maxLen ∧ (m.length + 1) * 16 ≤ 140737488355328 := by omega
        have b3 : n.length + 1 ≤ maxLen ∧ (n.length + 1) * 16 ≤ 140737488355328 := by omega
        have b4 : o.length + 1 ≤ maxLen ∧ (o.length + 1) * 16 ≤ 140737488355328 := by omega
        have hw : IntKind.wrap .i64 ((i : Int) + 1 + 1) = ((i + 1 : Nat) : Int) + 1 := by rw [i64_wrap (by omega) (by omega)]; omega
        simp only [hq, decide_true, cond_true, p15_is (fu := fu) a _ ha (by omega), p15_is (fu := fu) c _ hc (by omega), p15_is (fu := fu) f _ hf' (by omega), p15_is (fu := fu) h _ hh (by omega), bind_val, N7_get i hi, addP, proP, remP, bakP, hw, List.length_singleton, b1, b2, b3, b4, and_self]
        generalize (i : Int) + 1 = q
        cases a.contains q <;> cases c.contains q <;> cases f.contains q <;> cases h.contains q <;> rfl
      · obtain ⟨l, m, n, o⟩ := s
        obtain rfl := Sum.inl.inj hs
        obtain ⟨j1, j2, j3, j4⟩ := hJ
        dsimp only at j1 j2 j3 j4 ⊢
        have hlen : ∀ (b : Bool) (l : List Ch) (x : Ch), l.length ≤ i → (bif b then l ++ [x] else l).length ≤ i + 1 := fun b l x hl => by
          cases b
          · exact Nat.le_succ_of_le hl
          · simp only [cond_true, List.length_append, List.length_singleton]; omega
        exact ⟨hlen _ _ _ j1, hlen _ _ _ j2, hlen _ _ _ j3, hlen _ _ _ j4⟩
      · obtain ⟨l, m, n, o⟩ := s
        obtain ⟨j1, j2, j3, j4⟩ := hJ
        have h7 : N7.length = 7 := rfl
        rw [h7] at j1 j2 j3 j4
        dsimp only at j1 j2 j3 j4
        have hq : ¬ ((N7.length : Nat) : Int) + 1 ≤ 7 := by rw [h7]; omega
        have b1 : l.length + m.length ≤ maxLen ∧ (l.length + m.length) * 16 ≤ 140737488355328 := by omega
        have b2 : l.length + m.length + n.length ≤ maxLen ∧ (l.length + m.length + n.length) * 16 ≤ 140737488355328 := by omega
        have b3 : l.length + m.length + n.length + o.length ≤ maxLen ∧ (l.length + m.length + n.length + o.length) * 16 ≤ 140737488355328 := by omega
        simp only [hq, decide_false, cond_false, decide_true, cond_true, List.length_append, b1, b2, b3, and_self]
        rfl
    · have hb : (checkS f h != 0) = true := by simpa using h2
      simp only [h1, beq_self_eq_true, cond_true, orK_inl, hb, ne_eq, not_true_eq_false, if_false, h2, not_false_eq_true, if_true]
  · have hb : (checkS a c == 0) = false := by simpa using h1
    have hb2 : (checkS a c != 0) = true := by simpa using h1
    simp only [hb, cond_false, orK_inl, hb2, cond_true, ne_eq, h1, not_false_eq_true, if_true]
theorem step_fm (k : List Int) (P : Int → Bool) (g : Int → Ch) {i : Nat} (h : i < k.length) : ((k.take (i + 1)).filter P).map g = (bif P (k.getD i (dflt (.int .i64))) then ((k.take i).filter P).map g ++ [g (k.getD i (dflt (.int .i64)))] else ((k.take i).filter P).map g) := by
  rw [take_one k i (dflt (.int .i64)) h, List.filter_append, List.map_append, List.filter_cons]
  cases P (k.getD i (dflt (.int .i64))) <;> simp
theorem fm_len (k : List Int) (P : Int → Bool) (g : Int → Ch) (i : Nat) : (((k.take i).filter P).map g).length ≤ k.length := by
  rw [List.length_map]
  refine Nat.le_trans (List.length_filter_le _ _) ?_
  rw [List.length_take]; omega
theorem fm_ext {k : List Int} {P Q : Int → Bool} (g : Int → Ch) (hk : Rise k) (h : ∀ x, (x ∈ k ∧ P x = true) ↔ (1 ≤ x ∧ x ≤ 7) ∧ Q x = true) : (k.filter P).map g = (N7.filter Q).map g := by
  congr 1
  refine rise_ext (hk.filter _) (N7_rise.filter _) fun x => ?_
  rw [List.mem_filter, List.mem_filter, mem_N7]
  exact h x
theorem right_few {a c : List Int} (h : Right a c) : a.length ≤ 7 ∧ c.length ≤ 7 := by
  have h1 : a = N7.filter a.contains := rise_ext h.ra (N7_rise.filter _) fun x => by
    rw [List.mem_filter, mem_N7, List.contains_iff_mem]
    exact ⟨fun hx => ⟨h.ok x (.inl hx), hx⟩, fun hx => hx.2⟩
  have h2 : c = N7.filter c.contains := rise_ext h.rc (N7_rise.filter _) fun x => by
    rw [List.mem_filter, mem_N7, List.contains_iff_mem]
    exact ⟨fun hx => ⟨h.ok x (.inr hx), hx⟩, fun hx => hx.2⟩
  constructor
  · rw [h1]; exact List.length_filter_le _ _
  · rw [h2]; exact List.length_filter_le _ _
theorem ct {l : List Int} {x : Int} : l.contains x = true ↔ x ∈ l := List.contains_iff_mem
/-- The program's Path. -/
theorem p22_is (a c f h : List Int) (ha : few a) (hc : few c) (hf' : few f) (hh : few h) (hf : a.length + c.length + f.length + h.length + 24 < fu) : p22 fu ((a, c, ()), (f, h, ()), ()) = some (outP (pathS a c f h)) := by
  have hm : maxLen = 9223372036854775807 := rfl
  obtain ⟨m, rfl⟩ : ∃ m, fu = m + 3 := ⟨fu - 3, by omega⟩
  have l2 : ((([(a, c), (f, h)] : List (List Int × List Int)).length : Nat) : Int) = 2 := rfl
  have g0 : List.getD [(a, c), (f, h)] (Int.toNat 0) (dflt T_api_Conf) = (a, c) := rfl
  have g1 : List.getD [(a, c), (f, h)] (Int.toNat 1) (dflt T_api_Conf) = (f, h) := rfl
  have e3 : IntKind.wrap .i64 ((0 : Int) + 1) = 1 := rfl
  have e4 : IntKind.wrap .i64 ((1 : Int) + 1) = 2 := rfl
  have q1 := p10_is (fu := m + 3) a c ha hc (by omega)
  have q2 := p10_is (fu := m + 3) f h hf' hh (by omega)
  simp only [p22, pathS]
  by_cases h1 : checkS a c = 0
  · have hb1 : (checkS a c != 0) = false := by simpa using h1
    rw [loopO_in (s' := (((1 : Int), ()), ())) (by simp only [g0, q1, bind_val, hb1, e3]; rfl)]
    by_cases h2 : checkS f h = 0
    · have hb2 : (checkS f h != 0) = false := by simpa using h2
      have hr1 := (check_right a c).1 h1
      have hr2 := (check_right f h).1 h2
      obtain ⟨n1, n2⟩ := right_few hr1
      obtain ⟨n3, n4⟩ := right_few hr2
      rw [loopO_in (s' := (((2 : Int), ()), ())) (by simp only [g1, q2, bind_val, hb2, e4]; rfl)]
      simp only [h1, h2, ne_eq, not_true_eq_false, if_false, outP, stepsS]
      refine loopO_out ?_
      have o1 := p12_is (fu := m + 3) f h 0 (by omega) (by omega)
      have o2 := p12_is (fu := m + 3) a c 0 (by omega) (by omega)
      have w1 := othersS_len f h 0
      have w2 := othersS_len a c 0
      have r1 : ((othersS f h 0).filter fun x => !(a.contains x || c.contains x)).map (chg 1) = (N7.filter (addP a c f h)).map (chg 1) := fm_ext _ (othersS_rise f h 0) fun x => by
        rw [othersS_mem, addP, Bool.and_eq_true, Bool.or_eq_true, ct, ct]
        constructor
        · rintro ⟨⟨h3, h4⟩, h5⟩; exact ⟨hr2.ok x h3, h3, h5⟩
        · rintro ⟨h3, h4, h5⟩; exact ⟨⟨h4, by omega⟩, h5⟩
      have r2 : (f.filter fun x => !a.contains x).map (chg 2) = (N7.filter (proP a f)).map (chg 2) := fm_ext _ hr2.ra fun x => by
        rw [proP, Bool.and_eq_true, ct]
        constructor
        · rintro ⟨h3, h4⟩; exact ⟨hr2.ok x (.inl h3), h3, h4⟩
        · rintro ⟨h3, h4⟩; exact h4
      have r3 : ((othersS a c 0).filter fun x => (a.contains x && h.contains x) || !(f.contains x || h.contains x)).map (chg 3) = (N7.filter (remP a c f h)).map (chg 3) := fm_ext _ (othersS_rise a c 0) fun x => by
        rw [othersS_mem, remP, Bool.or_eq_true, Bool.or_eq_true, Bool.and_eq_true, Bool.and_eq_true, Bool.or_eq_true, ct, ct, ct]
        constructor
        · rintro ⟨⟨h3, h4⟩, h5 | h5⟩
          · exact ⟨hr1.ok x h3, .inr h5⟩
          · exact ⟨hr1.ok x h3, .inl ⟨h3, h5⟩⟩
        · rintro ⟨h3, ⟨h4, h5⟩ | h4⟩
          · exact ⟨⟨h4, by omega⟩, .inr h5⟩
          · exact ⟨⟨.inl h4.1, by omega⟩, .inl h4⟩
      have r4 : ((othersS a c 0).filter fun x => a.contains x && h.contains x).map (chg 1) = (N7.filter (bakP a h)).map (chg 1) := fm_ext _ (othersS_rise a c 0) fun x => by
        rw [othersS_mem, bakP, Bool.and_eq_true, ct, ct]
        constructor
        · rintro ⟨⟨h3, h4⟩, h5⟩; exact ⟨hr1.ok x h3, h5⟩
        · rintro ⟨h3, h4⟩; exact ⟨⟨.inl h4.1, by omega⟩, h4⟩
      rw [← r1, ← r2, ← r3, ← r4]
      simp only [Int.lt_irrefl, decide_false, cond_false, o1, bind_val]
      refine congrArg (Option.map Sum.inr) (?_ : _ = some _)
      generalize othersS f h 0 = k at w1 r1 ⊢
      refine loop_val (I := fun s => ∃ i : Nat, s = (((((k.take i).filter fun x => !(a.contains x || c.contains x)).map (chg 1)), (i : Int), ()), ()) ∧ i ≤ k.length) (m := fun s => (k.length - Int.toNat s.1.2.1)) ⟨0, by simp, Nat.zero_le _⟩ (by simp; omega) fun s hs => ?_
      obtain ⟨i, rfl, hi⟩ := hs
      by_cases hlt : i < k.length
      · have hl := fm_len k (fun x => !(a.contains x || c.contains x)) (chg 1) i
        have b1 : (((k.take i).filter fun x => !(a.contains x || c.contains x)).map (chg 1)).length + 1 ≤ maxLen ∧ ((((k.take i).filter fun x => !(a.contains x || c.contains x)).map (chg 1)).length + 1) * 16 ≤ 140737488355328 := by omega
        refine ⟨.inl _, ?_, ⟨i + 1, rfl, hlt⟩, by simp only [Int.toNat_natCast]; omega⟩
        rw [step_fm k _ _ hlt]
        simp only [Int.ofNat_lt, Int.natCast_nonneg, hlt, decide_true, cond_true, and_self, Int.toNat_natCast, p43_is (fu := m + 3) a c _ ha hc (by omega) (by omega), bind_val, i64_succ hlt (by omega : k.length ≤ 9223372036854775807), List.length_singleton, b1]
        cases !(a.contains (k.getD i (dflt (.int .i64))) || c.contains (k.getD i (dflt (.int .i64)))) <;> rfl
      · obtain rfl : i = k.length := by omega
        simp only [Int.ofNat_lt, Nat.lt_irrefl, decide_false, cond_false, decide_true, cond_true, take_all]
        refine ⟨_, congrArg (Option.map Sum.inr) (?_ : _ = some _), rfl⟩
        have hL : ((k.filter fun x => !(a.contains x || c.contains x)).map (chg 1)).length ≤ 14 := by
          rw [List.length_map]; exact Nat.le_trans (List.length_filter_le _ _) (by omega)
        generalize (k.filter fun x => !(a.contains x || c.contains x)).map (chg 1) = L at hL ⊢
        refine loop_val (I := fun s => ∃ i : Nat, s = ((L ++ (((f.take i).filter fun x => !a.contains x).map (chg 2)), (i : Int), ()), ()) ∧ i ≤ f.length) (m := fun s => (f.length - Int.toNat s.1.2.1)) ⟨0, by simp, Nat.zero_le _⟩ (by simp; omega) fun s hs => ?_
        obtain ⟨i, rfl, hi⟩ := hs
        by_cases hlt : i < f.length
        · have hl := fm_len f (fun x => !a.contains x) (chg 2) i
          have b1 : L.length + (((f.take i).filter fun x => !a.contains x).map (chg 2)).length + 1 ≤ maxLen ∧ (L.length + (((f.take i).filter fun x => !a.contains x).map (chg 2)).length + 1) * 16 ≤ 140737488355328 := by omega
          refine ⟨.inl _, ?_, ⟨i + 1, rfl, hlt⟩, by simp only [Int.toNat_natCast]; omega⟩
          rw [step_fm f _ _ hlt]
          simp only [Int.ofNat_lt, Int.natCast_nonneg, hlt, decide_true, cond_true, and_self, Int.toNat_natCast, p14_is (fu := m + 3) a c _ ha (by omega), bind_val, i64_succ hlt (by omega : f.length ≤ 9223372036854775807), List.length_singleton, List.length_append, b1]
          cases !a.contains (f.getD i (dflt (.int .i64)))
          · rfl
          · simp only [cond_true, List.append_assoc]; rfl
        · obtain rfl : i = f.length := by omega
          simp only [Int.ofNat_lt, Nat.lt_irrefl, decide_false, cond_false, take_all, o2, bind_val]
          refine ⟨_, congrArg (Option.map Sum.inr) (?_ : _ = some _), rfl⟩
          have hM : (L ++ (f.filter fun x => !a.contains x).map (chg 2)).length ≤ 21 := by
            rw [List.length_append, List.length_map]
            have := List.length_filter_le (fun x => !a.contains x) f
            omega
          generalize L ++ (f.filter fun x => !a.contains x).map (chg 2) = M at hM ⊢
          generalize othersS a c 0 = k2 at w2 r3 r4 ⊢
          refine loop_val (I := fun s => ∃ i : Nat, s = ((M ++ (((k2.take i).filter fun x => (a.contains x && h.contains x) || !(f.contains x || h.contains x)).map (chg 3)), (((k2.take i).filter fun x => a.contains x && h.contains x).map (chg 1)), (i : Int), ()), ()) ∧ i ≤ k2.length) (m := fun s => (k2.length - Int.toNat s.1.2.2.1)) ⟨0, by simp, Nat.zero_le _⟩ (by simp; omega) fun s hs => ?_
          obtain ⟨i, rfl, hi⟩ := hs
          by_cases hlt : i < k2.length
          · have hl := fm_len k2 (fun x => (a.contains x && h.contains x) || !(f.contains x || h.contains x)) (chg 3) i
            have hl2 := fm_len k2 (fun x => a.contains x && h.contains x) (chg 1) i
            have b1 : M.length + (((k2.take i).filter fun x => (a.contains x && h.contains x) || !(f.contains x || h.contains x)).map (chg 3)).length + 1 ≤ maxLen ∧ (M.length + (((k2.take i).filter fun x => (a.contains x && h.contains x) || !(f.contains x || h.contains x)).map (chg 3)).length + 1) * 16 ≤ 140737488355328 := by omega
            have b2 : (((k2.take i).filter fun x => a.contains x && h.contains x).map (chg 1)).length + 1 ≤ maxLen ∧ ((((k2.take i).filter fun x => a.contains x && h.contains x).map (chg 1)).length + 1) * 16 ≤ 140737488355328 := by omega
            refine ⟨.inl _, ?_, ⟨i + 1, rfl, hlt⟩, by simp only [Int.toNat_natCast]; omega⟩
            rw [step_fm k2 _ _ hlt, step_fm k2 _ _ hlt]
            simp only [Int.ofNat_lt, Int.natCast_nonneg, hlt, decide_true, cond_true, and_self, Int.toNat_natCast, p14_is (fu := m + 3) a c _ ha (by omega), p16_is (fu := m + 3) f h _ hh (by omega), p43_is (fu := m + 3) f h _ hf' hh (by omega) (by omega), bind_val, i64_succ hlt (by omega : k2.length ≤ 9223372036854775807), List.length_singleton, List.length_append, b1, b2]
            generalize k2.getD i (dflt (.int .i64)) = q
            generalize ((k2.take i).filter fun x => (a.contains x && h.contains x) || !(f.contains x || h.contains x)).map (chg 3) = A
            generalize ((k2.take i).filter fun x => a.contains x && h.contains x).map (chg 1) = B
            cases a.contains q <;> cases h.contains q <;> cases f.contains q <;> simp [orK_inl, chg]
          · obtain rfl : i = k2.length := by omega
            have hl := fm_len k2 (fun x => (a.contains x && h.contains x) || !(f.contains x || h.contains x)) (chg 3) k2.length
            have hl2 := fm_len k2 (fun x => a.contains x && h.contains x) (chg 1) k2.length
            rw [take_all] at hl hl2
            have b1 : M.length + ((k2.filter fun x => (a.contains x && h.contains x) || !(f.contains x || h.contains x)).map (chg 3)).length + ((k2.filter fun x => a.contains x && h.contains x).map (chg 1)).length ≤ maxLen ∧ (M.length + ((k2.filter fun x => (a.contains x && h.contains x) || !(f.contains x || h.contains x)).map (chg 3)).length + ((k2.filter fun x => a.contains x && h.contains x).map (chg 1)).length) * 16 ≤ 140737488355328 := by omega
            simp only [Int.ofNat_lt, Nat.lt_irrefl, decide_false, cond_false, decide_true, cond_true, take_all, List.length_append, b1, and_self]
            exact ⟨_, rfl, rfl⟩
    · have hb2 : (checkS f h != 0) = true := by simpa using h2
      simp only [h1, h2, ne_eq, not_true_eq_false, not_false_eq_true, if_false, if_true, outP]
      exact loopO_out (by simp only [g1, q2, bind_val, hb2]; rfl)
  · have hb1 : (checkS a c != 0) = true := by simpa using h1
    simp only [h1, ne_eq, not_false_eq_true, if_true, outP]
    exact loopO_out (by simp only [g0, q1, bind_val, hb1]; rfl)
end
section
variable {fu : Nat}

/-- Steps, one behind the other, none of which is refused. -/
def runS : List Ch → List Int → List Int → Option (List Int × List Int)
  | [], a, c => some (a, c)
  | x :: l, a, c => if (applyS a c x.1 x.2).2 = 0 then runS l (applyS a c x.1 x.2).1.1 (applyS a c x.1 x.2).1.2 else none
theorem runS_append : ∀ (l m : List Ch) (a c : List Int) {r s : List Int × List Int}, runS l a c = some r → runS m r.1 r.2 = some s → runS (l ++ m) a c = some s
  | [], m, a, c, r, s, h1, h2 => by
    obtain rfl := Option.some.inj h1
    exact h2
  | x :: l, m, a, c, r, s, h1, h2 => by
    simp only [runS, List.cons_append] at h1 ⊢
    split at h1
    · rename_i h
      rw [if_pos h]
      exact runS_append l m _ _ h1 h2
    · cases h1
theorem run_add : ∀ (S a c : List Int), Right a c → S.Nodup → (∀ x, x ∈ S → (1 ≤ x ∧ x ≤ 7) ∧ x ∉ a ∧ x ∉ c) → ∃ c', runS (S.map (chg 1)) a c = some (a, c') ∧ Right a c' ∧ ∀ x, x ∈ c' ↔ x ∈ c ∨ x ∈ S
  | [], a, c, hr, _, _ => ⟨c, rfl, hr, fun x => by simp⟩
  | n :: S, a, c, hr, hd, h => by
    obtain ⟨hn, h1, h2⟩ := h n (by simp)
    obtain ⟨hd1, hd2⟩ := List.nodup_cons.1 hd
    have e := applyS_add hr hn h1 h2
    obtain ⟨c', g1, g2, g3⟩ := run_add S a (withS n c) (right_add hr hn h1 h2) hd2 fun x hx => by
      obtain ⟨h3, h4, h5⟩ := h x (List.mem_cons_of_mem _ hx)
      refine ⟨h3, h4, fun hm => ?_⟩
      rcases (withS_mem n c x).1 hm with rfl | hm
      · exact hd1 hx
      · exact h5 hm
    refine ⟨c', ?_, g2, fun x => ?_⟩
    · simp only [List.map_cons, chg, runS, e, if_true]; exact g1
    · rw [g3 x, withS_mem, List.mem_cons]
      constructor
      · rintro ((h3 | h3) | h3)
        · exact .inr (.inl h3)
        · exact .inl h3
        · exact .inr (.inr h3)
      · rintro (h3 | h3 | h3)
        · exact .inl (.inr h3)
        · exact .inl (.inl h3)
        · exact .inr h3
theorem run_pro : ∀ (S a c : List Int), Right a c → S.Nodup → (∀ x, x ∈ S → x ∈ c) → ∃ a' c', runS (S.map (chg 2)) a c = some (a', c') ∧ Right a' c' ∧ (∀ x, x ∈ a' ↔ x ∈ a ∨ x ∈ S) ∧ ∀ x, x ∈ c' ↔ x ∈ c ∧ x ∉ S
  | [], a, c, hr, _, _ => ⟨a, c, rfl, hr, fun x => by simp, fun x => by simp⟩
  | n :: S, a, c, hr, hd, h => by
    have h1 := h n (by simp)
    obtain ⟨hd1, hd2⟩ := List.nodup_cons.1 hd
    have e := applyS_pro hr h1
    obtain ⟨a', c', g1, g2, g3, g4⟩ := run_pro S (withS n a) (c.filter (· != n)) (right_pro hr h1) hd2 fun x hx => mem_without.2 ⟨h x (List.mem_cons_of_mem _ hx), fun e => hd1 (e ▸ hx)⟩
    refine ⟨a', c', ?_, g2, fun x => ?_, fun x => ?_⟩
    · simp only [List.map_cons, chg, runS, e, if_true]; exact g1
    · rw [g3 x, withS_mem, List.mem_cons]
      constructor
      · rintro ((h3 | h3) | h3)
        · exact .inr (.inl h3)
        · exact .inl h3
        · exact .inr (.inr h3)
      · rintro (h3 | h3 | h3)
        · exact .inl (.inr h3)
        · exact .inl (.inl h3)
        · exact .inr h3
    · rw [g4 x, mem_without, List.mem_cons, not_or]
      exact ⟨fun ⟨⟨h3, h4⟩, h5⟩ => ⟨h3, h4, h5⟩, fun ⟨h3, h4, h5⟩ => ⟨⟨h3, h4⟩, h5⟩⟩
theorem run_rem : ∀ (S a c : List Int) (y : Int), Right a c → S.Nodup → (∀ x, x ∈ S → x ∈ a ∨ x ∈ c) → y ∈ a → y ∉ S → ∃ a' c', runS (S.map (chg 3)) a c = some (a', c') ∧ Right a' c' ∧ (∀ x, x ∈ a' ↔ x ∈ a ∧ x ∉ S) ∧ ∀ x, x ∈ c' ↔ x ∈ c ∧ x ∉ S
  | [], a, c, y, hr, _, _, _, _ => ⟨a, c, rfl, hr, fun x => by simp, fun x => by simp⟩
  | n :: S, a, c, y, hr, hd, h, hy, hyS => by
    have h1 := h n (by simp)
    have hyn : y ≠ n := fun e => hyS (by simp [e])
    have hyS' : y ∉ S := fun e => hyS (List.mem_cons_of_mem _ e)
    obtain ⟨hd1, hd2⟩ := List.nodup_cons.1 hd
    have h2 : ¬ (n ∈ a ∧ a.length = 1) := fun ⟨h3, h4⟩ => by
      obtain ⟨z, rfl⟩ := List.length_eq_one_iff.1 h4
      exact hyn ((List.mem_singleton.1 hy).trans (List.mem_singleton.1 h3).symm)
    have e := applyS_rem hr h1 h2
    obtain ⟨a', c', g1, g2, g3, g4⟩ := run_rem S (a.filter (· != n)) (c.filter (· != n)) y (right_rem hr h2) hd2 (fun x hx => by
      have hxn : x ≠ n := fun e => hd1 (e ▸ hx)
      rcases h x (List.mem_cons_of_mem _ hx) with h3 | h3
      · exact .inl (mem_without.2 ⟨h3, hxn⟩)
      · exact .inr (mem_without.2 ⟨h3, hxn⟩)) (mem_without.2 ⟨hy, hyn⟩) hyS'
    refine ⟨a', c', ?_, g2, fun x => ?_, fun x => ?_⟩
    · simp only [List.map_cons, chg, runS, e, if_true]; exact g1
    · rw [g3 x, mem_without, List.mem_cons, not_or]
      exact ⟨fun ⟨⟨h3, h4⟩, h5⟩ => ⟨h3, h4, h5⟩, fun ⟨h3, h4, h5⟩ => ⟨⟨h3, h4⟩, h5⟩⟩
    · rw [g4 x, mem_without, List.mem_cons, not_or]
      exact ⟨fun ⟨⟨h3, h4⟩, h5⟩ => ⟨h3, h4, h5⟩, fun ⟨h3, h4, h5⟩ => ⟨⟨h3, h4⟩, h5⟩⟩
theorem path_runs {a c f h : List Int} (h1 : Right a c) (h2 : Right f h) : runS (stepsS a c f h) a c = some (f, h) := by
  have nd : ∀ P, (N7.filter P).Nodup := fun P => Rise.nodup (N7_rise.filter P)
  have mA : ∀ x, x ∈ N7.filter (addP a c f h) ↔ (x ∈ f ∨ x ∈ h) ∧ x ∉ a ∧ x ∉ c := fun x => by
    rw [List.mem_filter, mem_N7, addP, Bool.and_eq_true, Bool.or_eq_true, ct, ct, Bool.not_eq_true', Bool.or_eq_false_iff, ← Bool.not_eq_true, ← Bool.not_eq_true, ct, ct]
    exact ⟨fun h => h.2, fun h3 => ⟨h2.ok x h3.1, h3⟩⟩
  have mP : ∀ x, x ∈ N7.filter (proP a f) ↔ x ∈ f ∧ x ∉ a := fun x => by
    rw [List.mem_filter, mem_N7, proP, Bool.and_eq_true, ct, Bool.not_eq_true', ← Bool.not_eq_true, ct]
    exact ⟨fun h => h.2, fun h3 => ⟨h2.ok x (.inl h3.1), h3⟩⟩
  have mR : ∀ x, x ∈ N7.filter (remP a c f h) ↔ ((x ∈ a ∨ x ∈ c) ∧ ¬ (x ∈ f ∨ x ∈ h)) ∨ (x ∈ a ∧ x ∈ h) := fun x => by
    rw [List.mem_filter, mem_N7, remP, Bool.or_eq_true, Bool.and_eq_true, Bool.and_eq_true, Bool.or_eq_true, ct, ct, Bool.not_eq_true', Bool.or_eq_false_iff, ← Bool.not_eq_true, ← Bool.not_eq_true, ct, ct, not_or]
    refine ⟨fun h => h.2, fun h3 => ⟨?_, h3⟩⟩
    rcases h3 with h3 | h3
    · exact h1.ok x h3.1
    · exact h1.ok x (.inl h3.1)
  have mB : ∀ x, x ∈ N7.filter (bakP a h) ↔ x ∈ a ∧ x ∈ h := fun x => by
    rw [List.mem_filter, mem_N7, bakP, Bool.and_eq_true, ct, ct]
    exact ⟨fun h => h.2, fun h3 => ⟨h1.ok x (.inl h3.1), h3⟩⟩
  obtain ⟨c1, r1, R1, q1⟩ := run_add (N7.filter (addP a c f h)) a c h1 (nd _) fun x hx => ⟨h2.ok x ((mA x).1 hx).1, ((mA x).1 hx).2⟩
  obtain ⟨a2, c2, r2, R2, q2, q2'⟩ := run_pro (N7.filter (proP a f)) a c1 R1 (nd _) fun x hx => by
    obtain ⟨h3, h4⟩ := (mP x).1 hx
    rw [q1 x, mA x]
    by_cases h5 : x ∈ c
    · exact .inl h5
    · exact .inr ⟨.inl h3, h4, h5⟩
  obtain ⟨y, hy⟩ : ∃ y, y ∈ f := by
    cases f with
    | nil => exact absurd rfl h2.some
    | cons y l => exact ⟨y, List.mem_cons_self ..⟩
  obtain ⟨a3, c3, r3, R3, q3, q3'⟩ := run_rem (N7.filter (remP a c f h)) a2 c2 y R2 (nd _) (fun x hx => by
      rw [q2 x, q2' x, q1 x, mP x, mA x]
      rcases (mR x).1 hx with ⟨h3 | h3, h4⟩ | ⟨h3, h4⟩
      · exact .inl (.inl h3)
      · exact .inr ⟨.inl h3, fun h5 => h4 (.inl h5.1)⟩
      · exact .inl (.inl h3)) (by
      rw [q2 y, mP y]
      by_cases h3 : y ∈ a
      · exact .inl h3
      · exact .inr ⟨hy, h3⟩) (fun hx => by
      rcases (mR y).1 hx with ⟨_, h4⟩ | ⟨_, h4⟩
      · exact h4 (.inl hy)
      · exact h2.dis y hy h4)
  obtain ⟨c4, r4, R4, q4⟩ := run_add (N7.filter (bakP a h)) a3 c3 R3 (nd _) fun x hx => by
    obtain ⟨h3, h4⟩ := (mB x).1 hx
    refine ⟨h1.ok x (.inl h3), fun h5 => ((q3 x).1 h5).2 ((mR x).2 (.inr ⟨h3, h4⟩)), fun h5 => ((q3' x).1 h5).2 ((mR x).2 (.inr ⟨h3, h4⟩))⟩
  have ea : a3 = f := rise_ext R4.ra h2.ra fun x => by
    rw [q3 x, q2 x, mP x, mR x]
    constructor
    · rintro ⟨h3, h4⟩
      rcases h3 with h3 | h3
      · refine Classical.byContradiction fun h5 => ?_
        by_cases h6 : x ∈ h
        · exact h4 (.inr ⟨h3, h6⟩)
        · exact h4 (.inl ⟨.inl h3, fun h7 => h7.elim h5 h6⟩)
      · exact h3.1
    · intro h3
      refine ⟨?_, fun h4 => ?_⟩
      · by_cases h4 : x ∈ a
        · exact .inl h4
        · exact .inr ⟨h3, h4⟩
      · rcases h4 with ⟨_, h5⟩ | ⟨_, h5⟩
        · exact h5 (.inl h3)
        · exact h2.dis x h3 h5
  have ec : c4 = h := rise_ext R4.rc h2.rc fun x => by
    rw [q4 x, q3' x, q2' x, q1 x, mA x, mP x, mR x, mB x]
    constructor
    · rintro (⟨⟨h3, h4⟩, h5⟩ | h3)
      · rcases h3 with h3 | ⟨h3 | h3, h6⟩
        · refine Classical.byContradiction fun h6 => ?_
          by_cases h7 : x ∈ f
          · exact h4 ⟨h7, fun h8 => h1.dis x h8 h3⟩
          · exact h5 (.inl ⟨.inr h3, fun h8 => h8.elim h7 h6⟩)
        · exact absurd ⟨h3, h6.1⟩ h4
        · exact h3
      · exact h3.2
    · intro h3
      by_cases h4 : x ∈ a
      · exact .inr ⟨h4, h3⟩
      · refine .inl ⟨⟨?_, fun h5 => h2.dis x h5.1 h3⟩, fun h5 => ?_⟩
        · by_cases h5 : x ∈ c
          · exact .inl h5
          · exact .inr ⟨.inr h3, h4, h5⟩
        · rcases h5 with ⟨_, h5⟩ | ⟨h5, _⟩
          · exact h5 (.inr h3)
          · exact h4 h5
  rw [ea, ec] at r4
  rw [ea] at r3
  exact runS_append _ _ _ _ (runS_append _ _ _ _ (runS_append _ _ _ _ r1 r2) r3) r4
theorem steps_len (a c f h : List Int) (_ : Right a c) : (stepsS a c f h).length ≤ 21 := by
  have key : ∀ l : List Int, (l.filter (addP a c f h)).length + (l.filter (bakP a h)).length ≤ l.length := fun l => by
    induction l with
    | nil => simp
    | cons x l ih =>
      have hx : ¬ (addP a c f h x = true ∧ bakP a h x = true) := by
        unfold addP bakP
        cases a.contains x <;> simp
      simp only [List.filter_cons, List.length_cons]
      split <;> split <;> simp_all <;> omega
  have k1 := key N7
  have k2 := List.length_filter_le (proP a f) N7
  have k3 := List.length_filter_le (remP a c f h) N7
  have k4 : N7.length = 7 := rfl
  simp only [stepsS, List.length_append, List.length_map]
  omega
theorem path_self {a c : List Int} (h : Right a c) : stepsS a c a c = [] := by
  have e : ∀ P : Int → Bool, (∀ x, P x = false) → N7.filter P = [] := fun P hP => by rw [List.filter_eq_nil_iff]; intro x _; simp [hP x]
  have dis : ∀ x, (a.contains x && c.contains x) = false := fun x => by
    rw [Bool.and_eq_false_iff, ← Bool.not_eq_true, ← Bool.not_eq_true, ct, ct]
    by_cases hx : x ∈ a
    · exact .inr (h.dis x hx)
    · exact .inl hx
  simp only [stepsS, e (addP a c a c) fun x => by (unfold addP; cases a.contains x <;> cases c.contains x <;> rfl), e (proP a a) fun x => by simp [proP], e (remP a c a c) fun x => by (unfold remP; rw [dis x]; cases a.contains x <;> cases c.contains x <;> rfl), e (bakP a c) dis, List.map_nil, List.append_nil]
/-- The loop over a path. -/
theorem path_rule (j : List Ch) (t u : List Int) {r : List Int × List Int} (h : runS j t u = some r) : j = [] ∧ r = (t, u) ∨ ∃ x l, j = x :: l ∧ (applyS t u x.1 x.2).2 = 0 ∧ runS l (applyS t u x.1 x.2).1.1 (applyS t u x.1 x.2).1.2 = some r := by
  match j, h with
  | [], h => exact .inl ⟨rfl, (Option.some.inj h).symm⟩
  | x :: l, h =>
    simp only [runS] at h
    split at h
    · rename_i h1; exact .inr ⟨x, l, rfl, h1, h⟩
    · cases h
/-- RaftconfPaths. -/
theorem p6_is (a c f h : List Int) (ha' : a.length ≤ 1048576) (hc' : c.length ≤ 1048576) (hf' : f.length ≤ 1048576) (hh' : h.length ≤ 1048576) (hf : 16777216 < fu) : p6 fu ((a, c, ()), (f, h, ()), ()) = some ((), true) := by
  have ha : few a := by unfold few; omega
  have hc : few c := by unfold few; omega
  have hff : few f := by unfold few; omega
  have hh : few h := by unfold few; omega
  simp only [p6, p8_is (fu := fu) (by omega), p22_is (fu := fu) a c f h ha hc hff hh (by omega), p23_is (fu := fu) a c f h ha hc hff hh (by omega), bind_val, outP, Bool.not_true, cond_false, bne_self_eq_false]
  have hjl : (pathS a c f h).1.length ≤ 21 := by
    unfold pathS
    split
    · simp
    · split
      · simp
      · rename_i h1 _
        exact steps_len a c f h ((check_right a c).1 (Classical.byContradiction h1))
  have hrun : (pathS a c f h).2 = 0 → Right a c ∧ runS (pathS a c f h).1 a c = some (f, h) := fun h0 => by
    unfold pathS at h0 ⊢
    split at h0
    · rename_i h1; exact absurd h0 h1
    · split at h0
      · rename_i h2; exact absurd h0 h2
      · rename_i h1 h2
        have r1 := (check_right a c).1 (Classical.byContradiction h1)
        have r2 := (check_right f h).1 (Classical.byContradiction h2)
        rw [if_neg h1, if_neg h2]
        exact ⟨r1, path_runs r1 r2⟩
  generalize pathS a c f h = pp at hjl hrun ⊢
  obtain ⟨j, e⟩ := pp
  dsimp only at hjl hrun ⊢
  refine loop_val (I := fun s => ∃ i : Nat, s = (((i : Int), ()), ()) ∧ i ≤ j.length) (m := fun s => (j.length - Int.toNat s.1.1)) ⟨0, rfl, Nat.zero_le _⟩ (by simp; omega) fun s hs => ?_
  obtain ⟨i, rfl, h1⟩ := hs
  by_cases hlt : i < j.length
  · simp only [Int.ofNat_lt, Int.natCast_nonneg, hlt, decide_true, cond_true, and_self, Int.toNat_natCast, beq_self_eq_true, Bool.and_self, Bool.not_true, cond_false, i64_succ hlt (by omega : j.length ≤ 9223372036854775807)]
    exact ⟨_, rfl, ⟨i + 1, rfl, hlt⟩, by simp only [Int.toNat_natCast]; omega⟩
  · simp only [Int.ofNat_lt, hlt, decide_false, cond_false]
    by_cases he : e = 0
    · subst he
      obtain ⟨r1, hr⟩ := hrun rfl
      simp only [bne_self_eq_false, cond_false, p9_is (fu := fu) a c ha hc, bind_val]
      refine ⟨_, congrArg (Option.map Sum.inr) (?_ : _ = some _), rfl⟩
      refine loop_val (I := fun s => ∃ (i : Nat) (t u : List Int), s = (((i : Int), ()), ((t, u, ()), ())) ∧ i ≤ j.length ∧ few t ∧ few u ∧ runS (j.drop i) t u = some (f, h)) (m := fun s => (j.length - Int.toNat s.1.1)) ⟨0, a, c, rfl, Nat.zero_le _, ha, hc, hr⟩ (by simp; omega) fun s hs => ?_
      obtain ⟨i, t, u, rfl, g1, g2, g3, g4⟩ := hs
      have ht := g2
      have hu := g3
      unfold few at ht hu
      by_cases hlt : i < j.length
      · have hg : j.getD i (dflt T_api_Change) = j[i] := getD_lt hlt
        rw [List.drop_eq_getElem_cons hlt] at g4
        rcases path_rule _ t u g4 with ⟨h5, _⟩ | ⟨x, l, h5, h6, h7⟩
        · cases h5
        · obtain ⟨rfl, rfl⟩ := List.cons.inj h5
          have hright := applyS_right h6
          obtain ⟨n1, n2⟩ := right_few hright
          have hb : ((applyS t u j[i].1 j[i].2).2 != 0) = false := by simpa using h6
          simp only [Int.ofNat_lt, Int.natCast_nonneg, hlt, decide_true, cond_true, and_self, Int.toNat_natCast, hg, p18_is (fu := fu) t u _ _ g2 g3 (by omega), bind_val, outS, hb, cond_false, i64_succ hlt (by omega : j.length ≤ 9223372036854775807)]
          exact ⟨_, rfl, ⟨i + 1, _, _, rfl, hlt, by unfold few; omega, by unfold few; omega, h7⟩, by simp only [Int.toNat_natCast]; omega⟩
      · obtain rfl : i = j.length := by omega
        rw [List.drop_length] at g4
        obtain ⟨rfl, rfl⟩ := Prod.mk.inj (Option.some.inj g4)
        simp only [Int.ofNat_lt, Nat.lt_irrefl, decide_false, cond_false, decide_true, cond_true, p17_is (fu := fu) t u t u g2 g3 (by omega) (by omega), bind_val, Bool.and_self]
        exact ⟨_, rfl, rfl⟩
    · have hb : (e != 0) = true := by simpa using he
      simp only [hb, cond_true]
      exact ⟨_, rfl, rfl⟩
/-- RaftconfSteps. -/
theorem p7_is (a c f h : List Int) (ha' : a.length ≤ 1048576) (hc' : c.length ≤ 1048576) (hf' : f.length ≤ 1048576) (hh' : h.length ≤ 1048576) (hf : 16777216 < fu) : p7 fu ((a, c, ()), (f, h, ()), ()) = some ((), true) := by
  have hm : maxLen = 9223372036854775807 := rfl
  have ha : few a := by unfold few; omega
  have hc : few c := by unfold few; omega
  have hff : few f := by unfold few; omega
  have hh : few h := by unfold few; omega
  simp only [p7, p8_is (fu := fu) (by omega), p22_is (fu := fu) a c f h ha hc hff hh (by omega), p22_is (fu := fu) f h a c hff hh ha hc (by omega), bind_val, outP, Bool.not_true, cond_false]
  by_cases h1 : checkS a c = 0
  · by_cases h2 : checkS f h = 0
    · have r1 := (check_right a c).1 h1
      have r2 := (check_right f h).1 h2
      have l1 := steps_len a c f h r1
      have l2 := steps_len f h a c r2
      have g1 := path_runs r1 r2
      have g2 := path_runs r2 r1
      have e1 : pathS a c f h = (stepsS a c f h, 0) := by simp [pathS, h1, h2]
      have e2 : pathS f h a c = (stepsS f h a c, 0) := by simp [pathS, h1, h2]
      have hself : pathS a c a c = ([], 0) := by simp [pathS, h1, path_self r1]
      have q := p22_is (fu := fu) a c a c ha hc ha hc (by omega)
      rw [hself] at q
      have hrun := runS_append _ _ _ _ g1 g2
      rw [e1, e2]
      generalize stepsS a c f h = j at *
      generalize stepsS f h a c = l at *
      have b1 : j.length ≤ maxLen ∧ j.length * 16 ≤ 140737488355328 := by omega
      have b2 : j.length + l.length ≤ maxLen ∧ (j.length + l.length) * 16 ≤ 140737488355328 := by omega
      simp only [bne_self_eq_false, cond_false, orK_inl, p9_is (fu := fu) a c ha hc, bind_val, List.length_nil, Nat.zero_add, List.nil_append, decide_true, cond_true, b1, b2, and_self]
      have hlen : (j ++ l).length = j.length + l.length := List.length_append
      have hjd : decide ((j.length : Int) ≤ 21) = true := decide_eq_true (by omega)
      refine loop_val (I := fun s => ∃ (i : Nat) (t u : List Int), s = (((i : Int), ()), ((t, u, ()), ())) ∧ i ≤ (j ++ l).length ∧ few t ∧ few u ∧ runS ((j ++ l).drop i) t u = some (a, c)) (m := fun s => ((j ++ l).length - Int.toNat s.1.1)) ⟨0, a, c, rfl, Nat.zero_le _, ha, hc, hrun⟩ (by simp; omega) fun s hs => ?_
      obtain ⟨i, t, u, rfl, y1, y2, y3, y4⟩ := hs
      have ht := y2
      have hu := y3
      unfold few at ht hu
      by_cases hlt : i < (j ++ l).length
      · have hg : (j ++ l).getD i (dflt T_api_Change) = (j ++ l)[i] := getD_lt hlt
        rw [List.drop_eq_getElem_cons hlt] at y4
        rcases path_rule _ t u y4 with ⟨h5, _⟩ | ⟨x, l', h5, h6, h7⟩
        · cases h5
        · obtain ⟨rfl, rfl⟩ := List.cons.inj h5
          have hright := applyS_right h6
          obtain ⟨n1, n2⟩ := right_few hright
          have hb : ((applyS t u (j ++ l)[i].1 (j ++ l)[i].2).2 != 0) = false := by simpa using h6
          have hz : (((applyS t u (j ++ l)[i].1 (j ++ l)[i].2).1.1.length : Nat) : Int) ≠ 0 := by
            have := List.length_pos_iff.2 hright.some
            omega
          have hz' : ((((applyS t u (j ++ l)[i].1 (j ++ l)[i].2).1.1.length : Nat) : Int) == 0) = false := by simpa using hz
          simp only [Int.ofNat_lt, Int.natCast_nonneg, hlt, decide_true, cond_true, and_self, Int.toNat_natCast, hg, p18_is (fu := fu) t u _ _ y2 y3 (by omega), bind_val, outS, hb, cond_false, hz', i64_succ hlt (by omega : (j ++ l).length ≤ 9223372036854775807)]
          exact ⟨_, rfl, ⟨i + 1, _, _, rfl, hlt, by unfold few; omega, by unfold few; omega, h7⟩, by simp only [Int.toNat_natCast]; omega⟩
      · obtain rfl : i = (j ++ l).length := by omega
        rw [List.drop_length] at y4
        obtain ⟨rfl, rfl⟩ := Prod.mk.inj (Option.some.inj y4)
        simp only [Int.ofNat_lt, Nat.lt_irrefl, decide_false, cond_false, cond_true, q, bind_val, outP, p17_is (fu := fu) t u t u y2 y3 (by omega) (by omega), decide_true, Bool.and_self, beq_self_eq_true, List.length_nil, hjd]
        exact ⟨_, rfl, rfl⟩
    · have e1 : pathS a c f h = ([], checkS f h) := by simp [pathS, h1, h2]
      have e2 : pathS f h a c = ([], checkS f h) := by simp [pathS, h2]
      have hb : (checkS f h != 0) = true := by simpa using h2
      have hb2 : (checkS f h == 0) = false := by simpa using h2
      rw [e1, e2]
      simp only [hb, hb2, cond_true, orK_inl]
      rfl
  · have e1 : pathS a c f h = ([], checkS a c) := by simp [pathS, h1]
    have hb : (checkS a c != 0) = true := by simpa using h1
    have hb2 : (checkS a c == 0) = false := by simpa using h1
    have e2 : ∃ e, pathS f h a c = ([], e) ∧ (e == 0) = false := by
      by_cases h2 : checkS f h = 0
      · exact ⟨checkS a c, by simp [pathS, h1, h2], hb2⟩
      · exact ⟨checkS f h, by simp [pathS, h2], by simpa using h2⟩
    obtain ⟨e, e2, e3⟩ := e2
    rw [e1, e2]
    simp only [hb, hb2, e3, cond_true, orK_inl]
    rfl
end
end Go.Proofs.Ytglholedidkbcaa
