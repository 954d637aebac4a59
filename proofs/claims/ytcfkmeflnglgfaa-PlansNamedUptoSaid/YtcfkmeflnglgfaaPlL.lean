/-
  Layer 19: lists that are looked through; which of a plan's nodes are missing.
-/
import Derived.Test.YtcfkmeflnglgfaaPt
import Derived.Test.YtcfkmeflnglgfaaDaP
namespace Go.Proofs.Ytcfkmeflnglgfaa
open Go.RowKit
section
variable {fu : Nat}

theorem take_one {α : Type} (l : List α) (i : Nat) (d : α) (h : i < l.length) : l.take (i + 1) = l.take i ++ [l.getD i d] := by
  rw [getD_lt h]; exact List.take_succ_eq_append_getElem h
theorem take_all {α : Type} (l : List α) : l.take l.length = l := List.take_length
theorem loop_val {S R : Type} {f : S → Option (S ⊕ R)} (I : S → Prop) (m : S → Nat) {n : Nat} {s : S} {r : R} (hI : I s) (hm : m s < n) (h : ∀ s, I s → ∃ o, f s = some o ∧ LStep I m (fun q => q = r) s o) : loopO n f s = some r := by
  obtain ⟨q, e, rfl⟩ := loopO_rule I m (fun q => q = r) h n s hI hm
  exact e
theorem loop_ex {S R X : Type} {f : S → Option (S ⊕ R)} (mk : X → R) (J : X → Prop) (I : S → Prop) (m : S → Nat) {n : Nat} {s : S} (hI : I s) (hm : m s < n) (h : ∀ s, I s → ∃ o, f s = some o ∧ LStep I m (fun q => ∃ x, q = mk x ∧ J x) s o) : ∃ x, loopO n f s = some (mk x) ∧ J x := by
  obtain ⟨q, e, x, rfl, hx⟩ := loopO_rule I m (fun q => ∃ x, q = mk x ∧ J x) h n s hI hm
  exact ⟨x, e, hx⟩
/-- A loop that looks for one. -/
theorem loop_any {X S R : Type} {f : S → Option (S ⊕ R)} : ∀ (l : List X) (mk : Nat → S) (q : X → Bool) (r fin : R), l.length < fu →
    (∀ i (h : i < l.length), f (mk i) = some (bif q l[i] then .inr r else .inl (mk (i + 1)))) → f (mk l.length) = some (.inr fin) → loopO fu f (mk 0) = some (bif l.any q then r else fin) := by
  intro l mk q r fin hf hs he
  have key : ∀ k i n, i + k = l.length → k < n → loopO n f (mk i) = some (bif (l.drop i).any q then r else fin) := by
    intro k
    induction k with
    | zero =>
      intro i n hi hn
      obtain ⟨m, rfl⟩ : ∃ m, n = m + 1 := ⟨n - 1, by omega⟩
      obtain rfl : i = l.length := by omega
      simp only [loopO, he, List.drop_length, List.any_nil, cond_false]
    | succ k ih =>
      intro i n hi hn
      obtain ⟨m, rfl⟩ : ∃ m, n = m + 1 := ⟨n - 1, by omega⟩
      have hlt : i < l.length := by omega
      rw [List.drop_eq_getElem_cons hlt]
      simp only [loopO, hs i hlt, List.any_cons]
      cases q l[i] with
      | true => rfl
      | false => exact ih (i + 1) m (by omega) (by omega)
  exact key l.length 0 fu (by omega) hf
/-- A loop that looks for a place. -/
theorem loop_idx {X S : Type} {f : S → Option (S ⊕ (Unit × Int))} (l : List X) (mk : Nat → S) (q : X → Bool) (hf : l.length < fu)
    (hs : ∀ i (h : i < l.length), f (mk i) = some (bif q l[i] then .inr ((), (i : Int)) else .inl (mk (i + 1)))) (he : f (mk l.length) = some (.inr ((), -1))) :
    ∃ r : Int, loopO fu f (mk 0) = some ((), r) ∧ decide (r ≥ 0) = l.any q := by
  have key : ∀ k i n, i + k = l.length → k < n → ∃ r : Int, loopO n f (mk i) = some ((), r) ∧ decide (r ≥ 0) = (l.drop i).any q := by
    intro k
    induction k with
    | zero =>
      intro i n hi hn
      obtain ⟨m, rfl⟩ : ∃ m, n = m + 1 := ⟨n - 1, by omega⟩
      obtain rfl : i = l.length := by omega
      exact ⟨-1, by simp only [loopO, he], by simp⟩
    | succ k ih =>
      intro i n hi hn
      obtain ⟨m, rfl⟩ : ∃ m, n = m + 1 := ⟨n - 1, by omega⟩
      have hlt : i < l.length := by omega
      rw [List.drop_eq_getElem_cons hlt]
      simp only [loopO, hs i hlt, List.any_cons]
      cases q l[i] with
      | true => exact ⟨i, rfl, by simp⟩
      | false =>
        obtain ⟨r, h1, h2⟩ := ih (i + 1) m (by omega) (by omega)
        exact ⟨r, h1, by simpa using h2⟩
  exact key l.length 0 fu (by omega) hf

/-- Few enough. -/
abbrev few {α : Type} (l : List α) : Prop := l.length ≤ 4194304
theorem few64 {α : Type} {l : List α} (h : few l) : l.length ≤ 9223372036854775807 := by unfold few at h; omega
def hasS (l : List Int) (c : Int) : Bool := l.any (· == c)
def onS (l : List D_api_Site) (g n : Int) : Bool := l.any fun x => x.1 == g && x.2 == n
theorem hasS_eq (l : List Int) (c : Int) : l.any (c == ·) = hasS l c := by
  unfold hasS; congr 1; funext x; exact Bool.eq_iff_iff.2 ⟨fun h => by simpa using (beq_iff_eq.1 h).symm, fun h => by simpa using (beq_iff_eq.1 h).symm⟩
theorem onS_eq (l : List D_api_Site) (g n : Int) : l.any (fun x => g == x.1 && (n == x.2 && true)) = onS l g n := by
  unfold onS; congr 1; funext x
  rw [Bool.and_true, Bool.eq_iff_iff]
  simp only [Bool.and_eq_true, beq_iff_eq]
  exact ⟨fun ⟨h1, h2⟩ => ⟨h1.symm, h2.symm⟩, fun ⟨h1, h2⟩ => ⟨h1.symm, h2.symm⟩⟩
theorem hasS_mem {l : List Int} {c : Int} : hasS l c = true ↔ c ∈ l := by
  unfold hasS
  rw [List.any_eq_true]
  constructor
  · rintro ⟨x, h1, h2⟩; rw [← beq_iff_eq.1 h2]; exact h1
  · intro h; exact ⟨c, h, by simp⟩
theorem onS_mem {l : List D_api_Site} {g n : Int} : onS l g n = true ↔ (g, n) ∈ l := by
  unfold onS
  rw [List.any_eq_true]
  constructor
  · rintro ⟨⟨x, y⟩, h1, h2⟩
    simp only [Bool.and_eq_true, beq_iff_eq] at h2
    obtain ⟨rfl, rfl⟩ := h2
    exact h1
  · intro h; exact ⟨(g, n), h, by simp⟩
theorem p38_is (l : List Int) (c : Int) (hl : few l) (hf : l.length < fu) : p38 fu (l, c, ()) = some ((), hasS l c) := by
  have : ∃ r : Int, p45 fu (l, c, ()) = some ((), r) ∧ decide (r ≥ 0) = l.any (c == ·) := by
    unfold p45
    refine loop_idx l (fun i => (((i : Int), ()), ())) (c == ·) hf (fun i h => ?_) ?_
    · simp only [Int.ofNat_lt, Int.natCast_nonneg, h, decide_true, cond_true, and_self, Int.toNat_natCast, getD_lt h, i64_succ h (few64 hl)]
      cases (c == l[i]) <;> rfl
    · simp only [Int.ofNat_lt, Nat.lt_irrefl, decide_false, cond_false]; rfl
  obtain ⟨r, h1, h2⟩ := this
  rw [← hasS_eq, ← h2]
  simp only [p38, h1, bind_val]
theorem p49_is (l : List Int) (c : Int) (hl : few l) (hf : l.length < fu) : p49 fu (l, c, ()) = some ((), hasS l c) := by
  have : ∃ r : Int, p53 fu (l, c, ()) = some ((), r) ∧ decide (r ≥ 0) = l.any (c == ·) := by
    unfold p53
    refine loop_idx l (fun i => (((i : Int), ()), ())) (c == ·) hf (fun i h => ?_) ?_
    · simp only [Int.ofNat_lt, Int.natCast_nonneg, h, decide_true, cond_true, and_self, Int.toNat_natCast, getD_lt h, i64_succ h (few64 hl)]
      cases (c == l[i]) <;> rfl
    · simp only [Int.ofNat_lt, Nat.lt_irrefl, decide_false, cond_false]; rfl
  obtain ⟨r, h1, h2⟩ := this
  rw [← hasS_eq, ← h2]
  simp only [p49, h1, bind_val]
theorem p43_is (l : List D_api_Site) (g n : Int) (hl : few l) (hf : l.length < fu) : p43 fu (l, (g, n, ()), ()) = some ((), onS l g n) := by
  have : ∃ r : Int, p50 fu (l, (g, n, ()), ()) = some ((), r) ∧ decide (r ≥ 0) = l.any (fun x => g == x.1 && (n == x.2 && true)) := by
    unfold p50
    refine loop_idx l (fun i => (((i : Int), ()), ())) (fun x => g == x.1 && (n == x.2 && true)) hf (fun i h => ?_) ?_
    · simp only [Int.ofNat_lt, Int.natCast_nonneg, h, decide_true, cond_true, and_self, Int.toNat_natCast, getD_lt h, i64_succ h (few64 hl)]
      cases (g == l[i].1 && (n == l[i].2 && true)) <;> rfl
    · simp only [Int.ofNat_lt, Nat.lt_irrefl, decide_false, cond_false]; rfl
  obtain ⟨r, h1, h2⟩ := this
  rw [← onS_eq, ← h2]
  simp only [p43, h1, bind_val]
theorem bif_tf (b : Bool) : (bif b then true else false) = b := by cases b <;> rfl
theorem p35_is (l : List Int) (c : Int) (hl : few l) (hf : l.length < fu) : p35 fu (l, c, ()) = some ((), hasS l c) := by
  have : p35 fu (l, c, ()) = some (bif l.any (· == c) then ((), true) else ((), false)) := by
    unfold p35
    refine loop_any l (fun i => (((i : Int), ()), ())) (· == c) _ _ hf (fun i h => ?_) ?_
    · simp only [Int.ofNat_lt, Int.natCast_nonneg, h, decide_true, cond_true, and_self, Int.toNat_natCast, getD_lt h, i64_succ h (few64 hl)]
      cases (l[i] == c) <;> rfl
    · simp only [Int.ofNat_lt, Nat.lt_irrefl, decide_false, cond_false]; rfl
  rw [this]
  show _ = some ((), l.any (· == c))
  cases l.any (· == c) <;> rfl
theorem p21_is (l : List Int) (s t : List D_api_Site) (u w : List Int) (x : Int) (y : Bool) (c : Int) (hl : few l) (hf : l.length < fu) : p21 fu ((l, s, t, u, w, x, y, ()), c, ()) = some ((), hasS l c) := by
  have : p21 fu ((l, s, t, u, w, x, y, ()), c, ()) = some (bif l.any (· == c) then ((), true) else ((), false)) := by
    unfold p21
    refine loop_any l (fun i => (((i : Int), ()), ())) (· == c) _ _ hf (fun i h => ?_) ?_
    · simp only [Int.ofNat_lt, Int.natCast_nonneg, h, decide_true, cond_true, and_self, Int.toNat_natCast, getD_lt h, i64_succ h (few64 hl)]
      cases (l[i] == c) <;> rfl
    · simp only [Int.ofNat_lt, Nat.lt_irrefl, decide_false, cond_false]; rfl
  rw [this]
  show _ = some ((), l.any (· == c))
  cases l.any (· == c) <;> rfl
theorem p36_is (l : List D_api_Site) (g n : Int) (hl : few l) (hf : l.length < fu) : p36 fu (l, g, n, ()) = some ((), onS l g n) := by
  have : p36 fu (l, g, n, ()) = some (bif l.any (fun x => x.1 == g && x.2 == n) then ((), true) else ((), false)) := by
    unfold p36
    refine loop_any l (fun i => (((i : Int), ()), ())) (fun x => x.1 == g && x.2 == n) _ _ hf (fun i h => ?_) ?_
    · simp only [Int.ofNat_lt, Int.natCast_nonneg, h, decide_true, cond_true, and_self, Int.toNat_natCast, getD_lt h, i64_succ h (few64 hl)]
      cases (l[i].1 == g) <;> cases (l[i].2 == n) <;> rfl
    · simp only [Int.ofNat_lt, Nat.lt_irrefl, decide_false, cond_false]; rfl
  rw [this]
  show _ = some ((), l.any fun x => x.1 == g && x.2 == n)
  cases l.any fun x => x.1 == g && x.2 == n <;> rfl

/-- A node in its place. -/
def okAt (l : List Int) (j : Nat) : Bool := decide (1 ≤ l.getD j 0 ∧ l.getD j 0 ≤ 7 ∧ (0 < j → l.getD (j - 1) 0 < l.getD j 0))
/-- Nodes that may be, in order. -/
def upS (l : List Int) : Bool := !(List.range l.length).any fun j => !okAt l j
def nodesS (l : List Int) : Bool := decide (1 ≤ l.length ∧ l.length ≤ 7) && upS l
def stepsN (c : Int) : Int := if c = 1 then 4 else if c = 2 ∨ c = 3 then 5 else 0
/-- A plan. -/
def planS (c : Int) (k l : List Int) (o : Int) : Bool := decide (0 ≤ o ∧ o < stepsN c) && nodesS l && decide ((k.length : Int) = 3 - c)
theorem p12_is (c : Int) : p12 fu (c, ()) = some ((), stepsN c) := by
  unfold p12 stepsN
  by_cases h1 : c = 1
  · subst h1; rfl
  · by_cases h2 : c = 2
    · subst h2; rfl
    · by_cases h3 : c = 3
      · subst h3; rfl
      · have b1 : (c == 1) = false := by simpa using h1
        have b2 : (c == 2) = false := by simpa using h2
        have b3 : (c == 3) = false := by simpa using h3
        simp only [b1, b2, b3, cond_false, h1, h2, h3, or_self, if_false]
theorem p18_is (c : Int) : p18 fu (c, ()) = some ((), stepsN c) := by
  unfold p18 stepsN
  by_cases h1 : c = 1
  · subst h1; rfl
  · by_cases h2 : c = 2
    · subst h2; rfl
    · by_cases h3 : c = 3
      · subst h3; rfl
      · have b1 : (c == 1) = false := by simpa using h1
        have b2 : (c == 2) = false := by simpa using h2
        have b3 : (c == 3) = false := by simpa using h3
        simp only [b1, b2, b3, cond_false, h1, h2, h3, or_self, if_false]
theorem stepsN_kind {c : Int} (h : 0 < stepsN c) : c = 1 ∨ c = 2 ∨ c = 3 := by
  unfold stepsN at h
  split at h
  · exact .inl ‹_›
  · split at h
    · rename_i h2; exact .inr h2
    · omega
theorem up_step (l : List Int) (i : Nat) (h : i < l.length) (h7 : l.length ≤ 7) {R S : Type} (no : R) (go : S) :
    (bif decide (l.getD i (dflt (.int .i64)) < (1 : Int)) then some (.inr no) else bif decide (l.getD i (dflt (.int .i64)) > (7 : Int)) then some (.inr no) else bif decide ((i : Int) > (0 : Int)) then
      (bif decide ((0 : Int) ≤ IntKind.wrap .i64 ((i : Int) - (1 : Int)) ∧ IntKind.wrap .i64 ((i : Int) - (1 : Int)) < (l.length : Int)) then
        (bif decide (Int.toNat (IntKind.wrap .i64 ((i : Int) - (1 : Int))) < l.length) then
          (bif decide (l.getD (Int.toNat (IntKind.wrap .i64 ((i : Int) - (1 : Int)))) (dflt (.int .i64)) ≥ l.getD i (dflt (.int .i64))) then some (.inr no) else some (.inl go)) else none) else none) else some (.inl go) : Option (S ⊕ R)) =
    some (bif !okAt l i then .inr no else .inl go) := by
  have e : ∀ j, l.getD j (dflt (.int .i64)) = l.getD j 0 := fun _ => rfl
  simp only [e]
  by_cases h1 : l.getD i 0 < 1
  · have : okAt l i = false := decide_eq_false fun k => by omega
    simp only [h1, decide_true, cond_true, this, Bool.not_false]
  · simp only [h1, decide_false, cond_false]
    by_cases h2 : l.getD i 0 > 7
    · have : okAt l i = false := decide_eq_false fun k => by omega
      simp only [h2, decide_true, cond_true, this, Bool.not_false]
    · simp only [h2, decide_false, cond_false]
      by_cases h3 : 0 < i
      · have hi : (i : Int) > 0 := by omega
        have hp : IntKind.wrap .i64 ((i : Int) - (1 : Int)) = ((i - 1 : Nat) : Int) := i64_pred h3 (by omega)
        have hlt : ((i - 1 : Nat) : Int) < (l.length : Int) := by omega
        have hlt' : i - 1 < l.length := by omega
        simp only [hi, decide_true, cond_true, hp, Int.natCast_nonneg, hlt, and_self, Int.toNat_natCast, hlt']
        by_cases h4 : l.getD (i - 1) 0 ≥ l.getD i 0
        · have : okAt l i = false := decide_eq_false fun k => by have := k.2.2 h3; omega
          simp only [h4, decide_true, cond_true, this, Bool.not_false]
        · have : okAt l i = true := decide_eq_true ⟨by omega, by omega, fun _ => by omega⟩
          simp only [h4, decide_false, cond_false, this, Bool.not_true]
      · have hi : ¬ (i : Int) > 0 := by omega
        have : okAt l i = true := decide_eq_true ⟨by omega, by omega, fun h => absurd h h3⟩
        simp only [hi, decide_false, cond_false, this, Bool.not_true]
theorem p15_is (a : Int) (c : Int) (f : ByteArray) (h i : Int) (j : ByteArray) (k l : List Int) (m n o : Int) (hl : few l) (hf : 10 < fu) : p15 fu ((a, c, f, h, i, j, k, l, m, n, o, ()), ()) = some ((), planS c k l o) := by
  simp only [p15, p12_is, bind_val]
  unfold planS nodesS
  by_cases h1 : o < 0
  · have : ¬ (0 ≤ o ∧ o < stepsN c) := by omega
    simp only [h1, decide_true, cond_true, this, decide_false, Bool.false_and]
  · simp only [h1, decide_false, cond_false]
    by_cases h2 : o ≥ stepsN c
    · have : ¬ (0 ≤ o ∧ o < stepsN c) := by omega
      simp only [h2, decide_true, cond_true, this, decide_false, Bool.false_and]
    · have : 0 ≤ o ∧ o < stepsN c := by omega
      simp only [h2, decide_false, cond_false, this, and_self, decide_true, Bool.true_and]
      by_cases h3 : (l.length : Int) < 1
      · have : ¬ (1 ≤ l.length ∧ l.length ≤ 7) := by omega
        simp only [h3, decide_true, cond_true, this, decide_false, Bool.false_and]
      · simp only [h3, decide_false, cond_false]
        by_cases h4 : (l.length : Int) > 7
        · have : ¬ (1 ≤ l.length ∧ l.length ≤ 7) := by omega
          simp only [h4, decide_true, cond_true, this, decide_false, Bool.false_and]
        · have h5 : 1 ≤ l.length ∧ l.length ≤ 7 := by omega
          simp only [h4, decide_false, cond_false, h5, and_self, decide_true, Bool.true_and]
          have hk := stepsN_kind (c := c) (by omega)
          have hw : IntKind.wrap .i64 ((3 : Int) - c) = 3 - c := i64_wrap (by omega) (by omega)
          have hr : some ((), upS l && decide ((k.length : Int) = 3 - c)) = some (bif (List.range l.length).any (fun j => !okAt l j) then ((), false) else ((), decide ((k.length : Int) = 3 - c))) := by
            unfold upS
            cases (List.range l.length).any fun j => !okAt l j <;> rfl
          rw [hr]
          refine loop_any (List.range l.length) (fun i => (((i : Int), ()), ())) (fun j => !okAt l j) ((), false) ((), decide ((k.length : Int) = 3 - c)) (by simpa using (by omega : l.length < fu)) (fun i hi => ?_) ?_
          · have hi' : i < l.length := by simpa using hi
            simp only [Int.ofNat_lt, Int.natCast_nonneg, hi', decide_true, cond_true, and_self, Int.toNat_natCast, i64_succ hi' (few64 hl), List.getElem_range]
            exact up_step l i hi' h5.2 ((), false) ((((i + 1 : Nat) : Int), ()), ())
          · simp only [List.length_range, Int.ofNat_lt, Nat.lt_irrefl, decide_false, cond_false, hw]
            rfl
theorem p34_is (l : List Int) (hl : few l) (hf : 10 < fu) : p34 fu (l, ()) = some ((), nodesS l) := by
  simp only [p34]
  unfold nodesS
  by_cases h3 : (l.length : Int) < 1
  · have : ¬ (1 ≤ l.length ∧ l.length ≤ 7) := by omega
    simp only [h3, decide_true, cond_true, this, decide_false, Bool.false_and]
  · simp only [h3, decide_false, cond_false]
    by_cases h4 : (l.length : Int) > 7
    · have : ¬ (1 ≤ l.length ∧ l.length ≤ 7) := by omega
      simp only [h4, decide_true, cond_true, this, decide_false, Bool.false_and]
    · have h5 : 1 ≤ l.length ∧ l.length ≤ 7 := by omega
      simp only [h4, decide_false, cond_false, h5, and_self, decide_true, Bool.true_and]
      have hr : some ((), upS l) = some (bif (List.range l.length).any (fun j => !okAt l j) then ((), false) else ((), true)) := by
        unfold upS
        cases (List.range l.length).any fun j => !okAt l j <;> rfl
      rw [hr]
      refine loop_any (List.range l.length) (fun i => (((i : Int), ()), ())) (fun j => !okAt l j) ((), false) ((), true) (by simpa using (by omega : l.length < fu)) (fun i hi => ?_) ?_
      · have hi' : i < l.length := by simpa using hi
        simp only [Int.ofNat_lt, Int.natCast_nonneg, hi', decide_true, cond_true, and_self, Int.toNat_natCast, i64_succ hi' (few64 hl), List.getElem_range]
        exact up_step l i hi' h5.2 ((), false) ((((i + 1 : Nat) : Int), ()), ())
      · simp only [List.length_range, Int.ofNat_lt, Nat.lt_irrefl, decide_false, cond_false]
        rfl
/-- The document's Is. -/
theorem p17_is (a : Int) (c : Int) (f : ByteArray) (h i : Int) (j : ByteArray) (k l : List Int) (m n o : Int) (hl : few l) (hf : 10 < fu) : p17 fu ((a, c, f, h, i, j, k, l, m, n, o, ()), ()) = some ((), planS c k l o) := by
  simp only [p17, p34_is l hl hf, p18_is, bind_val]
  unfold planS
  by_cases h0 : 0 < stepsN c
  · have hk := stepsN_kind h0
    have hw1 : IntKind.wrap .i64 (c - (1 : Int)) = c - 1 := i64_wrap (by omega) (by omega)
    have hw2 : IntKind.wrap .i64 ((2 : Int) - (c - 1)) = 3 - c := by rw [i64_wrap (by omega) (by omega)]; omega
    have hg : stepsN c > 0 := h0
    simp only [hg, decide_true, cond_true, hw1, hw2]
    by_cases h1 : o ≥ 0
    · by_cases h2 : o < stepsN c
      · have h3 : 0 ≤ o ∧ o < stepsN c := ⟨h1, h2⟩
        simp only [h1, h2, decide_true, cond_true, and_self, Bool.true_and]
        cases nodesS l <;> rfl
      · have h3 : ¬ (0 ≤ o ∧ o < stepsN c) := by omega
        rw [decide_eq_false h3]
        simp only [h1, h2, decide_true, decide_false, cond_true, cond_false, Bool.false_and]
    · have h3 : ¬ (0 ≤ o ∧ o < stepsN c) := by omega
      rw [decide_eq_false h3]
      simp only [h1, decide_false, cond_false, Bool.false_and]
  · have h3 : ¬ (0 ≤ o ∧ o < stepsN c) := by omega
    have hg : ¬ stepsN c > 0 := h0
    simp only [hg, h3, decide_false, cond_false, Bool.false_and]
end
section
variable {fu : Nat}

def actS (k g n : Int) : D_api_Action := (k, g, n, 0, 0, 0)
def stepA (o : Int) : D_api_Action := (4, 0, 0, o, 0, 0)
def chgA (g k n : Int) : D_api_Action := (6, g, 0, 0, k, n)
/-- The plan's nodes on which a group is not. -/
def missS (nodes : List Int) (s : List D_api_Site) (g : Int) : List Int := nodes.filter fun n => !onS s g n
def mostS (nodes : List Int) (s : List D_api_Site) (g : Int) : Bool := decide (nodes.length < 2 * (nodes.length - (missS nodes s g).length))
/-- Groups on nodes. -/
def pairs (groups nodes : List Int) : List (Int × Int) := groups.flatMap fun g => nodes.map fun n => (g, n)
def restS (kind : Int) (P : List (Int × Int)) (s : List D_api_Site) : List D_api_Action := (P.filter fun p => !onS s p.1 p.2).map fun p => actS kind p.1 p.2
def sitesS (groups nodes : List Int) (s : List D_api_Site) (kind o : Int) : List D_api_Action := (if groups.all (mostS nodes s) then [stepA o] else []) ++ restS kind (pairs groups nodes) s
def freezeS (q : List Int) (g o : Int) : List D_api_Action := if hasS q g then [stepA o] else [actS 2 g 0]
theorem missS_len (nodes : List Int) (s : List D_api_Site) (g : Int) : (missS nodes s g).length ≤ nodes.length := List.length_filter_le _ _
theorem rest_snoc (kind g : Int) (G nodes : List Int) (s : List D_api_Site) : restS kind (pairs (G ++ [g]) nodes) s = restS kind (pairs G nodes) s ++ (missS nodes s g).map (actS kind g) := by
  unfold restS pairs missS
  rw [List.flatMap_append, List.filter_append, List.map_append]
  congr 1
  simp only [List.flatMap_cons, List.flatMap_nil, List.append_nil, List.filter_map, List.map_map]
  rfl
theorem pairs_len (G nodes : List Int) : (pairs G nodes).length = G.length * nodes.length := by
  unfold pairs
  induction G with
  | nil => simp
  | cons g G ih => simp only [List.flatMap_cons, List.length_append, List.length_map, ih, List.length_cons, Nat.add_mul]; omega
theorem rest_len (kind : Int) (P : List (Int × Int)) (s : List D_api_Site) : (restS kind P s).length ≤ P.length := by
  unfold restS; rw [List.length_map]; exact List.length_filter_le _ _
section
variable (a c : Int) (f : ByteArray) (h i : Int) (j : ByteArray) (k l : List Int) (m n o : Int) (q : List Int) (s t : List D_api_Site) (u w : List Int) (x : Int) (y : Bool)
theorem p24_is (b : Bool) : p24 fu ((a, c, f, h, i, j, k, l, m, n, o, q, s, t, u, w, x, y, ()), b, ()) = some ((), if b then [stepA o] else []) := by
  cases b <;> rfl
theorem p26_is (z : Int) (hq : few q) (hf : q.length < fu) : p26 fu ((a, c, f, h, i, j, k, l, m, n, o, q, s, t, u, w, x, y, ()), z, ()) = some ((), freezeS q z o) := by
  simp only [p26, p38_is (fu := fu) q z hq hf, bind_val, p24_is, decide_true, cond_true]
  unfold freezeS
  cases hasS q z <;> rfl
theorem p47_is (z : List D_api_Site) (g : Int) (hl : few l) (hz : few z) (hf : l.length < fu) (hf2 : z.length < fu) : p47 fu ((a, c, f, h, i, j, k, l, m, n, o, q, s, t, u, w, x, y, ()), z, g, ()) = some ((), missS l z g) := by
  have hm : maxLen = 9223372036854775807 := rfl
  have hl' := hl
  unfold few at hl'
  simp only [p47]
  refine loop_val (I := fun st => ∃ e : Nat, st = ((missS (l.take e) z g, (e : Int), ()), ()) ∧ e ≤ l.length) (m := fun st => (l.length - Int.toNat st.1.2.1)) ⟨0, by simp [missS], Nat.zero_le _⟩ (by simpa using hf) fun st hs => ?_
  obtain ⟨e, rfl, he⟩ := hs
  by_cases hlt : e < l.length
  · have hml : (missS (l.take e) z g).length ≤ l.length := Nat.le_trans (missS_len _ _ _) (by rw [List.length_take]; omega)
    have hb : (missS (l.take e) z g).length + 1 ≤ maxLen ∧ ((missS (l.take e) z g).length + 1) * 8 ≤ 140737488355328 := by omega
    refine ⟨.inl _, ?_, ⟨e + 1, rfl, hlt⟩, by simp only [Int.toNat_natCast]; omega⟩
    have hst : missS (l.take (e + 1)) z g = (bif !onS z g (l.getD e (dflt (.int .i64))) then missS (l.take e) z g ++ [l.getD e (dflt (.int .i64))] else missS (l.take e) z g) := by
      unfold missS
      rw [take_one l e (dflt (.int .i64)) hlt, List.filter_append, List.filter_cons]
      cases onS z g (l.getD e (dflt (.int .i64))) <;> simp
    rw [hst]
    simp only [Int.ofNat_lt, Int.natCast_nonneg, hlt, decide_true, cond_true, and_self, Int.toNat_natCast, p43_is (fu := fu) z g _ hz hf2, bind_val, List.length_singleton, hb, i64_succ hlt (few64 hl)]
    cases !onS z g (l.getD e (dflt (.int .i64))) <;> rfl
  · obtain rfl : e = l.length := by omega
    simp only [Int.ofNat_lt, Nat.lt_irrefl, decide_false, cond_false, decide_true, cond_true, take_all]
    exact ⟨_, rfl, rfl⟩
theorem p46_is (z : List D_api_Site) (g : Int) (hl : few l) (hz : few z) (hf : l.length < fu) (hf2 : z.length < fu) : p46 fu ((a, c, f, h, i, j, k, l, m, n, o, q, s, t, u, w, x, y, ()), z, g, ()) = some ((), mostS l z g) := by
  have hm := missS_len l z g
  have hl' := hl
  unfold few at hl'
  have e1 : IntKind.wrap .i64 ((l.length : Int) - ((missS l z g).length : Int)) = ((l.length - (missS l z g).length : Nat) : Int) := by rw [i64_wrap (by omega) (by omega)]; omega
  have e2 : IntKind.wrap .i64 ((2 : Int) * ((l.length - (missS l z g).length : Nat) : Int)) = ((2 * (l.length - (missS l z g).length) : Nat) : Int) := by rw [i64_wrap (by omega) (by omega)]; omega
  simp only [p46, p47_is (fu := fu) a c f h i j k l m n o q s t u w x y z g hl hz hf hf2, bind_val, e1, e2]
  unfold mostS
  congr 2
  exact decide_eq_decide.2 (by omega)
theorem all_snoc (G : List Int) (g : Int) (p : Int → Bool) : (G ++ [g]).all p = (G.all p && p g) := by simp
theorem p39_is (kind : Int) (z : List D_api_Site) (G : List Int) (hl : l.length ≤ 7) (hz : few z) (hG : G.length ≤ 1000) (hf : 10000 < fu) (hf2 : z.length < fu) : p39 fu ((a, c, f, h, i, j, k, l, m, n, o, q, s, t, u, w, x, y, ()), kind, z, G, ()) = some ((), sitesS G l z kind o) := by
  have hm : maxLen = 9223372036854775807 := rfl
  have hfl : few l := by unfold few; omega
  simp only [p39]
  refine loop_val (I := fun st => ∃ e : Nat, st = (((G.take e).all (mostS l z), restS kind (pairs (G.take e) l) z, (e : Int), ()), ()) ∧ e ≤ G.length) (m := fun st => (G.length - Int.toNat st.1.2.2.1)) ⟨0, by simp [pairs, restS], Nat.zero_le _⟩ (by simp; omega) fun st hs => ?_
  obtain ⟨e, rfl, he⟩ := hs
  have hrl : (restS kind (pairs (G.take e) l) z).length ≤ 7000 := by
    refine Nat.le_trans (rest_len _ _ _) ?_
    rw [pairs_len, List.length_take]
    have := Nat.mul_le_mul (show min e G.length ≤ 1000 by omega) hl
    omega
  by_cases hlt : e < G.length
  · have ht := take_one G e (dflt (.int .u64)) hlt
    refine ⟨.inl _, ?_, ⟨e + 1, rfl, hlt⟩, by simp only [Int.toNat_natCast]; omega⟩
    rw [ht, all_snoc, rest_snoc]
    simp only [Int.ofNat_lt, Int.natCast_nonneg, hlt, decide_true, cond_true, and_self, Int.toNat_natCast, p46_is (fu := fu) a c f h i j k l m n o q s t u w x y z _ hfl hz (by omega) hf2, p47_is (fu := fu) a c f h i j k l m n o q s t u w x y z _ hfl hz (by omega) hf2, bind_val, i64_succ hlt (by omega : G.length ≤ 9223372036854775807)]
    generalize G.getD e (dflt (.int .u64)) = g
    have hml := missS_len l z g
    cases (G.take e).all (mostS l z) <;> simp only [cond_true, cond_false, orK_inl, Bool.true_and, Bool.false_and]
    all_goals
      refine loop_val (I := fun st => ∃ e2 : Nat, st = ((restS kind (pairs (G.take e) l) z ++ ((missS l z g).take e2).map (actS kind g), (e2 : Int), ()), ()) ∧ e2 ≤ (missS l z g).length) (m := fun st => ((missS l z g).length - Int.toNat st.1.2.1)) ⟨0, by simp, Nat.zero_le _⟩ (by simp; omega) fun st hs => ?_
      obtain ⟨e2, rfl, he2⟩ := hs
      by_cases hlt2 : e2 < (missS l z g).length
      · have hb : (restS kind (pairs (G.take e) l) z).length + min e2 (missS l z g).length + 1 ≤ maxLen ∧ ((restS kind (pairs (G.take e) l) z).length + min e2 (missS l z g).length + 1) * 48 ≤ 140737488355328 := by omega
        refine ⟨.inl _, ?_, ⟨e2 + 1, rfl, hlt2⟩, by simp only [Int.toNat_natCast]; omega⟩
        rw [take_one _ e2 (dflt (.int .i64)) hlt2, List.map_append, ← List.append_assoc]
        simp only [Int.ofNat_lt, Int.natCast_nonneg, hlt2, decide_true, cond_true, and_self, Int.toNat_natCast, List.length_append, List.length_map, List.length_take, List.length_singleton, hb, i64_succ hlt2 (by omega : (missS l z g).length ≤ 9223372036854775807)]
        rfl
      · obtain rfl : e2 = (missS l z g).length := by omega
        simp only [Int.ofNat_lt, Nat.lt_irrefl, decide_false, cond_false, take_all]
        exact ⟨_, rfl, rfl⟩
  · obtain rfl : e = G.length := by omega
    rw [take_all] at hrl
    have hb : ∀ b : Bool, (if b = true then [stepA o] else []).length + (restS kind (pairs G l) z).length ≤ maxLen ∧ ((if b = true then [stepA o] else []).length + (restS kind (pairs G l) z).length) * 48 ≤ 140737488355328 := fun b => by
      cases b <;> simp <;> omega
    simp only [Int.ofNat_lt, Nat.lt_irrefl, decide_false, cond_false, decide_true, cond_true, take_all, p24_is, bind_val, hb, and_self]
    exact ⟨_, rfl, rfl⟩
theorem p40_is (hc : c = 1 ∨ c = 2) : p40 fu ((a, c, f, h, i, j, k, l, m, n, o, q, s, t, u, w, x, y, ()), ()) = some ((), if c = 2 then [h, i] else [h]) := by
  rcases hc with rfl | rfl <;> rfl
theorem p41_is (z : Int) (hu : few u) (hf : u.length < fu) : p41 fu ((a, c, f, h, i, j, k, l, m, n, o, q, s, t, u, w, x, y, ()), z, ()) = some ((), hasS u z) := by
  simp only [p41, p49_is (fu := fu) u z hu hf, bind_val]
theorem p42_is (z : Int) (hw : few w) (hf : w.length < fu) : p42 fu ((a, c, f, h, i, j, k, l, m, n, o, q, s, t, u, w, x, y, ()), z, ()) = some ((), hasS w z) := by
  simp only [p42, p49_is (fu := fu) w z hw hf, bind_val]
theorem p44_is (z1 z2 : Int) : p44 fu ((a, c, f, h, i, j, k, l, m, n, o, q, s, t, u, w, x, y, ()), z1, z2, ()) = some ((), [chgA h z1 z2]) := rfl
/-- The steps of a mover. -/
def learnS : List D_api_Action := if hasS u n || hasS w n then [stepA o] else if onS s h n then [chgA h 1 n] else [actS 3 h n]
def promS : List D_api_Action := if hasS u n then [stepA o] else if hasS w n && y then [chgA h 2 n] else [actS 1 0 0]
def remvS : List D_api_Action := if !(hasS u m || hasS w m) then [stepA o] else if x = m then [actS 7 h n] else [chgA h 3 m]
def leavS : List D_api_Action := if onS t h m then [stepA o] else [actS 5 h m]
theorem p30_is (hs : few s) (hu : few u) (hw : few w) (hf : 4194304 < fu) : p30 fu ((a, c, f, h, i, j, k, l, m, n, o, q, s, t, u, w, x, y, ()), ()) = some ((), learnS h n o s u w) := by
  unfold few at *
  simp only [p30, p41_is (fu := fu) a c f h i j k l m n o q s t u w x y n hu (by omega), p42_is (fu := fu) a c f h i j k l m n o q s t u w x y n hw (by omega), p43_is (fu := fu) s h n hs (by omega), p44_is, p24_is, bind_val, decide_true, cond_true]
  unfold learnS
  cases hasS u n <;> cases hasS w n <;> cases onS s h n <;> rfl
theorem p31_is (hu : few u) (hw : few w) (hf : 4194304 < fu) : p31 fu ((a, c, f, h, i, j, k, l, m, n, o, q, s, t, u, w, x, y, ()), ()) = some ((), promS h n o u w y) := by
  unfold few at *
  simp only [p31, p41_is (fu := fu) a c f h i j k l m n o q s t u w x y n hu (by omega), p42_is (fu := fu) a c f h i j k l m n o q s t u w x y n hw (by omega), p44_is, p24_is, bind_val, decide_true, cond_true]
  unfold promS
  cases hasS u n <;> cases hasS w n <;> cases y <;> rfl
theorem p32_is (hu : few u) (hw : few w) (hf : 4194304 < fu) : p32 fu ((a, c, f, h, i, j, k, l, m, n, o, q, s, t, u, w, x, y, ()), ()) = some ((), remvS h m n o u w x) := by
  unfold few at *
  simp only [p32, p41_is (fu := fu) a c f h i j k l m n o q s t u w x y m hu (by omega), p42_is (fu := fu) a c f h i j k l m n o q s t u w x y m hw (by omega), p44_is, p24_is, bind_val, decide_true, cond_true]
  unfold remvS
  by_cases hx : x = m
  · subst hx
    simp only [beq_self_eq_true]
    cases hasS u x <;> cases hasS w x <;> simp [orK_inl, actS]
  · have hb : (x == m) = false := by simpa using hx
    simp only [hb]
    cases hasS u m <;> cases hasS w m <;> simp [orK_inl, hx, chgA]
theorem p33_is (ht : few t) (hf : 4194304 < fu) : p33 fu ((a, c, f, h, i, j, k, l, m, n, o, q, s, t, u, w, x, y, ()), ()) = some ((), leavS h m o t) := by
  unfold few at *
  simp only [p33, p43_is (fu := fu) t h m ht (by omega), p24_is, bind_val, decide_true, cond_true]
  unfold leavS
  cases onS t h m <;> rfl
/-- What a plan asks for. -/
def nextS : List D_api_Action :=
  if c = 3 then (if o = 0 then learnS h n o s u w else if o = 1 then promS h n o u w y else if o = 2 then remvS h m n o u w x else if o = 4 then leavS h m o t else [stepA o])
  else if o = 0 then freezeS q h o
  else if c = 2 ∧ o = 1 then freezeS q i o
  else if (c = 1 ∧ o = 1) ∨ (c = 2 ∧ o = 2) then sitesS k l s 3 o
  else if (c = 1 ∧ o = 2) ∨ (c = 2 ∧ o = 3) then [stepA o]
  else sitesS (if c = 2 then [h, i] else [h]) l t 5 o
theorem plan_of (hp : planS c k l o = true) : (0 ≤ o ∧ o < stepsN c) ∧ (1 ≤ l.length ∧ l.length ≤ 7) ∧ (k.length : Int) = 3 - c ∧ (c = 1 ∨ c = 2 ∨ c = 3) := by
  unfold planS nodesS at hp
  simp only [Bool.and_eq_true, decide_eq_true_eq] at hp
  exact ⟨hp.1.1, hp.1.2.1, hp.2, stepsN_kind (by omega)⟩
theorem p9_is (hl : few l) (hq : few q) (hs : few s) (ht : few t) (hu : few u) (hw : few w) (hf : 4194304 < fu) :
    p9 fu ((a, c, f, h, i, j, k, l, m, n, o, ()), (q, s, t, u, w, x, y, ()), ()) = some ((), (if planS c k l o then (nextS c h i k l m n o q s t u w x y, 0, ()) else ([], 191, ()))) := by
  simp only [p9, p15_is (fu := fu) a c f h i j k l m n o hl (by omega), bind_val]
  cases hp : planS c k l o with
  | false => rfl
  | true =>
    obtain ⟨⟨o1, o2⟩, hl7, hk, hc⟩ := plan_of c k l o hp
    have hfq : q.length < fu := by unfold few at hq; omega
    have hfs : s.length < fu := by unfold few at hs; omega
    have hft : t.length < fu := by unfold few at ht; omega
    have k30 := p30_is (fu := fu) a c f h i j k l m n o q s t u w x y hs hu hw hf
    have k31 := p31_is (fu := fu) a c f h i j k l m n o q s t u w x y hu hw hf
    have k32 := p32_is (fu := fu) a c f h i j k l m n o q s t u w x y hu hw hf
    have k33 := p33_is (fu := fu) a c f h i j k l m n o q s t u w x y ht hf
    have k23 : p23 fu ((a, c, f, h, i, j, k, l, m, n, o, q, s, t, u, w, x, y, ()), ()) = some ((), [stepA o]) := rfl
    have k25 : p25 fu ((a, c, f, h, i, j, k, l, m, n, o, q, s, t, u, w, x, y, ()), ()) = some ((), freezeS q h o) := by
      simp only [p25, p26_is (fu := fu) a c f h i j k l m n o q s t u w x y h hq hfq, bind_val, decide_true, cond_true]
    have k29 : p29 fu ((a, c, f, h, i, j, k, l, m, n, o, q, s, t, u, w, x, y, ()), ()) = some ((), freezeS q i o) := by
      simp only [p29, p26_is (fu := fu) a c f h i j k l m n o q s t u w x y i hq hfq, bind_val, decide_true, cond_true]
    have k27 : p27 fu ((a, c, f, h, i, j, k, l, m, n, o, q, s, t, u, w, x, y, ()), ()) = some ((), sitesS k l s 3 o) := by
      simp only [p27, p39_is (fu := fu) a c f h i j k l m n o q s t u w x y 3 s k hl7.2 hs (by omega) (by omega) hfs, bind_val, decide_true, cond_true]
    have k28 : c = 1 ∨ c = 2 → p28 fu ((a, c, f, h, i, j, k, l, m, n, o, q, s, t, u, w, x, y, ()), ()) = some ((), sitesS (if c = 2 then [h, i] else [h]) l t 5 o) := fun hc => by
      have hG : (if c = 2 then [h, i] else [h]).length ≤ 1000 := by split <;> simp
      simp only [p28, p40_is (fu := fu) a c f h i j k l m n o q s t u w x y hc, p39_is (fu := fu) a c f h i j k l m n o q s t u w x y 5 t _ hl7.2 ht hG (by omega) hft, bind_val, decide_true, cond_true]
    have hd : ∀ z : List D_api_Action, decide (z.length = z.length) = true := fun z => decide_eq_true rfl
    simp only [p16, bind_val, Bool.not_true, cond_false, if_true]
    rcases hc with rfl | rfl | rfl
    · have e4 : stepsN 1 = 4 := rfl
      rw [e4] at o2
      have k28 := k28 (.inl rfl)
      have hcases : o = 0 ∨ o = 1 ∨ o = 2 ∨ o = 3 := by omega
      rcases hcases with rfl | rfl | rfl | rfl
      · simp only [k25, bind_val]; rfl
      · simp only [k27, bind_val]; rfl
      · simp only [k23, bind_val]; rfl
      · simp only [k28, bind_val]; rfl
    · have e4 : stepsN 2 = 5 := rfl
      rw [e4] at o2
      have k28 := k28 (.inr rfl)
      have hcases : o = 0 ∨ o = 1 ∨ o = 2 ∨ o = 3 ∨ o = 4 := by omega
      rcases hcases with rfl | rfl | rfl | rfl | rfl
      · simp only [k25, bind_val]; rfl
      · simp only [k29, bind_val]; rfl
      · simp only [k27, bind_val]; rfl
      · simp only [k23, bind_val]; rfl
      · simp only [k28, bind_val]; rfl
    · have e4 : stepsN 3 = 5 := rfl
      rw [e4] at o2
      have hcases : o = 0 ∨ o = 1 ∨ o = 2 ∨ o = 3 ∨ o = 4 := by omega
      rcases hcases with rfl | rfl | rfl | rfl | rfl
      · simp only [k30, bind_val]; rfl
      · simp only [k31, bind_val]; rfl
      · simp only [k32, bind_val]; rfl
      · simp only [k23, bind_val]; rfl
      · simp only [k33, bind_val]; rfl
end
end
section
variable {fu : Nat}

theorem count_miss (nodes : List Int) (s : List D_api_Site) (g : Int) : nodes.countP (onS s g) = nodes.length - (missS nodes s g).length := by
  have := List.length_eq_countP_add_countP (l := nodes) (onS s g)
  have h2 : (missS nodes s g).length = nodes.countP (fun n => ¬ onS s g n = true) := by
    unfold missS
    rw [List.countP_eq_length_filter]
    congr 2
    funext n
    cases onS s g n <;> rfl
  omega
theorem p37_is (z : List D_api_Site) (g : Int) (l : List Int) (hl : few l) (hz : few z) (hf : l.length < fu) (hf2 : z.length < fu) : p37 fu (z, g, l, ()) = some ((), mostS l z g) := by
  have hl' := hl
  unfold few at hl'
  have hw : ∀ d : Nat, d ≤ l.length → IntKind.wrap .i64 ((2 : Int) * (d : Int)) = ((2 * d : Nat) : Int) := fun d hd => by rw [i64_wrap (by omega) (by omega)]; omega
  simp only [p37]
  refine loop_val (I := fun st => ∃ e : Nat, st = (((((l.take e).countP (onS z g) : Nat) : Int), (e : Int), ()), ()) ∧ e ≤ l.length) (m := fun st => (l.length - Int.toNat st.1.2.1)) ⟨0, by simp, Nat.zero_le _⟩ (by simpa using hf) fun st hs => ?_
  obtain ⟨e, rfl, he⟩ := hs
  by_cases hlt : e < l.length
  · have hc : (l.take e).countP (onS z g) ≤ l.length := Nat.le_trans List.countP_le_length (by rw [List.length_take]; omega)
    have hw1 : IntKind.wrap .i64 ((((l.take e).countP (onS z g) : Nat) : Int) + 1) = (((l.take e).countP (onS z g) + 1 : Nat) : Int) := by rw [i64_wrap (by omega) (by omega)]; omega
    refine ⟨.inl _, ?_, ⟨e + 1, rfl, hlt⟩, by simp only [Int.toNat_natCast]; omega⟩
    have ht : (l.take (e + 1)).countP (onS z g) = (l.take e).countP (onS z g) + (if onS z g (l.getD e (dflt (.int .i64))) then 1 else 0) := by
      rw [take_one l e (dflt (.int .i64)) hlt, List.countP_append, List.countP_singleton]
    rw [ht]
    simp only [Int.ofNat_lt, Int.natCast_nonneg, hlt, decide_true, cond_true, and_self, Int.toNat_natCast, p36_is (fu := fu) z g _ hz hf2, bind_val, i64_succ hlt (few64 hl), hw1]
    cases onS z g (l.getD e (dflt (.int .i64))) <;> rfl
  · obtain rfl : e = l.length := by omega
    simp only [Int.ofNat_lt, Nat.lt_irrefl, decide_false, cond_false, take_all, hw _ List.countP_le_length]
    refine ⟨_, rfl, ?_⟩
    unfold mostS
    rw [count_miss]
    first | done | (congr 1; exact decide_eq_decide.2 (by omega))
section
variable (a c : Int) (f : ByteArray) (h i : Int) (j : ByteArray) (k l : List Int) (m n o : Int) (q : List Int) (s t : List D_api_Site) (u w : List Int) (x : Int) (y : Bool)
theorem p20_is (b : Bool) (x0 x1 x2 x3 x4 x5 : Int) : p20 fu ((a, c, f, h, i, j, k, l, m, n, o, ()), b, (x0, x1, x2, x3, x4, x5, ()), ()) = some ((), if b then [stepA o] else [(x0, x1, x2, x3, x4, x5)]) := by
  cases b <;> rfl
theorem p22_is (kind : Int) (z : List D_api_Site) (G : List Int) (hl : l.length ≤ 7) (hz : few z) (hG : G.length ≤ 1000) (hf : 10000 < fu) (hf2 : z.length < fu) : p22 fu ((a, c, f, h, i, j, k, l, m, n, o, ()), G, z, kind, ()) = some ((), sitesS G l z kind o) := by
  have hm : maxLen = 9223372036854775807 := rfl
  have hfl : few l := by unfold few; omega
  simp only [p22]
  refine loop_val (I := fun st => ∃ e : Nat, st = (((G.take e).all (mostS l z), restS kind (pairs (G.take e) l) z, (e : Int), ()), ()) ∧ e ≤ G.length) (m := fun st => (G.length - Int.toNat st.1.2.2.1)) ⟨0, by simp [pairs, restS], Nat.zero_le _⟩ (by simp; omega) fun st hs => ?_
  obtain ⟨e, rfl, he⟩ := hs
  have hrl : (restS kind (pairs (G.take e) l) z).length ≤ 7000 := by
    refine Nat.le_trans (rest_len _ _ _) ?_
    rw [pairs_len, List.length_take]
    have := Nat.mul_le_mul (show min e G.length ≤ 1000 by omega) hl
    omega
  by_cases hlt : e < G.length
  · have ht := take_one G e (dflt (.int .u64)) hlt
    refine ⟨.inl _, ?_, ⟨e + 1, rfl, hlt⟩, by simp only [Int.toNat_natCast]; omega⟩
    rw [ht, all_snoc, rest_snoc]
    simp only [Int.ofNat_lt, Int.natCast_nonneg, hlt, decide_true, cond_true, and_self, Int.toNat_natCast, p37_is (fu := fu) z _ l hfl hz (by omega) hf2, bind_val, i64_succ hlt (by omega : G.length ≤ 9223372036854775807)]
    generalize G.getD e (dflt (.int .u64)) = g
    cases (G.take e).all (mostS l z) <;> simp only [cond_true, cond_false, orK_inl, Bool.true_and, Bool.false_and]
    all_goals
      refine loop_val (I := fun st => ∃ e2 : Nat, st = ((restS kind (pairs (G.take e) l) z ++ (missS (l.take e2) z g).map (actS kind g), (e2 : Int), ()), ()) ∧ e2 ≤ l.length) (m := fun st => (l.length - Int.toNat st.1.2.1)) ⟨0, by simp [missS], Nat.zero_le _⟩ (by simp; omega) fun st hs => ?_
      obtain ⟨e2, rfl, he2⟩ := hs
      by_cases hlt2 : e2 < l.length
      · have hml : (missS (l.take e2) z g).length ≤ l.length := Nat.le_trans (missS_len _ _ _) (by rw [List.length_take]; omega)
        have hb : (restS kind (pairs (G.take e) l) z).length + (missS (l.take e2) z g).length + 1 ≤ maxLen ∧ ((restS kind (pairs (G.take e) l) z).length + (missS (l.take e2) z g).length + 1) * 48 ≤ 140737488355328 := by omega
        refine ⟨.inl _, ?_, ⟨e2 + 1, rfl, hlt2⟩, by simp only [Int.toNat_natCast]; omega⟩
        have hst : missS (l.take (e2 + 1)) z g = (bif !onS z g (l.getD e2 (dflt (.int .i64))) then missS (l.take e2) z g ++ [l.getD e2 (dflt (.int .i64))] else missS (l.take e2) z g) := by
          unfold missS
          rw [take_one l e2 (dflt (.int .i64)) hlt2, List.filter_append, List.filter_cons]
          cases onS z g (l.getD e2 (dflt (.int .i64))) <;> simp
        rw [hst]
        simp only [Int.ofNat_lt, Int.natCast_nonneg, hlt2, decide_true, cond_true, and_self, Int.toNat_natCast, p36_is (fu := fu) z g _ hz hf2, bind_val, List.length_append, List.length_map, List.length_singleton, hb, i64_succ hlt2 (by omega : l.length ≤ 9223372036854775807)]
        cases !onS z g (l.getD e2 (dflt (.int .i64)))
        · rfl
        · simp only [cond_true, List.map_append, ← List.append_assoc]; rfl
      · obtain rfl : e2 = l.length := by omega
        simp only [Int.ofNat_lt, Nat.lt_irrefl, decide_false, cond_false, take_all]
        exact ⟨_, rfl, rfl⟩
  · obtain rfl : e = G.length := by omega
    rw [take_all] at hrl
    have hb : 1 + (restS kind (pairs G l) z).length ≤ maxLen ∧ (1 + (restS kind (pairs G l) z).length) * 48 ≤ 140737488355328 := by omega
    simp only [Int.ofNat_lt, Nat.lt_irrefl, decide_false, cond_false, decide_true, cond_true, take_all, List.length_singleton, hb, and_self]
    refine ⟨.inr _, ?_, rfl⟩
    unfold sitesS
    cases G.all (mostS l z) <;> rfl
theorem p19_is (hs : few s) (ht : few t) (hu : few u) (hw : few w) (hf : 4194304 < fu) (ho : 0 ≤ o ∧ o < 5) : p19 fu ((a, c, f, h, i, j, k, l, m, n, o, ()), (q, s, t, u, w, x, y, ()), ()) =
    some ((), if o = 0 then learnS h n o s u w else if o = 1 then promS h n o u w y else if o = 2 then remvS h m n o u w x else if o = 4 then leavS h m o t else [stepA o]) := by
  unfold few at *
  have hcases : o = 0 ∨ o = 1 ∨ o = 2 ∨ o = 3 ∨ o = 4 := by omega
  simp only [p19, p35_is (fu := fu) u n hu (by omega), p35_is (fu := fu) w n hw (by omega), p35_is (fu := fu) u m hu (by omega), p35_is (fu := fu) w m hw (by omega), p36_is (fu := fu) s h n hs (by omega), p36_is (fu := fu) t h m ht (by omega), bind_val, p20_is]
  rcases hcases with rfl | rfl | rfl | rfl | rfl
  · unfold learnS
    cases hasS u n <;> cases hasS w n <;> cases onS s h n <;> rfl
  · unfold promS
    cases hasS u n <;> cases hasS w n <;> cases y <;> rfl
  · unfold remvS
    by_cases hx : x = m
    · subst hx
      cases hasS u x <;> cases hasS w x <;> simp [orK_inl, actS]
    · have hb : (x == m) = false := by simpa using hx
      simp only [hb]
      cases hasS u m <;> cases hasS w m <;> simp [orK_inl, hx, chgA]
  · rfl
  · unfold leavS
    cases onS t h m <;> rfl
theorem p13_is (hl : few l) (hq : few q) (hs : few s) (ht : few t) (hu : few u) (hw : few w) (hf : 4194304 < fu) :
    p13 fu ((a, c, f, h, i, j, k, l, m, n, o, ()), (q, s, t, u, w, x, y, ()), ()) = some ((), (if planS c k l o then (nextS c h i k l m n o q s t u w x y, 0, ()) else ([], 191, ()))) := by
  have hm : maxLen = 9223372036854775807 := rfl
  simp only [p13, p17_is (fu := fu) a c f h i j k l m n o hl (by omega), bind_val, p18_is]
  cases hp : planS c k l o with
  | false => rfl
  | true =>
    obtain ⟨⟨o1, o2⟩, hl7, hk, hc⟩ := plan_of c k l o hp
    have hfq : q.length < fu := by unfold few at hq; omega
    have hfs : s.length < fu := by unfold few at hs; omega
    have hft : t.length < fu := by unfold few at ht; omega
    have k22a := p22_is (fu := fu) a c f h i j k l m n o 3 s k hl7.2 hs (by omega) (by omega) hfs
    have k22b := p22_is (fu := fu) a c f h i j k l m n o 5 t [h] hl7.2 ht (by simp) (by omega) hft
    have k22c := p22_is (fu := fu) a c f h i j k l m n o 5 t [h, i] hl7.2 ht (by simp) (by omega) hft
    simp only [Bool.not_true, cond_false, if_true, p21_is (fu := fu) q s t u w x y _ hq hfq, bind_val, p20_is, k22a]
    rcases hc with rfl | rfl | rfl
    · have e4 : stepsN 1 = 4 := rfl
      rw [e4] at o2
      have hcases : o = 0 ∨ o = 1 ∨ o = 2 ∨ o = 3 := by omega
      rcases hcases with rfl | rfl | rfl | rfl
      · rfl
      · rfl
      · rfl
      · have : nextS 1 h i k l m n 3 q s t u w x y = sitesS [h] l t 5 3 := rfl
        rw [this]
        have e : IntKind.wrap .i64 (stepsN 1 - 3) = 1 := rfl
        have e1 : ((1 : Int) == 3) = false := rfl
        have e2 : ((3 : Int) == 0) = false := rfl
        have e3 : ((1 : Int) == 2) = false := rfl
        simp only [e, e1, e2, e3, beq_self_eq_true, Bool.not_true, cond_false, orK_inl, k22b, bind_val, decide_true, cond_true]
    · have e4 : stepsN 2 = 5 := rfl
      rw [e4] at o2
      have hcases : o = 0 ∨ o = 1 ∨ o = 2 ∨ o = 3 ∨ o = 4 := by omega
      rcases hcases with rfl | rfl | rfl | rfl | rfl
      · rfl
      · rfl
      · rfl
      · rfl
      · have : nextS 2 h i k l m n 4 q s t u w x y = sitesS [h, i] l t 5 4 := rfl
        rw [this]
        have e : IntKind.wrap .i64 (stepsN 2 - 4) = 1 := rfl
        have e1 : ((2 : Int) == 3) = false := rfl
        have e2 : ((4 : Int) == 0) = false := rfl
        have e3 : ((1 : Int) == 2) = false := rfl
        have e5 : ((2 : Int) == 1) = false := rfl
        have e6 : ((4 : Int) == 1) = false := rfl
        have e7 : ((1 : Int) == 3) = false := rfl
        have b1 : 1 + 1 ≤ maxLen ∧ (1 + 1) * 8 ≤ 140737488355328 := by omega
        simp only [e, e1, e2, e3, e5, e6, e7, Bool.not_false, cond_true, cond_false, orK_inl, List.length_singleton, decide_true, b1, and_self, List.cons_append, List.nil_append, k22c, bind_val]
    · have e4 : stepsN 3 = 5 := rfl
      rw [e4] at o2
      simp only [beq_self_eq_true, cond_true, p19_is (fu := fu) a 3 f h i j k l m n o q s t u w x y hs ht hu hw hf ⟨o1, o2⟩, bind_val]
      rfl
end
end
section
variable {fu : Nat}

theorem p11_is (l : List D_api_Action) (hl : few l) (hf : l.length < fu) : p11 fu (l, l, ()) = some ((), true) := by
  simp only [p11, bne_self_eq_false, cond_false]
  refine loop_val (I := fun st => ∃ e : Nat, st = (((e : Int), ()), ()) ∧ e ≤ l.length) (m := fun st => (l.length - Int.toNat st.1.1)) ⟨0, rfl, Nat.zero_le _⟩ (by simpa using hf) fun st hs => ?_
  obtain ⟨e, rfl, he⟩ := hs
  by_cases hlt : e < l.length
  · simp only [Int.ofNat_lt, Int.natCast_nonneg, hlt, decide_true, cond_true, and_self, Int.toNat_natCast, beq_self_eq_true, Bool.and_self, Bool.not_true, cond_false, i64_succ hlt (few64 hl)]
    exact ⟨_, rfl, ⟨e + 1, rfl, hlt⟩, by simp only [Int.toNat_natCast]; omega⟩
  · simp only [Int.ofNat_lt, hlt, decide_false, cond_false]
    exact ⟨_, rfl, rfl⟩
theorem sites_len (G l : List Int) (s : List D_api_Site) (kind o : Int) (hG : G.length ≤ 2) (hl : l.length ≤ 7) : (sitesS G l s kind o).length ≤ 15 := by
  unfold sitesS
  rw [List.length_append]
  have h1 := rest_len kind (pairs G l) s
  rw [pairs_len] at h1
  have h2 := Nat.mul_le_mul hG hl
  have h3 : (if G.all (mostS l s) = true then [stepA o] else []).length ≤ 1 := by split <;> simp
  omega
section
variable (a c : Int) (f : ByteArray) (h i : Int) (j : ByteArray) (k l : List Int) (m n o : Int) (q : List Int) (s t : List D_api_Site) (u w : List Int) (x : Int) (y : Bool)
theorem next_len (hp : planS c k l o = true) : (nextS c h i k l m n o q s t u w x y).length ≤ 15 := by
  obtain ⟨⟨o1, o2⟩, hl7, hk, hc⟩ := plan_of c k l o hp
  unfold nextS
  have h1 : (learnS h n o s u w).length ≤ 15 := by unfold learnS; repeat' split
                                                   all_goals simp
  have h2 : (promS h n o u w y).length ≤ 15 := by unfold promS; repeat' split
                                                  all_goals simp
  have h3 : (remvS h m n o u w x).length ≤ 15 := by unfold remvS; repeat' split
                                                    all_goals simp
  have h4 : (leavS h m o t).length ≤ 15 := by unfold leavS; split <;> simp
  have h5 : ∀ g, (freezeS q g o).length ≤ 15 := fun g => by unfold freezeS; split <;> simp
  have h6 : (sitesS k l s 3 o).length ≤ 15 := sites_len k l s 3 o (by omega) hl7.2
  have h7 : (sitesS (if c = 2 then [h, i] else [h]) l t 5 o).length ≤ 15 := sites_len _ l t 5 o (by split <;> simp) hl7.2
  repeat' split
  all_goals first | assumption | exact h5 _ | exact sites_len _ l t 5 o (by simp) hl7.2 | simp
theorem next_congr {q' : List Int} {s' t' : List D_api_Site} (h1 : hasS q' = hasS q) (h2 : onS s' = onS s) (h3 : onS t' = onS t) : nextS c h i k l m n o q' s' t' u w x y = nextS c h i k l m n o q s t u w x y := by
  simp only [nextS, freezeS, sitesS, learnS, leavS, restS, h1, h2, h3]
  have e1 : (mostS l s') = mostS l s := by funext g; unfold mostS missS; rw [h2]
  have e2 : (mostS l t') = mostS l t := by funext g; unfold mostS missS; rw [h3]
  simp only [e1, e2]
end
theorem p8_is (hf : 4194304 < fu) : p8 fu () = some ((), true) := by
  have hp : planS 1 [2, 3] [1, 2, 3] 0 = true := by decide
  have e := p9_is (fu := fu) 1 1 ⟨#[]⟩ 1 0 ⟨#[]⟩ [2, 3] [1, 2, 3] 0 0 0 [] [] [] [] [] 0 false (by decide) (by decide) (by decide) (by decide) (by decide) (by decide) hf
  rw [if_pos hp] at e
  simp only [p8, p10, bind_val, e, p12_is]
  rfl
theorem drop_rev {α : Type} (l : List α) (e : Nat) (d : α) (h : e < l.length) : (l.drop (e + 1)).reverse ++ [l.getD e d] = (l.drop e).reverse := by
  rw [List.drop_eq_getElem_cons h, List.reverse_cons, getD_lt h]
theorem i64_down {e n : Nat} (h : e ≤ n) (hn : n ≤ 9223372036854775807) : IntKind.wrap .i64 ((e : Int) - 1) = (e : Int) - 1 := i64_wrap (by omega) (by omega)
section
variable (a c : Int) (f : ByteArray) (h i : Int) (j : ByteArray) (k l : List Int) (m n o : Int) (q : List Int) (s t : List D_api_Site) (u w : List Int) (x : Int) (y : Bool)
/-- PlansNext. -/
theorem p4_is (z : Int) (hk : k.length ≤ 1048576) (hl : l.length ≤ 1048576) (hq : q.length ≤ 1048576) (hs : s.length ≤ 1048576) (ht : t.length ≤ 1048576) (hu : u.length ≤ 1048576) (hw : w.length ≤ 1048576) (hf : 4194304 < fu) :
    p4 fu ((a, c, f, h, i, j, k, l, m, n, o, ()), (q, s, t, u, w, x, y, ()), z, ()) = some ((), true) := by
  have hm : maxLen = 9223372036854775807 := rfl
  have b1 : k.length ≤ maxLen ∧ k.length * 8 ≤ 140737488355328 := by omega
  have b2 : l.length ≤ maxLen ∧ l.length * 8 ≤ 140737488355328 := by omega
  have e9 := p9_is (fu := fu) a c f h i j k l m n o q s t u w x y (by unfold few; omega) (by unfold few; omega) (by unfold few; omega) (by unfold few; omega) (by unfold few; omega) (by unfold few; omega) hf
  have e13 := p13_is (fu := fu) a c f h i j k l m n o q s t u w x y (by unfold few; omega) (by unfold few; omega) (by unfold few; omega) (by unfold few; omega) (by unfold few; omega) (by unfold few; omega) hf
  simp only [p4, p8_is hf, bind_val, List.length_nil, Nat.zero_add, List.nil_append, decide_true, cond_true, b1, b2, and_self, e9, e13]
  have hlen : (if planS c k l o = true then (nextS c h i k l m n o q s t u w x y, (0 : Int), ()) else ([], 191, ())).1.length ≤ 15 := by
    split
    · rename_i hp; exact next_len c h i k l m n o q s t u w x y hp
    · simp
  generalize (if planS c k l o = true then (nextS c h i k l m n o q s t u w x y, (0 : Int), ()) else ([], 191, ())) = r at hlen ⊢
  obtain ⟨L, e, ⟨⟩⟩ := r
  dsimp only at hlen ⊢
  simp only [p11_is (fu := fu) L (by unfold few; omega) (by omega), bind_val]
  refine loop_val (I := fun st => ∃ (e : Nat) (K : List D_api_Action), st = ((K, (e : Int), ()), ()) ∧ K.length = L.length ∧ e ≤ L.length) (m := fun st => (L.length - Int.toNat st.1.2.1)) ⟨0, L, rfl, rfl, Nat.zero_le _⟩ (by simp; omega) fun st hs => ?_
  obtain ⟨e, K, rfl, hK, he⟩ := hs
  by_cases hlt : e < L.length
  · simp only [hK, Int.ofNat_lt, Int.natCast_nonneg, hlt, decide_true, cond_true, and_self, Int.toNat_natCast, List.length_set, i64_succ hlt (by omega : L.length ≤ 9223372036854775807)]
    exact ⟨_, rfl, ⟨e + 1, _, rfl, by simpa using hK, hlt⟩, by simp only [Int.toNat_natCast]; omega⟩
  · simp only [hK, Int.ofNat_lt, hlt, decide_false, cond_false]
    refine ⟨_, congrArg (Option.map Sum.inr) (?_ : _ = some _), rfl⟩
    refine loop_val (I := fun st => ∃ e : Nat, st = (((e : Int), ()), ()) ∧ e ≤ k.length) (m := fun st => (k.length - Int.toNat st.1.1)) ⟨0, rfl, Nat.zero_le _⟩ (by simp; omega) fun st hs => ?_
    obtain ⟨e, rfl, he⟩ := hs
    by_cases hlt : e < k.length
    · simp only [Int.ofNat_lt, Int.natCast_nonneg, hlt, decide_true, cond_true, and_self, Int.toNat_natCast, bne_self_eq_false, cond_false, i64_succ hlt (by omega : k.length ≤ 9223372036854775807)]
      exact ⟨_, rfl, ⟨e + 1, rfl, hlt⟩, by simp only [Int.toNat_natCast]; omega⟩
    · simp only [Int.ofNat_lt, hlt, decide_false, cond_false]
      refine ⟨_, congrArg (Option.map Sum.inr) (?_ : _ = some _), rfl⟩
      refine loop_val (I := fun st => ∃ e : Nat, st = (((e : Int), ()), ()) ∧ e ≤ l.length) (m := fun st => (l.length - Int.toNat st.1.1)) ⟨0, rfl, Nat.zero_le _⟩ (by simp; omega) fun st hs => ?_
      obtain ⟨e, rfl, he⟩ := hs
      by_cases hlt : e < l.length
      · simp only [Int.ofNat_lt, Int.natCast_nonneg, hlt, decide_true, cond_true, and_self, Int.toNat_natCast, bne_self_eq_false, cond_false, i64_succ hlt (by omega : l.length ≤ 9223372036854775807)]
        exact ⟨_, rfl, ⟨e + 1, rfl, hlt⟩, by simp only [Int.toNat_natCast]; omega⟩
      · simp only [Int.ofNat_lt, hlt, decide_false, cond_false, beq_self_eq_true, cond_true, p12_is, bind_val]
        refine ⟨_, congrArg (Option.map Sum.inr) (?_ : _ = some _), rfl⟩
        unfold stepsN
        by_cases h1 : z = 1
        · subst h1; rfl
        · by_cases h2 : z = 2
          · subst h2; rfl
          · by_cases h3 : z = 3
            · subst h3; rfl
            · have b1 : (z == 1) = false := by simpa using h1
              have b2 : (z == 2) = false := by simpa using h2
              have b3 : (z == 3) = false := by simpa using h3
              simp only [b1, b2, b3, cond_false, orK_inl, h1, h2, h3, or_self, if_false, beq_self_eq_true]
/-- PlansNamed. -/
theorem p7_is (a' : Int) (c' : Int) (f' : ByteArray) (h' i' : Int) (j' : ByteArray) (k' l' : List Int) (m' n' o' : Int) (hl : l.length ≤ 1048576) (hq : q.length ≤ 1048576) (hs : s.length ≤ 1048576) (ht : t.length ≤ 1048576) (hu : u.length ≤ 1048576) (hw : w.length ≤ 1048576) (hf : 4194304 < fu) :
    p7 fu ((a, c, f, h, i, j, k, l, m, n, o, ()), (q, s, t, u, w, x, y, ()), (a', c', f', h', i', j', k', l', m', n', o', ()), ()) = some ((), true) := by
  have hm : maxLen = 9223372036854775807 := rfl
  have e9 := p9_is (fu := fu) a c f h i j k l m n o q s t u w x y (by unfold few; omega) (by unfold few; omega) (by unfold few; omega) (by unfold few; omega) (by unfold few; omega) (by unfold few; omega) hf
  have e9' := p9_is (fu := fu) a' c f' h i j' k l m n o q.reverse s.reverse t.reverse u w x y (by unfold few; omega) (by unfold few; simp; omega) (by unfold few; simp; omega) (by unfold few; simp; omega) (by unfold few; omega) (by unfold few; omega) hf
  have r1 : hasS q.reverse = hasS q := by funext g; exact Bool.eq_iff_iff.2 (by rw [hasS_mem, hasS_mem, List.mem_reverse])
  have r2 : onS s.reverse = onS s := by funext g n; exact Bool.eq_iff_iff.2 (by rw [onS_mem, onS_mem, List.mem_reverse])
  have r3 : onS t.reverse = onS t := by funext g n; exact Bool.eq_iff_iff.2 (by rw [onS_mem, onS_mem, List.mem_reverse])
  rw [next_congr c h i k l m n o q s t u w x y r1 r2 r3] at e9'
  have hlen : (if planS c k l o = true then (nextS c h i k l m n o q s t u w x y, (0 : Int), ()) else ([], 191, ())).1.length ≤ 15 := by
    split
    · rename_i hp; exact next_len c h i k l m n o q s t u w x y hp
    · simp
  simp only [p7, p8_is hf, bind_val, e9]
  generalize (if planS c k l o = true then (nextS c h i k l m n o q s t u w x y, (0 : Int), ()) else ([], 191, ())) = r at hlen e9' ⊢
  obtain ⟨L, e, ⟨⟩⟩ := r
  dsimp only at hlen ⊢
  refine loop_val (I := fun st => ∃ e : Nat, st = (((e : Int) - 1, ()), (((q.drop e).reverse, (), (), u, w, x, y, ()), ())) ∧ e ≤ q.length) (m := fun st => Int.toNat (st.1.1 + 1)) ⟨q.length, by rw [List.drop_length, i64_down (Nat.le_refl _) (by omega)]; rfl, Nat.le_refl _⟩ (by rw [i64_down (Nat.le_refl _) (by omega)]; show Int.toNat ((q.length : Int) - 1 + 1) < fu; omega) fun st hst => ?_
  obtain ⟨e1, rfl, he1⟩ := hst
  rcases e1 with _ | e1
  · have hn : ¬ ((0 : Nat) : Int) - 1 ≥ 0 := by omega
    simp only [hn, decide_false, cond_false, decide_true, cond_true, List.drop_zero]
    refine ⟨_, congrArg (Option.map Sum.inr) (?_ : _ = some _), rfl⟩
    refine loop_val (I := fun st => ∃ e : Nat, st = (((e : Int) - 1, ()), ((q.reverse, (s.drop e).reverse, (), u, w, x, y, ()), ())) ∧ e ≤ s.length) (m := fun st => Int.toNat (st.1.1 + 1)) ⟨s.length, by rw [List.drop_length, i64_down (Nat.le_refl _) (by omega)]; rfl, Nat.le_refl _⟩ (by rw [i64_down (Nat.le_refl _) (by omega)]; show Int.toNat ((s.length : Int) - 1 + 1) < fu; omega) fun st hst => ?_
    obtain ⟨e1, rfl, he1⟩ := hst
    rcases e1 with _ | e1
    · have hn : ¬ ((0 : Nat) : Int) - 1 ≥ 0 := by omega
      simp only [hn, decide_false, cond_false, List.drop_zero]
      refine ⟨_, congrArg (Option.map Sum.inr) (?_ : _ = some _), rfl⟩
      refine loop_val (I := fun st => ∃ e : Nat, st = (((e : Int) - 1, ()), ((q.reverse, s.reverse, (t.drop e).reverse, u, w, x, y, ()), ())) ∧ e ≤ t.length) (m := fun st => Int.toNat (st.1.1 + 1)) ⟨t.length, by rw [List.drop_length, i64_down (Nat.le_refl _) (by omega)]; rfl, Nat.le_refl _⟩ (by rw [i64_down (Nat.le_refl _) (by omega)]; show Int.toNat ((t.length : Int) - 1 + 1) < fu; omega) fun st hst => ?_
      obtain ⟨e1, rfl, he1⟩ := hst
      rcases e1 with _ | e1
      · have hn : ¬ ((0 : Nat) : Int) - 1 ≥ 0 := by omega
        simp only [hn, decide_false, cond_false, cond_true, List.drop_zero, e9', bind_val, beq_self_eq_true, p11_is (fu := fu) L (by unfold few; omega) (by omega)]
        exact ⟨_, rfl, rfl⟩
      · have hlt : e1 < t.length := by omega
        have hn : ((e1 + 1 : Nat) : Int) - 1 = (e1 : Int) := by omega
        have hb : t.length - (e1 + 1) + 1 ≤ maxLen ∧ (t.length - (e1 + 1) + 1) * 16 ≤ 140737488355328 := by omega
        simp only [hn, ge_iff_le, Int.natCast_nonneg, Int.ofNat_lt, hlt, decide_true, cond_true, and_self, Int.toNat_natCast, List.length_reverse, List.length_drop, List.length_singleton, hb, i64_down (show e1 ≤ t.length by omega) (by omega), drop_rev t e1 (dflt T_api_Site) hlt]
        exact ⟨_, rfl, ⟨e1, rfl, by omega⟩, by show Int.toNat ((e1 : Int) - 1 + 1) < Int.toNat ((e1 : Int) + 1); omega⟩
    · have hlt : e1 < s.length := by omega
      have hn : ((e1 + 1 : Nat) : Int) - 1 = (e1 : Int) := by omega
      have hb : s.length - (e1 + 1) + 1 ≤ maxLen ∧ (s.length - (e1 + 1) + 1) * 16 ≤ 140737488355328 := by omega
      simp only [hn, ge_iff_le, Int.natCast_nonneg, Int.ofNat_lt, hlt, decide_true, cond_true, and_self, Int.toNat_natCast, List.length_reverse, List.length_drop, List.length_singleton, hb, i64_down (show e1 ≤ s.length by omega) (by omega), drop_rev s e1 (dflt T_api_Site) hlt]
      exact ⟨_, rfl, ⟨e1, rfl, by omega⟩, by show Int.toNat ((e1 : Int) - 1 + 1) < Int.toNat ((e1 : Int) + 1); omega⟩
  · have hlt : e1 < q.length := by omega
    have hn : ((e1 + 1 : Nat) : Int) - 1 = (e1 : Int) := by omega
    have hb : q.length - (e1 + 1) + 1 ≤ maxLen ∧ (q.length - (e1 + 1) + 1) * 8 ≤ 140737488355328 := by omega
    simp only [hn, ge_iff_le, Int.natCast_nonneg, Int.ofNat_lt, hlt, decide_true, cond_true, and_self, Int.toNat_natCast, List.length_reverse, List.length_drop, List.length_singleton, hb, i64_down (show e1 ≤ q.length by omega) (by omega), drop_rev q e1 (dflt (.int .u64)) hlt]
    exact ⟨_, rfl, ⟨e1, rfl, by omega⟩, by show Int.toNat ((e1 : Int) - 1 + 1) < Int.toNat ((e1 : Int) + 1); omega⟩
end
end
section
variable {fu : Nat}

/-- What is asked for is the step, or more of it: not less, not much more. -/
structure More (L M : List D_api_Action) : Prop where
  some : L ≠ []
  some' : M ≠ []
  len : M.length ≤ L.length + 1
  step : (L.getD 0 (dflt T_api_Action)).1 = 4 → M.getD 0 (dflt T_api_Action) = L.getD 0 (dflt T_api_Action)
theorem More.one (X Y : D_api_Action) (h : X.1 = 4 → Y = X) : More [X] [Y] := ⟨by simp, by simp, by simp, h⟩
theorem miss_mono {nodes : List Int} {s s' : List D_api_Site} (h : ∀ g n, onS s g n = true → onS s' g n = true) (g : Int) : (missS nodes s' g).length ≤ (missS nodes s g).length := by
  unfold missS
  rw [← List.countP_eq_length_filter, ← List.countP_eq_length_filter]
  refine List.countP_mono_left fun n _ hn => ?_
  cases h1 : onS s g n with
  | false => rfl
  | true => rw [h g n h1] at hn; exact hn
theorem most_mono {nodes : List Int} {s s' : List D_api_Site} (h : ∀ g n, onS s g n = true → onS s' g n = true) (g : Int) (hg : mostS nodes s g = true) : mostS nodes s' g = true := by
  have := miss_mono (nodes := nodes) h g
  have h2 := missS_len nodes s g
  have h3 : nodes.length < 2 * (nodes.length - (missS nodes s g).length) := of_decide_eq_true hg
  exact decide_eq_true (by omega)
theorem rest_mono {kind : Int} {P : List (Int × Int)} {s s' : List D_api_Site} (h : ∀ g n, onS s g n = true → onS s' g n = true) : (restS kind P s').length ≤ (restS kind P s).length := by
  unfold restS
  rw [List.length_map, List.length_map, ← List.countP_eq_length_filter, ← List.countP_eq_length_filter]
  refine List.countP_mono_left fun p _ hn => ?_
  cases h1 : onS s p.1 p.2 with
  | false => rfl
  | true => rw [h _ _ h1] at hn; exact hn
theorem rest_kind {kind : Int} {P : List (Int × Int)} {s : List D_api_Site} : ∀ y ∈ restS kind P s, y.1 = kind := fun y hy => by
  unfold restS at hy
  obtain ⟨p, _, rfl⟩ := List.mem_map.1 hy
  rfl
theorem rest_some {kind : Int} {G nodes : List Int} {s : List D_api_Site} (hl : 1 ≤ nodes.length) (h : G.all (mostS nodes s) = false) : restS kind (pairs G nodes) s ≠ [] := fun e => by
  rw [List.all_eq_false] at h
  obtain ⟨g, hg, h1⟩ := h
  have hm : missS nodes s g = [] := by
    unfold missS
    rw [List.filter_eq_nil_iff]
    intro n hn
    unfold restS at e
    rw [List.map_eq_nil_iff, List.filter_eq_nil_iff] at e
    exact e (g, n) (List.mem_flatMap.2 ⟨g, hg, List.mem_map.2 ⟨n, hn, rfl⟩⟩)
  refine h1 (decide_eq_true ?_)
  rw [hm]; simp; omega
theorem sites_more {G nodes : List Int} {s s' : List D_api_Site} {kind : Int} (o : Int) (hk : kind ≠ 4) (hl : 1 ≤ nodes.length) (h : ∀ g n, onS s g n = true → onS s' g n = true) : More (sitesS G nodes s kind o) (sitesS G nodes s' kind o) := by
  have hr := rest_mono (kind := kind) (P := pairs G nodes) h
  have hall : G.all (mostS nodes s) = true → G.all (mostS nodes s') = true := fun h1 => by
    rw [List.all_eq_true] at h1 ⊢
    exact fun g hg => most_mono h g (h1 g hg)
  unfold sitesS
  cases h1 : G.all (mostS nodes s) with
  | true =>
    rw [hall h1]
    refine ⟨by simp, by simp, by simp; omega, fun _ => rfl⟩
  | false =>
    have h2 := rest_some (kind := kind) hl h1
    cases h3 : G.all (mostS nodes s') with
    | true =>
      refine ⟨by simpa using h2, by simp, by simp; omega, fun h4 => ?_⟩
      exfalso
      simp only [Bool.false_eq_true, if_false, List.nil_append] at h4
      cases hL : restS kind (pairs G nodes) s with
      | nil => exact h2 hL
      | cons X R =>
        rw [hL] at h4
        exact hk ((rest_kind (s := s) X (by rw [hL]; simp)).symm.trans h4)
    | false =>
      have h5 := rest_some (kind := kind) hl h3
      refine ⟨by simpa using h2, by simpa using h5, by simp; omega, fun h4 => ?_⟩
      exfalso
      simp only [Bool.false_eq_true, if_false, List.nil_append] at h4
      cases hL : restS kind (pairs G nodes) s with
      | nil => exact h2 hL
      | cons X R =>
        rw [hL] at h4
        exact hk ((rest_kind (s := s) X (by rw [hL]; simp)).symm.trans h4)
theorem freeze_more {q q' : List Int} (g o : Int) (h : hasS q g = true → hasS q' g = true) : More (freezeS q g o) (freezeS q' g o) := by
  unfold freezeS
  cases h1 : hasS q g with
  | true => rw [h h1]; exact More.one _ _ fun _ => rfl
  | false =>
    cases hasS q' g with
    | true => exact More.one _ _ fun h => by cases h
    | false => exact More.one _ _ fun _ => rfl
theorem next_more (c h i : Int) (k l : List Int) (m n o : Int) {q q' : List Int} {s s' t t' : List D_api_Site} (u w : List Int) (x : Int) (y : Bool) (hl : 1 ≤ l.length) (h1 : ∀ g, hasS q g = true → hasS q' g = true) (h2 : ∀ g n, onS s g n = true → onS s' g n = true) (h3 : ∀ g n, onS t g n = true → onS t' g n = true) :
    More (nextS c h i k l m n o q s t u w x y) (nextS c h i k l m n o q' s' t' u w x y) := by
  unfold nextS
  split
  · split
    · unfold learnS
      cases hasS u n || hasS w n with
      | true => exact More.one _ _ fun _ => rfl
      | false =>
        cases h4 : onS s h n with
        | true => rw [h2 _ _ h4]; exact More.one _ _ fun _ => rfl
        | false =>
          cases onS s' h n with
          | true => exact More.one _ _ fun h => by cases h
          | false => exact More.one _ _ fun _ => rfl
    · split
      · unfold promS
        cases hasS u n <;> cases hasS w n && y <;> exact More.one _ _ fun _ => rfl
      · split
        · unfold remvS
          split
          · exact More.one _ _ fun _ => rfl
          · split <;> exact More.one _ _ fun _ => rfl
        · split
          · unfold leavS
            cases h4 : onS t h m with
            | true => rw [h3 _ _ h4]; exact More.one _ _ fun _ => rfl
            | false =>
              cases onS t' h m with
              | true => exact More.one _ _ fun h => by cases h
              | false => exact More.one _ _ fun _ => rfl
          · exact More.one _ _ fun _ => rfl
  · split
    · exact freeze_more h o (h1 h)
    · split
      · exact freeze_more i o (h1 i)
      · split
        · exact sites_more o (by decide) hl h2
        · split
          · exact More.one _ _ fun _ => rfl
          · exact sites_more o (by decide) hl h3
section
variable (a c : Int) (f : ByteArray) (h i : Int) (j : ByteArray) (k l : List Int) (m n o : Int) (q : List Int) (s t : List D_api_Site) (u w : List Int) (x : Int) (y : Bool)
/-- PlansMore. -/
theorem p6_is (q' : List Int) (s' t' : List D_api_Site) (u' w' : List Int) (x' : Int) (y' : Bool) (hl : l.length ≤ 1048576) (hq : q.length ≤ 1048576) (hs : s.length ≤ 1048576) (ht : t.length ≤ 1048576) (hu : u.length ≤ 1048576) (hw : w.length ≤ 1048576) (hq' : q'.length ≤ 1048576) (hs' : s'.length ≤ 1048576) (ht' : t'.length ≤ 1048576) (hf : 4194304 < fu) :
    p6 fu ((a, c, f, h, i, j, k, l, m, n, o, ()), (q, s, t, u, w, x, y, ()), (q', s', t', u', w', x', y', ()), ()) = some ((), true) := by
  have hm : maxLen = 9223372036854775807 := rfl
  have e9 := p9_is (fu := fu) a c f h i j k l m n o q s t u w x y (by unfold few; omega) (by unfold few; omega) (by unfold few; omega) (by unfold few; omega) (by unfold few; omega) (by unfold few; omega) hf
  have e9' := p9_is (fu := fu) a c f h i j k l m n o (q' ++ q) (s' ++ s) (t' ++ t) u w x y (by unfold few; omega) (by unfold few; simp; omega) (by unfold few; simp; omega) (by unfold few; simp; omega) (by unfold few; omega) (by unfold few; omega) hf
  cases hp : planS c k l o with
  | false =>
    simp only [hp, Bool.false_eq_true, if_false] at e9
    simp only [p6, p8_is hf, bind_val, e9]
    rfl
  | true =>
    obtain ⟨_, hl7, _, _⟩ := plan_of c k l o hp
    have hlen := next_len c h i k l m n o q s t u w x y hp
    have hM := next_more c h i k l m n o (q := q) (q' := q' ++ q) (s := s) (s' := s' ++ s) (t := t) (t' := t' ++ t) u w x y hl7.1 (fun g hg => by rw [hasS_mem] at hg ⊢; exact List.mem_append_right _ hg) (fun g n hg => by rw [onS_mem] at hg ⊢; exact List.mem_append_right _ hg) (fun g n hg => by rw [onS_mem] at hg ⊢; exact List.mem_append_right _ hg)
    simp only [hp, if_true] at e9 e9'
    generalize nextS c h i k l m n o q s t u w x y = L at e9 hM hlen
    generalize nextS c h i k l m n o (q' ++ q) (s' ++ s) (t' ++ t) u w x y = M at e9' hM
    have l1 := List.length_pos_iff.2 hM.some
    have l2 := List.length_pos_iff.2 hM.some'
    have l3 := hM.len
    have z1 : (((L.length : Nat) : Int) == 0) = false := by have : ¬ ((L.length : Nat) : Int) = 0 := by omega
                                                            simpa using this
    have z2 : (((M.length : Nat) : Int) == 0) = false := by have : ¬ ((M.length : Nat) : Int) = 0 := by omega
                                                            simpa using this
    have w1 : IntKind.wrap .i64 (((L.length : Nat) : Int) + 1) = ((L.length : Nat) : Int) + 1 := i64_wrap (by omega) (by omega)
    have n1 : ¬ ((M.length : Nat) : Int) > ((L.length : Nat) : Int) + 1 := by omega
    have i1 : (0 : Int) ≤ 0 ∧ (0 : Int) < ((L.length : Nat) : Int) := by omega
    have i2 : (0 : Int) ≤ 0 ∧ (0 : Int) < ((M.length : Nat) : Int) := by omega
    have b1 : q'.length ≤ maxLen ∧ q'.length * 8 ≤ 140737488355328 := by omega
    have b2 : q'.length + q.length ≤ maxLen ∧ (q'.length + q.length) * 8 ≤ 140737488355328 := by omega
    have b3 : s'.length ≤ maxLen ∧ s'.length * 16 ≤ 140737488355328 := by omega
    have b4 : s'.length + s.length ≤ maxLen ∧ (s'.length + s.length) * 16 ≤ 140737488355328 := by omega
    have b5 : t'.length ≤ maxLen ∧ t'.length * 16 ≤ 140737488355328 := by omega
    have b6 : t'.length + t.length ≤ maxLen ∧ (t'.length + t.length) * 16 ≤ 140737488355328 := by omega
    simp only [p6, p8_is hf, bind_val, e9, bne_self_eq_false, cond_false, orK_inl, z1, List.length_nil, Nat.zero_add, List.nil_append, decide_true, cond_true, b1, b2, b3, b4, b5, b6, and_self, e9', z2, w1, n1, decide_false, i1, i2, l1, l2]
    by_cases h4 : (L.getD 0 (dflt T_api_Action)).1 = 4
    · have hb : ((L.getD 0 (dflt T_api_Action)).1 != 4) = false := by simpa using h4
      rw [hb, hM.step h4]
      simp only [cond_false, beq_self_eq_true, Bool.and_self]
    · have hb : ((L.getD 0 (dflt T_api_Action)).1 != 4) = true := by simpa using h4
      rw [hb]
      rfl
end
end
section
variable {fu : Nat}

/-- What is seen. -/
structure Sn where
  q : List Int
  s : List D_api_Site
  t : List D_api_Site
  u : List Int
  w : List Int
  x : Int
  y : Bool
@[reducible] def Sn.tup (z : Sn) : Z0 := (z.q, z.s, z.t, z.u, z.w, z.x, z.y, ())
/-- What is seen when an action was done. -/
def doesS (n : Int) (z : Sn) (X : D_api_Action) : Sn :=
  if X.1 = 2 then { z with q := z.q ++ [X.2.1] }
  else if X.1 = 3 then { z with s := z.s ++ [(X.2.1, X.2.2.1)] }
  else if X.1 = 5 then { z with t := z.t ++ [(X.2.1, X.2.2.1)] }
  else if X.1 = 7 then { z with x := X.2.2.1 }
  else if X.1 = 1 then { z with w := [n], y := true }
  else if X.1 = 6 then
    (if X.2.2.2.2.1 = 1 then { z with w := [X.2.2.2.2.2] }
    else if X.2.2.2.2.1 = 2 then { z with u := z.u ++ [X.2.2.2.2.2], w := [] }
    else if X.2.2.2.2.1 = 3 then { z with u := z.u.filter (· != X.2.2.2.2.2), w := [] }
    else z)
  else z
/-- So many in all. -/
structure Sn.le (z : Sn) (b : Nat) : Prop where
  q : z.q.length ≤ b
  s : z.s.length ≤ b
  t : z.t.length ≤ b
  u : z.u.length ≤ b
  w : z.w.length ≤ b
theorem does_le (n : Int) {z : Sn} {b : Nat} (h : z.le b) (X : D_api_Action) : (doesS n z X).le (b + 1) := by
  obtain ⟨h1, h2, h3, h4, h5⟩ := h
  have h6 := List.length_filter_le (· != X.2.2.2.2.2) z.u
  unfold doesS
  repeat' split
  all_goals
    constructor <;> (try dsimp only) <;> (try simp only [List.length_append, List.length_singleton, List.length_nil]) <;> omega
section
variable (a c : Int) (f : ByteArray) (h i : Int) (j : ByteArray) (k l : List Int) (m n o : Int)
theorem p14_is (z : Sn) (X : D_api_Action) (hz : z.le 2097152) (hf : 4194304 < fu) :
    p14 fu ((a, c, f, h, i, j, k, l, m, n, o, ()), z.tup, (X.1, X.2.1, X.2.2.1, X.2.2.2.1, X.2.2.2.2.1, X.2.2.2.2.2, ()), ()) = some ((), (doesS n z X).tup) := by
  obtain ⟨q, s, t, u, w, x, y⟩ := z
  obtain ⟨x1, x2, x3, x4, x5, x6⟩ := X
  obtain ⟨h1, h2, h3, h4, h5⟩ := hz
  dsimp only at h1 h2 h3 h4 h5
  have hm : maxLen = 9223372036854775807 := rfl
  have b1 : q.length ≤ maxLen ∧ q.length * 8 ≤ 140737488355328 := by omega
  have b2 : q.length + 1 ≤ maxLen ∧ (q.length + 1) * 8 ≤ 140737488355328 := by omega
  have b3 : s.length ≤ maxLen ∧ s.length * 16 ≤ 140737488355328 := by omega
  have b4 : s.length + 1 ≤ maxLen ∧ (s.length + 1) * 16 ≤ 140737488355328 := by omega
  have b5 : t.length ≤ maxLen ∧ t.length * 16 ≤ 140737488355328 := by omega
  have b6 : t.length + 1 ≤ maxLen ∧ (t.length + 1) * 16 ≤ 140737488355328 := by omega
  have b7 : u.length ≤ maxLen ∧ u.length * 8 ≤ 140737488355328 := by omega
  have b8 : u.length + 1 ≤ maxLen ∧ (u.length + 1) * 8 ≤ 140737488355328 := by omega
  simp only [p14, Sn.tup, doesS, List.length_nil, Nat.zero_add, List.nil_append, List.length_singleton, decide_true, cond_true, b1, b2, b3, b4, b5, b6, b7, b8, and_self]
  by_cases k2 : x1 = 2
  · subst k2; rfl
  have e2 : (x1 == 2) = false := by simpa using k2
  simp only [e2, cond_false, if_neg k2]
  by_cases k3 : x1 = 3
  · subst k3; rfl
  have e3 : (x1 == 3) = false := by simpa using k3
  simp only [e3, cond_false, if_neg k3]
  by_cases k5 : x1 = 5
  · subst k5; rfl
  have e5 : (x1 == 5) = false := by simpa using k5
  simp only [e5, cond_false, if_neg k5]
  by_cases k7 : x1 = 7
  · subst k7; rfl
  have e7 : (x1 == 7) = false := by simpa using k7
  simp only [e7, cond_false, if_neg k7]
  by_cases k1 : x1 = 1
  · subst k1; rfl
  have e1 : (x1 == 1) = false := by simpa using k1
  simp only [e1, cond_false, if_neg k1]
  by_cases k6 : x1 = 6
  · subst k6
    simp only [beq_self_eq_true, cond_true, if_true]
    by_cases c1 : x5 = 1
    · subst c1; rfl
    have d1 : (x5 == 1) = false := by simpa using c1
    simp only [d1, cond_false, if_neg c1]
    by_cases c2 : x5 = 2
    · subst c2; rfl
    have d2 : (x5 == 2) = false := by simpa using c2
    simp only [d2, cond_false, if_neg c2]
    by_cases c3 : x5 = 3
    · subst c3
      simp only [beq_self_eq_true, cond_true, if_true]
      refine loop_val (I := fun st => ∃ e : Nat, st = (((u.take e).filter (· != x6), (e : Int), ()), ()) ∧ e ≤ u.length) (m := fun st => (u.length - Int.toNat st.1.2.1)) ⟨0, by simp, Nat.zero_le _⟩ (by simp; omega) fun st hs => ?_
      obtain ⟨e, rfl, he⟩ := hs
      by_cases hlt : e < u.length
      · have hml : ((u.take e).filter (· != x6)).length ≤ u.length := Nat.le_trans (List.length_filter_le _ _) (by rw [List.length_take]; omega)
        have hb : ((u.take e).filter (· != x6)).length + 1 ≤ maxLen ∧ (((u.take e).filter (· != x6)).length + 1) * 8 ≤ 140737488355328 := by omega
        refine ⟨.inl _, ?_, ⟨e + 1, rfl, hlt⟩, by simp only [Int.toNat_natCast]; omega⟩
        have hst : (u.take (e + 1)).filter (· != x6) = (bif (u.getD e (dflt (.int .i64)) != x6) then (u.take e).filter (· != x6) ++ [u.getD e (dflt (.int .i64))] else (u.take e).filter (· != x6)) := by
          rw [take_one u e (dflt (.int .i64)) hlt, List.filter_append, List.filter_cons]
          cases (u.getD e (dflt (.int .i64)) != x6) <;> simp
        rw [hst]
        simp only [Int.ofNat_lt, Int.natCast_nonneg, hlt, decide_true, cond_true, and_self, Int.toNat_natCast, hb, i64_succ hlt (by omega : u.length ≤ 9223372036854775807)]
        cases (u.getD e (dflt (.int .i64)) != x6) <;> rfl
      · obtain rfl : e = u.length := by omega
        simp only [Int.ofNat_lt, Nat.lt_irrefl, decide_false, cond_false, take_all]
        exact ⟨_, rfl, rfl⟩
    have d3 : (x5 == 3) = false := by simpa using c3
    simp only [d3, cond_false, if_neg c3]
  have e6 : (x1 == 6) = false := by simpa using k6
  simp only [e6, cond_false, if_neg k6]
/-- What is asked for, of what is seen. -/
def nx (z : Sn) : List D_api_Action := nextS c h i k l m n o z.q z.s z.t z.u z.w z.x z.y
/-- How far it is to the step. -/
def rank (z : Sn) : Nat :=
  if c = 3 then (if o = 0 then (if hasS z.u n || hasS z.w n then 0 else if onS z.s h n then 1 else 2)
    else if o = 1 then (if hasS z.u n then 0 else if hasS z.w n && z.y then 1 else 2)
    else if o = 2 then (if !(hasS z.u m || hasS z.w m) then 0 else if z.x = m then 2 else 1)
    else if o = 4 then (if onS z.t h m then 0 else 1) else 0)
  else if o = 0 then (if hasS z.q h then 0 else 1)
  else if c = 2 ∧ o = 1 then (if hasS z.q i then 0 else 1)
  else if (c = 1 ∧ o = 1) ∨ (c = 2 ∧ o = 2) then (restS 3 (pairs k l) z.s).length
  else if (c = 1 ∧ o = 2) ∨ (c = 2 ∧ o = 3) then 0
  else (restS 5 (pairs (if c = 2 then [h, i] else [h]) l) z.t).length
/-- The step, or an action that leads nearer to it. -/
def Goes (z : Sn) (r : Sn → Nat) (L : List D_api_Action) : Prop := ∃ X R, L = X :: R ∧ (∀ Y ∈ R, Y.1 ≠ 4) ∧ (X = stepA o ∨ (X.1 ≠ 4 ∧ r (doesS n z X) < r z))
theorem act_ne {k : Int} (hk : k ≠ 4) (g n : Int) : (actS k g n).1 ≠ 4 := hk
theorem chg_ne (g k n : Int) : (chgA g k n).1 ≠ 4 := by
  show (6 : Int) ≠ 4
  decide
theorem goes_step {z : Sn} {r : Sn → Nat} : Goes n o z r [stepA o] := ⟨_, [], rfl, nofun, .inl rfl⟩
theorem goes_act {z : Sn} {r : Sn → Nat} {X : D_api_Action} (h1 : X.1 ≠ 4) (h2 : r (doesS n z X) < r z) : Goes n o z r [X] := ⟨_, [], rfl, nofun, .inr ⟨h1, h2⟩⟩
theorem has_app (l : List Int) (x : Int) : hasS (l ++ [x]) x = true := hasS_mem.2 (by simp)
theorem on_app (l : List D_api_Site) (g x : Int) : onS (l ++ [(g, x)]) g x = true := onS_mem.2 (by simp)
theorem rest_less {kind g n : Int} {P : List (Int × Int)} {s : List D_api_Site} {R : List D_api_Action} (h : restS kind P s = actS kind g n :: R) : (restS kind P (s ++ [(g, n)])).length < (restS kind P s).length := by
  unfold restS at h ⊢
  rw [List.length_map, List.length_map]
  cases hP : P.filter (fun p => !onS s p.1 p.2) with
  | nil => rw [hP] at h; cases h
  | cons p tl =>
    rw [hP] at h
    obtain ⟨h1, _⟩ := List.cons.inj h
    have hg : p.1 = g := congrArg (fun X : D_api_Action => X.2.1) h1
    have hn : p.2 = n := congrArg (fun X : D_api_Action => X.2.2.1) h1
    have e : P.filter (fun p => !onS (s ++ [(g, n)]) p.1 p.2) = (P.filter (fun p => !onS s p.1 p.2)).filter (fun p => !onS (s ++ [(g, n)]) p.1 p.2) := by
      rw [List.filter_filter]
      congr 1
      funext p
      cases h2 : onS s p.1 p.2 with
      | false => simp
      | true =>
        have : onS (s ++ [(g, n)]) p.1 p.2 = true := by rw [onS_mem] at h2 ⊢; exact List.mem_append_left _ h2
        rw [this]; rfl
    rw [e, hP, List.filter_cons]
    have : onS (s ++ [(g, n)]) p.1 p.2 = true := by rw [hg, hn]; exact on_app _ _ _
    rw [this]
    simp only [Bool.not_true, Bool.false_eq_true, if_false, List.length_cons]
    have := List.length_filter_le (fun p : Int × Int => !onS (s ++ [(g, n)]) p.1 p.2) tl
    omega
theorem goes_sites {z : Sn} {r : Sn → Nat} {G : List Int} {s : List D_api_Site} {kind : Int} (hk : kind ≠ 4) (hl : 1 ≤ l.length)
    (hr : ∀ g y R, restS kind (pairs G l) s = actS kind g y :: R → r (doesS n z (actS kind g y)) < r z) : Goes n o z r (sitesS G l s kind o) := by
  unfold sitesS
  have hkind : ∀ y ∈ restS kind (pairs G l) s, y.1 ≠ 4 := fun y hy e => hk ((rest_kind y hy).symm.trans e)
  cases h1 : G.all (mostS l s) with
  | true => exact ⟨_, _, rfl, hkind, .inl rfl⟩
  | false =>
    have h2 := rest_some (kind := kind) hl h1
    cases hL : restS kind (pairs G l) s with
    | nil => exact absurd hL h2
    | cons X R =>
      rw [hL] at hkind
      have hX : ∃ g y, X = actS kind g y := by
        unfold restS at hL
        have hmem : X ∈ ((pairs G l).filter fun p => !onS s p.1 p.2).map fun p => actS kind p.1 p.2 := by rw [hL]; exact List.mem_cons_self ..
        obtain ⟨p, _, rfl⟩ := List.mem_map.1 hmem
        exact ⟨_, _, rfl⟩
      obtain ⟨g, y, rfl⟩ := hX
      exact ⟨_, _, rfl, fun Y hY => hkind Y (List.mem_cons_of_mem _ hY), .inr ⟨hk, hr g y R hL⟩⟩
theorem nx_goes (hp : planS c k l o = true) (hmn : c = 3 → m ≠ n) (z : Sn) : Goes n o z (rank c h i k l m n o) (nx c h i k l m n o z) := by
  obtain ⟨⟨o1, o2⟩, hl7, hk, hc⟩ := plan_of c k l o hp
  unfold nx nextS
  by_cases h3 : c = 3
  · subst h3
    have hmn := hmn rfl
    simp only [if_true]
    by_cases h0 : o = 0
    · subst h0
      simp only [if_true]
      unfold learnS
      cases h4 : hasS z.u n || hasS z.w n with
      | true => exact goes_step n 0
      | false =>
        cases h5 : onS z.s h n with
        | true =>
          refine goes_act n 0 (X := chgA h 1 n) (chg_ne _ _ _) ?_
          have e : doesS n z (chgA h 1 n) = { z with w := [n] } := rfl
          have hn : hasS [n] n = true := hasS_mem.2 (by simp)
          simp only [e, rank, if_true, h4, h5, hn, Bool.or_true, Bool.false_eq_true, if_false]
          decide
        | false =>
          refine goes_act n 0 (X := actS 3 h n) (act_ne (k := 3) (by decide) _ _) ?_
          have e : doesS n z (actS 3 h n) = { z with s := z.s ++ [(h, n)] } := rfl
          simp only [e, rank, if_true, h4, h5, on_app, Bool.false_eq_true, if_false]
          decide
    · simp only [if_neg h0]
      by_cases h1 : o = 1
      · subst h1
        simp only [if_true]
        unfold promS
        cases h4 : hasS z.u n with
        | true => exact goes_step n 1
        | false =>
          cases h5 : hasS z.w n && z.y with
          | true =>
            refine goes_act n 1 (X := chgA h 2 n) (chg_ne _ _ _) ?_
            have e : doesS n z (chgA h 2 n) = { z with u := z.u ++ [n], w := [] } := rfl
            have e0 : ¬ (1 : Int) = 0 := by decide
            simp only [e, rank, if_true, if_neg e0, h4, h5, has_app, Bool.false_eq_true, if_false]
            decide
          | false =>
            refine goes_act n 1 (X := actS 1 0 0) (act_ne (k := 1) (by decide) _ _) ?_
            have e : doesS n z (actS 1 0 0) = { z with w := [n], y := true } := rfl
            have e0 : ¬ (1 : Int) = 0 := by decide
            have hn : hasS [n] n = true := hasS_mem.2 (by simp)
            simp only [e, rank, if_true, if_neg e0, h4, h5, hn, Bool.and_self, Bool.false_eq_true, if_false]
            decide
      · simp only [if_neg h1]
        by_cases h2 : o = 2
        · subst h2
          simp only [if_true]
          unfold remvS
          have e0 : ¬ (2 : Int) = 0 := by decide
          have e1 : ¬ (2 : Int) = 1 := by decide
          cases h4 : hasS z.u m || hasS z.w m with
          | false => exact goes_step n 2
          | true =>
            by_cases hx : z.x = m
            · simp only [Bool.not_true, Bool.false_eq_true, if_false, if_pos hx]
              refine goes_act n 2 (X := actS 7 h n) (act_ne (k := 7) (by decide) _ _) ?_
              have e : doesS n z (actS 7 h n) = { z with x := n } := rfl
              have hnm : ¬ n = m := fun e => hmn e.symm
              simp only [e, rank, if_true, if_neg e0, if_neg e1, h4, Bool.not_true, Bool.false_eq_true, if_false, if_pos hx, if_neg hnm]
              decide
            · simp only [Bool.not_true, Bool.false_eq_true, if_false, if_neg hx]
              refine goes_act n 2 (X := chgA h 3 m) (chg_ne _ _ _) ?_
              have e : doesS n z (chgA h 3 m) = { z with u := z.u.filter (· != m), w := [] } := rfl
              have q1 : hasS (z.u.filter (· != m)) m = false := by
                rw [← Bool.not_eq_true, hasS_mem, List.mem_filter]; simp
              have q2 : hasS [] m = false := rfl
              simp only [e, rank, if_true, if_neg e0, if_neg e1, h4, q1, q2, Bool.or_self, Bool.not_true, Bool.not_false, Bool.false_eq_true, if_false, if_neg hx]
              decide
        · simp only [if_neg h2]
          by_cases h4 : o = 4
          · subst h4
            simp only [if_true]
            unfold leavS
            have e0 : ¬ (4 : Int) = 0 := by decide
            have e1 : ¬ (4 : Int) = 1 := by decide
            have e2 : ¬ (4 : Int) = 2 := by decide
            cases h4 : onS z.t h m with
            | true => exact goes_step n 4
            | false =>
              refine goes_act n 4 (X := actS 5 h m) (act_ne (k := 5) (by decide) _ _) ?_
              have e : doesS n z (actS 5 h m) = { z with t := z.t ++ [(h, m)] } := rfl
              simp only [e, rank, if_true, if_neg e0, if_neg e1, if_neg e2, h4, on_app, Bool.false_eq_true, if_false]
              decide
          · simp only [if_neg h4]
            exact goes_step n o
  · simp only [if_neg h3]
    by_cases h0 : o = 0
    · subst h0
      simp only [if_true]
      unfold freezeS
      cases h4 : hasS z.q h with
      | true => exact goes_step n 0
      | false =>
        refine goes_act n 0 (X := actS 2 h 0) (act_ne (k := 2) (by decide) _ _) ?_
        have e : doesS n z (actS 2 h 0) = { z with q := z.q ++ [h] } := rfl
        simp only [e, rank, if_true, if_neg h3, h4, has_app, Bool.false_eq_true, if_false]
        decide
    · simp only [if_neg h0]
      by_cases h1 : c = 2 ∧ o = 1
      · simp only [if_pos h1]
        unfold freezeS
        cases h4 : hasS z.q i with
        | true => exact goes_step n o
        | false =>
          refine goes_act n o (X := actS 2 i 0) (act_ne (k := 2) (by decide) _ _) ?_
          have e : doesS n z (actS 2 i 0) = { z with q := z.q ++ [i] } := rfl
          simp only [e, rank, if_true, if_neg h3, if_neg h0, if_pos h1, h4, has_app, Bool.false_eq_true, if_false]
          decide
      · simp only [if_neg h1]
        by_cases h2 : (c = 1 ∧ o = 1) ∨ (c = 2 ∧ o = 2)
        · simp only [if_pos h2]
          refine goes_sites l n o (by decide) hl7.1 fun g y R hR => ?_
          have e : doesS n z (actS 3 g y) = { z with s := z.s ++ [(g, y)] } := rfl
          simp only [e, rank, if_neg h3, if_neg h0, if_neg h1, if_pos h2]
          exact rest_less hR
        · simp only [if_neg h2]
          by_cases h4 : (c = 1 ∧ o = 2) ∨ (c = 2 ∧ o = 3)
          · simp only [if_pos h4]
            exact goes_step n o
          · simp only [if_neg h4]
            refine goes_sites l n o (by decide) hl7.1 fun g y R hR => ?_
            have e : doesS n z (actS 5 g y) = { z with t := z.t ++ [(g, y)] } := rfl
            simp only [e, rank, if_neg h3, if_neg h0, if_neg h1, if_neg h2, if_neg h4]
            exact rest_less hR
theorem rank_le (hp : planS c k l o = true) (z : Sn) : rank c h i k l m n o z ≤ 14 := by
  obtain ⟨⟨o1, o2⟩, hl7, hk, hc⟩ := plan_of c k l o hp
  have hrest : ∀ kind G s, G.length ≤ 2 → (restS kind (pairs G l) s).length ≤ 14 := fun kind G s hG => by
    have h1 := rest_len kind (pairs G l) s
    rw [pairs_len] at h1
    have h2 := Nat.mul_le_mul hG hl7.2
    omega
  unfold rank
  have h1 := hrest 3 k z.s (by omega)
  repeat' split
  all_goals first | omega | exact hrest 5 _ z.t (by simp)
end
end
section
variable {fu : Nat}

theorem Sn.le.mono {z : Sn} {b b' : Nat} (h : z.le b) (hb : b ≤ b') : z.le b' := ⟨Nat.le_trans h.q hb, Nat.le_trans h.s hb, Nat.le_trans h.t hb, Nat.le_trans h.u hb, Nat.le_trans h.w hb⟩
theorem plan_step {c : Int} {k l : List Int} {o o' : Int} (hp : planS c k l o = true) (h1 : 0 ≤ o') (h2 : o' < stepsN c) : planS c k l o' = true := by
  unfold planS at hp ⊢
  simp only [Bool.and_eq_true, decide_eq_true_eq] at hp ⊢
  exact ⟨⟨⟨h1, h2⟩, hp.1.2⟩, hp.2⟩
theorem plan_end {c : Int} {k l : List Int} : planS c k l (stepsN c) = false := by
  unfold planS
  have : ¬ (0 ≤ stepsN c ∧ stepsN c < stepsN c) := by omega
  rw [decide_eq_false this]
  rfl
theorem orK_ex {E R X : Type} {o : Option (E ⊕ R)} {K : E → Option R} {P : R → Prop} (mk : X → E) (J : X → Prop) (h : ∃ x, o = some (.inl (mk x)) ∧ J x) (hk : ∀ x, J x → ∃ r, K (mk x) = some r ∧ P r) : ∃ r, orK o K = some r ∧ P r := by
  obtain ⟨x, rfl, hx⟩ := h
  exact hk x hx
section
variable (a c : Int) (f : ByteArray) (h i : Int) (j : ByteArray) (k l : List Int) (m n o : Int)
theorem p9_nx (z : Sn) (hl : l.length ≤ 1048576) (hz : z.le 2097152) (hf : 4194304 < fu) (hp : planS c k l o = true) :
    p9 fu ((a, c, f, h, i, j, k, l, m, n, o, ()), z.tup, ()) = some ((), (nx c h i k l m n o z, 0, ())) := by
  have := p9_is (fu := fu) a c f h i j k l m n o z.q z.s z.t z.u z.w z.x z.y (by unfold few; omega) (Nat.le_trans hz.q (by decide)) (Nat.le_trans hz.s (by decide)) (Nat.le_trans hz.t (by decide)) (Nat.le_trans hz.u (by decide)) (Nat.le_trans hz.w (by decide)) hf
  rw [if_pos hp] at this
  exact this
theorem p9_no (z : Sn) (hl : l.length ≤ 1048576) (hz : z.le 2097152) (hf : 4194304 < fu) (hp : planS c k l o = false) :
    p9 fu ((a, c, f, h, i, j, k, l, m, n, o, ()), z.tup, ()) = some ((), ([], 191, ())) := by
  have := p9_is (fu := fu) a c f h i j k l m n o z.q z.s z.t z.u z.w z.x z.y (by unfold few; omega) (Nat.le_trans hz.q (by decide)) (Nat.le_trans hz.s (by decide)) (Nat.le_trans hz.t (by decide)) (Nat.le_trans hz.u (by decide)) (Nat.le_trans hz.w (by decide)) hf
  rw [if_neg (by rw [hp]; decide)] at this
  exact this
/-- PlansEnd. -/
theorem p5_is (z0 : Sn) (hl : l.length ≤ 1048576) (hz0 : z0.le 1048576) (hf : 4194304 < fu) :
    p5 fu ((a, c, f, h, i, j, k, l, m, n, o, ()), z0.tup, ()) = some ((), true) := by
  cases hp : planS c k l o with
  | false =>
    have e9 := p9_no (fu := fu) a c f h i j k l m n o z0 hl (hz0.mono (by decide)) hf hp
    unfold Sn.tup at e9
    simp only [p5, p8_is hf, bind_val, e9]
    rfl
  | true =>
    obtain ⟨⟨o1, o2⟩, hl7, hk, hc⟩ := plan_of c k l o hp
    have hsn : stepsN c ≤ 5 := by unfold stepsN; repeat' split
                                  all_goals omega
    have e9 := p9_nx (fu := fu) a c f h i j k l m n o z0 hl (hz0.mono (by decide)) hf hp
    unfold Sn.tup at e9
    simp only [p5, p8_is hf, bind_val, e9, bne_self_eq_false, cond_false]
    by_cases hstop : c = 3 ∧ m = n
    · obtain ⟨rfl, rfl⟩ := hstop
      simp only [beq_self_eq_true, cond_true]
      rfl
    · have hmn : c = 3 → m ≠ n := fun h3 hm => hstop ⟨h3, hm⟩
      have horK : ∀ {E R : Type} (e : E) (r : R) (kk : E → Option R), orK (bif c == 3 then (bif m == n then inrO (some r) else some (.inl e)) else some (.inl e)) kk = kk e := fun e r kk => by
        by_cases h3 : c = 3
        · have hb : (m == n) = false := by simpa using hmn h3
          have hb3 : (c == 3) = true := by simpa using h3
          rw [hb3, hb]; rfl
        · have hb3 : (c == 3) = false := by simpa using h3
          rw [hb3]; rfl
      rw [horK]
      have hw0 : IntKind.wrap .i64 (stepsN c - o) = stepsN c - o := i64_wrap (by omega) (by omega)
      simp only [p12_is, bind_val, hw0]
      refine loop_val (I := fun st => ∃ (o' : Int) (z : Sn), st = ((stepsN c - o', ()), ((a, c, f, h, i, j, k, l, m, n, o', ()), z.tup, ())) ∧ 0 ≤ o' ∧ o' ≤ stepsN c ∧ z.le (1048576 + 32 * o'.toNat)) (m := fun st => Int.toNat st.1.1) ⟨o, z0, rfl, o1, by omega, hz0.mono (by omega)⟩ (by show Int.toNat (stepsN c - o) < fu; omega) fun st hs => ?_
      obtain ⟨o', z, rfl, p1, p2, p3⟩ := hs
      by_cases hlt : o' < stepsN c
      · have hpos : stepsN c - o' > 0 := by omega
        have hp' := plan_step hp p1 hlt
        simp only [Sn.tup, hpos, decide_true, cond_true]
        have inner : ∀ {F : ((Bool × Int × Unit) × (Z0 × Unit)) → Option (((Bool × Int × Unit) × (Z0 × Unit)) ⊕ (((Bool × Unit) × (Z0 × Unit)) ⊕ ((((Int × Unit) × (Z1 × Z0 × Unit))) ⊕ (Unit × Bool))))},
            (∀ (e : Nat) (z' : Sn), F ((true, (e : Int), ()), (z'.tup, ())) = some (.inr (.inl ((true, ()), (z'.tup, ()))))) →
            (∀ (e : Nat) (z' : Sn), e < 32 → z'.le (1048576 + 32 * o'.toNat + e) → ∃ (b : Bool) (z'' : Sn), F ((false, (e : Int), ()), (z'.tup, ())) = some (.inl ((b, ((e + 1 : Nat) : Int), ()), (z''.tup, ()))) ∧ z''.le (1048576 + 32 * o'.toNat + e + 1) ∧ (b = false → rank c h i k l m n o' z'' < rank c h i k l m n o' z')) →
            ∃ z', loopO fu F ((false, (0 : Int), ()), (z.tup, ())) = some (.inl ((true, ()), (z'.tup, ()))) ∧ Sn.le z' (1048576 + 32 * o'.toNat + 32) := fun {F} h1 h2 => by
          refine loop_ex (fun z' : Sn => Sum.inl ((true, ()), (z'.tup, ()))) (fun z' : Sn => z'.le (1048576 + 32 * o'.toNat + 32)) (I := fun st => ∃ (b : Bool) (e : Nat) (z' : Sn), st = ((b, (e : Int), ()), (z'.tup, ())) ∧ z'.le (1048576 + 32 * o'.toNat + e) ∧ e ≤ 16 ∧ (b = false → e + rank c h i k l m n o' z' ≤ 14)) (m := fun st => 40 - Int.toNat st.1.2.1) ⟨false, 0, z, rfl, p3, by omega, fun _ => by have := rank_le c h i k l m n o' hp' z; omega⟩ (by show 40 - 0 < fu; omega) fun st hs => ?_
          obtain ⟨b, e, z', rfl, q1, q2, q3⟩ := hs
          cases b with
          | true => exact ⟨_, h1 e z', z', rfl, q1.mono (by omega)⟩
          | false =>
            have q3 := q3 rfl
            obtain ⟨b, z'', r1, r2, r3⟩ := h2 e z' (by omega) q1
            refine ⟨_, r1, ⟨b, e + 1, z'', rfl, r2, by omega, fun hb => ?_⟩, by show 40 - Int.toNat ((e + 1 : Nat) : Int) < 40 - Int.toNat (e : Int); omega⟩
            have := r3 hb
            omega
        have hw1 : IntKind.wrap .i64 (stepsN c - o' - 1) = stepsN c - (o' + 1) := by rw [i64_wrap (by omega) (by omega)]; omega
        have hw2 : IntKind.wrap .i64 (o' + 1) = o' + 1 := i64_wrap (by omega) (by omega)
        refine orK_ex (fun z' : Sn => ((true, ()), (z'.tup, ()))) (fun z' : Sn => z'.le (1048576 + 32 * o'.toNat + 32)) (inner ?_ ?_) fun z' e2 => ?_
        rotate_left
        rotate_left
        · simp only [Bool.not_true, cond_false, hw1, hw2]
          exact ⟨_, rfl, ⟨o' + 1, z', rfl, by omega, by omega, e2.mono (by omega)⟩, by show Int.toNat (stepsN c - (o' + 1)) < Int.toNat (stepsN c - o'); omega⟩
        · intro e z'
          simp only [Sn.tup, Bool.not_true, cond_false]
          cases decide ((e : Int) < 32) <;> rfl
        · intro e z' he hz'
          have hz2 : z'.le 2097152 := hz'.mono (by omega)
          have e9 := p9_nx (fu := fu) a c f h i j k l m n o' z' hl hz2 hf hp'
          obtain ⟨X, R, g1, g2, g3⟩ := nx_goes c h i k l m n o' hp' hmn z'
          rw [g1] at e9
          unfold Sn.tup at e9
          have hlen := next_len c h i k l m n o' z'.q z'.s z'.t z'.u z'.w z'.x z'.y hp'
          have g1' : nextS c h i k l m n o' z'.q z'.s z'.t z'.u z'.w z'.x z'.y = X :: R := g1
          rw [g1'] at hlen
          have hne : ((((X :: R).length : Nat) : Int) == 0) = false := by
            have : ¬ (((X :: R).length : Nat) : Int) = 0 := by simp only [List.length_cons]; omega
            simpa using this
          have he' : (e : Int) < 32 := by omega
          have hw3 : IntKind.wrap .i64 ((e : Int) + 1) = ((e + 1 : Nat) : Int) := i64_succ he (by decide)
          have hz0' : (0 : Int) ≤ 0 ∧ (0 : Int) < (((X :: R).length : Nat) : Int) := by simp only [List.length_cons]; omega
          have hz1' : 0 < (X :: R).length := by simp
          simp only [Sn.tup, he', decide_true, cond_true, Bool.not_false, e9, bind_val, bne_self_eq_false, cond_false, hne]
          have goal : ∃ (b : Bool) (z'' : Sn), ((X = stepA o' ∧ b = true ∧ z'' = z') ∨ (X.1 ≠ 4 ∧ b = false ∧ z'' = doesS n z' X)) ∧ z''.le (1048576 + 32 * o'.toNat + e + 1) ∧ (b = false → rank c h i k l m n o' z'' < rank c h i k l m n o' z') := by
            rcases g3 with rfl | ⟨g3, g4⟩
            · exact ⟨true, z', .inl ⟨rfl, rfl, rfl⟩, hz'.mono (by omega), fun h => by cases h⟩
            · exact ⟨false, _, .inr ⟨g3, rfl, rfl⟩, does_le n hz' X, fun _ => g4⟩
          obtain ⟨b, z'', w1, w2, w3⟩ := goal
          refine ⟨b, z'', ?_, w2, w3⟩
          refine loop_val (I := fun st => ∃ d : Nat, st = (((d : Int), ()), ()) ∧ 1 ≤ d ∧ d ≤ (X :: R).length) (m := fun st => ((X :: R).length - Int.toNat st.1.1)) ⟨1, rfl, Nat.le_refl _, by simp⟩ (by simp only [List.length_cons] at hlen ⊢; omega) fun st hs => ?_
          obtain ⟨d, rfl, d1, d2⟩ := hs
          by_cases hd : d < (X :: R).length
          · have hkind : (((X :: R).getD d (dflt T_api_Action)).1 == 4) = false := by
              obtain ⟨d', rfl⟩ : ∃ d', d = d' + 1 := ⟨d - 1, by omega⟩
              have hd' : d' < R.length := by simpa using hd
              have : (X :: R).getD (d' + 1) (dflt T_api_Action) ∈ R := by
                rw [getD_lt hd]; simp
              simpa using g2 _ this
            simp only [Int.ofNat_lt, Int.natCast_nonneg, hd, decide_true, cond_true, and_self, Int.toNat_natCast, hkind, cond_false, i64_succ hd (by omega : (X :: R).length ≤ 9223372036854775807)]
            exact ⟨_, rfl, ⟨d + 1, rfl, by omega, hd⟩, by simp only [Int.toNat_natCast]; omega⟩
          · simp only [Int.ofNat_lt, hd, decide_false, cond_false, hz0', hz1', decide_true, cond_true, and_self, List.getD_cons_zero]
            rcases w1 with ⟨rfl, rfl, rfl⟩ | ⟨k4, rfl, rfl⟩
            · have hb1 : ((stepA o').1 == 4) = true := rfl
              have hb2 : ((stepA o').2.2.2.1 != o') = false := by
                have : (stepA o').2.2.2.1 = o' := rfl
                rw [this]; exact bne_self_eq_false _
              simp only [hb1, cond_true, hb2, cond_false, hw3]
              exact ⟨_, rfl, rfl⟩
            · have hb1 : (X.1 == 4) = false := by simpa using k4
              have e14 := p14_is (fu := fu) a c f h i j k l m n o' z' X hz2 hf
              unfold Sn.tup at e14
              simp only [hb1, cond_false, e14, bind_val, hw3]
              exact ⟨_, rfl, rfl⟩
      · obtain rfl : o' = stepsN c := by omega
        have hn : ¬ stepsN c - stepsN c > 0 := by omega
        have e9 := p9_no (fu := fu) a c f h i j k l m n (stepsN c) z hl (p3.mono (by omega)) hf plan_end
        unfold Sn.tup at e9
        simp only [Sn.tup, hn, decide_false, cond_false, e9, bind_val, cond_true, beq_self_eq_true]
        exact ⟨_, rfl, rfl⟩
end
set_option maxRecDepth 100000 in
/-- PlansNames. -/
theorem p3_is : p3 1000 () = some ((), true) := by decide +kernel
end
end Go.Proofs.Ytcfkmeflnglgfaa
