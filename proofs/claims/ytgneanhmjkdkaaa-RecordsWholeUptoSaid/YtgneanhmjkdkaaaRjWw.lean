/-
  Layer 14, logs: what may be a log; records that are made.
-/
import Derived.Test.YtgneanhmjkdkaaaPtN
import Derived.Test.YtgneanhmjkdkaaaDaP
namespace Go.Proofs.Ytgneanhmjkdkaaa
open Go.RowKit
section
variable {fu : Nat}
abbrev Rd := D_api_Record
/-- A loop that looks for one. -/
theorem loop_any {X S R : Type} {f : S → Option (S ⊕ R)} : ∀ (l : List X) (mk : Nat → S) (q : X → Bool) (r fin : R), l.length < fu →
    (∀ i (h : i < l.length), f (mk i) = some (bif q l[i] then .inr r else .inl (mk (i + 1)))) → f (mk l.length) = some (.inr fin) → loopO fu f (mk 0) = some (bif l.any q then r else fin) := by
  intro l mk q r fin hf hs he
  have key : ∀ k i n, i + k = l.length → k < n → loopO n f (mk i) = some (bif (l.drop i).any q then r else fin) := by
    intro k
    induction k with
    | zero =>
      intro i n hi hn
      obtain ⟨m, rfl⟩ : ∃ m, n = m + 1 := ⟨n - 1, by omega⟩
      obtain rfl : i = l.length := by omega
      simp only [loopO, he, List.drop_length, List.any_nil, cond_false]
    | succ k ih =>
      intro i n hi hn
      obtain ⟨m, rfl⟩ : ∃ m, n = m + 1 := ⟨n - 1, by omega⟩
      have hlt : i < l.length := by omega
      rw [List.drop_eq_getElem_cons hlt]
      simp only [loopO, hs i hlt, List.any_cons]
      cases q l[i] with
      | true => rfl
      | false => exact ih (i + 1) m (by omega) (by omega)
  exact key l.length 0 fu (by omega) hf
theorem loop_for {X S R : Type} {f : S → Option (S ⊕ R)} {res : R} (l : List X) (mk : Nat → S) (q : X → Bool) (r fin : R) (hf : l.length < fu)
    (hs : ∀ i (h : i < l.length), f (mk i) = some (bif q l[i] then .inr r else .inl (mk (i + 1)))) (he : f (mk l.length) = some (.inr fin)) (hr : (bif l.any q then r else fin) = res) : loopO fu f (mk 0) = some res :=
  hr ▸ loop_any l mk q r fin hf hs he
theorem loop_find {X S R : Type} {f : S → Option (S ⊕ R)} {res : R} (l : List X) (mk : Nat → S) (q : X → Bool) (g : Option X → R) (hf : l.length < fu)
    (hs : ∀ i (h : i < l.length), f (mk i) = some (bif q l[i] then .inr (g (some l[i])) else .inl (mk (i + 1)))) (he : f (mk l.length) = some (.inr (g none))) (hr : g (l.find? q) = res) : loopO fu f (mk 0) = some res := by
  subst hr
  have key : ∀ k i n, i + k = l.length → k < n → loopO n f (mk i) = some (g ((l.drop i).find? q)) := by
    intro k
    induction k with
    | zero =>
      intro i n hi hn
      obtain ⟨m, rfl⟩ : ∃ m, n = m + 1 := ⟨n - 1, by omega⟩
      obtain rfl : i = l.length := by omega
      simp only [loopO, he, List.drop_length, List.find?_nil]
    | succ k ih =>
      intro i n hi hn
      obtain ⟨m, rfl⟩ : ∃ m, n = m + 1 := ⟨n - 1, by omega⟩
      have hlt : i < l.length := by omega
      rw [List.drop_eq_getElem_cons hlt]
      simp only [loopO, hs i hlt, List.find?_cons]
      cases q l[i] with
      | true => rfl
      | false => exact ih (i + 1) m (by omega) (by omega)
  exact key l.length 0 fu (by omega) hf
/-- A loop over a list that folds. -/
theorem loop_fold {X S A R : Type} {f : S → Option (S ⊕ R)} {res : R} (l : List X) (mk : Nat → A → S) (st : A → X → A) (fin : A → R) (a : A) (P : Nat → A → Prop) (h0 : P 0 a) (hf : l.length < fu)
    (hs : ∀ i (h : i < l.length) b, P i b → f (mk i b) = some (.inl (mk (i + 1) (st b l[i]))) ∧ P (i + 1) (st b l[i])) (he : ∀ b, P l.length b → f (mk l.length b) = some (.inr (fin b))) (hr : fin (l.foldl st a) = res) : loopO fu f (mk 0 a) = some res := by
  subst hr
  have key : ∀ k i n b, i + k = l.length → k < n → P i b → loopO n f (mk i b) = some (fin ((l.drop i).foldl st b)) := by
    intro k
    induction k with
    | zero =>
      intro i n b hi hn hb
      obtain ⟨m, rfl⟩ : ∃ m, n = m + 1 := ⟨n - 1, by omega⟩
      obtain rfl : i = l.length := by omega
      simp only [loopO, he b hb, List.drop_length, List.foldl_nil]
    | succ k ih =>
      intro i n b hi hn hb
      obtain ⟨m, rfl⟩ : ∃ m, n = m + 1 := ⟨n - 1, by omega⟩
      have hlt : i < l.length := by omega
      rw [List.drop_eq_getElem_cons hlt]
      obtain ⟨e1, e2⟩ := hs i hlt b hb
      simp only [loopO, e1, List.foldl_cons]
      exact ih (i + 1) m _ (by omega) (by omega) e2
  exact key l.length 0 fu a (by omega) hf h0


theorem guardE {p : Prop} [Decidable p] {α : Type} {a : α} (h : p) : (bif decide p then some a else none) = some a := by rw [decide_eq_true h]; rfl
theorem u64_wrap {x : Int} (h1 : 0 ≤ x) (h2 : x < 18446744073709551616) : IntKind.wrap .u64 x = x := by
  show x % 18446744073709551616 = x
  omega
/-! ### Logs -/
def noRec : Rd := (0, ⟨#[]⟩, [], 0, 0)
def wrong (l : List Rd) (i : Nat) : Bool := bif ((l.getD i noRec).1 != (i : Int)) then true else bif decide ((l.getD i noRec).2.1.size > 32) then true else decide ((l.getD i noRec).2.2.1.length > 256)
def logOk (l : List Rd) : Bool := bif (List.range l.length).any (wrong l) then false else decide (l.length ≤ 4096)
theorem p56_is (a : Int) (c : ByteArray) (l : List Int) (x y : Int) : p56 fu ((a, c, l, x, y, ()), ()) = some ((), bif decide (c.size > 32) then 131 else bif decide (l.length > 256) then 144 else 0) := by
  unfold p56
  have h1 : decide ((c.size : Int) > 32) = decide (c.size > 32) := decide_eq_decide.2 (by omega)
  have h2 : decide ((l.length : Int) > 256) = decide (l.length > 256) := decide_eq_decide.2 (by omega)
  simp only [h1, h2]
  cases decide (c.size > 32) <;> cases decide (l.length > 256) <;> rfl
theorem p27_is (l : List Rd) (hl : l.length ≤ 2097152) (hf : 4194304 < fu) : p27 fu (l, ()) = some ((), logOk l) := by
  unfold p27 logOk
  refine loop_for (List.range l.length) (fun i => (((i : Int), ()), ())) (wrong l) ((), false) ((), decide (l.length ≤ 4096)) (by simp only [List.length_range]; omega) (fun i h => ?_) ?_ (by cases (List.range l.length).any (wrong l) <;> rfl)
  · simp only [List.length_range] at h
    have hg : ∀ d, l.getD i d = l[i] := fun d => getD_lt h
    have hw : IntKind.wrap .u64 (i : Int) = (i : Int) := u64_wrap (by omega) (by omega)
    simp only [List.getElem_range, Int.ofNat_lt, Int.natCast_nonneg, h, decide_true, cond_true, and_self, Int.toNat_natCast, hg, hw, p56_is, bind_val, i64_succ h (by omega), wrong]
    cases (l[i].1 != (i : Int))
    · simp only [cond_false]
      cases decide (l[i].2.1.size > 32) <;> cases decide (l[i].2.2.1.length > 256) <;> rfl
    · rfl
  · simp only [List.length_range, Int.ofNat_lt, Nat.lt_irrefl, decide_false, cond_false]
    have h3 : decide ((l.length : Int) ≤ 4096) = decide (l.length ≤ 4096) := decide_eq_decide.2 (by omega)
    rw [h3]; rfl
theorem p28_is (l : List Rd) (hl : l.length ≤ 2097152) (hf : 4194304 < fu) : p28 fu (l, ()) = some ((), logOk l) := by
  unfold p28 logOk
  rcases Nat.lt_or_ge 4096 l.length with h6' | h6
  · have h6 : ¬ l.length ≤ 4096 := by omega
    have h7 : (l.length : Int) > 4096 := by omega
    simp only [h6, h7, decide_true, decide_false, cond_true]
    cases (List.range l.length).any (wrong l) <;> rfl
  have h7 : ¬ (l.length : Int) > 4096 := by omega
  simp only [h6, h7, decide_true, decide_false, cond_false]
  refine loop_for (List.range l.length) (fun i => (((i : Int), ()), ())) (wrong l) ((), false) ((), true) (by simp only [List.length_range]; omega) (fun i h => ?_) ?_ (by cases (List.range l.length).any (wrong l) <;> rfl)
  · simp only [List.length_range] at h
    have hg : ∀ d, l.getD i d = l[i] := fun d => getD_lt h
    have hw : IntKind.wrap .u64 (i : Int) = (i : Int) := u64_wrap (by omega) (by omega)
    have h1 : decide ((l[i].2.1.size : Int) > 32) = decide (l[i].2.1.size > 32) := decide_eq_decide.2 (by omega)
    have h2 : decide ((l[i].2.2.1.length : Int) > 256) = decide (l[i].2.2.1.length > 256) := decide_eq_decide.2 (by omega)
    simp only [List.getElem_range, Int.ofNat_lt, Int.natCast_nonneg, h, decide_true, cond_true, and_self, Int.toNat_natCast, hg, hw, h1, h2, i64_succ h (by omega), wrong]
    cases (l[i].1 != (i : Int))
    · simp only [cond_false]
      cases decide (l[i].2.1.size > 32)
      · simp only [cond_false]
        cases decide (l[i].2.2.1.length > 256) <;> rfl
      · rfl
    · rfl
  · simp only [List.length_range, Int.ofNat_lt, Nat.lt_irrefl, decide_false, cond_false]; rfl
end
section
variable {fu : Nat}
abbrev Lw := List (Int × List Int)
def seqsOf (l : List Rd) (k : Int) : List Int := (l.filter fun x => x.2.2.2.1 == k).map fun x => x.2.2.2.2
/-- A map tells what is left. -/
def MapOf (m : Lw) (l : List Rd) : Prop := ∀ k : Int, (lookM (.int .u64) m k).getD [] = minsL (seqsOf l k)
theorem look_set (k v k' : _) : ∀ m : Lw, lookM (.int .u64) (setM (.int .u64) m k v) k' = if k' = k then some v else lookM (.int .u64) m k'
  | [] => by
    show cond ((k' : Int) == k) (some v) none = _
    by_cases h : k' = k
    · have : ((k' : Int) == k) = true := beq_iff_eq.2 h
      rw [if_pos h, this]; rfl
    · have : ((k' : Int) == k) = false := beq_eq_false_iff_ne.2 h
      rw [if_neg h, this]; rfl
  | p :: m => by
    show lookM (.int .u64) (cond ((k : Int) == p.1) ((p.1, v) :: m) (p :: setM (.int .u64) m k v)) k' = _
    by_cases hp : k = p.1
    · have h0 : ((k : Int) == p.1) = true := beq_iff_eq.2 hp
      rw [h0]
      show cond ((k' : Int) == p.1) (some v) (lookM (.int .u64) m k') = if k' = k then some v else cond ((k' : Int) == p.1) (some p.2) (lookM (.int .u64) m k')
      by_cases h : k' = k
      · have : ((k' : Int) == p.1) = true := beq_iff_eq.2 (h.trans hp)
        rw [if_pos h, this]; rfl
      · have : ((k' : Int) == p.1) = false := beq_eq_false_iff_ne.2 fun e => h (e.trans hp.symm)
        rw [if_neg h, this]; rfl
    · have h0 : ((k : Int) == p.1) = false := beq_eq_false_iff_ne.2 hp
      rw [h0]
      show cond ((k' : Int) == p.1) (some p.2) (lookM (.int .u64) (setM (.int .u64) m k v) k') = if k' = k then some v else cond ((k' : Int) == p.1) (some p.2) (lookM (.int .u64) m k')
      rw [look_set k v k' m]
      by_cases h : k' = k
      · have : ((k' : Int) == p.1) = false := beq_eq_false_iff_ne.2 fun e => hp (h.symm.trans e)
        rw [if_pos h, if_pos h, this]; rfl
      · rw [if_neg h, if_neg h]
theorem look_map (f : List Int → List Int) (k : Int) : ∀ m : Lw, lookM (.int .u64) (m.map fun p => (p.1, f p.2)) k = (lookM (.int .u64) m k).map f
  | [] => rfl
  | p :: m => by
    show cond ((k : Int) == p.1) (some (f p.2)) (lookM (.int .u64) (m.map fun p => (p.1, f p.2)) k) = (cond ((k : Int) == p.1) (some p.2) (lookM (.int .u64) m k)).map f
    rw [look_map f k m]
    cases ((k : Int) == p.1) <;> rfl
theorem grp_is (k : Int) : ∀ (l : List Rd) (m : Lw), (lookM (.int .u64) (l.foldl (fun m x => setM (.int .u64) m x.2.2.2.1 ((lookM (.int .u64) m x.2.2.2.1).getD [] ++ [x.2.2.2.2])) m) k).getD [] = (lookM (.int .u64) m k).getD [] ++ seqsOf l k
  | [], m => by simp [seqsOf]
  | x :: l, m => by
    rw [List.foldl_cons, grp_is k l, look_set]
    by_cases h : k = x.2.2.2.1
    · have h' : (x.2.2.2.1 == k) = true := beq_iff_eq.2 h.symm
      rw [if_pos h]
      subst h
      simp only [Option.getD_some, seqsOf, List.filter_cons, beq_self_eq_true, if_true, List.map_cons, List.append_assoc, List.singleton_append]
    · have h' : (x.2.2.2.1 == k) = false := beq_eq_false_iff_ne.2 fun e => h e.symm
      rw [if_neg h]
      simp only [seqsOf, List.filter_cons, h', Bool.false_eq_true, if_false]
theorem low_is (l : List Rd) : MapOf (lowM l) l := by
  intro k
  unfold lowM
  rw [look_map]
  have h := grp_is k l []
  have h0 : (lookM (.int .u64) ([] : Lw) k).getD [] = [] := rfl
  rw [h0, List.nil_append] at h
  have h' : (lookM (.int .u64) (grpM l) k).getD [] = seqsOf l k := h
  rw [← h']
  cases lookM (.int .u64) (grpM l) k <;> rfl
theorem mins_len : ∀ l : List Int, (minsL l).length = l.length
  | [] => rfl
  | x :: l => by simp only [minsL, List.length_cons, mins_len l]
theorem mins_head (s : Int) : ∀ (l : List Int) (d : Int), l ≠ [] → decide ((minsL l).getD 0 d ≥ s) = l.all fun y => decide (y ≥ s)
  | [], _, h => absurd rfl h
  | [x], d, _ => by simp [minsL]
  | x :: y :: l, d, _ => by
    have ih := mins_head s (y :: l) d (by simp)
    rw [List.all_cons, ← ih]
    have : ∃ z t, minsL (y :: l) = z :: t := ⟨_, _, rfl⟩
    obtain ⟨z, t, e⟩ := this
    rw [minsL, e]
    simp only [List.getD_cons_zero]
    rw [Bool.eq_iff_iff, Bool.and_eq_true, decide_eq_true_eq, decide_eq_true_eq, decide_eq_true_eq]
    split <;> constructor <;> intro h <;> omega
/-- Has it a first record, and the other one none left of its producer with a lower Seq? -/
def ahead (l r : List Rd) : Bool := match l with
  | [] => false
  | x :: _ => (seqsOf r x.2.2.2.1).all fun y => decide (y ≥ x.2.2.2.2)
theorem p48_is (l : List Rd) (t : List Int) (m : Lw) : p48_1 fu ((l, t, m, ()), ()) = some (((l, t, m, ()), (), (), ()), decide (0 < l.length)) := by
  unfold p48_1
  have h : decide ((l.length : Int) > 0) = decide (0 < l.length) := decide_eq_decide.2 (by omega)
  simp only [decide_true, cond_true, h]
theorem p49_is (l r : List Rd) (t u : List Int) (m n : Lw) (hn : MapOf n r) : p49_1 fu ((l, t, m, ()), (r, u, n, ()), ()) = some (((l, t, m, ()), (), (), (r, u, n, ()), (), (), ()), ahead l r) := by
  unfold p49_1
  simp only [p48_is, bind_val, decide_true, cond_true]
  cases l with
  | nil => rfl
  | cons x l =>
    have hg : ∀ d, (x :: l).getD 0 d = x := fun d => rfl
    have h0 : (0 : Int) < ((x :: l).length : Int) := by simp only [List.length_cons]; omega
    have hk : (lookM (.int .u64) n x.2.2.2.1).getD [] = minsL (seqsOf r x.2.2.2.1) := hn _
    have h1 : (0 : Int) < ((l.length + 1 : Nat) : Int) := by omega
    simp only [List.length_cons, Nat.succ_pos, decide_true, Bool.not_true, cond_false, hg, ahead, h1, Int.le_refl, true_and, cond_true]
    generalize (lookM (.int .u64) n x.2.2.2.1).getD [] = q at hk
    subst hk
    simp only [mins_len]
    cases hs : seqsOf r x.2.2.2.1 with
    | nil => rfl
    | cons y q =>
      have h2 : (((y :: q).length : Int) == 0) = false := beq_eq_false_iff_ne.2 (by simp only [List.length_cons]; omega)
      have h3 : (0 : Int) < ((y :: q).length : Int) := by simp only [List.length_cons]; omega
      have h4 : 0 < (y :: q).length := Nat.succ_pos _
      simp only [h2, h3, h4, decide_true, cond_true, cond_false]
      have := mins_head x.2.2.2.2 (y :: q) (dflt (.int .u64)) (by simp)
      rw [← this]
end
section
variable {fu : Nat}
theorem drop_mins : ∀ l : List Int, (minsL l).drop 1 = minsL (l.drop 1)
  | [] => rfl
  | _ :: _ => rfl
theorem p50_is (x : Rd) (l : List Rd) (t : List Int) (m : Lw) (h : Int) (hm : MapOf m (x :: l)) (ht : t.length ≤ 2097152) :
    ∃ m' : Lw, MapOf m' l ∧ p50_1 fu ((x :: l, t, m, ()), h, ()) = some (((l, t ++ [h], m', ()), (), (), ()), (x.1, x.2.1, x.2.2.1, x.2.2.2.1, x.2.2.2.2, ())) := by
  have hk : (lookM (.int .u64) m x.2.2.2.1).getD [] = minsL (seqsOf (x :: l) x.2.2.2.1) := hm _
  have hs : seqsOf (x :: l) x.2.2.2.1 = x.2.2.2.2 :: seqsOf l x.2.2.2.1 := by
    simp only [seqsOf, List.filter_cons, beq_self_eq_true, if_true, List.map_cons]
  refine ⟨setM (.int .u64) m x.2.2.2.1 (((lookM (.int .u64) m x.2.2.2.1).getD []).drop 1), fun k => ?_, ?_⟩
  · rw [look_set]
    by_cases h : k = x.2.2.2.1
    · subst h
      rw [if_pos rfl, Option.getD_some, hk, hs]; rfl
    · have h' : (x.2.2.2.1 == k) = false := beq_eq_false_iff_ne.2 fun e => h e.symm
      rw [if_neg h, hm k]
      simp only [seqsOf, List.filter_cons, h', Bool.false_eq_true, if_false]
  · unfold p50_1
    have hg : ∀ d, (x :: l).getD 0 d = x := fun d => rfl
    have h1 : (0 : Int) < ((l.length + 1 : Nat) : Int) := by omega
    have h2 : 1 ≤ l.length + 1 := Nat.succ_pos _
    have h3 : 1 ≤ ((lookM (.int .u64) m x.2.2.2.1).getD []).length := by rw [hk, mins_len, hs]; exact Nat.succ_pos _
    have h4 : t.length + [h].length ≤ maxLen ∧ (t.length + [h].length) * 8 ≤ 140737488355328 := ⟨by unfold maxLen; simp only [List.length_singleton]; omega, by simp only [List.length_singleton]; omega⟩
    simp only [List.length_cons, Nat.succ_pos, decide_true, cond_true, hg, h1, h2, Int.le_refl, and_self]
    rw [decide_eq_true h3]
    simp only [cond_true]
    exact guardE ⟨by unfold maxLen; simp only [List.length_nil]; omega, by simp only [List.length_nil]; omega⟩
theorem copyL_all {α : Type} (l : List α) (d : α) : copyL (List.replicate l.length d) 0 l.length l = l := by
  simp [copyL]
theorem p79_is (l : List Int) (h : l.length ≤ 140737488355328) : p79 fu (l, ()) = some ((), l) := by
  unfold p79
  cases l with
  | nil => rfl
  | cons a l =>
    have h0 : (((a :: l).length : Int) == 0) = false := beq_eq_false_iff_ne.2 (by simp only [List.length_cons]; omega)
    have h1 : (0 : Int) ≤ ((a :: l).length : Int) ∧ ((a :: l).length : Int) ≤ ((a :: l).length : Int) ∧ ((a :: l).length : Int) ≤ 9223372036854775807 ∧ (1 : Int) * ((a :: l).length : Int) ≤ 140737488355328 := by omega
    simp only [h0, cond_false, h1, and_self, decide_true, cond_true, Int.toNat_natCast, List.length_replicate, copyL_all]
/-- A record's place in another log. -/
def numR (n : List Rd) (x : Rd) : Rd := ((n.length : Int), x.2.1, x.2.2.1, x.2.2.2.1, x.2.2.2.2)
theorem p46_is (n : List Rd) (x : Rd) (hn : n.length ≤ 2097152) (hx : x.2.2.1.length ≤ 140737488355328) : p46 fu (n, (x.1, x.2.1, x.2.2.1, x.2.2.2.1, x.2.2.2.2, ()), ()) = some (((), ()), n ++ [numR n x]) := by
  unfold p46 p67
  have hw : IntKind.wrap .u64 (n.length : Int) = (n.length : Int) := u64_wrap (by omega) (by omega)
  simp only [p79_is _ hx, bind_val, decide_true, cond_true, hw]
  exact guardE ⟨by unfold maxLen; simp only [List.length_singleton]; omega, by simp only [List.length_singleton]; omega⟩
def jnS : Nat → List Rd → List Int → List Int → List Rd → List Rd → List Rd × List Int × List Int × Int × Unit
  | 0, n, t, u, _, _ => (n, t ++ [(n.length : Int)], u ++ [(n.length : Int)], 0, ())
  | k + 1, n, t, u, l, r =>
    bif ahead l r then (match l with
      | [] => ([], [], [], 145, ())
      | x :: l => jnS k (n ++ [numR n x]) (t ++ [(n.length : Int)]) u l r)
    else bif ahead r l then (match r with
      | [] => ([], [], [], 145, ())
      | x :: r => jnS k (n ++ [numR n x]) t (u ++ [(n.length : Int)]) l r)
    else ([], [], [], 145, ())
def jnE (a b : List Rd) : List Rd × List Int × List Int × Int × Unit :=
  bif logOk a && logOk b then (bif decide (a.length + b.length > 4096) then ([], [], [], 143, ()) else jnS (a.length + b.length) [] [] [] a b) else ([], [], [], 1, ())
theorem ahead_cons {l r : List Rd} (h : ahead l r = true) : ∃ x l', l = x :: l' := by
  cases l with
  | nil => cases h
  | cons x l => exact ⟨x, l, rfl⟩
theorem first_is {a b : Bool} {α : Type} {x z : α} (h : a = true ∨ b = true) : (bif a then x else bif b then x else z) = x := by
  cases a <;> cases b <;> simp_all
theorem p13_is (a b : List Rd) (ha : a.length ≤ 1048576) (hb : b.length ≤ 1048576) (hva : ∀ x ∈ a, x.2.2.1.length ≤ 1048576) (hvb : ∀ x ∈ b, x.2.2.1.length ≤ 1048576) (hf : 4194304 < fu) :
    p13 fu (a, b, ()) = some ((), jnE a b) := by
  unfold p13 jnE
  simp only [p27_is a (show a.length ≤ 2097152 by omega) hf, p27_is b (show b.length ≤ 2097152 by omega) hf, bind_val]
  cases logOk a
  · simp only [Bool.not_false, cond_true, orK_inl, Bool.false_and, cond_false]
  cases logOk b
  · simp only [Bool.not_false, Bool.not_true, cond_true, cond_false, orK_inl, Bool.and_false]
  simp only [Bool.not_true, cond_false, orK_inl, Bool.and_true, cond_true]
  have hw : IntKind.wrap .i64 ((a.length : Int) + (b.length : Int)) = ((a.length + b.length : Nat) : Int) := by rw [i64_wrap (by omega) (by omega)]; omega
  by_cases h4 : a.length + b.length > 4096
  · have h5 : ((a.length + b.length : Nat) : Int) > 4096 := by omega
    simp only [hw, h4, h5, decide_true, cond_true]
  have h5 : ¬ ((a.length + b.length : Nat) : Int) > 4096 := by omega
  have sa : pNewSrc fu (a, ()) = some ((), (a, (), lowM a, ())) := guardE ha
  have sb : pNewSrc fu (b, ()) = some ((), (b, (), lowM b, ())) := guardE hb
  simp only [hw, h4, h5, decide_false, cond_false, sa, sb, bind_val]
  refine loopO_eq (I := fun s => ∃ (n : List Rd) (l r : List Rd) (t u : List Int) (m m' : Lw), s = ((n, ()), ((l, t, m, ()), (r, u, m', ()), ())) ∧ MapOf m l ∧ MapOf m' r ∧ n.length + l.length + r.length ≤ 4096 ∧ t.length ≤ n.length ∧ u.length ≤ n.length ∧ (∀ x ∈ l, x.2.2.1.length ≤ 1048576) ∧ ∀ x ∈ r, x.2.2.1.length ≤ 1048576)
    (m := fun s => s.2.1.1.length + s.2.2.1.1.length) (g := fun s => ((), jnS (s.2.1.1.length + s.2.2.1.1.length) s.1.1 s.2.1.2.1 s.2.2.1.2.1 s.2.1.1 s.2.2.1.1)) (fun s hs => ?_) fu _ ⟨[], a, b, [], [], lowM a, lowM b, rfl, low_is a, low_is b, by simp only [List.length_nil]; omega, Nat.le_refl _, Nat.le_refl _, hva, hvb⟩ (by show a.length + b.length < fu; omega)
  obtain ⟨n, l, r, t, u, m, m', rfl, hm, hm', hn, ht, hu, hvl, hvr⟩ := hs
  have hwn : IntKind.wrap .u64 (n.length : Int) = (n.length : Int) := u64_wrap (by omega) (by omega)
  simp only [decide_true, cond_true, p48_is, bind_val, hwn]
  by_cases hz : l.length + r.length = 0
  · refine .inr ?_
    obtain rfl : l = [] := List.length_eq_zero_iff.1 (by omega)
    obtain rfl : r = [] := List.length_eq_zero_iff.1 (by omega)
    have g1 : t.length + [(n.length : Int)].length ≤ maxLen ∧ (t.length + [(n.length : Int)].length) * 8 ≤ 140737488355328 := ⟨by unfold maxLen; simp only [List.length_singleton]; omega, by simp only [List.length_singleton]; omega⟩
    have g2 : u.length + [(n.length : Int)].length ≤ maxLen ∧ (u.length + [(n.length : Int)].length) * 8 ≤ 140737488355328 := ⟨by unfold maxLen; simp only [List.length_singleton]; omega, by simp only [List.length_singleton]; omega⟩
    simp only [List.length_nil, Nat.lt_irrefl, decide_false, cond_false, g1, g2, and_self, decide_true, cond_true]
    rfl
  obtain ⟨k, hk⟩ : ∃ k, l.length + r.length = k + 1 := ⟨l.length + r.length - 1, by omega⟩
  have hor : decide (0 < l.length) = true ∨ decide (0 < r.length) = true := by
    rcases Nat.eq_zero_or_pos l.length with h | h
    · exact .inr (decide_eq_true (by omega))
    · exact .inl (decide_eq_true h)
  rw [first_is hor]
  simp only [orK_inl, p49_is l r t u m m' hm', bind_val]
  cases h1 : ahead l r with
  | true =>
    obtain ⟨x, l, rfl⟩ := ahead_cons h1
    obtain ⟨q, hq, e⟩ := p50_is (fu := fu) x l t m (n.length : Int) hm (by omega)
    refine .inl ?_
    simp only [cond_true, e, bind_val, p46_is n x (by omega) (Nat.le_trans (hvl x List.mem_cons_self) (by omega))]
    refine ⟨_, rfl, ⟨_, _, _, _, _, _, _, rfl, hq, hm', ?_, ?_, ?_, fun y hy => hvl y (List.mem_cons_of_mem _ hy), hvr⟩, ?_, ?_⟩
    · simp only [List.length_append, List.length_cons, List.length_nil] at hn ⊢; omega
    · simp only [List.length_append, List.length_cons, List.length_nil]; omega
    · simp only [List.length_append, List.length_cons, List.length_nil]; omega
    · simp only [List.length_cons]; omega
    · have e1 : (x :: l).length + r.length = (l.length + r.length) + 1 := by simp only [List.length_cons]; omega
      simp only [e1, jnS, h1, cond_true]
  | false =>
    simp only [cond_false, p49_is r l u t m' m hm, bind_val]
    cases h2 : ahead r l with
    | true =>
      obtain ⟨x, r, rfl⟩ := ahead_cons h2
      obtain ⟨q, hq, e⟩ := p50_is (fu := fu) x r u m' (n.length : Int) hm' (by omega)
      refine .inl ?_
      simp only [cond_true, e, bind_val, p46_is n x (by omega) (Nat.le_trans (hvr x List.mem_cons_self) (by omega))]
      refine ⟨_, rfl, ⟨_, _, _, _, _, _, _, rfl, hm, hq, ?_, ?_, ?_, hvl, fun y hy => hvr y (List.mem_cons_of_mem _ hy)⟩, ?_, ?_⟩
      · simp only [List.length_append, List.length_cons, List.length_nil] at hn ⊢; omega
      · simp only [List.length_append, List.length_cons, List.length_nil]; omega
      · simp only [List.length_append, List.length_cons, List.length_nil]; omega
      · simp only [List.length_cons]; omega
      · have e1 : l.length + (x :: r).length = (l.length + r.length) + 1 := by simp only [List.length_cons]; omega
        simp only [e1, jnS, h1, h2, cond_true, cond_false]
    | false =>
      refine .inr ?_
      simp only [cond_false, hk, jnS, h1, h2]
      rfl
end
section
variable {fu : Nat}
theorem p11_is (hf : 4194304 < fu) : p11 fu () = some ((), true) := by
  obtain ⟨m, rfl⟩ : ∃ m, fu = m + 16 := ⟨fu - 16, by omega⟩
  kernel_rfl
def incS (l : List Rd) : Prop := l.Pairwise fun x y => x.2.2.2.2 ≤ y.2.2.2.2
theorem seqs_mem {l : List Rd} {k y : Int} (h : y ∈ seqsOf l k) : ∃ z ∈ l, z.2.2.2.2 = y := by
  unfold seqsOf at h
  obtain ⟨z, hz, e⟩ := List.mem_map.1 h
  exact ⟨z, (List.mem_filter.1 hz).1, e⟩
theorem ahead_inc {x : Rd} {l r : List Rd} (h : ∀ z ∈ r, x.2.2.2.2 ≤ z.2.2.2.2) : ahead (x :: l) r = true := by
  unfold ahead
  refine List.all_eq_true.2 fun y hy => ?_
  obtain ⟨z, hz, rfl⟩ := seqs_mem hy
  exact decide_eq_true (h z hz)
theorem jn_ok : ∀ (k : Nat) (n : List Rd) (t u : List Int) (l r : List Rd), l.length + r.length = k → incS l → incS r → (jnS k n t u l r).2.2.2.1 = 0
  | 0, _, _, _, _, _, _, _, _ => rfl
  | k + 1, n, t, u, l, r, hk, hl, hr => by
    unfold jnS
    cases h1 : ahead l r with
    | true =>
      obtain ⟨x, l, rfl⟩ := ahead_cons h1
      exact jn_ok k _ _ _ l r (by simp only [List.length_cons] at hk; omega) (List.pairwise_cons.1 hl).2 hr
    | false =>
      cases h2 : ahead r l with
      | true =>
        obtain ⟨x, r, rfl⟩ := ahead_cons h2
        exact jn_ok k _ _ _ l r (by simp only [List.length_cons] at hk; omega) hl (List.pairwise_cons.1 hr).2
      | false =>
        exfalso
        cases l with
        | nil =>
          cases r with
          | nil => simp at hk
          | cons y r => rw [ahead_inc (fun z hz => absurd hz List.not_mem_nil)] at h2; cases h2
        | cons x l =>
          cases r with
          | nil => rw [ahead_inc (fun z hz => absurd hz List.not_mem_nil)] at h1; cases h1
          | cons y r =>
            rcases Int.le_total x.2.2.2.2 y.2.2.2.2 with h | h
            · rw [ahead_inc (fun z hz => ?_)] at h1
              · cases h1
              · rcases List.mem_cons.1 hz with rfl | hz
                · exact h
                · exact Int.le_trans h ((List.pairwise_cons.1 hr).1 z hz)
            · rw [ahead_inc (fun z hz => ?_)] at h2
              · cases h2
              · rcases List.mem_cons.1 hz with rfl | hz
                · exact h
                · exact Int.le_trans h ((List.pairwise_cons.1 hl).1 z hz)
def grownR (i : Nat) : Rd := ((i : Int), (⟨#[107]⟩ : ByteArray), ([] : List Int), (9 : Int), (i : Int))
def grownL (n : Nat) : List Rd := (List.range n).map grownR
theorem grown_len (n : Nat) : (grownL n).length = n := by simp [grownL]
theorem grown_succ (n : Nat) : grownL (n + 1) = grownL n ++ [((n : Int), (⟨#[107]⟩ : ByteArray), ([] : List Int), (9 : Int), (n : Int))] := by
  simp [grownL, grownR, List.range_succ]
theorem grown_at (n i : Nat) (h : i < n) (d : Rd) : (grownL n).getD i d = ((i : Int), (⟨#[107]⟩ : ByteArray), ([] : List Int), (9 : Int), (i : Int)) := by
  rw [getD_lt (by rw [grown_len]; exact h)]
  simp [grownL, grownR]
theorem grown_inc (n : Nat) : incS (grownL n) := by
  unfold incS grownL
  rw [List.pairwise_map]
  refine List.Pairwise.imp (fun {a b} (h : a < b) => ?_) List.pairwise_lt_range
  show (a : Int) ≤ (b : Int)
  omega
theorem grown_ok (n : Nat) : logOk (grownL n) = decide (n ≤ 4096) := by
  unfold logOk
  have : (List.range (grownL n).length).any (wrong (grownL n)) = false := by
    refine List.any_eq_false.2 fun i hi => ?_
    rw [grown_len] at hi
    have h := List.mem_range.1 hi
    unfold wrong
    rw [grown_at n i h]
    have hs : ByteArray.size (⟨#[107]⟩ : ByteArray) = 1 := rfl
    simp only [bne_self_eq_false, cond_false, hs, List.length_nil]
    exact Bool.false_ne_true
  rw [this, cond_false, grown_len]
theorem loop_val {S R : Type} {f : S → Option (S ⊕ R)} (I : S → Prop) (m : S → Nat) {n : Nat} {s : S} {r : R} (hI : I s) (hm : m s < n) (h : ∀ s, I s → ∃ o, f s = some o ∧ LStep I m (fun q => q = r) s o) : loopO n f s = some r := by
  obtain ⟨q, e, rfl⟩ := loopO_rule I m (fun q => q = r) h n s hI hm
  exact e
theorem p22_is (c : Int) (h0 : 0 ≤ c) (h1 : c < 65536) (hf : 4194304 < fu) : p22 fu ([], c, ()) = some ((), grownL (Int.toNat c % 4099)) := by
  obtain ⟨q, rfl⟩ : ∃ q : Nat, c = (q : Int) := ⟨Int.toNat c, by omega⟩
  have hm : Int.tmod (IntKind.wrap .i64 (q : Int)) 4099 = ((q % 4099 : Nat) : Int) := by
    rw [i64_wrap (by omega) (by omega), Int.tmod_eq_emod_of_nonneg (by omega)]; omega
  have hq : q % 4099 ≤ 4098 := by omega
  unfold p22
  simp only [hm, Int.toNat_natCast]
  generalize q % 4099 = k at hq
  have g0 : ([] : List Rd).length + ([] : List Rd).length ≤ maxLen ∧ (([] : List Rd).length + ([] : List Rd).length) * 64 ≤ 140737488355328 := by decide
  simp only [List.length_nil, Nat.add_zero, Nat.zero_le, Nat.zero_mul, and_self, decide_true, cond_true, List.append_nil]
  refine loop_val (I := fun s => ∃ i : Nat, s = ((grownL i, (i : Int), ()), ()) ∧ i ≤ k) (m := fun s => k - Int.toNat s.1.2.1) ⟨0, rfl, Nat.zero_le _⟩ (by show k - 0 < fu; omega) fun s hs => ?_
  obtain ⟨i, rfl, hi⟩ := hs
  have hw : IntKind.wrap .u64 (i : Int) = (i : Int) := u64_wrap (by omega) (by omega)
  by_cases h : i < k
  · have h2 : (i : Int) < 4098 := by omega
    simp only [Int.ofNat_lt, h, grown_len, h2, decide_true, cond_true, hw, i64_succ h (by omega)]
    refine ⟨_, guardE ⟨by unfold maxLen; simp only [List.length_singleton]; omega, by simp only [List.length_singleton]; omega⟩, ⟨i + 1, by rw [grown_succ], h⟩, by simp only [Int.toNat_natCast]; omega⟩
  · obtain rfl : i = k := by omega
    simp only [Int.ofNat_lt, Nat.lt_irrefl, decide_false, cond_false]
    exact ⟨_, rfl, rfl⟩
theorem p6_is (a c : Int) (ha : 0 ≤ a) (ha' : a < 65536) (hc : 0 ≤ c) (hc' : c < 65536) (hf : 4194304 < fu) : p6 fu (a, c, ()) = some ((), true) := by
  unfold p6
  have hm : ∀ n : Nat, ∀ x ∈ grownL n, x.2.2.1.length ≤ 1048576 := fun n x hx => by
    obtain ⟨i, _, rfl⟩ := List.mem_map.1 hx
    exact Nat.zero_le _
  have hq1 : Int.toNat a % 4099 ≤ 4098 := by omega
  have hq2 : Int.toNat c % 4099 ≤ 4098 := by omega
  simp only [p11_is hf, p22_is a ha ha' hf, p22_is c hc hc' hf, bind_val]
  generalize Int.toNat a % 4099 = n at hq1
  generalize Int.toNat c % 4099 = m at hq2
  have l1 := grown_len n
  have l2 := grown_len m
  simp only [p13_is (grownL n) (grownL m) (by omega) (by omega) (hm n) (hm m) hf, p28_is (grownL n) (by omega) hf, p28_is (grownL m) (by omega) hf, bind_val, jnE, grown_ok, grown_len]
  have hw : IntKind.wrap .i64 ((n : Int) + (m : Int)) = ((n + m : Nat) : Int) := by rw [i64_wrap (by omega) (by omega)]; omega
  by_cases h1 : n ≤ 4096
  · by_cases h2 : m ≤ 4096
    · by_cases h3 : n + m > 4096
      · have h4 : ((n + m : Nat) : Int) > 4096 := by omega
        simp only [h1, h2, h3, h4, hw, decide_true, Bool.and_self, cond_true, Bool.not_true, cond_false, orK_inl]
        rfl
      · have h4 : ¬ ((n + m : Nat) : Int) > 4096 := by omega
        have hj := jn_ok (n + m) [] [] [] (grownL n) (grownL m) (by omega) (grown_inc n) (grown_inc m)
        simp only [h1, h2, h3, h4, hw, decide_true, Bool.and_self, cond_true, Bool.not_true, cond_false, orK_inl, decide_false, hj]
        rfl
    · simp only [h1, h2, decide_true, decide_false, Bool.and_false, cond_true, cond_false, Bool.not_true, Bool.not_false, orK_inl]
      rfl
  · simp only [h1, decide_false, Bool.false_and, cond_true, cond_false, Bool.not_false, orK_inl]
    rfl
end
section
variable {fu : Nat}
def befB (c f : ByteArray) : Bool := bif (ByteArray.toList c == ByteArray.toList (⟨#[]⟩ : ByteArray)) then true else !(Op.bytesLess (ByteArray.toList c) (ByteArray.toList f) || ByteArray.toList c == ByteArray.toList f)
def chkB (a c : ByteArray) : Int := bif !decide ((a.size : Int) ≤ 32) then 131 else bif !decide ((c.size : Int) ≤ 32) then 131 else bif !befB c a then 132 else 0
def hasB (a c f : ByteArray) : Bool := bif (chkB a c == 0) then (bif decide ((f.size : Int) ≤ 32) then (bif !Op.bytesLess f.toList a.toList then befB c f else false) else false) else false
theorem p66_is (c f : ByteArray) : p66 fu ((c, ByteArray.toList c == ByteArray.toList (⟨#[]⟩ : ByteArray), ()), f, ()) = some ((), befB c f) := by
  unfold p66 befB
  cases (ByteArray.toList c == ByteArray.toList (⟨#[]⟩ : ByteArray)) <;> rfl
theorem p41_is (a c : ByteArray) : p41 fu ((a, c, ()), ()) = some ((), chkB a c) := by
  unfold p41 chkB
  simp only [p64, p65, bind_val, p66_is]
  cases decide ((a.size : Int) ≤ 32)
  · rfl
  cases decide ((c.size : Int) ≤ 32)
  · rfl
  cases befB c a <;> rfl
theorem p42_is (a c f : ByteArray) : p42 fu ((a, c, ()), f, ()) = some ((), hasB a c f) := by
  unfold p42 hasB
  simp only [p41_is, p64, p65, bind_val, p66_is]
  cases (chkB a c == 0)
  · rfl
  cases decide ((f.size : Int) ≤ 32)
  · rfl
  cases Op.bytesLess f.toList a.toList <;> rfl
def keepT (a c : ByteArray) (s : List Rd × List Int) (x : Rd) : List Rd × List Int := (bif hasB a c x.2.1 then s.1 ++ [numR s.1 x] else s.1, s.2 ++ [(s.1.length : Int)])
def keepF (s : List Rd × List Int) : List Rd × List Int := (s.1, s.2 ++ [(s.1.length : Int)])
def keepS (l : List Rd) (a c : ByteArray) : List Rd × List Int := bif !logOk l then ([], []) else bif (chkB a c != 0) then ([], []) else keepF (l.foldl (keepT a c) ([], []))
theorem log_at {l : List Rd} (h : logOk l = true) : l.length ≤ 4096 ∧ ∀ i (hi : i < l.length), l[i].1 = (i : Int) ∧ l[i].2.1.size ≤ 32 ∧ l[i].2.2.1.length ≤ 256 := by
  unfold logOk at h
  cases hb : (List.range l.length).any (wrong l) with
  | true => rw [hb] at h; exact absurd h Bool.false_ne_true
  | false =>
    rw [hb, cond_false] at h
    refine ⟨of_decide_eq_true h, fun i hi => ?_⟩
    have := List.any_eq_false.1 hb i (List.mem_range.2 hi)
    unfold wrong at this
    have g : ∀ d, l.getD i d = l[i] := fun d => getD_lt hi
    simp only [g] at this
    cases h1 : (l[i].1 != (i : Int)) with
    | true => rw [h1] at this; exact absurd rfl this
    | false =>
      rw [h1, cond_false] at this
      have h1' : l[i].1 = (i : Int) := by simpa using h1
      by_cases h2 : l[i].2.1.size > 32
      · rw [decide_eq_true h2] at this; exact absurd rfl this
      · rw [decide_eq_false h2, cond_false] at this
        exact ⟨h1', by omega, by simpa using this⟩
theorem p12_is (l : List Rd) (a c : ByteArray) (hl : l.length ≤ 1048576) (hf : 4194304 < fu) : p12 fu (l, (a, c, ()), ()) = some ((), (keepS l a c).1, (keepS l a c).2, ()) := by
  unfold p12 keepS
  simp only [p27_is l (show l.length ≤ 2097152 by omega) hf, p41_is, bind_val]
  cases ho : logOk l
  · rfl
  cases hq : (chkB a c != 0) with
  | true => rfl
  | false =>
  simp only [Bool.not_true, cond_false]
  refine loop_fold l (fun i s => ((s.1, s.2, (i : Int), ()), ())) (keepT a c) (fun s => ((), (keepF s).1, (keepF s).2, ())) ([], []) (fun i s => s.1.length ≤ i ∧ s.2.length ≤ i) ⟨Nat.le_refl _, Nat.le_refl _⟩ (show l.length < fu by omega) (fun i hi s hs => ?_) (fun s hs => ?_) rfl
  · obtain ⟨s1, s2⟩ := s
    obtain ⟨h1, h2⟩ := hs
    have h1 : s1.length ≤ i := h1
    have h2 : s2.length ≤ i := h2
    have hg : ∀ d, l.getD i d = l[i] := fun d => getD_lt hi
    have hw : IntKind.wrap .u64 (s1.length : Int) = (s1.length : Int) := u64_wrap (by omega) (by omega)
    have hv := ((log_at ho).2 i hi).2.2
    have g : s2.length + [(s1.length : Int)].length ≤ maxLen ∧ (s2.length + [(s1.length : Int)].length) * 8 ≤ 140737488355328 := ⟨by unfold maxLen; simp only [List.length_singleton]; omega, by simp only [List.length_singleton]; omega⟩
    simp only [Int.ofNat_lt, Int.natCast_nonneg, hi, decide_true, cond_true, and_self, Int.toNat_natCast, hg, hw, g, p42_is, bind_val, p46_is s1 l[i] (show s1.length ≤ 2097152 by omega) (show l[i].2.2.1.length ≤ 140737488355328 by omega), i64_succ hi (by omega), keepT]
    cases hasB a c l[i].2.1
    · exact ⟨rfl, by show s1.length ≤ _; omega, by show (s2 ++ [_]).length ≤ _; rw [List.length_append]; simp only [List.length_singleton]; omega⟩
    · exact ⟨rfl, by show (s1 ++ [_]).length ≤ _; rw [List.length_append]; simp only [List.length_singleton]; omega, by show (s2 ++ [_]).length ≤ _; rw [List.length_append]; simp only [List.length_singleton]; omega⟩
  · obtain ⟨s1, s2⟩ := s
    have h1 : s1.length ≤ l.length := hs.1
    have h2 : s2.length ≤ l.length := hs.2
    have hw : IntKind.wrap .u64 (s1.length : Int) = (s1.length : Int) := u64_wrap (by omega) (by omega)
    have g : s2.length + [(s1.length : Int)].length ≤ maxLen ∧ (s2.length + [(s1.length : Int)].length) * 8 ≤ 140737488355328 := ⟨by unfold maxLen; simp only [List.length_singleton]; omega, by simp only [List.length_singleton]; omega⟩
    simp only [Int.ofNat_lt, Nat.lt_irrefl, decide_false, cond_false, decide_true, cond_true, hw, g, and_self]
    rfl
/-! ### The whole -/
def upI (n : Nat) : List Int := (List.range n).map fun i : Nat => (i : Int)
theorem up_succ (n : Nat) : upI (n + 1) = upI n ++ [(n : Int)] := by simp [upI, List.range_succ]
theorem num_same {l : List Rd} (h : logOk l = true) {i : Nat} (hi : i < l.length) : numR (l.take i) l[i] = l[i] := by
  have e := ((log_at h).2 i hi).1
  unfold numR
  rw [List.length_take, Nat.min_eq_left (Nat.le_of_lt hi), ← e]
theorem has_all (f : ByteArray) (h : f.size ≤ 32) : hasB ⟨#[]⟩ ⟨#[]⟩ f = true := by
  have h0 : chkB ⟨#[]⟩ ⟨#[]⟩ = 0 := by decide +kernel
  have h1 : (f.size : Int) ≤ 32 := by omega
  have h2 : ∀ x : List UInt8, Op.bytesLess x [] = false := fun x => by cases x <;> rfl
  have h3 : (⟨#[]⟩ : ByteArray).toList = [] := by rw [Lib.toList_data]
  unfold hasB befB
  simp only [h0, beq_self_eq_true, cond_true, h1, decide_true, h3, h2, Bool.not_false]
theorem keep_whole {l : List Rd} (h : logOk l = true) : keepS l ⟨#[]⟩ ⟨#[]⟩ = (l, upI (l.length + 1)) := by
  have h0 : chkB ⟨#[]⟩ ⟨#[]⟩ = 0 := by decide +kernel
  have key : ∀ i, i ≤ l.length → (l.take i).foldl (keepT ⟨#[]⟩ ⟨#[]⟩) ([], []) = (l.take i, upI i) := by
    intro i
    induction i with
    | zero => intro _; rfl
    | succ i ih =>
      intro hi
      rw [List.take_succ_eq_append_getElem hi, List.foldl_append, ih (by omega)]
      simp only [List.foldl_cons, List.foldl_nil, keepT, has_all _ ((log_at h).2 i hi).2.1, cond_true, num_same h hi, up_succ, List.length_take, Nat.min_eq_left (Nat.le_of_lt hi)]
  unfold keepS
  have hk := key l.length (Nat.le_refl _)
  rw [List.take_length] at hk
  simp only [h, Bool.not_true, cond_false, h0, bne_self_eq_false, hk, keepF, up_succ]
end
section
variable {fu : Nat}
theorem any_no {α : Type} (l : List α) : l.any (fun _ => false) = false := by induction l <;> simp_all
theorem p20_same (l : List Int) (hl : l.length ≤ 2097152) (hf : 4194304 < fu) : p20 fu (l, l, ()) = some ((), true) := by
  unfold p20
  simp only [bne_self_eq_false, cond_false]
  refine loop_for l (fun i => (((i : Int), ()), ())) (fun _ => false) ((), false) ((), true) (by omega) (fun i h => ?_) ?_ (by rw [any_no]; rfl)
  · simp only [Int.ofNat_lt, Int.natCast_nonneg, h, decide_true, cond_true, and_self, Int.toNat_natCast, i64_succ h (by omega), cond_false]
  · simp only [Int.ofNat_lt, Nat.lt_irrefl, decide_false, cond_false]; rfl
theorem p21_same (l : List Rd) (hl : l.length ≤ 2097152) (hf : 4194304 < fu) : p21 fu (l, l, ()) = some ((), true) := by
  unfold p21
  simp only [bne_self_eq_false, cond_false]
  refine loop_for l (fun i => (((i : Int), ()), ())) (fun _ => false) ((), false) ((), true) (by omega) (fun i h => ?_) ?_ (by rw [any_no]; rfl)
  · simp only [Int.ofNat_lt, Int.natCast_nonneg, h, decide_true, cond_true, and_self, Int.toNat_natCast, i64_succ h (by omega), cond_false, beq_self_eq_true, Bool.not_true]
  · simp only [Int.ofNat_lt, Nat.lt_irrefl, decide_false, cond_false]; rfl
theorem ahead_nil (x : Rd) (l : List Rd) : ahead (x :: l) [] = true := ahead_inc fun _ hz => absurd hz List.not_mem_nil
theorem jn_left {l : List Rd} (h : logOk l = true) (u : List Int) : ∀ (k i : Nat), i + k = l.length → jnS k (l.take i) (upI i) u (l.drop i) [] = (l, upI (l.length + 1), u ++ [(l.length : Int)], 0, ())
  | 0, i, hi => by
    obtain rfl : i = l.length := by omega
    simp only [jnS, List.take_length, up_succ]
  | k + 1, i, hi => by
    have hlt : i < l.length := by omega
    rw [List.drop_eq_getElem_cons hlt]
    have e : (l.take i).length = i := by rw [List.length_take]; omega
    have ih := jn_left h u k (i + 1) (by omega)
    rw [List.take_succ_eq_append_getElem hlt, up_succ] at ih
    simp only [jnS, ahead_nil, cond_true, num_same h hlt, e]
    exact ih
theorem jn_right {l : List Rd} (h : logOk l = true) (t : List Int) : ∀ (k i : Nat), i + k = l.length → jnS k (l.take i) t (upI i) [] (l.drop i) = (l, t ++ [(l.length : Int)], upI (l.length + 1), 0, ())
  | 0, i, hi => by
    obtain rfl : i = l.length := by omega
    simp only [jnS, List.take_length, up_succ]
  | k + 1, i, hi => by
    have hlt : i < l.length := by omega
    rw [List.drop_eq_getElem_cons hlt]
    have e : (l.take i).length = i := by rw [List.length_take]; omega
    have ih := jn_right h t k (i + 1) (by omega)
    rw [List.take_succ_eq_append_getElem hlt, up_succ] at ih
    have h0 : ahead [] (l[i] :: l.drop (i + 1)) = false := rfl
    simp only [jnS, h0, ahead_nil, cond_true, cond_false, num_same h hlt, e]
    exact ih
theorem p10_is (l : List Rd) (hl : l.length ≤ 1048576) (hv : ∀ x ∈ l, x.2.2.1.length ≤ 1048576) (hf : 4194304 < fu) : p10 fu (l, ()) = some ((), true) := by
  unfold p10
  have hz : ∀ x ∈ ([] : List Rd), x.2.2.1.length ≤ 1048576 := fun x hx => absurd hx List.not_mem_nil
  have hn : logOk [] = true := rfl
  simp only [p11_is hf, p27_is l (show l.length ≤ 2097152 by omega) hf, p12_is l ⟨#[]⟩ ⟨#[]⟩ hl hf, p13_is l [] hl (Nat.zero_le _) hv hz hf, p13_is [] l (Nat.zero_le _) hl hz hv hf, bind_val]
  cases ho : logOk l with
  | false =>
    simp only [keepS, jnE, ho, hn, Bool.not_false, Bool.false_and, Bool.and_false, cond_true, cond_false]
    rfl
  | true =>
    have h4 := (log_at ho).1
    have e1 : jnE l [] = (l, upI (l.length + 1), [(l.length : Int)], 0, ()) := by
      have h := jn_left ho [] l.length 0 (Nat.zero_add _)
      have h5 : ¬ l.length > 4096 := by omega
      simp only [jnE, ho, hn, Bool.and_self, cond_true, List.length_nil, Nat.add_zero, h5, decide_false, cond_false]
      exact h
    have e2 : jnE [] l = (l, [(l.length : Int)], upI (l.length + 1), 0, ()) := by
      have h := jn_right ho [] l.length 0 (Nat.zero_add _)
      have h5 : ¬ l.length > 4096 := by omega
      simp only [jnE, ho, hn, Bool.and_self, cond_true, List.length_nil, Nat.zero_add, h5, decide_false, cond_false]
      exact h
    have hu : (upI (l.length + 1)).length = l.length + 1 := by simp [upI]
    simp only [keep_whole ho, e1, e2, Bool.not_true, cond_false, decide_true, cond_true, p21_same l (show l.length ≤ 2097152 by omega) hf, p20_same (upI (l.length + 1)) (show (upI (l.length + 1)).length ≤ 2097152 by omega) hf, bind_val, orK_inl]
    refine loop_for (upI (l.length + 1)) (fun i => (((i : Int), ()), ())) (fun _ => false) ((), false) ((), true) (show (upI (l.length + 1)).length < fu by omega) (fun i h => ?_) ?_ (by rw [any_no]; rfl)
    · have hg : ∀ d, (upI (l.length + 1)).getD i d = (i : Int) := fun d => by rw [getD_lt h]; simp [upI]
      have hw : IntKind.wrap .u64 (i : Int) = (i : Int) := u64_wrap (by omega) (by omega)
      simp only [Int.ofNat_lt, Int.natCast_nonneg, h, decide_true, cond_true, and_self, Int.toNat_natCast, hg, hw, bne_self_eq_false, cond_false, i64_succ h (by omega)]
    · simp only [Int.ofNat_lt, Nat.lt_irrefl, decide_false, cond_false, beq_self_eq_true, cond_true]
      rfl
end
end Go.Proofs.Ytgneanhmjkdkaaa
