/-
  Layer 14, logs: what may be a log; records that are made.
-/
import Derived.Test.YtgneanhmjkdkaaaPtN
import Derived.Test.YtgneanhmjkdkaaaDaP
import Derived.Test.YtgneanhmjkdkaaaInC
namespace Go.Proofs.Ytgneanhmjkdkaaa
open Go.RowKit
section
variable {fu : Nat}
abbrev Rd := D_api_Record
/-- A loop that looks for one. -/
theorem loop_any {X S R : Type} {f : S → Option (S ⊕ R)} : ∀ (l : List X) (mk : Nat → S) (q : X → Bool) (r fin : R), l.length < fu →
    (∀ i (h : i < l.length), f (mk i) = some (bif q l[i] then .inr r else .inl (mk (i + 1)))) → f (mk l.length) = some (.inr fin) → loopO fu f (mk 0) = some (bif l.any q then r else fin) := by
  intro l mk q r fin hf hs he
  have key : ∀ k i n, i + k = l.length → k < n → loopO n f (mk i) = some (bif (l.drop i).any q then r else fin) := by
    intro k
    induction k with
    | zero =>
      intro i n hi hn
      obtain ⟨m, rfl⟩ : ∃ m, n = m + 1 := ⟨n - 1, by omega⟩
      obtain rfl : i = l.length := by omega
      simp only [loopO, he, List.drop_length, List.any_nil, cond_false]
    | succ k ih =>
      intro i n hi hn
      obtain ⟨m, rfl⟩ : ∃ m, n = m + 1 := ⟨n - 1, by omega⟩
      have hlt : i < l.length := by omega
      rw [List.drop_eq_getElem_cons hlt]
      simp only [loopO, hs i hlt, List.any_cons]
      cases q l[i] with
      | true => rfl
      | false => exact ih (i + 1) m (by omega) (by omega)
  exact key l.length 0 fu (by omega) hf
theorem loop_for {X S R : Type} {f : S → Option (S ⊕ R)} {res : R} (l : List X) (mk : Nat → S) (q : X → Bool) (r fin : R) (hf : l.length < fu)
    (hs : ∀ i (h : i < l.length), f (mk i) = some (bif q l[i] then .inr r else .inl (mk (i + 1)))) (he : f (mk l.length) = some (.inr fin)) (hr : (bif l.any q then r else fin) = res) : loopO fu f (mk 0) = some res :=
  hr ▸ loop_any l mk q r fin hf hs he
theorem loop_find {X S R : Type} {f : S → Option (S ⊕ R)} {res : R} (l : List X) (mk : Nat → S) (q : X → Bool) (g : Option X → R) (hf : l.length < fu)
    (hs : ∀ i (h : i < l.length), f (mk i) = some (bif q l[i] then .inr (g (some l[i])) else .inl (mk (i + 1)))) (he : f (mk l.length) = some (.inr (g none))) (hr : g (l.find? q) = res) : loopO fu f (mk 0) = some res := by
  subst hr
  have key : ∀ k i n, i + k = l.length → k < n → loopO n f (mk i) = some (g ((l.drop i).find? q)) := by
    intro k
    induction k with
    | zero =>
      intro i n hi hn
      obtain ⟨m, rfl⟩ : ∃ m, n = m + 1 := ⟨n - 1, by omega⟩
      obtain rfl : i = l.length := by omega
      simp only [loopO, he, List.drop_length, List.find?_nil]
    | succ k ih =>
      intro i n hi hn
      obtain ⟨m, rfl⟩ : ∃ m, n = m + 1 := ⟨n - 1, by omega⟩
      have hlt : i < l.length := by omega
      rw [List.drop_eq_getElem_cons hlt]
      simp only [loopO, hs i hlt, List.find?_cons]
      cases q l[i] with
      | true => rfl
      | false => exact ih (i + 1) m (by omega) (by omega)
  exact key l.length 0 fu (by omega) hf
/-- A loop over a list that folds. -/
theorem loop_fold {X S A R : Type} {f : S → Option (S ⊕ R)} {res : R} (l : List X) (mk : Nat → A → S) (st : A → X → A) (fin : A → R) (a : A) (P : Nat → A → Prop) (h0 : P 0 a) (hf : l.length < fu)
    (hs : ∀ i (h : i < l.length) b, P i b → f (mk i b) = some (.inl (mk (i + 1) (st b l[i]))) ∧ P (i + 1) (st b l[i])) (he : ∀ b, P l.length b → f (mk l.length b) = some (.inr (fin b))) (hr : fin (l.foldl st a) = res) : loopO fu f (mk 0 a) = some res := by
  subst hr
  have key : ∀ k i n b, i + k = l.length → k < n → P i b → loopO n f (mk i b) = some (fin ((l.drop i).foldl st b)) := by
    intro k
    induction k with
    | zero =>
      intro i n b hi hn hb
      obtain ⟨m, rfl⟩ : ∃ m, n = m + 1 := ⟨n - 1, by omega⟩
      obtain rfl : i = l.length := by omega
      simp only [loopO, he b hb, List.drop_length, List.foldl_nil]
    | succ k ih =>
      intro i n b hi hn hb
      obtain ⟨m, rfl⟩ : ∃ m, n = m + 1 := ⟨n - 1, by omega⟩
      have hlt : i < l.length := by omega
      rw [List.drop_eq_getElem_cons hlt]
      obtain ⟨e1, e2⟩ := hs i hlt b hb
      simp only [loopO, e1, List.foldl_cons]
      exact ih (i + 1) m _ (by omega) (by omega) e2
  exact key l.length 0 fu a (by omega) hf h0


theorem guardE {p : Prop} [Decidable p] {α : Type} {a : α} (h : p) : (bif decide p then some a else none) = some a := by rw [decide_eq_true h]; rfl
theorem u64_wrap {x : Int} (h1 : 0 ≤ x) (h2 : x < 18446744073709551616) : IntKind.wrap .u64 x = x := by
  show x % 18446744073709551616 = x
  omega
/-! ### Logs -/
def noRec : Rd := (0, ⟨#[]⟩, [], 0, 0)
def wrong (l : List Rd) (i : Nat) : Bool := bif ((l.getD i noRec).1 != (i : Int)) then true else bif decide ((l.getD i noRec).2.1.size > 32) then true else decide ((l.getD i noRec).2.2.1.length > 256)
def logOk (l : List Rd) : Bool := bif (List.range l.length).any (wrong l) then false else decide (l.length ≤ 4096)
theorem p56_is (a : Int) (c : ByteArray) (l : List Int) (x y : Int) : p56 fu ((a, c, l, x, y, ()), ()) = some ((), bif decide (c.size > 32) then 131 else bif decide (l.length > 256) then 144 else 0) := by
  unfold p56
  have h1 : decide ((c.size : Int) > 32) = decide (c.size > 32) := decide_eq_decide.2 (by omega)
  have h2 : decide ((l.length : Int) > 256) = decide (l.length > 256) := decide_eq_decide.2 (by omega)
  simp only [h1, h2]
  cases decide (c.size > 32) <;> cases decide (l.length > 256) <;> rfl
theorem p27_is (l : List Rd) (hl : l.length ≤ 2097152) (hf : 4194304 < fu) : p27 fu (l, ()) = some ((), logOk l) := by
  unfold p27 logOk
  refine loop_for (List.range l.length) (fun i => (((i : Int), ()), ())) (wrong l) ((), false) ((), decide (l.length ≤ 4096)) (by simp only [List.length_range]; omega) (fun i h => ?_) ?_ (by cases (List.range l.length).any (wrong l) <;> rfl)
  · simp only [List.length_range] at h
    have hg : ∀ d, l.getD i d = l[i] := fun d => getD_lt h
    have hw : IntKind.wrap .u64 (i : Int) = (i : Int) := u64_wrap (by omega) (by omega)
    simp only [List.getElem_range, Int.ofNat_lt, Int.natCast_nonneg, h, decide_true, cond_true, and_self, Int.toNat_natCast, hg, hw, p56_is, bind_val, i64_succ h (by omega), wrong]
    cases (l[i].1 != (i : Int))
    · simp only [cond_false]
      cases decide (l[i].2.1.size > 32) <;> cases decide (l[i].2.2.1.length > 256) <;> rfl
    · rfl
  · simp only [List.length_range, Int.ofNat_lt, Nat.lt_irrefl, decide_false, cond_false]
    have h3 : decide ((l.length : Int) ≤ 4096) = decide (l.length ≤ 4096) := decide_eq_decide.2 (by omega)
    rw [h3]; rfl
theorem p28_is (l : List Rd) (hl : l.length ≤ 2097152) (hf : 4194304 < fu) : p28 fu (l, ()) = some ((), logOk l) := by
  unfold p28 logOk
  rcases Nat.lt_or_ge 4096 l.length with h6' | h6
  · have h6 : ¬ l.length ≤ 4096 := by omega
    have h7 : (l.length : Int) > 4096 := by omega
    simp only [h6, h7, decide_true, decide_false, cond_true]
    cases (List.range l.length).any (wrong l) <;> rfl
  have h7 : ¬ (l.length : Int) > 4096 := by omega
  simp only [h6, h7, decide_true, decide_false, cond_false]
  refine loop_for (List.range l.length) (fun i => (((i : Int), ()), ())) (wrong l) ((), false) ((), true) (by simp only [List.length_range]; omega) (fun i h => ?_) ?_ (by cases (List.range l.length).any (wrong l) <;> rfl)
  · simp only [List.length_range] at h
    have hg : ∀ d, l.getD i d = l[i] := fun d => getD_lt h
    have hw : IntKind.wrap .u64 (i : Int) = (i : Int) := u64_wrap (by omega) (by omega)
    have h1 : decide ((l[i].2.1.size : Int) > 32) = decide (l[i].2.1.size > 32) := decide_eq_decide.2 (by omega)
    have h2 : decide ((l[i].2.2.1.length : Int) > 256) = decide (l[i].2.2.1.length > 256) := decide_eq_decide.2 (by omega)
    simp only [List.getElem_range, Int.ofNat_lt, Int.natCast_nonneg, h, decide_true, cond_true, and_self, Int.toNat_natCast, hg, hw, h1, h2, i64_succ h (by omega), wrong]
    cases (l[i].1 != (i : Int))
    · simp only [cond_false]
      cases decide (l[i].2.1.size > 32)
      · simp only [cond_false]
        cases decide (l[i].2.2.1.length > 256) <;> rfl
      · rfl
    · rfl
  · simp only [List.length_range, Int.ofNat_lt, Nat.lt_irrefl, decide_false, cond_false]; rfl
end
section
variable {fu : Nat}
abbrev Lw := List (Int × List Int)
def seqsOf (l : List Rd) (k : Int) : List Int := (l.filter fun x => x.2.2.2.1 == k).map fun x => x.2.2.2.2
/-- A map tells what is left. -/
def MapOf (m : Lw) (l : List Rd) : Prop := ∀ k : Int, (lookM (.int .u64) m k).getD [] = minsL (seqsOf l k)
theorem look_set (k v k' : _) : ∀ m : Lw, lookM (.int .u64) (setM (.int .u64) m k v) k' = if k' = k then some v else lookM (.int .u64) m k'
  | [] => by
    show cond ((k' : Int) == k) (some v) none = _
    by_cases h : k' = k
    · have : ((k' : Int) == k) = true := beq_iff_eq.2 h
      rw [if_pos h, this]; rfl
    · have : ((k' : Int) == k) = false := beq_eq_false_iff_ne.2 h
      rw [if_neg h, this]; rfl
  | p :: m => by
    show lookM (.int .u64) (cond ((k : Int) == p.1) ((p.1, v) :: m) (p :: setM (.int .u64) m k v)) k' = _
    by_cases hp : k = p.1
    · have h0 : ((k : Int) == p.1) = true := beq_iff_eq.2 hp
      rw [h0]
      show cond ((k' : Int) == p.1) (some v) (lookM (.int .u64) m k') = if k' = k then some v else cond ((k' : Int) == p.1) (some p.2) (lookM (.int .u64) m k')
      by_cases h : k' = k
      · have : ((k' : Int) == p.1) = true := beq_iff_eq.2 (h.trans hp)
        rw [if_pos h, this]; rfl
      · have : ((k' : Int) == p.1) = false := beq_eq_false_iff_ne.2 fun e => h (e.trans hp.symm)
        rw [if_neg h, this]; rfl
    · have h0 : ((k : Int) == p.1) = false := beq_eq_false_iff_ne.2 hp
      rw [h0]
      show cond ((k' : Int) == p.1) (some p.2) (lookM (.int .u64) (setM (.int .u64) m k v) k') = if k' = k then some v else cond ((k' : Int) == p.1) (some p.2) (lookM (.int .u64) m k')
      rw [look_set k v k' m]
      by_cases h : k' = k
      · have : ((k' : Int) == p.1) = false := beq_eq_false_iff_ne.2 fun e => hp (h.symm.trans e)
        rw [if_pos h, if_pos h, this]; rfl
      · rw [if_neg h, if_neg h]
theorem look_map (f : List Int → List Int) (k : Int) : ∀ m : Lw, lookM (.int .u64) (m.map fun p => (p.1, f p.2)) k = (lookM (.int .u64) m k).map f
  | [] => rfl
  | p :: m => by
    show cond ((k : Int) == p.1) (some (f p.2)) (lookM (.int .u64) (m.map fun p => (p.1, f p.2)) k) = (cond ((k : Int) == p.1) (some p.2) (lookM (.int .u64) m k)).map f
    rw [look_map f k m]
    cases ((k : Int) == p.1) <;> rfl
theorem grp_is (k : Int) : ∀ (l : List Rd) (m : Lw), (lookM (.int .u64) (l.foldl (fun m x => setM (.int .u64) m x.2.2.2.1 ((lookM (.int .u64) m x.2.2.2.1).getD [] ++ [x.2.2.2.2])) m) k).getD [] = (lookM (.int .u64) m k).getD [] ++ seqsOf l k
  | [], m => by simp [seqsOf]
  | x :: l, m => by
    rw [List.foldl_cons, grp_is k l, look_set]
    by_cases h : k = x.2.2.2.1
    · have h' : (x.2.2.2.1 == k) = true := beq_iff_eq.2 h.symm
      rw [if_pos h]
      subst h
      simp only [Option.getD_some, seqsOf, List.filter_cons, beq_self_eq_true, if_true, List.map_cons, List.append_assoc, List.singleton_append]
    · have h' : (x.2.2.2.1 == k) = false := beq_eq_false_iff_ne.2 fun e => h e.symm
      rw [if_neg h]
      simp only [seqsOf, List.filter_cons, h', Bool.false_eq_true, if_false]
theorem low_is (l : List Rd) : MapOf (lowM l) l := by
  intro k
  unfold lowM
  rw [look_map]
  have h := grp_is k l []
  have h0 : (lookM (.int .u64) ([] : Lw) k).getD [] = [] := rfl
  rw [h0, List.nil_append] at h
  have h' : (lookM (.int .u64) (grpM l) k).getD [] = seqsOf l k := h
  rw [← h']
  cases lookM (.int .u64) (grpM l) k <;> rfl
theorem mins_len : ∀ l : List Int, (minsL l).length = l.length
  | [] => rfl
  | x :: l => by simp only [minsL, List.length_cons, mins_len l]
theorem mins_head (s : Int) : ∀ (l : List Int) (d : Int), l ≠ [] → decide ((minsL l).getD 0 d ≥ s) = l.all fun y => decide (y ≥ s)
  | [], _, h => absurd rfl h
  | [x], d, _ => by simp [minsL]
  | x :: y :: l, d, _ => by
    have ih := mins_head s (y :: l) d (by simp)
    rw [List.all_cons, ← ih]
    have : ∃ z t, minsL (y :: l) = z :: t := ⟨_, _, rfl⟩
    obtain ⟨z, t, e⟩ := this
    rw [minsL, e]
    simp only [List.getD_cons_zero]
    rw [Bool.eq_iff_iff, Bool.and_eq_true, decide_eq_true_eq, decide_eq_true_eq, decide_eq_true_eq]
    split <;> constructor <;> intro h <;> omega
/-- Has it a first record, and the other one none left of its producer with a lower Seq? -/
def ahead (l r : List Rd) : Bool := match l with
  | [] => false
  | x :: _ => (seqsOf r x.2.2.2.1).all fun y => decide (y ≥ x.2.2.2.2)
theorem p48_is (l : List Rd) (t : List Int) (m : Lw) : p48_1 fu ((l, t, m, ()), ()) = some (((l, t, m, ()), (), (), ()), decide (0 < l.length)) := by
  unfold p48_1
  have h : decide ((l.length : Int) > 0) = decide (0 < l.length) := decide_eq_decide.2 (by omega)
  simp only [decide_true, cond_true, h]
theorem p49_is (l r : List Rd) (t u : List Int) (m n : Lw) (hn : MapOf n r) : p49_1 fu ((l, t, m, ()), (r, u, n, ()), ()) = some (((l, t, m, ()), (), (), (r, u, n, ()), (), (), ()), ahead l r) := by
  unfold p49_1
  simp only [p48_is, bind_val, decide_true, cond_true]
  cases l with
  | nil => rfl
  | cons x l =>
    have hg : ∀ d, (x :: l).getD 0 d = x := fun d => rfl
    have h0 : (0 : Int) < ((x :: l).length : Int) := by simp only [List.length_cons]; omega
    have hk : (lookM (.int .u64) n x.2.2.2.1).getD [] = minsL (seqsOf r x.2.2.2.1) := hn _
    have h1 : (0 : Int) < ((l.length + 1 : Nat) : Int) := by omega
    simp only [List.length_cons, Nat.succ_pos, decide_true, Bool.not_true, cond_false, hg, ahead, h1, Int.le_refl, true_and, cond_true]
    generalize (lookM (.int .u64) n x.2.2.2.1).getD [] = q at hk
    subst hk
    simp only [mins_len]
    cases hs : seqsOf r x.2.2.2.1 with
    | nil => rfl
    | cons y q =>
      have h2 : (((y :: q).length : Int) == 0) = false := beq_eq_false_iff_ne.2 (by simp only [List.length_cons]; omega)
      have h3 : (0 : Int) < ((y :: q).length : Int) := by simp only [List.length_cons]; omega
      have h4 : 0 < (y :: q).length := Nat.succ_pos _
      simp only [h2, h3, h4, decide_true, cond_true, cond_false]
      have := mins_head x.2.2.2.2 (y :: q) (dflt (.int .u64)) (by simp)
      rw [← this]
end
section
variable {fu : Nat}
theorem drop_mins : ∀ l : List Int, (minsL l).drop 1 = minsL (l.drop 1)
  | [] => rfl
  | _ :: _ => rfl
theorem p50_is (x : Rd) (l : List Rd) (t : List Int) (m : Lw) (h : Int) (hm : MapOf m (x :: l)) (ht : t.length ≤ 2097152) :
    ∃ m' : Lw, MapOf m' l ∧ p50_1 fu ((x :: l, t, m, ()), h, ()) = some (((l, t ++ [h], m', ()), (), (), ()), (x.1, x.2.1, x.2.2.1, x.2.2.2.1, x.2.2.2.2, ())) := by
  have hk : (lookM (.int .u64) m x.2.2.2.1).getD [] = minsL (seqsOf (x :: l) x.2.2.2.1) := hm _
  have hs : seqsOf (x :: l) x.2.2.2.1 = x.2.2.2.2 :: seqsOf l x.2.2.2.1 := by
    simp only [seqsOf, List.filter_cons, beq_self_eq_true, if_true, List.map_cons]
  refine ⟨setM (.int .u64) m x.2.2.2.1 (((lookM (.int .u64) m x.2.2.2.1).getD []).drop 1), fun k => ?_, ?_⟩
  · rw [look_set]
    by_cases h : k = x.2.2.2.1
    · subst h
      rw [if_pos rfl, Option.getD_some, hk, hs]; rfl
    · have h' : (x.2.2.2.1 == k) = false := beq_eq_false_iff_ne.2 fun e => h e.symm
      rw [if_neg h, hm k]
      simp only [seqsOf, List.filter_cons, h', Bool.false_eq_true, if_false]
  · unfold p50_1
    have hg : ∀ d, (x :: l).getD 0 d = x := fun d => rfl
    have h1 : (0 : Int) < ((l.length + 1 : Nat) : Int) := by omega
    have h2 : 1 ≤ l.length + 1 := Nat.succ_pos _
    have h3 : 1 ≤ ((lookM (.int .u64) m x.2.2.2.1).getD []).length := by rw [hk, mins_len, hs]; exact Nat.succ_pos _
    have h4 : t.length + [h].length ≤ maxLen ∧ (t.length + [h].length) * 8 ≤ 140737488355328 := ⟨by unfold maxLen; simp only [List.length_singleton]; omega, by simp only [List.length_singleton]; omega⟩
    simp only [List.length_cons, Nat.succ_pos, decide_true, cond_true, hg, h1, h2, Int.le_refl, and_self]
    rw [decide_eq_true h3]
    simp only [cond_true]
    exact guardE ⟨by unfold maxLen; simp only [List.length_nil]; omega, by simp only [List.length_nil]; omega⟩
theorem copyL_all {α : Type} (l : List α) (d : α) : copyL (List.replicate l.length d) 0 l.length l = l := by
  simp [copyL]
theorem p79_is (l : List Int) (h : l.length ≤ 140737488355328) : p79 fu (l, ()) = some ((), l) := by
  unfold p79
  cases l with
  | nil => rfl
  | cons a l =>
    have h0 : (((a :: l).length : Int) == 0) = false := beq_eq_false_iff_ne.2 (by simp only [List.length_cons]; omega)
    have h1 : (0 : Int) ≤ ((a :: l).length : Int) ∧ ((a :: l).length : Int) ≤ ((a :: l).length : Int) ∧ ((a :: l).length : Int) ≤ 9223372036854775807 ∧ (1 : Int) * ((a :: l).length : Int) ≤ 140737488355328 := by omega
    simp only [h0, cond_false, h1, and_self, decide_true, cond_true, Int.toNat_natCast, List.length_replicate, copyL_all]
/-- A record's place in another log. -/
def numR (n : List Rd) (x : Rd) : Rd := ((n.length : Int), x.2.1, x.2.2.1, x.2.2.2.1, x.2.2.2.2)
theorem p46_is (n : List Rd) (x : Rd) (hn : n.length ≤ 2097152) (hx : x.2.2.1.length ≤ 140737488355328) : p46 fu (n, (x.1, x.2.1, x.2.2.1, x.2.2.2.1, x.2.2.2.2, ()), ()) = some (((), ()), n ++ [numR n x]) := by
  unfold p46 p67
  have hw : IntKind.wrap .u64 (n.length : Int) = (n.length : Int) := u64_wrap (by omega) (by omega)
  simp only [p79_is _ hx, bind_val, decide_true, cond_true, hw]
  exact guardE ⟨by unfold maxLen; simp only [List.length_singleton]; omega, by simp only [List.length_singleton]; omega⟩
def jnS : Nat → List Rd → List Int → List Int → List Rd → List Rd → List Rd × List Int × List Int × Int × Unit
  | 0, n, t, u, _, _ => (n, t ++ [(n.length : Int)], u ++ [(n.length : Int)], 0, ())
  | k + 1, n, t, u, l, r =>
    bif ahead l r then (match l with
      | [] => ([], [], [], 145, ())
      | x :: l => jnS k (n ++ [numR n x]) (t ++ [(n.length : Int)]) u l r)
    else bif ahead r l then (match r with
      | [] => ([], [], [], 145, ())
      | x :: r => jnS k (n ++ [numR n x]) t (u ++ [(n.length : Int)]) l r)
    else ([], [], [], 145, ())
def jnE (a b : List Rd) : List Rd × List Int × List Int × Int × Unit :=
  bif logOk a && logOk b then (bif decide (a.length + b.length > 4096) then ([], [], [], 143, ()) else jnS (a.length + b.length) [] [] [] a b) else ([], [], [], 1, ())
theorem ahead_cons {l r : List Rd} (h : ahead l r = true) : ∃ x l', l = x :: l' := by
  cases l with
  | nil => cases h
  | cons x l => exact ⟨x, l, rfl⟩
theorem first_is {a b : Bool} {α : Type} {x z : α} (h : a = true ∨ b = true) : (bif a then x else bif b then x else z) = x := by
  cases a <;> cases b <;> simp_all
theorem p13_is (a b : List Rd) (ha : a.length ≤ 1048576) (hb : b.length ≤ 1048576) (hva : ∀ x ∈ a, x.2.2.1.length ≤ 1048576) (hvb : ∀ x ∈ b, x.2.2.1.length ≤ 1048576) (hf : 4194304 < fu) :
    p13 fu (a, b, ()) = some ((), jnE a b) := by
  unfold p13 jnE
  simp only [p27_is a (show a.length ≤ 2097152 by omega) hf, p27_is b (show b.length ≤ 2097152 by omega) hf, bind_val]
  cases logOk a
  · simp only [Bool.not_false, cond_true, orK_inl, Bool.false_and, cond_false]
  cases logOk b
  · simp only [Bool.not_false, Bool.not_true, cond_true, cond_false, orK_inl, Bool.and_false]
  simp only [Bool.not_true, cond_false, orK_inl, Bool.and_true, cond_true]
  have hw : IntKind.wrap .i64 ((a.length : Int) + (b.length : Int)) = ((a.length + b.length : Nat) : Int) := by rw [i64_wrap (by omega) (by omega)]; omega
  by_cases h4 : a.length + b.length > 4096
  · have h5 : ((a.length + b.length : Nat) : Int) > 4096 := by omega
    simp only [hw, h4, h5, decide_true, cond_true]
  have h5 : ¬ ((a.length + b.length : Nat) : Int) > 4096 := by omega
  have sa : pNewSrc fu (a, ()) = some ((), (a, (), lowM a, ())) := guardE ha
  have sb : pNewSrc fu (b, ()) = some ((), (b, (), lowM b, ())) := guardE hb
  simp only [hw, h4, h5, decide_false, cond_false, sa, sb, bind_val]
  refine loopO_eq (I := fun s => ∃ (n : List Rd) (l r : List Rd) (t u : List Int) (m m' : Lw), s = ((n, ()), ((l, t, m, ()), (r, u, m', ()), ())) ∧ MapOf m l ∧ MapOf m' r ∧ n.length + l.length + r.length ≤ 4096 ∧ t.length ≤ n.length ∧ u.length ≤ n.length ∧ (∀ x ∈ l, x.2.2.1.length ≤ 1048576) ∧ ∀ x ∈ r, x.2.2.1.length ≤ 1048576)
    (m := fun s => s.2.1.1.length + s.2.2.1.1.length) (g := fun s => ((), jnS (s.2.1.1.length + s.2.2.1.1.length) s.1.1 s.2.1.2.1 s.2.2.1.2.1 s.2.1.1 s.2.2.1.1)) (fun s hs => ?_) fu _ ⟨[], a, b, [], [], lowM a, lowM b, rfl, low_is a, low_is b, by simp only [List.length_nil]; omega, Nat.le_refl _, Nat.le_refl _, hva, hvb⟩ (by show a.length + b.length < fu; omega)
  obtain ⟨n, l, r, t, u, m, m', rfl, hm, hm', hn, ht, hu, hvl, hvr⟩ := hs
  have hwn : IntKind.wrap .u64 (n.length : Int) = (n.length : Int) := u64_wrap (by omega) (by omega)
  simp only [decide_true, cond_true, p48_is, bind_val, hwn]
  by_cases hz : l.length + r.length = 0
  · refine .inr ?_
    obtain rfl : l = [] := List.length_eq_zero_iff.1 (by omega)
    obtain rfl : r = [] := List.length_eq_zero_iff.1 (by omega)
    have g1 : t.length + [(n.length : Int)].length ≤ maxLen ∧ (t.length + [(n.length : Int)].length) * 8 ≤ 140737488355328 := ⟨by unfold maxLen; simp only [List.length_singleton]; omega, by simp only [List.length_singleton]; omega⟩
    have g2 : u.length + [(n.length : Int)].length ≤ maxLen ∧ (u.length + [(n.length : Int)].length) * 8 ≤ 140737488355328 := ⟨by unfold maxLen; simp only [List.length_singleton]; omega, by simp only [List.length_singleton]; omega⟩
    simp only [List.length_nil, Nat.lt_irrefl, decide_false, cond_false, g1, g2, and_self, decide_true, cond_true]
    rfl
  obtain ⟨k, hk⟩ : ∃ k, l.length + r.length = k + 1 := ⟨l.length + r.length - 1, by omega⟩
  have hor : decide (0 < l.length) = true ∨ decide (0 < r.length) = true := by
    rcases Nat.eq_zero_or_pos l.length with h | h
    · exact .inr (decide_eq_true (by omega))
    · exact .inl (decide_eq_true h)
  rw [first_is hor]
  simp only [orK_inl, p49_is l r t u m m' hm', bind_val]
  cases h1 : ahead l r with
  | true =>
    obtain ⟨x, l, rfl⟩ := ahead_cons h1
    obtain ⟨q, hq, e⟩ := p50_is (fu := fu) x l t m (n.length : Int) hm (by omega)
    refine .inl ?_
    simp only [cond_true, e, bind_val, p46_is n x (by omega) (Nat.le_trans (hvl x List.mem_cons_self) (by omega))]
    refine ⟨_, rfl, ⟨_, _, _, _, _, _, _, rfl, hq, hm', ?_, ?_, ?_, fun y hy => hvl y (List.mem_cons_of_mem _ hy), hvr⟩, ?_, ?_⟩
    · simp only [List.length_append, List.length_cons, List.length_nil] at hn ⊢; omega
    · simp only [List.length_append, List.length_cons, List.length_nil]; omega
    · simp only [List.length_append, List.length_cons, List.length_nil]; omega
    · simp only [List.length_cons]; omega
    · have e1 : (x :: l).length + r.length = (l.length + r.length) + 1 := by simp only [List.length_cons]; omega
      simp only [e1, jnS, h1, cond_true]
  | false =>
    simp only [cond_false, p49_is r l u t m' m hm, bind_val]
    cases h2 : ahead r l with
    | true =>
      obtain ⟨x, r, rfl⟩ := ahead_cons h2
      obtain ⟨q, hq, e⟩ := p50_is (fu := fu) x r u m' (n.length : Int) hm' (by omega)
      refine .inl ?_
      simp only [cond_true, e, bind_val, p46_is n x (by omega) (Nat.le_trans (hvr x List.mem_cons_self) (by omega))]
      refine ⟨_, rfl, ⟨_, _, _, _, _, _, _, rfl, hm, hq, ?_, ?_, ?_, hvl, fun y hy => hvr y (List.mem_cons_of_mem _ hy)⟩, ?_, ?_⟩
      · simp only [List.length_append, List.length_cons, List.length_nil] at hn ⊢; omega
      · simp only [List.length_append, List.length_cons, List.length_nil]; omega
      · simp only [List.length_append, List.length_cons, List.length_nil]; omega
      · simp only [List.length_cons]; omega
      · have e1 : l.length + (x :: r).length = (l.length + r.length) + 1 := by simp only [List.length_cons]; omega
        simp only [e1, jnS, h1, h2, cond_true, cond_false]
    | false =>
      refine .inr ?_
      simp only [cond_false, hk, jnS, h1, h2]
      rfl
end
section
variable {fu : Nat}
theorem p11_is (hf : 4194304 < fu) : p11 fu () = some ((), true) := by
  obtain ⟨m, rfl⟩ : ∃ m, fu = m + 16 := ⟨fu - 16, by omega⟩
  kernel_rfl
def incS (l : List Rd) : Prop := l.Pairwise fun x y => x.2.2.2.2 ≤ y.2.2.2.2
theorem seqs_mem {l : List Rd} {k y : Int} (h : y ∈ seqsOf l k) : ∃ z ∈ l, z.2.2.2.2 = y := by
  unfold seqsOf at h
  obtain ⟨z, hz, e⟩ := List.mem_map.1 h
  exact ⟨z, (List.mem_filter.1 hz).1, e⟩
theorem ahead_inc {x : Rd} {l r : List Rd} (h : ∀ z ∈ r, x.2.2.2.2 ≤ z.2.2.2.2) : ahead (x :: l) r = true := by
  unfold ahead
  refine List.all_eq_true.2 fun y hy => ?_
  obtain ⟨z, hz, rfl⟩ := seqs_mem hy
  exact decide_eq_true (h z hz)
theorem jn_ok : ∀ (k : Nat) (n : List Rd) (t u : List Int) (l r : List Rd), l.length + r.length = k → incS l → incS r → (jnS k n t u l r).2.2.2.1 = 0
  | 0, _, _, _, _, _, _, _, _ => rfl
  | k + 1, n, t, u, l, r, hk, hl, hr => by
    unfold jnS
    cases h1 : ahead l r with
    | true =>
      obtain ⟨x, l, rfl⟩ := ahead_cons h1
      exact jn_ok k _ _ _ l r (by simp only [List.length_cons] at hk; omega) (List.pairwise_cons.1 hl).2 hr
    | false =>
      cases h2 : ahead r l with
      | true =>
        obtain ⟨x, r, rfl⟩ := ahead_cons h2
        exact jn_ok k _ _ _ l r (by simp only [List.length_cons] at hk; omega) hl (List.pairwise_cons.1 hr).2
      | false =>
        exfalso
        cases l with
        | nil =>
          cases r with
          | nil => simp at hk
          | cons y r => rw [ahead_inc (fun z hz => absurd hz List.not_mem_nil)] at h2; cases h2
        | cons x l =>
          cases r with
          | nil => rw [ahead_inc (fun z hz => absurd hz List.not_mem_nil)] at h1; cases h1
          | cons y r =>
            rcases Int.le_total x.2.2.2.2 y.2.2.2.2 with h | h
            · rw [ahead_inc (fun z hz => ?_)] at h1
              · cases h1
              · rcases List.mem_cons.1 hz with rfl | hz
                · exact h
                · exact Int.le_trans h ((List.pairwise_cons.1 hr).1 z hz)
            · rw [ahead_inc (fun z hz => ?_)] at h2
              · cases h2
              · rcases List.mem_cons.1 hz with rfl | hz
                · exact h
                · exact Int.le_trans h ((List.pairwise_cons.1 hl).1 z hz)
def grownR (i : Nat) : Rd := ((i : Int), (⟨#[107]⟩ : ByteArray), ([] : List Int), (9 : Int), (i : Int))
def grownL (n : Nat) : List Rd := (List.range n).map grownR
theorem grown_len (n : Nat) : (grownL n).length = n := by simp [grownL]
theorem grown_succ (n : Nat) : grownL (n + 1) = grownL n ++ [((n : Int), (⟨#[107]⟩ : ByteArray), ([] : List Int), (9 : Int), (n : Int))] := by
  simp [grownL, grownR, List.range_succ]
theorem grown_at (n i : Nat) (h : i < n) (d : Rd) : (grownL n).getD i d = ((i : Int), (⟨#[107]⟩ : ByteArray), ([] : List Int), (9 : Int), (i : Int)) := by
  rw [getD_lt (by rw [grown_len]; exact h)]
  simp [grownL, grownR]
theorem grown_inc (n : Nat) : incS (grownL n) := by
  unfold incS grownL
  rw [List.pairwise_map]
  refine List.Pairwise.imp (fun {a b} (h : a < b) => ?_) List.pairwise_lt_range
  show (a : Int) ≤ (b : Int)
  omega
theorem grown_ok (n : Nat) : logOk (grownL n) = decide (n ≤ 4096) := by
  unfold logOk
  have : (List.range (grownL n).length).any (wrong (grownL n)) = false := by
    refine List.any_eq_false.2 fun i hi => ?_
    rw [grown_len] at hi
    have h := List.mem_range.1 hi
    unfold wrong
    rw [grown_at n i h]
    have hs : ByteArray.size (⟨#[107]⟩ : ByteArray) = 1 := rfl
    simp only [bne_self_eq_false, cond_false, hs, List.length_nil]
    exact Bool.false_ne_true
  rw [this, cond_false, grown_len]
theorem loop_val {S R : Type} {f : S → Option (S ⊕ R)} (I : S → Prop) (m : S → Nat) {n : Nat} {s : S} {r : R} (hI : I s) (hm : m s < n) (h : ∀ s, I s → ∃ o, f s = some o ∧ LStep I m (fun q => q = r) s o) : loopO n f s = some r := by
  obtain ⟨q, e, rfl⟩ := loopO_rule I m (fun q => q = r) h n s hI hm
  exact e
theorem p22_is (c : Int) (h0 : 0 ≤ c) (h1 : c < 65536) (hf : 4194304 < fu) : p22 fu ([], c, ()) = some ((), grownL (Int.toNat c % 4099)) := by
  obtain ⟨q, rfl⟩ : ∃ q : Nat, c = (q : Int) := ⟨Int.toNat c, by omega⟩
  have hm : Int.tmod (IntKind.wrap .i64 (q : Int)) 4099 = ((q % 4099 : Nat) : Int) := by
    rw [i64_wrap (by omega) (by omega), Int.tmod_eq_emod_of_nonneg (by omega)]; omega
  have hq : q % 4099 ≤ 4098 := by omega
  unfold p22
  simp only [hm, Int.toNat_natCast]
  generalize q % 4099 = k at hq
  have g0 : ([] : List Rd).length + ([] : List Rd).length ≤ maxLen ∧ (([] : List Rd).length + ([] : List Rd).length) * 64 ≤ 140737488355328 := by decide
  simp only [List.length_nil, Nat.add_zero, Nat.zero_le, Nat.zero_mul, and_self, decide_true, cond_true, List.append_nil]
  refine loop_val (I := fun s => ∃ i : Nat, s = ((grownL i, (i : Int), ()), ()) ∧ i ≤ k) (m := fun s => k - Int.toNat s.1.2.1) ⟨0, rfl, Nat.zero_le _⟩ (by show k - 0 < fu; omega) fun s hs => ?_
  obtain ⟨i, rfl, hi⟩ := hs
  have hw : IntKind.wrap .u64 (i : Int) = (i : Int) := u64_wrap (by omega) (by omega)
  by_cases h : i < k
  · have h2 : (i : Int) < 4098 := by omega
    simp only [Int.ofNat_lt, h, grown_len, h2, decide_true, cond_true, hw, i64_succ h (by omega)]
    refine ⟨_, guardE ⟨by unfold maxLen; simp only [List.length_singleton]; omega, by simp only [List.length_singleton]; omega⟩, ⟨i + 1, by rw [grown_succ], h⟩, by simp only [Int.toNat_natCast]; omega⟩
  · obtain rfl : i = k := by omega
    simp only [Int.ofNat_lt, Nat.lt_irrefl, decide_false, cond_false]
    exact ⟨_, rfl, rfl⟩
theorem p6_is (a c : Int) (ha : 0 ≤ a) (ha' : a < 65536) (hc : 0 ≤ c) (hc' : c < 65536) (hf : 4194304 < fu) : p6 fu (a, c, ()) = some ((), true) := by
  unfold p6
  have hm : ∀ n : Nat, ∀ x ∈ grownL n, x.2.2.1.length ≤ 1048576 := fun n x hx => by
    obtain ⟨i, _, rfl⟩ := List.mem_map.1 hx
    exact Nat.zero_le _
  have hq1 : Int.toNat a % 4099 ≤ 4098 := by omega
  have hq2 : Int.toNat c % 4099 ≤ 4098 := by omega
  simp only [p11_is hf, p22_is a ha ha' hf, p22_is c hc hc' hf, bind_val]
  generalize Int.toNat a % 4099 = n at hq1
  generalize Int.toNat c % 4099 = m at hq2
  have l1 := grown_len n
  have l2 := grown_len m
  simp only [p13_is (grownL n) (grownL m) (by omega) (by omega) (hm n) (hm m) hf, p28_is (grownL n) (by omega) hf, p28_is (grownL m) (by omega) hf, bind_val, jnE, grown_ok, grown_len]
  have hw : IntKind.wrap .i64 ((n : Int) + (m : Int)) = ((n + m : Nat) : Int) := by rw [i64_wrap (by omega) (by omega)]; omega
  by_cases h1 : n ≤ 4096
  · by_cases h2 : m ≤ 4096
    · by_cases h3 : n + m > 4096
      · have h4 : ((n + m : Nat) : Int) > 4096 := by omega
        simp only [h1, h2, h3, h4, hw, decide_true, Bool.and_self, cond_true, Bool.not_true, cond_false, orK_inl]
        rfl
      · have h4 : ¬ ((n + m : Nat) : Int) > 4096 := by omega
        have hj := jn_ok (n + m) [] [] [] (grownL n) (grownL m) (by omega) (grown_inc n) (grown_inc m)
        simp only [h1, h2, h3, h4, hw, decide_true, Bool.and_self, cond_true, Bool.not_true, cond_false, orK_inl, decide_false, hj]
        rfl
    · simp only [h1, h2, decide_true, decide_false, Bool.and_false, cond_true, cond_false, Bool.not_true, Bool.not_false, orK_inl]
      rfl
  · simp only [h1, decide_false, Bool.false_and, cond_true, cond_false, Bool.not_false, orK_inl]
    rfl
end
section
variable {fu : Nat}
def befB (c f : ByteArray) : Bool := bif (ByteArray.toList c == ByteArray.toList (⟨#[]⟩ : ByteArray)) then true else !(Op.bytesLess (ByteArray.toList c) (ByteArray.toList f) || ByteArray.toList c == ByteArray.toList f)
def chkB (a c : ByteArray) : Int := bif !decide ((a.size : Int) ≤ 32) then 131 else bif !decide ((c.size : Int) ≤ 32) then 131 else bif !befB c a then 132 else 0
def hasB (a c f : ByteArray) : Bool := bif (chkB a c == 0) then (bif decide ((f.size : Int) ≤ 32) then (bif !Op.bytesLess f.toList a.toList then befB c f else false) else false) else false
theorem p66_is (c f : ByteArray) : p66 fu ((c, ByteArray.toList c == ByteArray.toList (⟨#[]⟩ : ByteArray), ()), f, ()) = some ((), befB c f) := by
  unfold p66 befB
  cases (ByteArray.toList c == ByteArray.toList (⟨#[]⟩ : ByteArray)) <;> rfl
theorem p41_is (a c : ByteArray) : p41 fu ((a, c, ()), ()) = some ((), chkB a c) := by
  unfold p41 chkB
  simp only [p64, p65, bind_val, p66_is]
  cases decide ((a.size : Int) ≤ 32)
  · rfl
  cases decide ((c.size : Int) ≤ 32)
  · rfl
  cases befB c a <;> rfl
theorem p42_is (a c f : ByteArray) : p42 fu ((a, c, ()), f, ()) = some ((), hasB a c f) := by
  unfold p42 hasB
  simp only [p41_is, p64, p65, bind_val, p66_is]
  cases (chkB a c == 0)
  · rfl
  cases decide ((f.size : Int) ≤ 32)
  · rfl
  cases Op.bytesLess f.toList a.toList <;> rfl
def keepT (a c : ByteArray) (s : List Rd × List Int) (x : Rd) : List Rd × List Int := (bif hasB a c x.2.1 then s.1 ++ [numR s.1 x] else s.1, s.2 ++ [(s.1.length : Int)])
def keepF (s : List Rd × List Int) : List Rd × List Int := (s.1, s.2 ++ [(s.1.length : Int)])
def keepS (l : List Rd) (a c : ByteArray) : List Rd × List Int := bif !logOk l then ([], []) else bif (chkB a c != 0) then ([], []) else keepF (l.foldl (keepT a c) ([], []))
theorem log_at {l : List Rd} (h : logOk l = true) : l.length ≤ 4096 ∧ ∀ i (hi : i < l.length), l[i].1 = (i : Int) ∧ l[i].2.1.size ≤ 32 ∧ l[i].2.2.1.length ≤ 256 := by
  unfold logOk at h
  cases hb : (List.range l.length).any (wrong l) with
  | true => rw [hb] at h; exact absurd h Bool.false_ne_true
  | false =>
    rw [hb, cond_false] at h
    refine ⟨of_decide_eq_true h, fun i hi => ?_⟩
    have := List.any_eq_false.1 hb i (List.mem_range.2 hi)
    unfold wrong at this
    have g : ∀ d, l.getD i d = l[i] := fun d => getD_lt hi
    simp only [g] at this
    cases h1 : (l[i].1 != (i : Int)) with
    | true => rw [h1] at this; exact absurd rfl this
    | false =>
      rw [h1, cond_false] at this
      have h1' : l[i].1 = (i : Int) := by simpa using h1
      by_cases h2 : l[i].2.1.size > 32
      · rw [decide_eq_true h2] at this; exact absurd rfl this
      · rw [decide_eq_false h2, cond_false] at this
        exact ⟨h1', by omega, by simpa using this⟩
theorem p12_is (l : List Rd) (a c : ByteArray) (hl : l.length ≤ 1048576) (hf : 4194304 < fu) : p12 fu (l, (a, c, ()), ()) = some ((), (keepS l a c).1, (keepS l a c).2, ()) := by
  unfold p12 keepS
  simp only [p27_is l (show l.length ≤ 2097152 by omega) hf, p41_is, bind_val]
  cases ho : logOk l
  · rfl
  cases hq : (chkB a c != 0) with
  | true => rfl
  | false =>
  simp only [Bool.not_true, cond_false]
  refine loop_fold l (fun i s => ((s.1, s.2, (i : Int), ()), ())) (keepT a c) (fun s => ((), (keepF s).1, (keepF s).2, ())) ([], []) (fun i s => s.1.length ≤ i ∧ s.2.length ≤ i) ⟨Nat.le_refl _, Nat.le_refl _⟩ (show l.length < fu by omega) (fun i hi s hs => ?_) (fun s hs => ?_) rfl
  · obtain ⟨s1, s2⟩ := s
    obtain ⟨h1, h2⟩ := hs
    have h1 : s1.length ≤ i := h1
    have h2 : s2.length ≤ i := h2
    have hg : ∀ d, l.getD i d = l[i] := fun d => getD_lt hi
    have hw : IntKind.wrap .u64 (s1.length : Int) = (s1.length : Int) := u64_wrap (by omega) (by omega)
    have hv := ((log_at ho).2 i hi).2.2
    have g : s2.length + [(s1.length : Int)].length ≤ maxLen ∧ (s2.length + [(s1.length : Int)].length) * 8 ≤ 140737488355328 := ⟨by unfold maxLen; simp only [List.length_singleton]; omega, by simp only [List.length_singleton]; omega⟩
    simp only [Int.ofNat_lt, Int.natCast_nonneg, hi, decide_true, cond_true, and_self, Int.toNat_natCast, hg, hw, g, p42_is, bind_val, p46_is s1 l[i] (show s1.length ≤ 2097152 by omega) (show l[i].2.2.1.length ≤ 140737488355328 by omega), i64_succ hi (by omega), keepT]
    cases hasB a c l[i].2.1
    · exact ⟨rfl, by show s1.length ≤ _; omega, by show (s2 ++ [_]).length ≤ _; rw [List.length_append]; simp only [List.length_singleton]; omega⟩
    · exact ⟨rfl, by show (s1 ++ [_]).length ≤ _; rw [List.length_append]; simp only [List.length_singleton]; omega, by show (s2 ++ [_]).length ≤ _; rw [List.length_append]; simp only [List.length_singleton]; omega⟩
  · obtain ⟨s1, s2⟩ := s
    have h1 : s1.length ≤ l.length := hs.1
    have h2 : s2.length ≤ l.length := hs.2
    have hw : IntKind.wrap .u64 (s1.length : Int) = (s1.length : Int) := u64_wrap (by omega) (by omega)
    have g : s2.length + [(s1.length : Int)].length ≤ maxLen ∧ (s2.length + [(s1.length : Int)].length) * 8 ≤ 140737488355328 := ⟨by unfold maxLen; simp only [List.length_singleton]; omega, by simp only [List.length_singleton]; omega⟩
    simp only [Int.ofNat_lt, Nat.lt_irrefl, decide_false, cond_false, decide_true, cond_true, hw, g, and_self]
    rfl
/-! ### The whole -/
def upI (n : Nat) : List Int := (List.range n).map fun i : Nat => (i : Int)
theorem up_succ (n : Nat) : upI (n + 1) = upI n ++ [(n : Int)] := by simp [upI, List.range_succ]
theorem num_same {l : List Rd} (h : logOk l = true) {i : Nat} (hi : i < l.length) : numR (l.take i) l[i] = l[i] := by
  have e := ((log_at h).2 i hi).1
  unfold numR
  rw [List.length_take, Nat.min_eq_left (Nat.le_of_lt hi), ← e]
theorem has_all (f : ByteArray) (h : f.size ≤ 32) : hasB ⟨#[]⟩ ⟨#[]⟩ f = true := by
  have h0 : chkB ⟨#[]⟩ ⟨#[]⟩ = 0 := by decide +kernel
  have h1 : (f.size : Int) ≤ 32 := by omega
  have h2 : ∀ x : List UInt8, Op.bytesLess x [] = false := fun x => by cases x <;> rfl
  have h3 : (⟨#[]⟩ : ByteArray).toList = [] := by rw [Lib.toList_data]
  unfold hasB befB
  simp only [h0, beq_self_eq_true, cond_true, h1, decide_true, h3, h2, Bool.not_false]
theorem keep_whole {l : List Rd} (h : logOk l = true) : keepS l ⟨#[]⟩ ⟨#[]⟩ = (l, upI (l.length + 1)) := by
  have h0 : chkB ⟨#[]⟩ ⟨#[]⟩ = 0 := by decide +kernel
  have key : ∀ i, i ≤ l.length → (l.take i).foldl (keepT ⟨#[]⟩ ⟨#[]⟩) ([], []) = (l.take i, upI i) := by
    intro i
    induction i with
    | zero => intro _; rfl
    | succ i ih =>
      intro hi
      rw [List.take_succ_eq_append_getElem hi, List.foldl_append, ih (by omega)]
      simp only [List.foldl_cons, List.foldl_nil, keepT, has_all _ ((log_at h).2 i hi).2.1, cond_true, num_same h hi, up_succ, List.length_take, Nat.min_eq_left (Nat.le_of_lt hi)]
  unfold keepS
  have hk := key l.length (Nat.le_refl _)
  rw [List.take_length] at hk
  simp only [h, Bool.not_true, cond_false, h0, bne_self_eq_false, hk, keepF, up_succ]
end
section
variable {fu : Nat}
/-- The numbers of no producer go down. -/
def risesL (l : List Rd) : Prop := l.Pairwise fun x y => x.2.2.2.1 = y.2.2.2.1 → x.2.2.2.2 ≤ y.2.2.2.2
def below (n l : List Rd) : Prop := ∀ x ∈ n, ∀ y ∈ l, x.2.2.2.1 = y.2.2.2.1 → x.2.2.2.2 ≤ y.2.2.2.2
theorem ahead_le {x : Rd} {l r : List Rd} (h : ahead (x :: l) r = true) : ∀ y ∈ r, x.2.2.2.1 = y.2.2.2.1 → x.2.2.2.2 ≤ y.2.2.2.2 := by
  intro y hy e
  unfold ahead at h
  have : y.2.2.2.2 ∈ seqsOf r x.2.2.2.1 := List.mem_map.2 ⟨y, List.mem_filter.2 ⟨hy, beq_iff_eq.2 e.symm⟩, rfl⟩
  exact of_decide_eq_true (List.all_eq_true.1 h _ this)
theorem below_snoc {n l : List Rd} {x : Rd} (h : below n l) (hx : ∀ y ∈ l, x.2.2.2.1 = y.2.2.2.1 → x.2.2.2.2 ≤ y.2.2.2.2) : below (n ++ [numR n x]) l := by
  intro z hz y hy
  rcases List.mem_append.1 hz with hz | hz
  · exact h z hz y hy
  · obtain rfl := List.mem_singleton.1 hz
    exact hx y hy
theorem rises_snoc {n l : List Rd} {x : Rd} (h : risesL n) (hb : below n (x :: l)) : risesL (n ++ [numR n x]) := by
  refine List.pairwise_append.2 ⟨h, List.pairwise_singleton _ _, fun a ha b hb' => ?_⟩
  obtain rfl := List.mem_singleton.1 hb'
  exact hb a ha x List.mem_cons_self
theorem below_tail {n l : List Rd} {x : Rd} (h : below n (x :: l)) : below n l := fun z hz y hy => h z hz y (List.mem_cons_of_mem _ hy)
theorem jn_rises : ∀ (k : Nat) (n : List Rd) (t u : List Int) (l r : List Rd), l.length + r.length = k → risesL n → risesL l → risesL r → below n l → below n r → risesL (jnS k n t u l r).1
  | 0, _, _, _, _, _, _, hn, _, _, _, _ => hn
  | k + 1, n, t, u, l, r, hk, hn, hl, hr, bl, br => by
    unfold jnS
    cases h1 : ahead l r with
    | true =>
      obtain ⟨x, l, rfl⟩ := ahead_cons h1
      obtain ⟨hx, hl'⟩ := List.pairwise_cons.1 hl
      exact jn_rises k _ _ _ l r (by simp only [List.length_cons] at hk; omega) (rises_snoc hn bl) hl' hr (below_snoc (below_tail bl) hx) (below_snoc br (ahead_le h1))
    | false =>
      cases h2 : ahead r l with
      | true =>
        obtain ⟨x, r, rfl⟩ := ahead_cons h2
        obtain ⟨hx, hr'⟩ := List.pairwise_cons.1 hr
        exact jn_rises k _ _ _ l r (by simp only [List.length_cons] at hk; omega) (rises_snoc hn br) hl hr' (below_snoc bl (ahead_le h2)) (below_snoc (below_tail br) hx)
      | false => exact List.Pairwise.nil
end
section
variable {fu : Nat}
def downB (l : List Rd) (i k : Nat) : Bool := bif ((l.getD k noRec).2.2.2.1 == (l.getD i noRec).2.2.2.1) then decide ((l.getD k noRec).2.2.2.2 > (l.getD i noRec).2.2.2.2) else false
def risesB (l : List Rd) : Bool := !(List.range l.length).any fun i => (List.range i).any (downB l i)
theorem rises_iff (l : List Rd) : risesB l = true ↔ risesL l := by
  unfold risesB risesL
  rw [Bool.not_eq_true', List.any_eq_false, List.pairwise_iff_getElem]
  constructor
  · intro h k i hk hi hki e
    have h1 := h i (List.mem_range.2 hi)
    rw [Bool.not_eq_true, List.any_eq_false] at h1
    have h2 := h1 k (List.mem_range.2 hki)
    unfold downB at h2
    have g1 : ∀ d, l.getD k d = l[k] := fun d => getD_lt hk
    have g2 : ∀ d, l.getD i d = l[i] := fun d => getD_lt hi
    simp only [g1, g2, beq_iff_eq.2 e, cond_true] at h2
    simpa using h2
  · intro h i hi
    rw [Bool.not_eq_true, List.any_eq_false]
    intro k hk
    have hi := List.mem_range.1 hi
    have hk := List.mem_range.1 hk
    have hkl : k < l.length := by omega
    have g1 : ∀ d, l.getD k d = l[k] := fun d => getD_lt hkl
    have g2 : ∀ d, l.getD i d = l[i] := fun d => getD_lt hi
    unfold downB
    simp only [g1, g2]
    cases hq : (l[k].2.2.2.1 == l[i].2.2.2.1) with
    | false => exact Bool.false_ne_true
    | true =>
      have := h k i hkl hi hk (beq_iff_eq.1 hq)
      simp only [cond_true, decide_eq_true_eq]
      omega
theorem p45_is (l : List Rd) (hl : l.length ≤ 2097152) (hf : 4194304 < fu) : p45 fu (l, ()) = some ((), risesB l) := by
  unfold p45 risesB
  refine loop_for (List.range l.length) (fun i => (((i : Int), ()), ())) (fun i => (List.range i).any (downB l i)) ((), false) ((), true) (by simp only [List.length_range]; omega) (fun i h => ?_) ?_ (by cases (List.range l.length).any fun i => (List.range i).any (downB l i) <;> rfl)
  · simp only [List.length_range] at h
    simp only [List.getElem_range, Int.ofNat_lt, h, decide_true, cond_true]
    refine loop_for (List.range i) (fun k => (((k : Int), ()), ())) (downB l i) (.inr ((), false)) (.inl ((((i + 1 : Nat) : Int), ()), ())) (by simp only [List.length_range]; omega) (fun k hk => ?_) ?_ (by cases (List.range i).any (downB l i) <;> rfl)
    · simp only [List.length_range] at hk
      have hkl : k < l.length := by omega
      have g1 : ∀ d, l.getD k d = l[k] := fun d => getD_lt hkl
      have g2 : ∀ d, l.getD i d = l[i] := fun d => getD_lt h
      simp only [List.getElem_range, Int.ofNat_lt, Int.natCast_nonneg, hk, hkl, h, decide_true, cond_true, and_self, Int.toNat_natCast, g1, g2, i64_succ hk (by omega), downB]
      cases (l[k].2.2.2.1 == l[i].2.2.2.1)
      · rfl
      · cases decide (l[k].2.2.2.2 > l[i].2.2.2.2) <;> rfl
    · simp only [List.length_range, Int.ofNat_lt, Nat.lt_irrefl, decide_false, cond_false, i64_succ h (show l.length ≤ 9223372036854775807 by omega)]
      rfl
  · simp only [List.length_range, Int.ofNat_lt, Nat.lt_irrefl, decide_false, cond_false]; rfl
/-- The same but for the place. -/
def likeR (x y : Rd) : Prop := x.2 = y.2
/-- Where each record of a log went. -/
def StandsAt (j l : List Rd) (to : List Int) : Prop := to.length = l.length + 1 ∧ ∀ i (h : i < l.length), ∃ p : Nat, ∃ hp : p < j.length, to.getD i 0 = (p : Int) ∧ (p : Int) < to.getD (i + 1) 0 ∧ j[p].2 = l[i].2
end
section
variable {fu : Nat}
/-- Where each record of a log went, from a place on. -/
def Sd (b : Nat) (j l : List Rd) (to : List Int) : Prop := to.length = l.length + 1 ∧ (b : Int) ≤ to.getD 0 0 ∧ ∀ i (h : i < l.length), ∃ p : Nat, ∃ hp : p < j.length, to.getD i 0 = (p : Int) ∧ (p : Int) < to.getD (i + 1) 0 ∧ j[p].2 = l[i].2
theorem sd_weak {b c : Nat} {j l : List Rd} {to : List Int} (h : Sd b j l to) (hc : c ≤ b) : Sd c j l to := ⟨h.1, by have := h.2.1; omega, h.2.2⟩
theorem sd_nil (b : Nat) (j : List Rd) : Sd b j [] [(b : Int)] := ⟨rfl, Int.le_refl _, fun _ h => absurd h (Nat.not_lt_zero _)⟩
theorem sd_cons {b : Nat} {j l : List Rd} {to : List Int} {x : Rd} (h : Sd (b + 1) j l to) (hb : b < j.length) (hx : j[b].2 = x.2) : Sd b j (x :: l) ((b : Int) :: to) := by
  obtain ⟨h1, h2, h3⟩ := h
  refine ⟨by simp only [List.length_cons, h1], Int.le_refl _, fun i hi => ?_⟩
  cases i with
  | zero =>
    refine ⟨b, hb, rfl, ?_, hx⟩
    have e : ((b : Int) :: to).getD (0 + 1) 0 = to.getD 0 0 := rfl
    rw [e]
    omega
  | succ i => exact h3 i (Nat.lt_of_succ_lt_succ hi)
theorem jn_stands : ∀ (k : Nat) (n : List Rd) (t u : List Int) (l r : List Rd), l.length + r.length = k → (jnS k n t u l r).2.2.2.1 = 0 →
    ∃ (rest : List Rd) (tl ul : List Int), jnS k n t u l r = (n ++ rest, t ++ tl, u ++ ul, 0, ()) ∧ rest.length = k ∧ Sd n.length (n ++ rest) l tl ∧ Sd n.length (n ++ rest) r ul ∧
      ∀ i (h : i < rest.length), rest[i].1 = ((n.length + i : Nat) : Int) ∧ ∃ y, (y ∈ l ∨ y ∈ r) ∧ rest[i].2 = y.2
  | 0, n, t, u, l, r, hk, _ => by
    obtain rfl : l = [] := List.length_eq_zero_iff.1 (by omega)
    obtain rfl : r = [] := List.length_eq_zero_iff.1 (by omega)
    exact ⟨[], [(n.length : Int)], [(n.length : Int)], by rw [List.append_nil]; rfl, rfl, sd_nil _ _, sd_nil _ _, fun i h => absurd h (Nat.not_lt_zero _)⟩
  | k + 1, n, t, u, l, r, hk, he => by
    unfold jnS at he ⊢
    have hnum : ∀ (x : Rd) (rest : List Rd), ∃ hb : n.length < (n ++ numR n x :: rest).length, (n ++ numR n x :: rest)[n.length].2 = x.2 := fun x rest => ⟨by simp, by rw [List.getElem_append_right (Nat.le_refl _)]; simp [numR]⟩
    have hlen : ∀ x : Rd, (n ++ [numR n x]).length = n.length + 1 := fun x => by simp
    have happ : ∀ (x : Rd) (rest : List Rd), n ++ [numR n x] ++ rest = n ++ numR n x :: rest := fun x rest => by simp
    cases h1 : ahead l r with
    | true =>
      obtain ⟨x, l, rfl⟩ := ahead_cons h1
      rw [h1] at he
      obtain ⟨rest, tl, ul, e1, e2, e3, e4, e5⟩ := jn_stands k (n ++ [numR n x]) (t ++ [(n.length : Int)]) u l r (by simp only [List.length_cons] at hk; omega) he
      rw [hlen, happ] at e3 e4
      obtain ⟨hb, hx⟩ := hnum x rest
      refine ⟨numR n x :: rest, (n.length : Int) :: tl, ul, ?_, by rw [List.length_cons, e2], sd_cons e3 hb hx, sd_weak e4 (Nat.le_succ _), fun i hi => ?_⟩
      · show jnS k (n ++ [numR n x]) (t ++ [(n.length : Int)]) u l r = _
        rw [e1, happ, List.append_assoc]; rfl
      · cases i with
        | zero => exact ⟨rfl, x, .inl List.mem_cons_self, rfl⟩
        | succ i =>
          obtain ⟨q1, y, q2, q3⟩ := e5 i (Nat.lt_of_succ_lt_succ hi)
          exact ⟨by simp only [List.getElem_cons_succ]; rw [q1, hlen]; omega, y, q2.imp (List.mem_cons_of_mem _) id, q3⟩
    | false =>
      cases h2 : ahead r l with
      | true =>
        obtain ⟨x, r, rfl⟩ := ahead_cons h2
        rw [h1, h2] at he
        obtain ⟨rest, tl, ul, e1, e2, e3, e4, e5⟩ := jn_stands k (n ++ [numR n x]) t (u ++ [(n.length : Int)]) l r (by simp only [List.length_cons] at hk; omega) he
        rw [hlen, happ] at e3 e4
        obtain ⟨hb, hx⟩ := hnum x rest
        refine ⟨numR n x :: rest, tl, (n.length : Int) :: ul, ?_, by rw [List.length_cons, e2], sd_weak e3 (Nat.le_succ _), sd_cons e4 hb hx, fun i hi => ?_⟩
        · show jnS k (n ++ [numR n x]) t (u ++ [(n.length : Int)]) l r = _
          rw [e1, happ, List.append_assoc]; rfl
        · cases i with
          | zero => exact ⟨rfl, x, .inr List.mem_cons_self, rfl⟩
          | succ i =>
            obtain ⟨q1, y, q2, q3⟩ := e5 i (Nat.lt_of_succ_lt_succ hi)
            exact ⟨by simp only [List.getElem_cons_succ]; rw [q1, hlen]; omega, y, q2.imp id (List.mem_cons_of_mem _), q3⟩
      | false =>
        rw [h1, h2] at he
        exact absurd he (by show ¬ (145 : Int) = 0; decide)
end
section
variable {fu : Nat}
theorem p43_hit (x y : Rd) (l : List Rd) (h : x.2 = y.2) (hf : 4194304 < fu) : p43 fu (x :: l, (y.1, y.2.1, y.2.2.1, y.2.2.2.1, y.2.2.2.2, ()), 0, ()) = some ((), 0) := by
  obtain ⟨m, rfl⟩ : ∃ m, fu = m + 1 := ⟨fu - 1, by omega⟩
  unfold p43
  have h0 : (0 : Int) < ((x :: l).length : Int) := by simp only [List.length_cons]; omega
  have h1 : Int.toNat 0 < (x :: l).length := Nat.succ_pos _
  have hg : ∀ d, (x :: l).getD (Int.toNat 0) d = x := fun d => rfl
  simp only [loopO, h0, h1, hg, Int.le_refl, true_and, decide_true, cond_true, h, beq_self_eq_true]
  rfl
theorem slice_one {α : Type} (j : List α) : ∀ (p : Nat) (hp : p < j.length), ∃ rest, slice' j p (some (p + 1)) = j[p] :: rest
  | 0, hp => ⟨[], by
    show j.take 1 = _
    rw [List.take_succ_eq_append_getElem hp]; rfl⟩
  | p + 1, hp => ⟨[], by
    show (j.drop (p + 1)).take (p + 1 + 1 - (p + 1)) = _
    rw [Nat.add_sub_cancel_left, List.drop_eq_getElem_cons hp]; rfl⟩
theorem loop_ex {S R X : Type} {f : S → Option (S ⊕ R)} (mk : X → R) (J : X → Prop) (I : S → Prop) (m : S → Nat) {n : Nat} {s : S} (hI : I s) (hm : m s < n) (h : ∀ s, I s → ∃ o, f s = some o ∧ LStep I m (fun q => ∃ x, q = mk x ∧ J x) s o) : ∃ x, loopO n f s = some (mk x) ∧ J x := by
  obtain ⟨q, e, x, rfl, hx⟩ := loopO_rule I m (fun q => ∃ x, q = mk x ∧ J x) h n s hI hm
  exact ⟨x, e, hx⟩
theorem p44_is (j l : List Rd) (to : List Int) (h : Sd 0 j l to) (hj : j.length ≤ 4096) (hl : l.length ≤ 4096) (hf : 4194304 < fu) : ∃ o : List Int, p44 fu (j, l, to, ()) = some ((), o) ∧ o.length = l.length := by
  obtain ⟨k1, _, k3⟩ := h
  unfold p44
  refine loop_ex (fun o : List Int => ((), o)) (fun o => o.length = l.length) (I := fun s => ∃ (h : List Int) (i : Nat), s = ((h, (i : Int), ()), ()) ∧ i ≤ l.length ∧ h.length = i) (m := fun s => l.length - Int.toNat s.1.2.1) ⟨[], 0, rfl, Nat.zero_le _, rfl⟩ (by show l.length - 0 < fu; omega) fun s hs => ?_
  obtain ⟨q, i, rfl, h1, h2⟩ := hs
  by_cases hi : i < l.length
  · obtain ⟨p, hp, e1, e2, e3⟩ := k3 i hi
    have hi2 : i < to.length := by omega
    have hi3 : i + 1 < to.length := by omega
    have g1 : ∀ d, to.getD i d = (p : Int) := fun d => by rw [getD_lt hi2, ← e1, getD_lt hi2]
    obtain ⟨z, hz⟩ : ∃ z, to.getD (i + 1) 0 = z := ⟨_, rfl⟩
    have g2 : ∀ d, to.getD (i + 1) d = z := fun d => by rw [getD_lt hi3, ← hz, getD_lt hi3]
    rw [hz] at e2
    have g3 : ∀ d, l.getD i d = l[i] := fun d => getD_lt hi
    have w1 : IntKind.wrap .u64 (j.length : Int) = (j.length : Int) := u64_wrap (by omega) (by omega)
    have w2 : IntKind.wrap .i64 (p : Int) = (p : Int) := i64_wrap (by omega) (by omega)
    have w3 : IntKind.wrap .i64 ((p : Int) + 1) = ((p + 1 : Nat) : Int) := i64_succ hp (by omega)
    have c1 : ¬ (p : Int) ≥ (j.length : Int) := by omega
    have c2 : ¬ (p : Int) ≥ z := by omega
    have c3 : p ≤ p + 1 ∧ p + 1 ≤ j.length := ⟨Nat.le_succ _, hp⟩
    have c4 := slice_one j p hp
    obtain ⟨rest, c4⟩ := c4
    simp only [Int.ofNat_lt, Int.natCast_nonneg, hi, hi2, hi3, decide_true, cond_true, and_self, Int.toNat_natCast, g1, g2, g3, w1, w2, w3, c1, c2, c3, decide_false, cond_false, i64_succ hi (by omega), c4, p43_hit _ _ _ e3 hf, bind_val, bne_self_eq_false]
    exact ⟨_, guardE ⟨by unfold maxLen; simp only [List.length_singleton]; omega, by simp only [List.length_singleton]; omega⟩, ⟨_, i + 1, rfl, hi, by rw [List.length_append, h2]; rfl⟩, by simp only [Int.toNat_natCast]; omega⟩
  · obtain rfl : i = l.length := by omega
    simp only [Int.ofNat_lt, Nat.lt_irrefl, decide_false, cond_false, decide_true, cond_true]
    exact ⟨_, rfl, _, rfl, h2⟩
end
section
variable {fu : Nat}
def Kp (a c : ByteArray) (b : Nat) (j l : List Rd) (to : List Int) : Prop := to.length = l.length + 1 ∧ to.getD 0 0 = (b : Int) ∧
  ∀ i (h : i < l.length), ∃ p : Nat, to.getD i 0 = (p : Int) ∧ to.getD (i + 1) 0 = (bif hasB a c l[i].2.1 then (p : Int) + 1 else (p : Int)) ∧ p ≤ j.length ∧ (hasB a c l[i].2.1 = true → ∃ hp : p < j.length, j[p].2 = l[i].2)
theorem kp_fold (a c : ByteArray) : ∀ (l j0 : List Rd) (k0 : List Int), ∃ (rest : List Rd) (to : List Int), keepF (l.foldl (keepT a c) (j0, k0)) = (j0 ++ rest, k0 ++ to) ∧ Kp a c j0.length (j0 ++ rest) l to ∧ rest.length ≤ l.length
  | [], j0, k0 => ⟨[], [(j0.length : Int)], by rw [List.append_nil]; rfl, ⟨rfl, rfl, fun i h => absurd h (Nat.not_lt_zero _)⟩, Nat.le_refl _⟩
  | x :: l, j0, k0 => by
    rw [List.foldl_cons]
    cases hx : hasB a c x.2.1 with
    | true =>
      have e : keepT a c (j0, k0) x = (j0 ++ [numR j0 x], k0 ++ [(j0.length : Int)]) := by unfold keepT; rw [hx]; rfl
      obtain ⟨rest, to, e1, ⟨h1, h2, h3⟩, h4⟩ := kp_fold a c l (j0 ++ [numR j0 x]) (k0 ++ [(j0.length : Int)])
      have happ : j0 ++ [numR j0 x] ++ rest = j0 ++ numR j0 x :: rest := by simp
      have hlen : (j0 ++ [numR j0 x]).length = j0.length + 1 := by simp
      rw [happ] at h3
      rw [hlen] at h2
      refine ⟨numR j0 x :: rest, (j0.length : Int) :: to, by rw [e, e1, happ, List.append_assoc]; rfl, ⟨by simp only [List.length_cons, h1], rfl, fun i hi => ?_⟩, by simp only [List.length_cons]; omega⟩
      cases i with
      | zero =>
        refine ⟨j0.length, rfl, ?_, by simp, fun _ => ⟨by simp, ?_⟩⟩
        · show to.getD 0 0 = bif hasB a c x.2.1 then _ else _
          rw [h2, hx]; rfl
        · rw [List.getElem_append_right (Nat.le_refl _)]; simp [numR]
      | succ i => exact h3 i (Nat.lt_of_succ_lt_succ hi)
    | false =>
      have e : keepT a c (j0, k0) x = (j0, k0 ++ [(j0.length : Int)]) := by unfold keepT; rw [hx]; rfl
      obtain ⟨rest, to, e1, ⟨h1, h2, h3⟩, h4⟩ := kp_fold a c l j0 (k0 ++ [(j0.length : Int)])
      refine ⟨rest, (j0.length : Int) :: to, by rw [e, e1, List.append_assoc]; rfl, ⟨by simp only [List.length_cons, h1], rfl, fun i hi => ?_⟩, by simp only [List.length_cons]; omega⟩
      cases i with
      | zero =>
        refine ⟨j0.length, rfl, ?_, by simp, fun h => ?_⟩
        · show to.getD 0 0 = bif hasB a c x.2.1 then _ else _
          rw [h2, hx]; rfl
        · have h : hasB a c x.2.1 = true := h
          rw [hx] at h; cases h
      | succ i => exact h3 i (Nat.lt_of_succ_lt_succ hi)
/-- The joined log may be a log. -/
theorem logOk_of {l : List Rd} (hl : l.length ≤ 4096) (h : ∀ i (hi : i < l.length), l[i].1 = (i : Int) ∧ l[i].2.1.size ≤ 32 ∧ l[i].2.2.1.length ≤ 256) : logOk l = true := by
  unfold logOk
  have : (List.range l.length).any (wrong l) = false := by
    refine List.any_eq_false.2 fun i hi => ?_
    have hi := List.mem_range.1 hi
    obtain ⟨h1, h2, h3⟩ := h i hi
    have g : ∀ d, l.getD i d = l[i] := fun d => getD_lt hi
    have g2 : ¬ l[i].2.1.size > 32 := by omega
    have g3 : ¬ l[i].2.2.1.length > 256 := by omega
    unfold wrong
    simp only [g, h1, bne_self_eq_false, cond_false, g2, g3, decide_false]
    exact Bool.false_ne_true
  rw [this, cond_false, decide_eq_true hl]
end
section
variable {fu : Nat}
theorem sub_one {α : Type} (j : List α) : ∀ (p : Nat) (hp : p < j.length), ∃ rest, sub' j p (p + 1 - p) = j[p] :: rest
  | 0, hp => ⟨[], by
    show j.take 1 = _
    rw [List.take_succ_eq_append_getElem hp]; rfl⟩
  | p + 1, hp => ⟨[], by
    show (j.drop (p + 1)).take (p + 1 + 1 - (p + 1)) = _
    rw [Nat.add_sub_cancel_left, List.drop_eq_getElem_cons hp]; rfl⟩
theorem keep_len (l : List Rd) (a c : ByteArray) : (keepS l a c = ([], []) ∧ (logOk l = false ∨ (chkB a c == 0) = false)) ∨ (logOk l = true ∧ (chkB a c != 0) = false ∧ ∃ rest to, keepS l a c = (rest, to) ∧ Kp a c 0 rest l to ∧ rest.length ≤ l.length) := by
  unfold keepS
  cases ho : logOk l with
  | false => exact .inl ⟨rfl, .inl rfl⟩
  | true =>
    cases hq : (chkB a c != 0) with
    | true => exact .inl ⟨rfl, .inr (by simpa using hq)⟩
    | false =>
      obtain ⟨rest, to, e, h, h'⟩ := kp_fold a c l [] []
      exact .inr ⟨rfl, rfl, rest, to, e, h, h'⟩
/-- What a join comes to: refused, or all stand where To says. -/
theorem jn_all (a b : List Rd) : ((jnE a b).1 = [] ∧ (jnE a b).2.1 = [] ∧ (jnE a b).2.2.1 = [] ∧ ((jnE a b).2.2.2.1 != 0) = true) ∨
    ∃ (j : List Rd) (ta tb : List Int), jnE a b = (j, ta, tb, 0, ()) ∧ j.length = a.length + b.length ∧ j.length ≤ 4096 ∧ Sd 0 j a ta ∧ Sd 0 j b tb ∧ logOk j = true ∧ (risesL a → risesL b → risesL j) := by
  unfold jnE
  cases hab : logOk a && logOk b with
  | false => exact .inl ⟨rfl, rfl, rfl, rfl⟩
  | true =>
    obtain ⟨ha, hb⟩ := Bool.and_eq_true_iff.1 hab
    by_cases h4 : a.length + b.length > 4096
    · rw [decide_eq_true h4]; exact .inl ⟨rfl, rfl, rfl, rfl⟩
    · rw [decide_eq_false h4]
      simp only [cond_true, cond_false]
      have hbad : ∀ (k : Nat) (n : List Rd) (t u : List Int) (l r : List Rd), (jnS k n t u l r).2.2.2.1 = 0 ∨ jnS k n t u l r = ([], [], [], 145, ()) := by
        intro k
        induction k with
        | zero => intro n t u l r; exact .inl rfl
        | succ k ih =>
          intro n t u l r
          unfold jnS
          cases h1 : ahead l r with
          | true =>
            obtain ⟨x, l, rfl⟩ := ahead_cons h1
            exact ih _ _ _ _ _
          | false =>
            cases h2 : ahead r l with
            | true =>
              obtain ⟨x, r, rfl⟩ := ahead_cons h2
              exact ih _ _ _ _ _
            | false => exact .inr rfl
      rcases hbad (a.length + b.length) [] [] [] a b with h | h
      · obtain ⟨rest, ta, tb, e1, e2, e3, e4, e5⟩ := jn_stands _ [] [] [] a b rfl h
        have hr := jn_rises (a.length + b.length) [] [] [] a b rfl List.Pairwise.nil
        rw [e1] at hr
        refine .inr ⟨rest, ta, tb, e1, e2, by omega, e3, e4, logOk_of (by omega) fun i hi => ?_, fun ra rb => hr ra rb (fun x hx => absurd hx List.not_mem_nil) (fun x hx => absurd hx List.not_mem_nil)⟩
        obtain ⟨q1, y, q2, q3⟩ := e5 i hi
        have hy : y.2.1.size ≤ 32 ∧ y.2.2.1.length ≤ 256 := by
          rcases q2 with q2 | q2
          · obtain ⟨m, hm, rfl⟩ := List.getElem_of_mem q2
            exact ((log_at ha).2 m hm).2
          · obtain ⟨m, hm, rfl⟩ := List.getElem_of_mem q2
            exact ((log_at hb).2 m hm).2
        refine ⟨by rw [q1]; simp, by rw [q3]; exact hy.1, by rw [q3]; exact hy.2⟩
      · rw [h]; exact .inl ⟨rfl, rfl, rfl, rfl⟩
end
section
variable {fu : Nat}

abbrev Cn := D_runtime_errorAddressString
/-- A name's letters. -/
abbrev ky (s : ByteArray) : List UInt8 := s.data.toList
theorem ky_inj {a b : ByteArray} (h : ky a = ky b) : a = b := by
  cases a; cases b
  simp only [ky] at h
  congr 1
  exact Array.toList_inj.1 h
theorem toList_ky (s : ByteArray) : s.toList = ky s := Lib.toList_data s
theorem less_lists : ∀ x y : List UInt8, Op.bytesLess x y = decide (x < y)
  | [], [] => by simp [Op.bytesLess]
  | [], _ :: _ => by simp [Op.bytesLess]
  | _ :: _, [] => by simp [Op.bytesLess]
  | a :: xs, b :: ys => by
    rw [Op.bytesLess, less_lists xs ys, Bool.eq_iff_iff]
    by_cases h : a < b
    · simp [h, List.cons_lt_cons_iff]
    · by_cases h' : b < a
      · have : a ≠ b := fun e => by subst e; exact h h'
        simp [h, this, List.cons_lt_cons_iff]
      · have : a = b := UInt8.le_antisymm (UInt8.not_lt.1 h') (UInt8.not_lt.1 h)
        subst this
        simp [h]
theorem less_ky (a b : ByteArray) : Op.bytesLess a.toList b.toList = decide (ky a < ky b) := by
  rw [toList_ky, toList_ky, less_lists]
theorem eq_ky (a b : ByteArray) : (a.toList == b.toList) = decide (a = b) := by
  rw [toList_ky, toList_ky, Bool.eq_iff_iff]; simp only [beq_iff_eq, decide_eq_true_eq]
  exact ⟨ky_inj, fun h => h ▸ rfl⟩
theorem cmp_lists : ∀ a b : List UInt8, Lib.compareBytes a b = if a < b then -1 else if b < a then 1 else 0
  | [], [] => by simp [Lib.compareBytes]
  | [], _ :: _ => by simp [Lib.compareBytes]
  | _ :: _, [] => by simp [Lib.compareBytes]
  | a :: xs, b :: ys => by
    rw [Lib.compareBytes, cmp_lists xs ys]
    simp only [List.cons_lt_cons_iff]
    by_cases h : a < b
    · simp [h]
    · by_cases h' : b < a
      · have : a ≠ b := fun e => by subst e; exact h h'
        simp [h, h', this]
      · have : a = b := UInt8.le_antisymm (UInt8.not_lt.1 h') (UInt8.not_lt.1 h)
        subst this
        simp [h]
theorem cmpI_ky (a b : ByteArray) : cmpI a b = if ky a < ky b then -1 else if ky b < ky a then 1 else 0 := cmp_lists _ _
theorem lt_irr (x : List UInt8) : ¬ x < x := List.lt_irrefl x
theorem lt_lt {x y z : List UInt8} (h : x < y) (h' : y < z) : x < z := List.lt_trans h h'
theorem both_not {x y : List UInt8} (h : ¬ x < y) (h' : ¬ y < x) : x = y := List.le_antisymm h' h
/-! ### Names -/
def sq (x : Int) : Bool := bif x != 45 then bif x != 95 then bif x != 46 then true else false else false else false
def qb (x : Int) : Bool := bif decide (x < 97) then (bif decide (x < 48) then sq x else bif decide (x > 57) then sq x else false) else bif decide (x > 122) then (bif decide (x < 48) then sq x else bif decide (x > 57) then sq x else false) else false
def nameB (a : ByteArray) : Bool := bif (numsOf a).any qb then false else decide (1 ≤ a.size ∧ a.size ≤ 32)
theorem step_qb {S R : Type} {r : R} {s : S} (x : Int) : (bif decide (x < 97) then
   bif decide (x < 48) then
    bif x != 45 then bif x != 95 then bif x != 46 then some (.inr r) else some (.inl s) else some (.inl s) else some (.inl s)
   else bif decide (x > 57) then
    bif x != 45 then bif x != 95 then bif x != 46 then some (.inr r) else some (.inl s) else some (.inl s) else some (.inl s)
   else some (.inl s)
  else bif decide (x > 122) then
   bif decide (x < 48) then
    bif x != 45 then bif x != 95 then bif x != 46 then some (.inr r) else some (.inl s) else some (.inl s) else some (.inl s)
   else bif decide (x > 57) then
    bif x != 45 then bif x != 95 then bif x != 46 then some (.inr r) else some (.inl s) else some (.inl s) else some (.inl s)
   else some (.inl s)
  else some (.inl s) : Option (S ⊕ R)) = some (bif qb x then .inr r else .inl s) := by
  unfold qb sq
  generalize decide (x < 97) = b1; generalize decide (x < 48) = b2; generalize decide (x > 57) = b3; generalize decide (x > 122) = b4
  generalize (x != 45) = b5; generalize (x != 95) = b6; generalize (x != 46) = b7
  cases b1 <;> cases b2 <;> cases b3 <;> cases b4 <;> cases b5 <;> cases b6 <;> cases b7 <;> rfl
theorem bAt_num (a : ByteArray) (i : Nat) (h : i < (numsOf a).length) : bAt a i = (numsOf a)[i] := by
  have h' : i < a.data.toList.length := by simpa [numsOf] using h
  have : (numsOf a)[i] = ((a.data.toList[i].toNat : Int)) := List.getElem_map ..
  rw [this, bAt, getD_lt h']
theorem p37_is (a : ByteArray) (ha : a.size ≤ 1048576) (hf : a.size < fu) : p37 fu (a, ()) = some ((), nameB a) := by
  unfold p37 nameB
  have hl := numsOf_length a
  refine loop_for (numsOf a) (fun i => (((i : Int), ()), ())) qb ((), false) ((), decide (1 ≤ a.size ∧ a.size ≤ 32)) (by omega) (fun i h => ?_) ?_ (by cases (numsOf a).any qb <;> rfl)
  · simp only [Int.ofNat_lt, Int.natCast_nonneg, h, decide_true, cond_true, and_self, Int.toNat_natCast, getD_lt h, i64_succ h (by omega)]
    exact step_qb _
  · simp only [Int.ofNat_lt, Nat.lt_irrefl, decide_false, cond_false]
    by_cases h1 : 1 ≤ a.size
    · have h2 : (a.size : Int) ≥ 1 := by omega
      have h3 : decide ((a.size : Int) ≤ 32) = decide (a.size ≤ 32) := decide_eq_decide.2 (by omega)
      simp only [h1, h2, h3, decide_true, cond_true, true_and]; rfl
    · have h2 : ¬ (a.size : Int) ≥ 1 := by omega
      simp only [h1, h2, decide_false, cond_false, false_and]; rfl

/-- A list that came in. -/
def okL (l : List Cn) : Prop := l.length ≤ 2097152 ∧ ∀ x ∈ l, x.1.size ≤ 1048576 ∧ 0 ≤ x.2 ∧ x.2 < 18446744073709551616
theorem okL_at {l : List Cn} (h : okL l) {i : Nat} (hi : i < l.length) : l[i].1.size ≤ 1048576 := (h.2 _ (List.getElem_mem hi)).1
def bad (l : List Cn) (i : Nat) : Bool := bif !nameB (l.getD i (⟨#[]⟩, 0)).1 then true else bif decide (0 < i) then !Op.bytesLess (l.getD (i - 1) (⟨#[]⟩, 0)).1.toList (l.getD i (⟨#[]⟩, 0)).1.toList else false
def okC (l : List Cn) : Bool := bif (List.range l.length).any (bad l) then false else decide (l.length ≤ 64)
theorem p39_is (l : List Cn) (hl : okL l) (hf : 4194304 < fu) : p39 fu (l, ()) = some ((), okC l) := by
  unfold p39 okC
  have hn : l.length ≤ 2097152 := hl.1
  refine loop_for (List.range l.length) (fun i => (((i : Int), ()), ())) (bad l) ((), false) ((), decide (l.length ≤ 64)) (by simp only [List.length_range]; omega) (fun i h => ?_) ?_ (by cases (List.range l.length).any (bad l) <;> rfl)
  · simp only [List.length_range] at h
    have hs := okL_at hl h
    have hg : ∀ d, l.getD i d = l[i] := fun d => getD_lt h
    simp only [List.getElem_range, Int.ofNat_lt, Int.natCast_nonneg, h, decide_true, cond_true, and_self, Int.toNat_natCast, hg, p37_is _ hs (fu := fu) (by omega), bind_val, i64_succ h (by omega), bad]
    cases nameB l[i].1
    · rfl
    simp only [Bool.not_true, cond_false]
    by_cases h0 : 0 < i
    · have h1 : (i : Int) > 0 := by omega
      have h2 : i - 1 < l.length := by omega
      have h3 : ∀ d, l.getD (i - 1) d = l[i - 1] := fun d => getD_lt h2
      simp only [h0, h1, decide_true, cond_true, i64_pred h0 (by omega), Int.natCast_nonneg, Int.ofNat_lt, h2, and_self, Int.toNat_natCast, h3]
      cases Op.bytesLess l[i - 1].1.toList l[i].1.toList <;> rfl
    · have h1 : ¬ (i : Int) > 0 := by omega
      simp only [h0, h1, decide_false, cond_false]
  · simp only [List.length_range, Int.ofNat_lt, Nat.lt_irrefl, decide_false, cond_false]
    have h3 : decide ((l.length : Int) ≤ 64) = decide (l.length ≤ 64) := decide_eq_decide.2 (by omega)
    rw [h3]; rfl
/-- Who reads on where. -/
def readO (o : Option Cn) : Int × Bool := match o with | some x => (x.2, true) | none => (0, false)
def readC (l : List Cn) (c : ByteArray) : Int × Bool := readO (l.find? fun x => x.1.toList == c.toList)
theorem p33_is (l : List Cn) (c : ByteArray) (hl : l.length ≤ 2097152) (hf : 4194304 < fu) : p33 fu (l, c, ()) = some ((), (readC l c).1, (readC l c).2, ()) := by
  unfold p33
  refine loop_find l (fun i => (((i : Int), ()), ())) (fun x => x.1.toList == c.toList) (fun o => ((), (readO o).1, (readO o).2, ())) (by omega) (fun i h => ?_) ?_ rfl
  · have hg : ∀ d, l.getD i d = l[i] := fun d => getD_lt h
    simp only [Int.ofNat_lt, Int.natCast_nonneg, h, decide_true, cond_true, and_self, Int.toNat_natCast, hg, i64_succ h (by omega)]
    cases l[i].1.toList == c.toList <;> rfl
  · simp only [Int.ofNat_lt, Nat.lt_irrefl, decide_false, cond_false]; rfl
theorem self_beq (s : ByteArray) : (s == s) = true := by
  cases s with
  | mk d => show (d == d) = true; exact beq_self_eq_true d

theorem mid_is {lo hi : Nat} (h : lo + hi ≤ 9223372036854775807) : IntKind.wrap .i64 (Int.fdiv (IntKind.wrap .u64 (IntKind.wrap .i64 ((lo : Int) + (hi : Int)))) (2 ^ (min (Int.toNat (1 : Int)) (IntKind.bits .u64)))) = (((lo + hi) / 2 : Nat) : Int) := by
  have e1 : IntKind.wrap .i64 ((lo : Int) + (hi : Int)) = ((lo + hi : Nat) : Int) := by rw [i64_wrap (by omega) (by omega)]; omega
  have e2 : IntKind.wrap .u64 ((lo + hi : Nat) : Int) = ((lo + hi : Nat) : Int) := wrap_u64 (by omega) (by omega)
  have e3 : (2 : Int) ^ (min (Int.toNat (1 : Int)) (IntKind.bits .u64)) = 2 := rfl
  have e4 : Int.fdiv ((lo + hi : Nat) : Int) 2 = (((lo + hi) / 2 : Nat) : Int) := by
    rw [Int.fdiv_eq_ediv_of_nonneg _ (by omega)]; omega
  rw [e1, e2, e3, e4, i64_wrap (by omega) (by omega)]
def Rises (l : List Cn) : Prop := l.Pairwise fun x y => ky x.1 < ky y.1
def isB (e : Cn) (x : Cn) : Bool := !(x.1.toList == e.1.toList)
def insS : List Cn → Cn → List Cn
  | [], e => [e]
  | x :: l, e => bif Op.bytesLess x.1.toList e.1.toList then x :: insS l e else e :: (x :: l).filter (isB e)
theorem isB_iff (e x : Cn) : isB e x = true ↔ x.1 ≠ e.1 := by
  unfold isB; rw [eq_ky]; simp
theorem isB_less {e x : Cn} (h : Op.bytesLess x.1.toList e.1.toList = true) : (x.1.toList == e.1.toList) = false := by
  rw [less_ky] at h
  rw [eq_ky, decide_eq_false_iff_not]
  intro e'
  rw [e'] at h
  exact lt_irr _ (of_decide_eq_true h)
def docR (e : Cn) (b : Bool) (l : List Cn) : List Cn := bif b then l.filter (isB e) else insS l e
/-! ### By halves -/
theorem p72_is (l : List Cn) (hl : l.length ≤ 2097152) : p72 fu (l, ()) = some ((), l) := by
  unfold p72
  cases l with
  | nil => rfl
  | cons a l =>
    have h0 : (((a :: l).length : Int) == 0) = false := by simp; omega
    have h1 : (0 : Int) ≤ ((a :: l).length : Int) ∧ ((a :: l).length : Int) ≤ ((a :: l).length : Int) ∧ ((a :: l).length : Int) ≤ 9223372036854775807 ∧ (24 : Int) * ((a :: l).length : Int) ≤ 140737488355328 := by omega
    simp only [h0, cond_false, h1, and_self, decide_true, cond_true, Int.toNat_natCast, List.length_replicate, copyL_all]
theorem p55_is (a c : ByteArray) (x y : Int) : p55 fu ((a, x, ()), (c, y, ()), ()) = some ((), cmpI a c) := rfl
/-- Where it stands, or would stand. -/
def At (l : List Cn) (c : ByteArray) (n : Nat) : Prop := n ≤ l.length ∧ (∀ k (h : k < l.length), k < n → ky l[k].1 < ky c) ∧ ∀ k (h : k < l.length), n ≤ k → ¬ ky l[k].1 < ky c
theorem at_some (c : ByteArray) : ∀ l : List Cn, Rises l → ∃ n, At l c n
  | [], _ => ⟨0, Nat.le_refl _, fun k h => absurd h (Nat.not_lt_zero _), fun k h => absurd h (Nat.not_lt_zero _)⟩
  | x :: l, hr => by
    obtain ⟨hx, hr'⟩ := List.pairwise_cons.1 hr
    by_cases h : ky x.1 < ky c
    · obtain ⟨n, h1, h2, h3⟩ := at_some c l hr'
      refine ⟨n + 1, Nat.succ_le_succ h1, fun k hk hn => ?_, fun k hk hn => ?_⟩
      · cases k with
        | zero => exact h
        | succ k => exact h2 k (Nat.lt_of_succ_lt_succ hk) (by omega)
      · cases k with
        | zero => omega
        | succ k => exact h3 k (Nat.lt_of_succ_lt_succ hk) (by omega)
    · refine ⟨0, Nat.zero_le _, fun k hk hn => absurd hn (Nat.not_lt_zero _), fun k hk _ => ?_⟩
      cases k with
      | zero => exact h
      | succ k => exact fun g => h (lt_lt (hx _ (List.getElem_mem (Nat.lt_of_succ_lt_succ hk))) g)
theorem p71_is (l : List Cn) (c : ByteArray) (f : Int) (n : Nat) (hl : l.length ≤ 2097152) (hf : 4194304 < fu) (ha : At l c n) :
    p71 fu (l, (c, f, ()), ((), ()), ()) = some ((), (n : Int), (if h : n < l.length then decide (l[n].1 = c) else false), ()) := by
  obtain ⟨hn, ha1, ha2⟩ := ha
  unfold p71
  refine loop_val (I := fun s => ∃ h i : Nat, s = (((h : Int), (i : Int), ()), ()) ∧ h ≤ n ∧ n ≤ i ∧ i ≤ l.length) (m := fun s => Int.toNat s.1.2.1 - Int.toNat s.1.1) ⟨0, l.length, rfl, Nat.zero_le _, hn, Nat.le_refl _⟩ (by simp only [Int.toNat_natCast]; omega) fun s hs => ?_
  obtain ⟨h, i, rfl, h1, h2, h3⟩ := hs
  by_cases hlt : h < i
  · have hm : (h + i) / 2 < l.length := by omega
    have hg : ∀ d, l.getD ((h + i) / 2) d = l[(h + i) / 2] := fun d => getD_lt hm
    simp only [mid_is (lo := h) (hi := i) (by omega), Int.ofNat_lt, hlt, Int.natCast_nonneg, hm, decide_true, cond_true, and_self, Int.toNat_natCast, hg, p55_is, bind_val, cmpI_ky]
    by_cases hc : ky l[(h + i) / 2].1 < ky c
    · simp only [hc, if_true, show decide ((-1 : Int) < 0) = true from rfl, cond_true, i64_succ hm (by omega)]
      refine ⟨_, rfl, ⟨_, _, rfl, ?_, h2, h3⟩, by simp only [Int.toNat_natCast]; omega⟩
      rcases Nat.lt_or_ge ((h + i) / 2) n with g | g
      · exact g
      · exact absurd hc (ha2 _ hm g)
    · have hz : decide ((if ky c < ky l[(h + i) / 2].1 then (1 : Int) else 0) < 0) = false := by split <;> rfl
      simp only [hc, if_false, hz, cond_false]
      refine ⟨_, rfl, ⟨_, _, rfl, h1, ?_, by omega⟩, by simp only [Int.toNat_natCast]; omega⟩
      rcases Nat.lt_or_ge ((h + i) / 2) n with g | g
      · exact absurd (ha1 _ hm g) hc
      · exact g
  · obtain rfl : h = n := by omega
    simp only [Int.ofNat_lt, hlt, decide_false, cond_false]
    by_cases hm : h < l.length
    · have hg : ∀ d, l.getD h d = l[h] := fun d => getD_lt hm
      simp only [hm, Int.natCast_nonneg, decide_true, cond_true, and_self, Int.toNat_natCast, hg, p55_is, bind_val, cmpI_ky, ha2 _ hm (Nat.le_refl _), if_false, dite_true]
      refine ⟨_, rfl, ?_⟩
      have : ((if ky c < ky l[h].1 then (1 : Int) else 0) == 0) = decide (l[h].1 = c) := by
        by_cases hx : ky c < ky l[h].1
        · have : ¬ l[h].1 = c := fun e => lt_irr _ (e ▸ hx)
          simp [hx, this]
        · have : l[h].1 = c := ky_inj (both_not (ha2 _ hm (Nat.le_refl _)) hx)
          simp [this]
      rw [this]
    · simp only [hm, decide_false, cond_false, dite_false]
      exact ⟨_, rfl, rfl⟩

theorem filter_all {l : List Cn} {e : Cn} (h : ∀ y ∈ l, y.1 ≠ e.1) : l.filter (isB e) = l := List.filter_eq_self.2 fun y hy => (isB_iff e y).2 (h y hy)
theorem ky_ne {a b : ByteArray} (h : ky a < ky b) : a ≠ b := fun e => lt_irr _ (e ▸ h)
theorem less_not {x e : Cn} (h : ¬ ky x.1 < ky e.1) : Op.bytesLess x.1.toList e.1.toList = false := by rw [less_ky, decide_eq_false h]
theorem less_yes {x e : Cn} (h : ky x.1 < ky e.1) : Op.bytesLess x.1.toList e.1.toList = true := by rw [less_ky, decide_eq_true h]
theorem insS_place (e : Cn) : ∀ (l : List Cn) (n : Nat), Rises l → At l e.1 n → insS l e = if h : n < l.length then (if l[n].1 = e.1 then l.set n e else l.take n ++ [e] ++ l.drop n) else l.take n ++ [e] ++ l.drop n
  | [], n, _, h => by
    obtain rfl : n = 0 := Nat.le_zero.1 h.1
    rfl
  | x :: l, 0, hr, h => by
    obtain ⟨hx, hr'⟩ := List.pairwise_cons.1 hr
    have h0 : ¬ ky x.1 < ky e.1 := h.2.2 0 (Nat.succ_pos _) (Nat.le_refl _)
    simp only [insS, less_not h0, cond_false, List.length_cons, Nat.succ_pos, dite_true, List.getElem_cons_zero, List.set_cons_zero, List.take_zero, List.nil_append, List.drop_zero, List.filter_cons]
    by_cases hq : x.1 = e.1
    · have hk : isB e x = false := by rw [← Bool.not_eq_true, isB_iff]; exact fun g => g hq
      simp only [hq, if_true, hk, Bool.false_eq_true, if_false]
      rw [filter_all fun y hy g => ky_ne (hx y hy) (hq.trans g.symm)]
    · have hk : isB e x = true := (isB_iff e x).2 hq
      have hlt : ky e.1 < ky x.1 := by
        rcases Classical.em (ky e.1 < ky x.1) with g | g
        · exact g
        · exact absurd (ky_inj (both_not h0 g)) hq
      simp only [hq, if_false, hk, if_true]
      rw [filter_all fun y hy g => ky_ne (lt_lt hlt (hx y hy)) g.symm]
      rfl
  | x :: l, n + 1, hr, h => by
    obtain ⟨hx, hr'⟩ := List.pairwise_cons.1 hr
    have h0 : ky x.1 < ky e.1 := h.2.1 0 (Nat.succ_pos _) (Nat.succ_pos _)
    have ha : At l e.1 n := ⟨Nat.le_of_succ_le_succ h.1, fun k hk hn => h.2.1 (k + 1) (Nat.succ_lt_succ hk) (Nat.succ_lt_succ hn), fun k hk hn => h.2.2 (k + 1) (Nat.succ_lt_succ hk) (Nat.succ_le_succ hn)⟩
    simp only [insS, less_yes h0, cond_true, insS_place e l n hr' ha, List.length_cons, Nat.add_lt_add_iff_right, List.getElem_cons_succ, List.set_cons_succ, List.take_succ_cons, List.drop_succ_cons, List.cons_append]
    split
    · split <;> rfl
    · rfl
theorem mem_insS {e y : Cn} : ∀ {l : List Cn}, y ∈ insS l e → y = e ∨ y ∈ l
  | [], h => .inl (List.mem_singleton.1 h)
  | x :: l, h => by
    unfold insS at h
    cases hb : Op.bytesLess x.1.toList e.1.toList with
    | true =>
      rw [hb, cond_true] at h
      rcases List.mem_cons.1 h with h | h
      · exact .inr (h ▸ List.mem_cons_self)
      · exact (mem_insS h).imp id (List.mem_cons_of_mem _)
    | false =>
      rw [hb, cond_false] at h
      exact (List.mem_cons.1 h).imp id fun h => (List.mem_filter.1 h).1
theorem len_insS (e : Cn) : ∀ l : List Cn, (insS l e).length ≤ l.length + 1
  | [] => Nat.le_refl _
  | x :: l => by
    unfold insS
    cases Op.bytesLess x.1.toList e.1.toList with
    | true => simpa using len_insS e l
    | false =>
      simp only [cond_false, List.length_cons]
      exact Nat.succ_le_succ (List.length_filter_le _ (x :: l))
theorem rises_insS {e : Cn} : ∀ {l : List Cn}, Rises l → Rises (insS l e)
  | [], _ => List.pairwise_singleton _ _
  | x :: l, hr => by
    obtain ⟨hx, hr'⟩ := List.pairwise_cons.1 hr
    unfold insS
    by_cases h0 : ky x.1 < ky e.1
    · rw [less_yes h0, cond_true]
      refine List.pairwise_cons.2 ⟨fun y hy => ?_, rises_insS hr'⟩
      rcases mem_insS hy with rfl | hy
      · exact h0
      · exact hx y hy
    · rw [less_not h0, cond_false]
      refine List.pairwise_cons.2 ⟨fun y hy => ?_, hr.sublist (List.filter_sublist)⟩
      obtain ⟨hm, hb⟩ := List.mem_filter.1 hy
      have hne := (isB_iff e y).1 hb
      have key : ∀ z : Cn, ¬ ky z.1 < ky e.1 → z.1 ≠ e.1 → ky e.1 < ky z.1 := fun z hz hn => by
        rcases Classical.em (ky e.1 < ky z.1) with g | g
        · exact g
        · exact absurd (ky_inj (both_not hz g)) hn
      refine key y (fun g => ?_) hne
      rcases List.mem_cons.1 hm with rfl | hm
      · exact h0 g
      · exact h0 (lt_lt (hx y hm) g)
theorem p54_is (l : List Cn) (c : ByteArray) (f : Int) (hr : Rises l) (hl : l.length ≤ 2097151) (hf : 4194304 < fu) : p54 fu (l, (c, f, ()), ((), ()), ()) = some ((), insS l (c, f)) := by
  obtain ⟨n, ha⟩ := at_some c l hr
  rw [insS_place (c, f) l n hr ha]
  have hn := ha.1
  unfold p54
  simp only [p71_is l c f n (by omega) hf ha, p72_is l (by omega), bind_val]
  have hins : pInsertC fu (l, (n : Int), [(c, f)], ()) = some (((), (), ()), l.take n ++ [(c, f)] ++ l.drop n) := by
    unfold pInsertC
    exact guardE ⟨Int.natCast_nonneg _, by simpa using hn, by simp, by simp only [List.length_singleton]; omega⟩
  by_cases h : n < l.length
  · by_cases hq : l[n].1 = c
    · simp only [h, hq, dite_true, decide_true, cond_true, if_true, Int.natCast_nonneg, Int.ofNat_lt, and_self, Int.toNat_natCast, List.length_set]
    · simp only [h, hq, dite_true, decide_false, cond_false, if_false, hins, bind_val, decide_true, cond_true]
  · simp only [h, dite_false, cond_false, hins, bind_val, decide_true, cond_true]
/-! ### Commit -/
theorem rises_adj : ∀ l : List Cn, (∀ i (h : i + 1 < l.length), ky (l[i]'(Nat.lt_of_succ_lt h)).1 < ky l[i + 1].1) → Rises l
  | [], _ => List.Pairwise.nil
  | [x], _ => List.pairwise_singleton _ _
  | x :: y :: l, h => by
    have h1 : Rises (y :: l) := rises_adj (y :: l) fun i hi => h (i + 1) (Nat.succ_lt_succ hi)
    have h2 : ky x.1 < ky y.1 := h 0 (Nat.succ_lt_succ (Nat.succ_pos _))
    refine List.pairwise_cons.2 ⟨fun z hz => ?_, h1⟩
    rcases List.mem_cons.1 hz with rfl | hz
    · exact h2
    · exact lt_lt h2 ((List.pairwise_cons.1 h1).1 z hz)
theorem okC_rises {l : List Cn} (h : okC l = true) : Rises l ∧ l.length ≤ 64 := by
  unfold okC at h
  cases hb : (List.range l.length).any (bad l) with
  | true => rw [hb] at h; exact absurd h Bool.false_ne_true
  | false =>
    rw [hb, cond_false] at h
    refine ⟨rises_adj l fun i hi => ?_, of_decide_eq_true h⟩
    have := List.any_eq_false.1 hb (i + 1) (List.mem_range.2 hi)
    unfold bad at this
    have g1 : ∀ d, l.getD (i + 1) d = l[i + 1] := fun d => getD_lt hi
    have g2 : ∀ d, l.getD i d = l[i]'(Nat.lt_of_succ_lt hi) := fun d => getD_lt _
    simp only [g1, g2, Nat.succ_pos, decide_true, cond_true, Nat.add_sub_cancel, less_ky] at this
    cases hn : nameB l[i + 1].1 with
    | false => rw [hn] at this; exact absurd rfl this
    | true =>
      rw [hn] at this
      simpa using this
theorem len_found (l : List Cn) (c : ByteArray) (f : Int) (hr : Rises l) : (insS l (c, f)).length = l.length + (bif (readC l c).2 then 0 else 1) := by
  obtain ⟨n, ha⟩ := at_some c l hr
  rw [insS_place (c, f) l n hr ha]
  have hn := ha.1
  have hfound : ∀ b : Bool, (readC l c).2 = b ↔ ((∃ k, ∃ h : k < l.length, l[k].1 = c) ↔ b = true) := by
    intro b
    unfold readC
    cases hx : l.find? fun x => x.1.toList == c.toList with
    | some x =>
      have h1 := List.find?_some hx
      rw [eq_ky, decide_eq_true_eq] at h1
      obtain ⟨k, hk, e⟩ := List.getElem_of_mem (List.mem_of_find?_eq_some hx)
      have : ∃ k, ∃ h : k < l.length, l[k].1 = c := ⟨k, hk, by rw [e]; exact h1⟩
      simp only [readO, this, true_iff]; exact eq_comm
    | none =>
      have : ¬ ∃ k, ∃ h : k < l.length, l[k].1 = c := by
        rintro ⟨k, hk, e⟩
        have := List.find?_eq_none.1 hx _ (List.getElem_mem hk)
        rw [eq_ky, e] at this
        exact this (decide_eq_true rfl)
      simp only [readO, this, false_iff, Bool.not_eq_true]; exact eq_comm
  by_cases h : n < l.length
  · by_cases hq : l[n].1 = c
    · rw [(hfound true).2 ⟨fun _ => rfl, fun _ => ⟨n, h, hq⟩⟩]
      simp only [h, hq, dite_true, if_true, List.length_set, cond_true, Nat.add_zero]
    · have : (readC l c).2 = false := (hfound false).2 ⟨fun ⟨k, hk, e⟩ => by
        exfalso
        rcases Nat.lt_trichotomy k n with g | rfl | g
        · exact ky_ne (ha.2.1 k hk g) e
        · exact hq e
        · exact ha.2.2 n h (Nat.le_refl _) (e ▸ List.pairwise_iff_getElem.1 hr n k h hk g), fun g => absurd g Bool.false_ne_true⟩
      rw [this]
      simp only [h, hq, dite_true, if_false, cond_false, List.length_append, List.length_take, List.length_drop, List.length_singleton]
      omega
  · have : (readC l c).2 = false := (hfound false).2 ⟨fun ⟨k, hk, e⟩ => absurd e (ky_ne (ha.2.1 k hk (by omega))), fun g => absurd g Bool.false_ne_true⟩
    rw [this]
    simp only [h, dite_false, cond_false, List.length_append, List.length_take, List.length_drop, List.length_singleton]
    omega
def commitS (l : List Cn) (c : ByteArray) (f h : Int) : List Cn × Int :=
  bif !okC l then ([], 1) else bif !nameB c then ([], 142) else bif decide (f > h) then ([], 141) else bif decide ((insS l (c, f)).length ≤ 64) then (insS l (c, f), 0) else ([], 143)
/-- An offset of 64 bits. -/
def isU (x : Int) : Prop := 0 ≤ x ∧ x < 18446744073709551616
def atS (o : List Int) (c : Int) : Int := o.getD (min (Int.toNat c) (o.length - 1)) 0
theorem p52_is (o : List Int) (c : Int) (ho : 0 < o.length) (hl : o.length ≤ 2097152) (hc : isU c) : p52 fu (o, c, ()) = some ((), atS o c) := by
  obtain ⟨c1, c2⟩ := hc
  unfold p52 atS
  have e1 : IntKind.wrap .u64 (IntKind.wrap .i64 ((o.length : Int) - 1)) = ((o.length - 1 : Nat) : Int) := by
    rw [i64_pred ho (by omega), u64_wrap (by omega) (by omega)]
  have e2 : (if ((o.length - 1 : Nat) : Int) < c then ((o.length - 1 : Nat) : Int) else c) = ((min (Int.toNat c) (o.length - 1) : Nat) : Int) := by split <;> omega
  have hlt : min (Int.toNat c) (o.length - 1) < o.length := by omega
  simp only [e1, e2, Int.natCast_nonneg, Int.ofNat_lt, hlt, and_self, decide_true, cond_true, Int.toNat_natCast, getD_lt hlt]
/-! ### Map -/
def mvC (o : List Int) (x : Cn) : Cn := (x.1, atS o x.2)
def mapS (l : List Cn) (o : List Int) : List Cn := bif decide (0 < o.length) then l.map (mvC o) else []
theorem okL_u {l : List Cn} (h : okL l) {i : Nat} (hi : i < l.length) : isU l[i].2 := (h.2 _ (List.getElem_mem hi)).2
theorem take_set_succ {α : Type} (l : List α) (i : Nat) (x : α) (h : i < l.length) : (l.set i x).take (i + 1) = l.take i ++ [x] := by
  rw [List.take_succ_eq_append_getElem (by simpa using h), List.getElem_set_self, List.take_set_of_le (Nat.le_refl _)]
theorem p68_is (l : List Cn) (o : List Int) (ho : 0 < o.length) (hl : okL l) (hol : o.length ≤ 2097152) (hf : 4194304 < fu) :
    p68 fu (l, ((), ((((o, ()), ()), ()), ())), ()) = some (((((o, ()), ()), ()), ()), l.map (mvC o)) := by
  have hn : l.length ≤ 2097152 := hl.1
  unfold p68
  cases hz : ((l.length : Int) == 0) with
  | true =>
    have : l = [] := List.length_eq_zero_iff.1 (by have := beq_iff_eq.1 hz; omega)
    subst this
    rfl
  | false =>
  have h1 : (0 : Int) ≤ (l.length : Int) ∧ (l.length : Int) ≤ (l.length : Int) ∧ (l.length : Int) ≤ 9223372036854775807 ∧ (24 : Int) * (l.length : Int) ≤ 140737488355328 := by omega
  simp only [hz, cond_false, h1, and_self, decide_true, cond_true, Int.toNat_natCast, List.length_replicate]
  refine (loopO_eq (I := fun s => ∃ (f : List Cn) (i : Nat), s = ((f, (i : Int), ()), ((((o, ()), ()), ()), ())) ∧ i ≤ l.length ∧ f.length = l.length) (m := fun s => l.length - Int.toNat s.1.2.1) (g := fun s => (((((o, ()), ()), ()), ()), s.1.1.take (Int.toNat s.1.2.1) ++ (l.drop (Int.toNat s.1.2.1)).map (mvC o))) (fun s hs => ?_) fu _ ⟨_, 0, rfl, Nat.zero_le _, List.length_replicate⟩ (by show l.length - 0 < fu; omega)).trans (show _ = some (((((o, ()), ()), ()), ()), l.map (mvC o)) by simp)
  obtain ⟨f, i, rfl, h2, h3⟩ := hs
  by_cases h : i < l.length
  · refine .inl ?_
    have hg : ∀ d, l.getD i d = l[i] := fun d => getD_lt h
    have h' : i < f.length := by omega
    have e69 : p69 fu ((l[i].1, l[i].2, ()), ((((o, ()), ()), ()), ())) = some (((((o, ()), ()), ()), ()), (l[i].1, atS o l[i].2, ())) := by
      unfold p69
      simp only [p52_is o _ ho hol (okL_u hl h), bind_val]
    simp only [Int.ofNat_lt, Int.natCast_nonneg, h, h', decide_true, cond_true, and_self, Int.toNat_natCast, hg, e69, bind_val, i64_succ h (by omega), List.length_set]
    refine ⟨_, rfl, ⟨_, i + 1, rfl, h, by rw [List.length_set]; exact h3⟩, by simp only [Int.toNat_natCast]; omega, ?_⟩
    simp only [Int.toNat_natCast, take_set_succ f i _ h', List.drop_eq_getElem_cons h, List.map_cons, List.append_assoc, List.singleton_append]
    rfl
  · refine .inr ?_
    obtain rfl : i = l.length := by omega
    simp only [Int.ofNat_lt, Nat.lt_irrefl, decide_false, cond_false, Int.toNat_natCast, List.drop_length, List.map_nil, List.append_nil]
    rw [← h3, List.take_length]
    rfl
theorem p15_is (l : List Cn) (o : List Int) (hl : okL l) (hol : o.length ≤ 2097152) (hf : 4194304 < fu) : p15 fu (l, o, ()) = some ((), mapS l o) := by
  unfold p15 mapS
  by_cases h : 0 < o.length
  · have h0 : ((o.length : Int) == 0) = false := beq_eq_false_iff_ne.2 (by omega)
    simp only [h0, cond_false, p51, p68_is l o h hl hol hf, bind_val, h, decide_true, cond_true]
  · have h0 : ((o.length : Int) == 0) = true := beq_iff_eq.2 (by omega)
    simp only [h0, cond_true, h, decide_false, cond_false]

theorem read_u {l : List Cn} (h : okL l) (c : ByteArray) : isU (readC l c).1 := by
  unfold readC
  cases hx : l.find? fun x => x.1.toList == c.toList with
  | some x => exact (h.2 x (List.mem_of_find?_eq_some hx)).2
  | none => exact ⟨Int.le_refl _, by decide⟩
def minI (a b : Int) : Int := if b < a then b else a
def stepB (a b : List Cn) (f h : List Int) (l : List Cn) (x : Cn) : List Cn := insS l (x.1, minI (atS f (readC a x.1).1) (atS h (readC b x.1).1))
def foldB (a b : List Cn) (f h : List Int) : List Cn := (a ++ b).foldl (stepB a b f h) []
def finB (l : List Cn) : List Cn × Int := bif decide (l.length > 64) then ([], 143) else (l, 0)
def bothS (a b : List Cn) (f h : List Int) : List Cn × Int :=
  bif !okC a then ([], 1) else bif !okC b then ([], 1) else bif decide (0 < f.length) then (bif decide (0 < h.length) then finB (foldB a b f h) else ([], 1)) else ([], 1)
theorem p70_is (n : Nat) (hn : n ≤ 2097152) : p70 fu ((), (n : Int), ()) = some ((), []) := by
  unfold p70
  have e0 : IntKind.wrap .i64 ((n : Int) - 0) = (n : Int) := by rw [Int.sub_zero, i64_wrap (by omega) (by omega)]
  have h0 : ¬ (n : Int) < 0 := by omega
  simp only [e0, h0, decide_false, cond_false]
  by_cases h : (n : Int) > 0
  · have h1 : (0 : Int) < (n : Int) ∧ (n : Int) * 24 ≤ 140737488355328 ∧ (n : Int) ≤ 9223372036854775807 := by omega
    simp only [h, h1, and_self, Nat.le_refl, Nat.zero_le, decide_true, cond_true, List.take_zero, List.length_nil]
  · simp only [h, decide_false, cond_false]
theorem p53_is (a b : List Cn) (ha : a.length ≤ 64) (hb : b.length ≤ 64) (hf : 4194304 < fu) : p53 fu ([a, b], ()) = some ((), a ++ b) := by
  have hx : ∀ x ∈ [a, b], x.length ≤ 64 := by simp [ha, hb]
  have hn : [a, b].length = 2 := rfl
  generalize hll : [a, b] = ll at hx hn
  have he : ll.foldl (fun u x => u ++ x) [] = a ++ b := by subst hll; simp
  clear hll
  unfold p53
  refine loop_fold ll (fun i (c : Int) => ((c, (i : Int), ()), ())) (fun c x => c + (x.length : Int)) (fun _ => ((), a ++ b)) 0 (fun i c => 0 ≤ c ∧ c ≤ 64 * (i : Int)) ⟨Int.le_refl _, Int.le_refl _⟩ (by omega) (fun i hi c hc => ?_) (fun c hc => ?_) rfl
  · have hg : ∀ d, ll.getD i d = ll[i] := fun d => getD_lt hi
    have hl := hx _ (List.getElem_mem hi)
    have e1 : IntKind.wrap .i64 (c + (ll[i].length : Int)) = c + (ll[i].length : Int) := i64_wrap (by omega) (by omega)
    have e2 : ¬ c + (ll[i].length : Int) < 0 := by omega
    refine ⟨?_, by omega, by omega⟩
    simp only [Int.ofNat_lt, Int.natCast_nonneg, hi, decide_true, cond_true, and_self, Int.toNat_natCast, hg, e1, e2, decide_false, cond_false, i64_succ hi (by omega)]
  · obtain ⟨n, rfl⟩ : ∃ n : Nat, c = (n : Int) := ⟨Int.toNat c, by omega⟩
    simp only [Int.ofNat_lt, Nat.lt_irrefl, decide_false, cond_false, p70_is n (show n ≤ 2097152 by omega), bind_val, decide_true, cond_true]
    have : ∀ (o : Option (Unit × List Cn)) (r : Unit × List Cn), o = some r → inrO (E := ((Int × Int × Unit) × Unit)) o = some (.inr r) := fun o r h => by rw [h]; rfl
    refine this _ _ ?_
    refine loop_fold ll (fun i (u : List Cn) => ((u, (i : Int), ()), ())) (fun u x => u ++ x) (fun u => ((), u)) [] (fun i u => u.length ≤ 64 * i) (Nat.le_refl _) (by omega) (fun i hi u hu => ?_) (fun u hu => ?_) (by rw [he])
    · have hg : ∀ d, ll.getD i d = ll[i] := fun d => getD_lt hi
      have hl := hx _ (List.getElem_mem hi)
      refine ⟨?_, by rw [List.length_append]; omega⟩
      simp only [Int.ofNat_lt, Int.natCast_nonneg, hi, decide_true, cond_true, and_self, Int.toNat_natCast, hg, i64_succ hi (by omega)]
      exact guardE ⟨by unfold maxLen; omega, by omega⟩
    · simp only [Int.ofNat_lt, Nat.lt_irrefl, decide_false, cond_false]; rfl
theorem p16_is (a b : List Cn) (f h : List Int) (ha : okL a) (hb : okL b) (hlf : f.length ≤ 2097152) (hlh : h.length ≤ 2097152) (hf : 4194304 < fu) : p16 fu (a, b, f, h, ()) = some ((), (bothS a b f h).1, (bothS a b f h).2, ()) := by
  unfold p16 bothS
  simp only [p39_is a ha hf, p39_is b hb hf, bind_val]
  cases hoa : okC a
  · rfl
  cases hob : okC b
  · rfl
  have la := (okC_rises hoa).2
  have lb := (okC_rises hob).2
  rcases Nat.eq_zero_or_pos f.length with h0' | h0
  · have h0 : ¬ 0 < f.length := by omega
    have h1 : ((f.length : Int) == 0) = true := beq_iff_eq.2 (by omega)
    simp only [h0, h1, Bool.not_true, cond_false, cond_true, decide_false]
  rcases Nat.eq_zero_or_pos h.length with h2' | h2
  · have h2 : ¬ 0 < h.length := by omega
    have h1 : ((f.length : Int) == 0) = false := beq_eq_false_iff_ne.2 (by omega)
    have h3 : ((h.length : Int) == 0) = true := beq_iff_eq.2 (by omega)
    simp only [h0, h1, h2, h3, Bool.not_true, cond_false, cond_true, decide_false, decide_true]
  have h1 : ((f.length : Int) == 0) = false := beq_eq_false_iff_ne.2 (by omega)
  have h3 : ((h.length : Int) == 0) = false := beq_eq_false_iff_ne.2 (by omega)
  simp only [h0, h1, h2, h3, Bool.not_true, cond_false, cond_true, decide_true, p53_is a b la lb hf, bind_val]
  refine loop_fold (a ++ b) (fun i l => ((l, (i : Int), ()), ())) (stepB a b f h) (fun l => ((), (finB l).1, (finB l).2, ())) [] (fun i l => Rises l ∧ l.length ≤ i) ⟨List.Pairwise.nil, Nat.le_refl _⟩ (by simp only [List.length_append]; omega) (fun i hi l hl => ?_) (fun l hl => ?_) rfl
  · obtain ⟨hr, hll⟩ := hl
    have hi' : i < a.length + b.length := by simpa using hi
    have hg : ∀ d, (a ++ b).getD i d = (a ++ b)[i] := fun d => getD_lt hi
    refine ⟨?_, rises_insS hr, Nat.le_trans (len_insS _ _) (Nat.succ_le_succ hll)⟩
    simp only [Int.ofNat_lt, Int.natCast_nonneg, hi, decide_true, cond_true, and_self, Int.toNat_natCast, hg, p33_is a _ (show a.length ≤ 2097152 by omega) hf, p33_is b _ (show b.length ≤ 2097152 by omega) hf, bind_val, p52_is f _ h0 hlf (read_u ha _), p52_is h _ h2 hlh (read_u hb _), p54_is l _ _ hr (show l.length ≤ 2097151 by omega) hf, i64_succ hi' (by omega)]
    rfl
  · simp only [Int.ofNat_lt, Nat.lt_irrefl, decide_false, cond_false, finB]
    by_cases h6 : l.length > 64
    · have h7 : (l.length : Int) > 64 := by omega
      simp only [h6, h7, decide_true, cond_true]; rfl
    · have h7 : ¬ (l.length : Int) > 64 := by omega
      simp only [h6, h7, decide_false, cond_false]; rfl
end
section
variable {fu : Nat}
theorem sd_mono {b : Nat} {j l : List Rd} {to : List Int} (h : Sd b j l to) : ∀ k i, i ≤ k → k ≤ l.length → to.getD i 0 ≤ to.getD k 0
  | 0, i, hi, _ => by
    obtain rfl : i = 0 := Nat.le_zero.1 hi
    exact Int.le_refl _
  | k + 1, i, hi, hk => by
    rcases Nat.lt_or_ge k i with h1 | h1
    · obtain rfl : i = k + 1 := by omega
      exact Int.le_refl _
    · obtain ⟨p, _, e1, e2, _⟩ := h.2.2 k (by omega)
      have := sd_mono h k i h1 (by omega)
      omega
theorem jn_last : ∀ (k : Nat) (n : List Rd) (t u : List Int) (l r : List Rd), (jnS k n t u l r).2.2.2.1 = 0 →
    ∃ X Y : List Int, (jnS k n t u l r).2.1 = X ++ [((jnS k n t u l r).1.length : Int)] ∧ (jnS k n t u l r).2.2.1 = Y ++ [((jnS k n t u l r).1.length : Int)]
  | 0, n, t, u, l, r, _ => ⟨t, u, rfl, rfl⟩
  | k + 1, n, t, u, l, r, he => by
    unfold jnS at he ⊢
    cases h1 : ahead l r with
    | true =>
      obtain ⟨x, l, rfl⟩ := ahead_cons h1
      rw [h1] at he
      exact jn_last k _ _ _ l r he
    | false =>
      cases h2 : ahead r l with
      | true =>
        obtain ⟨x, r, rfl⟩ := ahead_cons h2
        rw [h1, h2] at he
        exact jn_last k _ _ _ l r he
      | false =>
        rw [h1, h2] at he
        exact absurd he (by show ¬ (145 : Int) = 0; decide)
theorem snoc_last {X : List Int} {m : Int} {to : List Int} (h : to = X ++ [m]) {n : Nat} (hn : to.length = n + 1) : to.getD n 0 = m := by
  subst h
  have : X.length = n := by simpa using hn
  subst this
  simp
/-- One consumer alone. -/
def cB : ByteArray := ⟨#[99]⟩
theorem one_okC (p : Int) : okC [(cB, p)] = true := by
  have h : nameB cB = true := by decide +kernel
  unfold okC
  have : (List.range ([(cB, p)] : List Cn).length).any (bad [(cB, p)]) = false := by
    refine List.any_eq_false.2 fun i hi => ?_
    have hi := List.mem_range.1 hi
    obtain rfl : i = 0 := by simp only [List.length_cons, List.length_nil] at hi; omega
    unfold bad
    have g : ([(cB, p)] : List Cn).getD 0 (⟨#[]⟩, 0) = (cB, p) := rfl
    rw [g, h]
    exact Bool.false_ne_true
  rw [this]
  rfl
theorem one_read (p : Int) : (readC [(cB, p)] cB).1 = p := by
  unfold readC
  have : (ByteArray.toList cB == ByteArray.toList cB) = true := beq_self_eq_true _
  simp only [List.find?_cons, this, readO]
theorem one_both (p q : Int) (f h : List Int) (hf : 0 < f.length) (hh : 0 < h.length) : bothS [(cB, p)] [(cB, q)] f h = ([(cB, minI (atS f p) (atS h q))], 0) := by
  have hl : Op.bytesLess cB.toList cB.toList = false := by rw [less_ky]; exact decide_eq_false (lt_irr _)
  have hb : ∀ m m' : Int, isB (cB, m) (cB, m') = false := fun m m' => by unfold isB; simp
  unfold bothS
  simp only [one_okC, Bool.not_true, cond_false, hf, hh, decide_true, cond_true, foldB, List.cons_append, List.nil_append, List.foldl_cons, List.foldl_nil, stepB, one_read, insS, hl, List.filter_cons, hb, Bool.false_eq_true, if_false, List.filter_nil]
  rfl
theorem one_map (p : Int) (to : List Int) (h : 0 < to.length) : mapS [(cB, p)] to = [(cB, atS to p)] := by
  unfold mapS
  simp only [h, decide_true, cond_true, List.map_cons, List.map_nil, mvC]
theorem at_is (to : List Int) (p : Nat) (h : p < to.length) : atS to (p : Int) = to.getD p 0 := by
  unfold atS
  rw [Int.toNat_natCast, Nat.min_eq_left (by omega)]
end
section
variable {fu : Nat}
theorem keep_last {l : List Rd} {a c : ByteArray} {rest : List Rd} {to : List Int} (h : keepS l a c = (rest, to)) (hne : to ≠ []) : ∃ X, to = X ++ [(rest.length : Int)] := by
  unfold keepS at h
  cases ho : logOk l with
  | false => rw [ho] at h; exact absurd (Prod.mk.inj h).2.symm hne
  | true =>
    cases hq : (chkB a c != 0) with
    | true => rw [ho, hq] at h; exact absurd (Prod.mk.inj h).2.symm hne
    | false =>
      rw [ho, hq] at h
      obtain ⟨rfl, rfl⟩ := Prod.mk.inj h
      exact ⟨_, rfl⟩
theorem kp_mono {a c : ByteArray} {b : Nat} {j l : List Rd} {to : List Int} (h : Kp a c b j l to) : ∀ k i, i ≤ k → k ≤ l.length → to.getD i 0 ≤ to.getD k 0
  | 0, i, hi, _ => by
    obtain rfl : i = 0 := Nat.le_zero.1 hi
    exact Int.le_refl _
  | k + 1, i, hi, hk => by
    rcases Nat.lt_or_ge k i with h1 | h1
    · obtain rfl : i = k + 1 := by omega
      exact Int.le_refl _
    · obtain ⟨p, e1, e2, _⟩ := h.2.2 k (by omega)
      have := kp_mono h k i h1 (by omega)
      cases hq : hasB a c (l[k]'(by omega)).2.1 <;> rw [hq] at e2 <;> simp only [cond_true, cond_false] at e2 <;> omega
/-- As many are kept from a record on as the offsets tell. -/
theorem count_is (a : List Rd) (f h : ByteArray) (rest : List Rd) (to : List Int) (p : Nat) (hp : p ≤ a.length) (ha : a.length ≤ 4096) (hr : rest.length ≤ a.length) (hk : Kp f h 0 rest a to) (hl : to.getD a.length 0 = (rest.length : Int)) :
    ∀ q, p ≤ q → q ≤ a.length → 0 ≤ to.getD q 0 - to.getD p 0 ∧ to.getD q 0 ≤ 4096 ∧ 0 ≤ to.getD p 0 := by
  intro q h1 h2
  have e1 := kp_mono hk q p h1 h2
  have e2 := kp_mono hk a.length q h2 (Nat.le_refl _)
  have e3 := kp_mono hk p 0 (Nat.zero_le _) hp
  have e4 := hk.2.1
  omega
end
section
variable {fu : Nat}
theorem orK_of {E R : Type} {o : Option (E ⊕ R)} {k : E → Option R} {e : E} {r : R} (h1 : o = some (.inl e)) (h2 : k e = some r) : orK o k = some r := by rw [h1]; exact h2
theorem inr_of {E R : Type} {o : Option R} {r : R} (h : o = some r) : inrO (E := E) o = some (.inr r) := by rw [h]; rfl
theorem jne_last {a b jl : List Rd} {ta tb : List Int} (h : jnE a b = (jl, ta, tb, 0, ())) : ∃ X, ta = X ++ [(jl.length : Int)] := by
  unfold jnE at h
  cases hab : logOk a && logOk b with
  | false => rw [hab] at h; exact absurd (congrArg (fun z => z.2.2.2.1) h) (by show ¬ (1 : Int) = 0; decide)
  | true =>
    rw [hab] at h
    cases h4 : decide (a.length + b.length > 4096) with
    | true => rw [h4] at h; exact absurd (congrArg (fun z => z.2.2.2.1) h) (by show ¬ (143 : Int) = 0; decide)
    | false =>
      rw [h4] at h
      have h' : jnS (a.length + b.length) [] [] [] a b = (jl, ta, tb, 0, ()) := h
      obtain ⟨X, _, e, _⟩ := jn_last (a.length + b.length) [] [] [] a b (by rw [h'])
      rw [h'] at e
      exact ⟨X, e⟩
theorem p9_is (a b : List Rd) (f h : ByteArray) (i j : Int) (ha : a.length ≤ 1048576) (hb : b.length ≤ 1048576) (hva : ∀ x ∈ a, x.2.2.1.length ≤ 1048576) (hvb : ∀ x ∈ b, x.2.2.1.length ≤ 1048576)
    (hi : 0 ≤ i) (hi' : i < 65536) (hj : 0 ≤ j) (hj' : j < 65536) (hf : 4194304 < fu) : p9 fu ((a, b, f, h, i, j, ()), ()) = some ((), true) := by
  obtain ⟨ni, rfl⟩ : ∃ n : Nat, i = (n : Int) := ⟨Int.toNat i, by omega⟩
  obtain ⟨nj, rfl⟩ : ∃ n : Nat, j = (n : Int) := ⟨Int.toNat j, by omega⟩
  have w1 : IntKind.wrap .i64 ((a.length : Int) + 1) = ((a.length + 1 : Nat) : Int) := by rw [i64_wrap (by omega) (by omega)]; omega
  have w2 : IntKind.wrap .i64 ((b.length : Int) + 1) = ((b.length + 1 : Nat) : Int) := by rw [i64_wrap (by omega) (by omega)]; omega
  have z1 : (((a.length + 1 : Nat) : Int) == 0) = false := beq_eq_false_iff_ne.2 (by omega)
  have z2 : (((b.length + 1 : Nat) : Int) == 0) = false := beq_eq_false_iff_ne.2 (by omega)
  have t1 : Int.tmod (IntKind.wrap .i64 (ni : Int)) ((a.length + 1 : Nat) : Int) = ((ni % (a.length + 1) : Nat) : Int) := by
    rw [i64_wrap (by omega) (by omega)]; rfl
  have t2 : Int.tmod (IntKind.wrap .i64 (nj : Int)) ((b.length + 1 : Nat) : Int) = ((nj % (b.length + 1) : Nat) : Int) := by
    rw [i64_wrap (by omega) (by omega)]; rfl
  have hp : ni % (a.length + 1) ≤ a.length := Nat.le_of_lt_succ (Nat.mod_lt _ (Nat.succ_pos _))
  have hq : nj % (b.length + 1) ≤ b.length := Nat.le_of_lt_succ (Nat.mod_lt _ (Nat.succ_pos _))
  unfold p9
  simp only [p11_is hf, p12_is a f h ha hf, p13_is a b ha hb hva hvb hf, bind_val, w1, w2, z1, z2, t1, t2, Bool.not_false, cond_true]
  generalize ni % (a.length + 1) = p at hp
  generalize nj % (b.length + 1) = q at hq
  have v1 : IntKind.wrap .u64 (p : Int) = (p : Int) := u64_wrap (by omega) (by omega)
  have v2 : IntKind.wrap .u64 (q : Int) = (q : Int) := u64_wrap (by omega) (by omega)
  simp only [v1, v2]
  refine orK_of (e := ((), ())) ?_ ?_
  · rcases keep_len a f h with ⟨e, _⟩ | ⟨ho, _, rest, to, e, hk, hrl⟩
    · have d1 : (((([] : List Int).length : Nat) : Int) == ((a.length + 1 : Nat) : Int)) = false := beq_eq_false_iff_ne.2 (by simp only [List.length_nil]; omega)
      simp only [e, d1, cond_false]
    · have h4 := (log_at ho).1
      have l1 := hk.1
      have d1 : (((to.length : Nat) : Int) == ((a.length + 1 : Nat) : Int)) = true := beq_iff_eq.2 (by omega)
      obtain ⟨X, hX⟩ := keep_last e (fun hn => by rw [hn] at l1; simp at l1)
      have hlast := snoc_last hX l1
      have ok1 : okL [(cB, (p : Int))] := ⟨by simp, fun x hx => by obtain rfl := List.mem_singleton.1 hx; exact ⟨by show cB.size ≤ 1048576; decide, by show (0 : Int) ≤ (p : Int); omega, by show (p : Int) < _; omega⟩⟩
      have h15 := p15_is [(cB, (p : Int))] to ok1 (by omega) hf
      rw [one_map (p : Int) to (by omega), at_is to p (by omega)] at h15
      have h15' : p15 fu ([((⟨#[99]⟩ : ByteArray), (p : Int))], to, ()) = some ((), [(cB, to.getD p 0)]) := h15
      have hc := count_is a f h rest to p hp h4 hrl hk hlast
      have hc0 := hc a.length hp (Nat.le_refl _)
      have v3 : IntKind.wrap .u64 (rest.length : Int) = (rest.length : Int) := u64_wrap (by omega) (by omega)
      have c1 : ¬ to.getD p 0 > (rest.length : Int) := by omega
      have v4 : IntKind.wrap .i64 (to.getD p 0) = to.getD p 0 := i64_wrap (by omega) (by omega)
      have v5 : IntKind.wrap .i64 ((rest.length : Int) - to.getD p 0) = (rest.length : Int) - to.getD p 0 := i64_wrap (by omega) (by omega)
      have g0 : ∀ d, ([(cB, to.getD p 0)] : List Cn).getD 0 d = (cB, to.getD p 0) := fun d => rfl
      have o1 : ((([(cB, to.getD p 0)] : List Cn).length : Int) != 1) = false := rfl
      have o2 : (0 : Int) ≤ 0 ∧ (0 : Int) < (([(cB, to.getD p 0)] : List Cn).length : Int) := ⟨Int.le_refl _, by show (0 : Int) < 1; decide⟩
      have o3 : 0 < ([(cB, to.getD p 0)] : List Cn).length := Nat.succ_pos _
      simp only [e, d1, cond_true, h15', bind_val, o1, o2, o3, and_self, decide_true, cond_false, g0, v3, c1, decide_false, v4, v5]
      refine loop_val (I := fun s => ∃ k : Nat, s = ((to.getD k 0 - to.getD p 0, (k : Int), ()), ()) ∧ p ≤ k ∧ k ≤ a.length) (m := fun s => a.length - Int.toNat s.1.2.1) ⟨p, by rw [Int.sub_self], Nat.le_refl _, hp⟩ (by show a.length - Int.toNat (p : Int) < fu; omega) fun s hs => ?_
      obtain ⟨k, rfl, k1, k2⟩ := hs
      by_cases hkl : k < a.length
      · have g1 : ∀ d, a.getD k d = a[k] := fun d => getD_lt hkl
        obtain ⟨x, e1, e2, _⟩ := hk.2.2 k hkl
        have hck := hc k k1 k2
        have v6 : IntKind.wrap .i64 (to.getD k 0 - to.getD p 0 + 1) = to.getD k 0 - to.getD p 0 + 1 := i64_wrap (by omega) (by omega)
        simp only [Int.ofNat_lt, Int.natCast_nonneg, hkl, decide_true, cond_true, and_self, Int.toNat_natCast, g1, p42_is, bind_val, i64_succ hkl (by omega), v6]
        cases hq2 : hasB f h a[k].2.1 with
        | true =>
          rw [hq2, cond_true] at e2
          simp only [cond_true]
          exact ⟨_, rfl, ⟨k + 1, by rw [show to.getD (k + 1) 0 - to.getD p 0 = to.getD k 0 - to.getD p 0 + 1 by omega], by omega, hkl⟩, by simp only [Int.toNat_natCast]; omega⟩
        | false =>
          rw [hq2, cond_false] at e2
          simp only [cond_false]
          exact ⟨_, rfl, ⟨k + 1, by rw [show to.getD (k + 1) 0 - to.getD p 0 = to.getD k 0 - to.getD p 0 by omega], by omega, hkl⟩, by simp only [Int.toNat_natCast]; omega⟩
      · obtain rfl : k = a.length := by omega
        have c9 : ((rest.length : Int) - to.getD p 0 != to.getD a.length 0 - to.getD p 0) = false := by rw [hlast]; simp
        simp only [Int.ofNat_lt, Nat.lt_irrefl, decide_false, cond_false, c9]
        exact ⟨_, rfl, rfl⟩
  · rcases jn_all a b with ⟨y1, y2, y3, y4⟩ | ⟨jl, ta, tb, e, hjl, hj4, s1, s2, _, _⟩
    · simp only [y4, cond_true, orK_inl]
    · have d2 : ((ta.length : Int) != ((a.length + 1 : Nat) : Int)) = false := by rw [s1.1]; simp
      have d3 : ((tb.length : Int) != ((b.length + 1 : Nat) : Int)) = false := by rw [s2.1]; simp
      have ok1 : okL [(cB, (p : Int))] := ⟨by simp, fun x hx => by obtain rfl := List.mem_singleton.1 hx; exact ⟨by show cB.size ≤ 1048576; decide, by show (0 : Int) ≤ (p : Int); omega, by show (p : Int) < _; omega⟩⟩
      have ok2 : okL [(cB, (q : Int))] := ⟨by simp, fun x hx => by obtain rfl := List.mem_singleton.1 hx; exact ⟨by show cB.size ≤ 1048576; decide, by show (0 : Int) ≤ (q : Int); omega, by show (q : Int) < _; omega⟩⟩
      have l1 := s1.1
      have l2 := s2.1
      have hb16 := p16_is [(cB, (p : Int))] [(cB, (q : Int))] ta tb ok1 ok2 (by omega) (by omega) hf
      rw [one_both (p : Int) (q : Int) ta tb (by omega) (by omega), at_is ta p (by omega), at_is tb q (by omega)] at hb16
      have hb16' : p16 fu ([((⟨#[99]⟩ : ByteArray), (p : Int))], [((⟨#[99]⟩ : ByteArray), (q : Int))], ta, tb, ()) = some ((), [(cB, minI (ta.getD p 0) (tb.getD q 0))], 0, ()) := hb16
      have hm1 : minI (ta.getD p 0) (tb.getD q 0) ≤ ta.getD p 0 := by unfold minI; split <;> omega
      have hm2 : minI (ta.getD p 0) (tb.getD q 0) ≤ tb.getD q 0 := by unfold minI; split <;> omega
      obtain ⟨X, hX⟩ := jne_last e
      have hlast := snoc_last hX l1
      have hle := sd_mono s1 a.length p hp (Nat.le_refl _)
      generalize minI (ta.getD p 0) (tb.getD q 0) = M at hb16' hm1 hm2
      have v3 : IntKind.wrap .u64 (jl.length : Int) = (jl.length : Int) := u64_wrap (by omega) (by omega)
      have c1 : ¬ M > (jl.length : Int) := by omega
      have ha4 : a.length ≤ 4096 := by omega
      have hb4 : b.length ≤ 4096 := by omega
      have g0 : ∀ d, ([(cB, M)] : List Cn).getD 0 d = (cB, M) := fun d => rfl
      have o1 : ((([(cB, M)] : List Cn).length : Int) != 1) = false := rfl
      have o2 : (0 : Int) ≤ 0 ∧ (0 : Int) < (([(cB, M)] : List Cn).length : Int) := ⟨Int.le_refl _, by show (0 : Int) < 1; decide⟩
      have o3 : 0 < ([(cB, M)] : List Cn).length := Nat.succ_pos _
      simp only [e, bne_self_eq_false, cond_false, d2, d3, orK_inl, hb16', bind_val, o1, o2, o3, and_self, decide_true, cond_true, g0, v3, c1, decide_false]
      refine loop_val (I := fun s => ∃ k : Nat, s = (((k : Int), ()), ()) ∧ p ≤ k ∧ k ≤ a.length) (m := fun s => a.length - Int.toNat s.1.1) ⟨p, rfl, Nat.le_refl _, hp⟩ (by show a.length - Int.toNat (p : Int) < fu; omega) fun s hs => ?_
      obtain ⟨k, rfl, k1, k2⟩ := hs
      by_cases hk : k < a.length
      · have hk2 : k < ta.length := by omega
        have g1 : ∀ d, ta.getD k d = ta.getD k 0 := fun d => by rw [getD_lt hk2, getD_lt hk2]
        have hge := sd_mono s1 k p k1 k2
        have c2 : ¬ ta.getD k 0 < M := by omega
        simp only [Int.ofNat_lt, Int.natCast_nonneg, hk, hk2, decide_true, cond_true, and_self, Int.toNat_natCast, g1, c2, decide_false, cond_false, i64_succ hk (by omega)]
        exact ⟨_, rfl, ⟨k + 1, rfl, by omega, hk⟩, by simp only [Int.toNat_natCast]; omega⟩
      · obtain rfl : k = a.length := by omega
        simp only [Int.ofNat_lt, Nat.lt_irrefl, decide_false, cond_false]
        refine ⟨.inr ((), true), inr_of ?_, rfl⟩
        refine loop_val (I := fun s => ∃ k : Nat, s = (((k : Int), ()), ()) ∧ q ≤ k ∧ k ≤ b.length) (m := fun s => b.length - Int.toNat s.1.1) ⟨q, rfl, Nat.le_refl _, hq⟩ (by show b.length - Int.toNat (q : Int) < fu; omega) fun s hs => ?_
        obtain ⟨k, rfl, k3, k4⟩ := hs
        by_cases hk : k < b.length
        · have hk2 : k < tb.length := by omega
          have g1 : ∀ d, tb.getD k d = tb.getD k 0 := fun d => by rw [getD_lt hk2, getD_lt hk2]
          have hge := sd_mono s2 k q k3 k4
          have c2 : ¬ tb.getD k 0 < M := by omega
          simp only [Int.ofNat_lt, Int.natCast_nonneg, hk, hk2, decide_true, cond_true, and_self, Int.toNat_natCast, g1, c2, decide_false, cond_false, i64_succ hk (by omega)]
          exact ⟨_, rfl, ⟨k + 1, rfl, by omega, hk⟩, by simp only [Int.toNat_natCast]; omega⟩
        · obtain rfl : k = b.length := by omega
          simp only [Int.ofNat_lt, Nat.lt_irrefl, decide_false, cond_false]
          exact ⟨_, rfl, rfl⟩
end
end Go.Proofs.Ytgneanhmjkdkaaa
