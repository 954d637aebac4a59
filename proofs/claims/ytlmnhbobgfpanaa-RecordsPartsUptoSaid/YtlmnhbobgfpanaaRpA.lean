/-
  Logs: what they are, what is appended, fetched, copied; both sides.
-/
import Derived.Lib.Bytealg
import Derived.Test.YtlmnhbobgfpanaaPtP
import Derived.Test.YtlmnhbobgfpanaaDaP
namespace Go.Proofs.Ytlmnhbobgfpanaa
open Go.RowKit
section
variable {fu : Nat}
abbrev Rd := D_api_Record
theorem loop_any {X S R : Type} {f : S → Option (S ⊕ R)} : ∀ (l : List X) (mk : Nat → S) (q : X → Bool) (r fin : R), l.length < fu →
    (∀ i (h : i < l.length), f (mk i) = some (bif q l[i] then .inr r else .inl (mk (i + 1)))) → f (mk l.length) = some (.inr fin) → loopO fu f (mk 0) = some (bif l.any q then r else fin) := by
  intro l mk q r fin hf hs he
  have key : ∀ k i n, i + k = l.length → k < n → loopO n f (mk i) = some (bif (l.drop i).any q then r else fin) := by
    intro k
    induction k with
    | zero =>
      intro i n hi hn
      obtain ⟨m, rfl⟩ : ∃ m, n = m + 1 := ⟨n - 1, by omega⟩
      obtain rfl : i = l.length := by omega
      simp only [loopO, he, List.drop_length, List.any_nil, cond_false]
    | succ k ih =>
      intro i n hi hn
      obtain ⟨m, rfl⟩ : ∃ m, n = m + 1 := ⟨n - 1, by omega⟩
      have hlt : i < l.length := by omega
      rw [List.drop_eq_getElem_cons hlt]
      simp only [loopO, hs i hlt, List.any_cons]
      cases q l[i] with
      | true => rfl
      | false => exact ih (i + 1) m (by omega) (by omega)
  exact key l.length 0 fu (by omega) hf
theorem loop_for {X S R : Type} {f : S → Option (S ⊕ R)} {res : R} (l : List X) (mk : Nat → S) (q : X → Bool) (r fin : R) (hf : l.length < fu)
    (hs : ∀ i (h : i < l.length), f (mk i) = some (bif q l[i] then .inr r else .inl (mk (i + 1)))) (he : f (mk l.length) = some (.inr fin)) (hr : (bif l.any q then r else fin) = res) : loopO fu f (mk 0) = some res :=
  hr ▸ loop_any l mk q r fin hf hs he
theorem loop_fold {X S A R : Type} {f : S → Option (S ⊕ R)} {res : R} (l : List X) (mk : Nat → A → S) (st : A → X → A) (fin : A → R) (a : A) (P : Nat → A → Prop) (h0 : P 0 a) (hf : l.length < fu)
    (hs : ∀ i (h : i < l.length) b, P i b → f (mk i b) = some (.inl (mk (i + 1) (st b l[i]))) ∧ P (i + 1) (st b l[i])) (he : ∀ b, P l.length b → f (mk l.length b) = some (.inr (fin b))) (hr : fin (l.foldl st a) = res) : loopO fu f (mk 0 a) = some res := by
  subst hr
  have key : ∀ k i n b, i + k = l.length → k < n → P i b → loopO n f (mk i b) = some (fin ((l.drop i).foldl st b)) := by
    intro k
    induction k with
    | zero =>
      intro i n b hi hn hb
      obtain ⟨m, rfl⟩ : ∃ m, n = m + 1 := ⟨n - 1, by omega⟩
      obtain rfl : i = l.length := by omega
      simp only [loopO, he b hb, List.drop_length, List.foldl_nil]
    | succ k ih =>
      intro i n b hi hn hb
      obtain ⟨m, rfl⟩ : ∃ m, n = m + 1 := ⟨n - 1, by omega⟩
      have hlt : i < l.length := by omega
      rw [List.drop_eq_getElem_cons hlt]
      obtain ⟨e1, e2⟩ := hs i hlt b hb
      simp only [loopO, e1, List.foldl_cons]
      exact ih (i + 1) m _ (by omega) (by omega) e2
  exact key l.length 0 fu a (by omega) hf h0
theorem guardE {p : Prop} [Decidable p] {α : Type} {a : α} (h : p) : (bif decide p then some a else none) = some a := by rw [decide_eq_true h]; rfl
theorem u64_wrap {x : Int} (h1 : 0 ≤ x) (h2 : x < 18446744073709551616) : IntKind.wrap .u64 x = x := by
  show x % 18446744073709551616 = x
  omega
/-! ### Logs -/
def noRec : Rd := (0, ⟨#[]⟩, [], 0, 0)
def wrong (l : List Rd) (i : Nat) : Bool := bif ((l.getD i noRec).1 != (i : Int)) then true else bif decide ((l.getD i noRec).2.1.size > 32) then true else decide ((l.getD i noRec).2.2.1.length > 256)
def logOk (l : List Rd) : Bool := bif (List.range l.length).any (wrong l) then false else decide (l.length ≤ 4096)
theorem p22_is (a : Int) (c : ByteArray) (l : List Int) (x y : Int) : p22 fu ((a, c, l, x, y, ()), ()) = some ((), bif decide (c.size > 32) then 131 else bif decide (l.length > 256) then 144 else 0) := by
  unfold p22
  have h1 : decide ((c.size : Int) > 32) = decide (c.size > 32) := decide_eq_decide.2 (by omega)
  have h2 : decide ((l.length : Int) > 256) = decide (l.length > 256) := decide_eq_decide.2 (by omega)
  simp only [h1, h2]
  cases decide (c.size > 32) <;> cases decide (l.length > 256) <;> rfl
theorem p14_is (l : List Rd) (hl : l.length ≤ 2097152) (hf : 4194304 < fu) : p14 fu (l, ()) = some ((), logOk l) := by
  unfold p14 logOk
  refine loop_for (List.range l.length) (fun i => (((i : Int), ()), ())) (wrong l) ((), false) ((), decide (l.length ≤ 4096)) (by simp only [List.length_range]; omega) (fun i h => ?_) ?_ (by cases (List.range l.length).any (wrong l) <;> rfl)
  · simp only [List.length_range] at h
    have hg : ∀ d, l.getD i d = l[i] := fun d => getD_lt h
    have hw : IntKind.wrap .u64 (i : Int) = (i : Int) := u64_wrap (by omega) (by omega)
    simp only [List.getElem_range, Int.ofNat_lt, Int.natCast_nonneg, h, decide_true, cond_true, and_self, Int.toNat_natCast, hg, hw, p22_is, bind_val, i64_succ h (by omega), wrong]
    cases (l[i].1 != (i : Int))
    · simp only [cond_false]
      cases decide (l[i].2.1.size > 32) <;> cases decide (l[i].2.2.1.length > 256) <;> rfl
    · rfl
  · simp only [List.length_range, Int.ofNat_lt, Nat.lt_irrefl, decide_false, cond_false]
    have h3 : decide ((l.length : Int) ≤ 4096) = decide (l.length ≤ 4096) := decide_eq_decide.2 (by omega)
    rw [h3]; rfl
theorem p15_is (l : List Rd) (hl : l.length ≤ 2097152) (hf : 4194304 < fu) : p15 fu (l, ()) = some ((), logOk l) := by
  unfold p15 logOk
  rcases Nat.lt_or_ge 4096 l.length with h6' | h6
  · have h6 : ¬ l.length ≤ 4096 := by omega
    have h7 : (l.length : Int) > 4096 := by omega
    simp only [h6, h7, decide_true, decide_false, cond_true]
    cases (List.range l.length).any (wrong l) <;> rfl
  have h7 : ¬ (l.length : Int) > 4096 := by omega
  simp only [h6, h7, decide_true, decide_false, cond_false]
  refine loop_for (List.range l.length) (fun i => (((i : Int), ()), ())) (wrong l) ((), false) ((), true) (by simp only [List.length_range]; omega) (fun i h => ?_) ?_ (by cases (List.range l.length).any (wrong l) <;> rfl)
  · simp only [List.length_range] at h
    have hg : ∀ d, l.getD i d = l[i] := fun d => getD_lt h
    have hw : IntKind.wrap .u64 (i : Int) = (i : Int) := u64_wrap (by omega) (by omega)
    have h1 : decide ((l[i].2.1.size : Int) > 32) = decide (l[i].2.1.size > 32) := decide_eq_decide.2 (by omega)
    have h2 : decide ((l[i].2.2.1.length : Int) > 256) = decide (l[i].2.2.1.length > 256) := decide_eq_decide.2 (by omega)
    simp only [List.getElem_range, Int.ofNat_lt, Int.natCast_nonneg, h, decide_true, cond_true, and_self, Int.toNat_natCast, hg, hw, h1, h2, i64_succ h (by omega), wrong]
    cases (l[i].1 != (i : Int))
    · simp only [cond_false]
      cases decide (l[i].2.1.size > 32)
      · simp only [cond_false]
        cases decide (l[i].2.2.1.length > 256) <;> rfl
      · rfl
    · rfl
  · simp only [List.length_range, Int.ofNat_lt, Nat.lt_irrefl, decide_false, cond_false]; rfl
abbrev Lw := List (Int × List Int)
def seqsOf (l : List Rd) (k : Int) : List Int := (l.filter fun x => x.2.2.2.1 == k).map fun x => x.2.2.2.2
def MapOf (m : Lw) (l : List Rd) : Prop := ∀ k : Int, (lookM (.int .u64) m k).getD [] = minsL (seqsOf l k)
theorem look_set (k v k' : _) : ∀ m : Lw, lookM (.int .u64) (setM (.int .u64) m k v) k' = if k' = k then some v else lookM (.int .u64) m k'
  | [] => by
    show cond ((k' : Int) == k) (some v) none = _
    by_cases h : k' = k
    · have : ((k' : Int) == k) = true := beq_iff_eq.2 h
      rw [if_pos h, this]; rfl
    · have : ((k' : Int) == k) = false := beq_eq_false_iff_ne.2 h
      rw [if_neg h, this]; rfl
  | p :: m => by
    show lookM (.int .u64) (cond ((k : Int) == p.1) ((p.1, v) :: m) (p :: setM (.int .u64) m k v)) k' = _
    by_cases hp : k = p.1
    · have h0 : ((k : Int) == p.1) = true := beq_iff_eq.2 hp
      rw [h0]
      show cond ((k' : Int) == p.1) (some v) (lookM (.int .u64) m k') = if k' = k then some v else cond ((k' : Int) == p.1) (some p.2) (lookM (.int .u64) m k')
      by_cases h : k' = k
      · have : ((k' : Int) == p.1) = true := beq_iff_eq.2 (h.trans hp)
        rw [if_pos h, this]; rfl
      · have : ((k' : Int) == p.1) = false := beq_eq_false_iff_ne.2 fun e => h (e.trans hp.symm)
        rw [if_neg h, this]; rfl
    · have h0 : ((k : Int) == p.1) = false := beq_eq_false_iff_ne.2 hp
      rw [h0]
      show cond ((k' : Int) == p.1) (some p.2) (lookM (.int .u64) (setM (.int .u64) m k v) k') = if k' = k then some v else cond ((k' : Int) == p.1) (some p.2) (lookM (.int .u64) m k')
      rw [look_set k v k' m]
      by_cases h : k' = k
      · have : ((k' : Int) == p.1) = false := beq_eq_false_iff_ne.2 fun e => hp (h.symm.trans e)
        rw [if_pos h, if_pos h, this]; rfl
      · rw [if_neg h, if_neg h]
theorem look_map (f : List Int → List Int) (k : Int) : ∀ m : Lw, lookM (.int .u64) (m.map fun p => (p.1, f p.2)) k = (lookM (.int .u64) m k).map f
  | [] => rfl
  | p :: m => by
    show cond ((k : Int) == p.1) (some (f p.2)) (lookM (.int .u64) (m.map fun p => (p.1, f p.2)) k) = (cond ((k : Int) == p.1) (some p.2) (lookM (.int .u64) m k)).map f
    rw [look_map f k m]
    cases ((k : Int) == p.1) <;> rfl
theorem grp_is (k : Int) : ∀ (l : List Rd) (m : Lw), (lookM (.int .u64) (l.foldl (fun m x => setM (.int .u64) m x.2.2.2.1 ((lookM (.int .u64) m x.2.2.2.1).getD [] ++ [x.2.2.2.2])) m) k).getD [] = (lookM (.int .u64) m k).getD [] ++ seqsOf l k
  | [], m => by simp [seqsOf]
  | x :: l, m => by
    rw [List.foldl_cons, grp_is k l, look_set]
    by_cases h : k = x.2.2.2.1
    · have h' : (x.2.2.2.1 == k) = true := beq_iff_eq.2 h.symm
      rw [if_pos h]
      subst h
      simp only [Option.getD_some, seqsOf, List.filter_cons, beq_self_eq_true, if_true, List.map_cons, List.append_assoc, List.singleton_append]
    · have h' : (x.2.2.2.1 == k) = false := beq_eq_false_iff_ne.2 fun e => h e.symm
      rw [if_neg h]
      simp only [seqsOf, List.filter_cons, h', Bool.false_eq_true, if_false]
theorem low_is (l : List Rd) : MapOf (lowM l) l := by
  intro k
  unfold lowM
  rw [look_map]
  have h := grp_is k l []
  have h0 : (lookM (.int .u64) ([] : Lw) k).getD [] = [] := rfl
  rw [h0, List.nil_append] at h
  have h' : (lookM (.int .u64) (grpM l) k).getD [] = seqsOf l k := h
  rw [← h']
  cases lookM (.int .u64) (grpM l) k <;> rfl
theorem mins_len : ∀ l : List Int, (minsL l).length = l.length
  | [] => rfl
  | x :: l => by simp only [minsL, List.length_cons, mins_len l]
theorem mins_head (s : Int) : ∀ (l : List Int) (d : Int), l ≠ [] → decide ((minsL l).getD 0 d ≥ s) = l.all fun y => decide (y ≥ s)
  | [], _, h => absurd rfl h
  | [x], d, _ => by simp [minsL]
  | x :: y :: l, d, _ => by
    have ih := mins_head s (y :: l) d (by simp)
    rw [List.all_cons, ← ih]
    have : ∃ z t, minsL (y :: l) = z :: t := ⟨_, _, rfl⟩
    obtain ⟨z, t, e⟩ := this
    rw [minsL, e]
    simp only [List.getD_cons_zero]
    rw [Bool.eq_iff_iff, Bool.and_eq_true, decide_eq_true_eq, decide_eq_true_eq, decide_eq_true_eq]
    split <;> constructor <;> intro h <;> omega
def ahead (l r : List Rd) : Bool := match l with
  | [] => false
  | x :: _ => (seqsOf r x.2.2.2.1).all fun y => decide (y ≥ x.2.2.2.2)
theorem p31_1_is (l : List Rd) (t : List Int) (m : Lw) : p31_1 fu ((l, t, m, ()), ()) = some (((l, t, m, ()), (), (), ()), decide (0 < l.length)) := by
  unfold p31_1
  have h : decide ((l.length : Int) > 0) = decide (0 < l.length) := decide_eq_decide.2 (by omega)
  simp only [decide_true, cond_true, h]
theorem p32_1_is (l r : List Rd) (t u : List Int) (m n : Lw) (hn : MapOf n r) : p32_1 fu ((l, t, m, ()), (r, u, n, ()), ()) = some (((l, t, m, ()), (), (), (r, u, n, ()), (), (), ()), ahead l r) := by
  unfold p32_1
  simp only [p31_1_is, bind_val, decide_true, cond_true]
  cases l with
  | nil => rfl
  | cons x l =>
    have hg : ∀ d, (x :: l).getD 0 d = x := fun d => rfl
    have h0 : (0 : Int) < ((x :: l).length : Int) := by simp only [List.length_cons]; omega
    have hk : (lookM (.int .u64) n x.2.2.2.1).getD [] = minsL (seqsOf r x.2.2.2.1) := hn _
    have h1 : (0 : Int) < ((l.length + 1 : Nat) : Int) := by omega
    simp only [List.length_cons, Nat.succ_pos, decide_true, Bool.not_true, cond_false, hg, ahead, h1, Int.le_refl, true_and, cond_true]
    generalize (lookM (.int .u64) n x.2.2.2.1).getD [] = q at hk
    subst hk
    simp only [mins_len]
    cases hs : seqsOf r x.2.2.2.1 with
    | nil => rfl
    | cons y q =>
      have h2 : (((y :: q).length : Int) == 0) = false := beq_eq_false_iff_ne.2 (by simp only [List.length_cons]; omega)
      have h3 : (0 : Int) < ((y :: q).length : Int) := by simp only [List.length_cons]; omega
      have h4 : 0 < (y :: q).length := Nat.succ_pos _
      simp only [h2, h3, h4, decide_true, cond_true, cond_false]
      have := mins_head x.2.2.2.2 (y :: q) (dflt (.int .u64)) (by simp)
      rw [← this]
theorem p33_1_is (x : Rd) (l : List Rd) (t : List Int) (m : Lw) (h : Int) (hm : MapOf m (x :: l)) (ht : t.length ≤ 2097152) :
    ∃ m' : Lw, MapOf m' l ∧ p33_1 fu ((x :: l, t, m, ()), h, ()) = some (((l, t ++ [h], m', ()), (), (), ()), (x.1, x.2.1, x.2.2.1, x.2.2.2.1, x.2.2.2.2, ())) := by
  have hk : (lookM (.int .u64) m x.2.2.2.1).getD [] = minsL (seqsOf (x :: l) x.2.2.2.1) := hm _
  have hs : seqsOf (x :: l) x.2.2.2.1 = x.2.2.2.2 :: seqsOf l x.2.2.2.1 := by
    simp only [seqsOf, List.filter_cons, beq_self_eq_true, if_true, List.map_cons]
  refine ⟨setM (.int .u64) m x.2.2.2.1 (((lookM (.int .u64) m x.2.2.2.1).getD []).drop 1), fun k => ?_, ?_⟩
  · rw [look_set]
    by_cases h : k = x.2.2.2.1
    · subst h
      rw [if_pos rfl, Option.getD_some, hk, hs]; rfl
    · have h' : (x.2.2.2.1 == k) = false := beq_eq_false_iff_ne.2 fun e => h e.symm
      rw [if_neg h, hm k]
      simp only [seqsOf, List.filter_cons, h', Bool.false_eq_true, if_false]
  · unfold p33_1
    have hg : ∀ d, (x :: l).getD 0 d = x := fun d => rfl
    have h1 : (0 : Int) < ((l.length + 1 : Nat) : Int) := by omega
    have h2 : 1 ≤ l.length + 1 := Nat.succ_pos _
    have h3 : 1 ≤ ((lookM (.int .u64) m x.2.2.2.1).getD []).length := by rw [hk, mins_len, hs]; exact Nat.succ_pos _
    have h4 : t.length + [h].length ≤ maxLen ∧ (t.length + [h].length) * 8 ≤ 140737488355328 := ⟨by unfold maxLen; simp only [List.length_singleton]; omega, by simp only [List.length_singleton]; omega⟩
    simp only [List.length_cons, Nat.succ_pos, decide_true, cond_true, hg, h1, h2, Int.le_refl, and_self]
    rw [decide_eq_true h3]
    simp only [cond_true]
    exact guardE ⟨by unfold maxLen; simp only [List.length_nil]; omega, by simp only [List.length_nil]; omega⟩
theorem copyL_all {α : Type} (l : List α) (d : α) : copyL (List.replicate l.length d) 0 l.length l = l := by
  simp [copyL]
theorem p43_is (l : List Int) (h : l.length ≤ 140737488355328) : p43 fu (l, ()) = some ((), l) := by
  unfold p43
  cases l with
  | nil => rfl
  | cons a l =>
    have h0 : (((a :: l).length : Int) == 0) = false := beq_eq_false_iff_ne.2 (by simp only [List.length_cons]; omega)
    have h1 : (0 : Int) ≤ ((a :: l).length : Int) ∧ ((a :: l).length : Int) ≤ ((a :: l).length : Int) ∧ ((a :: l).length : Int) ≤ 9223372036854775807 ∧ (1 : Int) * ((a :: l).length : Int) ≤ 140737488355328 := by omega
    simp only [h0, cond_false, h1, and_self, decide_true, cond_true, Int.toNat_natCast, List.length_replicate, copyL_all]
def numR (n : List Rd) (x : Rd) : Rd := ((n.length : Int), x.2.1, x.2.2.1, x.2.2.2.1, x.2.2.2.2)
theorem p23_is (n : List Rd) (x : Rd) (hn : n.length ≤ 2097152) (hx : x.2.2.1.length ≤ 140737488355328) : p23 fu (n, (x.1, x.2.1, x.2.2.1, x.2.2.2.1, x.2.2.2.2, ()), ()) = some (((), ()), n ++ [numR n x]) := by
  unfold p23 p35
  have hw : IntKind.wrap .u64 (n.length : Int) = (n.length : Int) := u64_wrap (by omega) (by omega)
  simp only [p43_is _ hx, bind_val, decide_true, cond_true, hw]
  exact guardE ⟨by unfold maxLen; simp only [List.length_singleton]; omega, by simp only [List.length_singleton]; omega⟩
def jnS : Nat → List Rd → List Int → List Int → List Rd → List Rd → List Rd × List Int × List Int × Int × Unit
  | 0, n, t, u, _, _ => (n, t ++ [(n.length : Int)], u ++ [(n.length : Int)], 0, ())
  | k + 1, n, t, u, l, r =>
    bif ahead l r then (match l with
      | [] => ([], [], [], 145, ())
      | x :: l => jnS k (n ++ [numR n x]) (t ++ [(n.length : Int)]) u l r)
    else bif ahead r l then (match r with
      | [] => ([], [], [], 145, ())
      | x :: r => jnS k (n ++ [numR n x]) t (u ++ [(n.length : Int)]) l r)
    else ([], [], [], 145, ())
def jnE (a b : List Rd) : List Rd × List Int × List Int × Int × Unit :=
  bif logOk a && logOk b then (bif decide (a.length + b.length > 4096) then ([], [], [], 143, ()) else jnS (a.length + b.length) [] [] [] a b) else ([], [], [], 1, ())
theorem ahead_cons {l r : List Rd} (h : ahead l r = true) : ∃ x l', l = x :: l' := by
  cases l with
  | nil => cases h
  | cons x l => exact ⟨x, l, rfl⟩
theorem first_is {a b : Bool} {α : Type} {x z : α} (h : a = true ∨ b = true) : (bif a then x else bif b then x else z) = x := by
  cases a <;> cases b <;> simp_all
theorem p19_is (a b : List Rd) (ha : a.length ≤ 1048576) (hb : b.length ≤ 1048576) (hva : ∀ x ∈ a, x.2.2.1.length ≤ 1048576) (hvb : ∀ x ∈ b, x.2.2.1.length ≤ 1048576) (hf : 4194304 < fu) :
    p19 fu (a, b, ()) = some ((), jnE a b) := by
  unfold p19 jnE
  simp only [p14_is a (show a.length ≤ 2097152 by omega) hf, p14_is b (show b.length ≤ 2097152 by omega) hf, bind_val]
  cases logOk a
  · simp only [Bool.not_false, cond_true, orK_inl, Bool.false_and, cond_false]
  cases logOk b
  · simp only [Bool.not_false, Bool.not_true, cond_true, cond_false, orK_inl, Bool.and_false]
  simp only [Bool.not_true, cond_false, orK_inl, Bool.and_true, cond_true]
  have hw : IntKind.wrap .i64 ((a.length : Int) + (b.length : Int)) = ((a.length + b.length : Nat) : Int) := by rw [i64_wrap (by omega) (by omega)]; omega
  by_cases h4 : a.length + b.length > 4096
  · have h5 : ((a.length + b.length : Nat) : Int) > 4096 := by omega
    simp only [hw, h4, h5, decide_true, cond_true]
  have h5 : ¬ ((a.length + b.length : Nat) : Int) > 4096 := by omega
  have sa : pNewSrc fu (a, ()) = some ((), (a, (), lowM a, ())) := guardE ha
  have sb : pNewSrc fu (b, ()) = some ((), (b, (), lowM b, ())) := guardE hb
  simp only [hw, h4, h5, decide_false, cond_false, sa, sb, bind_val]
  refine loopO_eq (I := fun s => ∃ (n : List Rd) (l r : List Rd) (t u : List Int) (m m' : Lw), s = ((n, ()), ((l, t, m, ()), (r, u, m', ()), ())) ∧ MapOf m l ∧ MapOf m' r ∧ n.length + l.length + r.length ≤ 4096 ∧ t.length ≤ n.length ∧ u.length ≤ n.length ∧ (∀ x ∈ l, x.2.2.1.length ≤ 1048576) ∧ ∀ x ∈ r, x.2.2.1.length ≤ 1048576)
    (m := fun s => s.2.1.1.length + s.2.2.1.1.length) (g := fun s => ((), jnS (s.2.1.1.length + s.2.2.1.1.length) s.1.1 s.2.1.2.1 s.2.2.1.2.1 s.2.1.1 s.2.2.1.1)) (fun s hs => ?_) fu _ ⟨[], a, b, [], [], lowM a, lowM b, rfl, low_is a, low_is b, by simp only [List.length_nil]; omega, Nat.le_refl _, Nat.le_refl _, hva, hvb⟩ (by show a.length + b.length < fu; omega)
  obtain ⟨n, l, r, t, u, m, m', rfl, hm, hm', hn, ht, hu, hvl, hvr⟩ := hs
  have hwn : IntKind.wrap .u64 (n.length : Int) = (n.length : Int) := u64_wrap (by omega) (by omega)
  simp only [decide_true, cond_true, p31_1_is, bind_val, hwn]
  by_cases hz : l.length + r.length = 0
  · refine .inr ?_
    obtain rfl : l = [] := List.length_eq_zero_iff.1 (by omega)
    obtain rfl : r = [] := List.length_eq_zero_iff.1 (by omega)
    have g1 : t.length + [(n.length : Int)].length ≤ maxLen ∧ (t.length + [(n.length : Int)].length) * 8 ≤ 140737488355328 := ⟨by unfold maxLen; simp only [List.length_singleton]; omega, by simp only [List.length_singleton]; omega⟩
    have g2 : u.length + [(n.length : Int)].length ≤ maxLen ∧ (u.length + [(n.length : Int)].length) * 8 ≤ 140737488355328 := ⟨by unfold maxLen; simp only [List.length_singleton]; omega, by simp only [List.length_singleton]; omega⟩
    simp only [List.length_nil, Nat.lt_irrefl, decide_false, cond_false, g1, g2, and_self, decide_true, cond_true]
    rfl
  obtain ⟨k, hk⟩ : ∃ k, l.length + r.length = k + 1 := ⟨l.length + r.length - 1, by omega⟩
  have hor : decide (0 < l.length) = true ∨ decide (0 < r.length) = true := by
    rcases Nat.eq_zero_or_pos l.length with h | h
    · exact .inr (decide_eq_true (by omega))
    · exact .inl (decide_eq_true h)
  rw [first_is hor]
  simp only [orK_inl, p32_1_is l r t u m m' hm', bind_val]
  cases h1 : ahead l r with
  | true =>
    obtain ⟨x, l, rfl⟩ := ahead_cons h1
    obtain ⟨q, hq, e⟩ := p33_1_is (fu := fu) x l t m (n.length : Int) hm (by omega)
    refine .inl ?_
    simp only [cond_true, e, bind_val, p23_is n x (by omega) (Nat.le_trans (hvl x List.mem_cons_self) (by omega))]
    refine ⟨_, rfl, ⟨_, _, _, _, _, _, _, rfl, hq, hm', ?_, ?_, ?_, fun y hy => hvl y (List.mem_cons_of_mem _ hy), hvr⟩, ?_, ?_⟩
    · simp only [List.length_append, List.length_cons, List.length_nil] at hn ⊢; omega
    · simp only [List.length_append, List.length_cons, List.length_nil]; omega
    · simp only [List.length_append, List.length_cons, List.length_nil]; omega
    · simp only [List.length_cons]; omega
    · have e1 : (x :: l).length + r.length = (l.length + r.length) + 1 := by simp only [List.length_cons]; omega
      simp only [e1, jnS, h1, cond_true]
  | false =>
    simp only [cond_false, p32_1_is r l u t m' m hm, bind_val]
    cases h2 : ahead r l with
    | true =>
      obtain ⟨x, r, rfl⟩ := ahead_cons h2
      obtain ⟨q, hq, e⟩ := p33_1_is (fu := fu) x r u m' (n.length : Int) hm' (by omega)
      refine .inl ?_
      simp only [cond_true, e, bind_val, p23_is n x (by omega) (Nat.le_trans (hvr x List.mem_cons_self) (by omega))]
      refine ⟨_, rfl, ⟨_, _, _, _, _, _, _, rfl, hm, hq, ?_, ?_, ?_, hvl, fun y hy => hvr y (List.mem_cons_of_mem _ hy)⟩, ?_, ?_⟩
      · simp only [List.length_append, List.length_cons, List.length_nil] at hn ⊢; omega
      · simp only [List.length_append, List.length_cons, List.length_nil]; omega
      · simp only [List.length_append, List.length_cons, List.length_nil]; omega
      · simp only [List.length_cons]; omega
      · have e1 : l.length + (x :: r).length = (l.length + r.length) + 1 := by simp only [List.length_cons]; omega
        simp only [e1, jnS, h1, h2, cond_true, cond_false]
    | false =>
      refine .inr ?_
      simp only [cond_false, hk, jnS, h1, h2]
      rfl
def befB (c f : ByteArray) : Bool := bif (ByteArray.toList c == ByteArray.toList (⟨#[]⟩ : ByteArray)) then true else !(Op.bytesLess (ByteArray.toList c) (ByteArray.toList f) || ByteArray.toList c == ByteArray.toList f)
def chkB (a c : ByteArray) : Int := bif !decide ((a.size : Int) ≤ 32) then 131 else bif !decide ((c.size : Int) ≤ 32) then 131 else bif !befB c a then 132 else 0
def hasB (a c f : ByteArray) : Bool := bif (chkB a c == 0) then (bif decide ((f.size : Int) ≤ 32) then (bif !Op.bytesLess f.toList a.toList then befB c f else false) else false) else false
theorem p42_is (c f : ByteArray) : p42 fu ((c, ByteArray.toList c == ByteArray.toList (⟨#[]⟩ : ByteArray), ()), f, ()) = some ((), befB c f) := by
  unfold p42 befB
  cases (ByteArray.toList c == ByteArray.toList (⟨#[]⟩ : ByteArray)) <;> rfl
theorem p26_is (a c : ByteArray) : p26 fu ((a, c, ()), ()) = some ((), chkB a c) := by
  unfold p26 chkB
  simp only [p40, p41, bind_val, p42_is]
  cases decide ((a.size : Int) ≤ 32)
  · rfl
  cases decide ((c.size : Int) ≤ 32)
  · rfl
  cases befB c a <;> rfl
theorem p27_is (a c f : ByteArray) : p27 fu ((a, c, ()), f, ()) = some ((), hasB a c f) := by
  unfold p27 hasB
  simp only [p26_is, p40, p41, bind_val, p42_is]
  cases (chkB a c == 0)
  · rfl
  cases decide ((f.size : Int) ≤ 32)
  · rfl
  cases Op.bytesLess f.toList a.toList <;> rfl
def keepT (a c : ByteArray) (s : List Rd × List Int) (x : Rd) : List Rd × List Int := (bif hasB a c x.2.1 then s.1 ++ [numR s.1 x] else s.1, s.2 ++ [(s.1.length : Int)])
def keepF (s : List Rd × List Int) : List Rd × List Int := (s.1, s.2 ++ [(s.1.length : Int)])
def keepS (l : List Rd) (a c : ByteArray) : List Rd × List Int := bif !logOk l then ([], []) else bif (chkB a c != 0) then ([], []) else keepF (l.foldl (keepT a c) ([], []))
theorem log_at {l : List Rd} (h : logOk l = true) : l.length ≤ 4096 ∧ ∀ i (hi : i < l.length), l[i].1 = (i : Int) ∧ l[i].2.1.size ≤ 32 ∧ l[i].2.2.1.length ≤ 256 := by
  unfold logOk at h
  cases hb : (List.range l.length).any (wrong l) with
  | true => rw [hb] at h; exact absurd h Bool.false_ne_true
  | false =>
    rw [hb, cond_false] at h
    refine ⟨of_decide_eq_true h, fun i hi => ?_⟩
    have := List.any_eq_false.1 hb i (List.mem_range.2 hi)
    unfold wrong at this
    have g : ∀ d, l.getD i d = l[i] := fun d => getD_lt hi
    simp only [g] at this
    cases h1 : (l[i].1 != (i : Int)) with
    | true => rw [h1] at this; exact absurd rfl this
    | false =>
      rw [h1, cond_false] at this
      have h1' : l[i].1 = (i : Int) := by simpa using h1
      by_cases h2 : l[i].2.1.size > 32
      · rw [decide_eq_true h2] at this; exact absurd rfl this
      · rw [decide_eq_false h2, cond_false] at this
        exact ⟨h1', by omega, by simpa using this⟩
theorem p16_is (l : List Rd) (a c : ByteArray) (hl : l.length ≤ 1048576) (hf : 4194304 < fu) : p16 fu (l, (a, c, ()), ()) = some ((), (keepS l a c).1, (keepS l a c).2, ()) := by
  unfold p16 keepS
  simp only [p14_is l (show l.length ≤ 2097152 by omega) hf, p26_is, bind_val]
  cases ho : logOk l
  · rfl
  cases hq : (chkB a c != 0) with
  | true => rfl
  | false =>
  simp only [Bool.not_true, cond_false]
  refine loop_fold l (fun i s => ((s.1, s.2, (i : Int), ()), ())) (keepT a c) (fun s => ((), (keepF s).1, (keepF s).2, ())) ([], []) (fun i s => s.1.length ≤ i ∧ s.2.length ≤ i) ⟨Nat.le_refl _, Nat.le_refl _⟩ (show l.length < fu by omega) (fun i hi s hs => ?_) (fun s hs => ?_) rfl
  · obtain ⟨s1, s2⟩ := s
    obtain ⟨h1, h2⟩ := hs
    have h1 : s1.length ≤ i := h1
    have h2 : s2.length ≤ i := h2
    have hg : ∀ d, l.getD i d = l[i] := fun d => getD_lt hi
    have hw : IntKind.wrap .u64 (s1.length : Int) = (s1.length : Int) := u64_wrap (by omega) (by omega)
    have hv := ((log_at ho).2 i hi).2.2
    have g : s2.length + [(s1.length : Int)].length ≤ maxLen ∧ (s2.length + [(s1.length : Int)].length) * 8 ≤ 140737488355328 := ⟨by unfold maxLen; simp only [List.length_singleton]; omega, by simp only [List.length_singleton]; omega⟩
    simp only [Int.ofNat_lt, Int.natCast_nonneg, hi, decide_true, cond_true, and_self, Int.toNat_natCast, hg, hw, g, p27_is, bind_val, p23_is s1 l[i] (show s1.length ≤ 2097152 by omega) (show l[i].2.2.1.length ≤ 140737488355328 by omega), i64_succ hi (by omega), keepT]
    cases hasB a c l[i].2.1
    · exact ⟨rfl, by show s1.length ≤ _; omega, by show (s2 ++ [_]).length ≤ _; rw [List.length_append]; simp only [List.length_singleton]; omega⟩
    · exact ⟨rfl, by show (s1 ++ [_]).length ≤ _; rw [List.length_append]; simp only [List.length_singleton]; omega, by show (s2 ++ [_]).length ≤ _; rw [List.length_append]; simp only [List.length_singleton]; omega⟩
  · obtain ⟨s1, s2⟩ := s
    have h1 : s1.length ≤ l.length := hs.1
    have h2 : s2.length ≤ l.length := hs.2
    have hw : IntKind.wrap .u64 (s1.length : Int) = (s1.length : Int) := u64_wrap (by omega) (by omega)
    have g : s2.length + [(s1.length : Int)].length ≤ maxLen ∧ (s2.length + [(s1.length : Int)].length) * 8 ≤ 140737488355328 := ⟨by unfold maxLen; simp only [List.length_singleton]; omega, by simp only [List.length_singleton]; omega⟩
    simp only [Int.ofNat_lt, Nat.lt_irrefl, decide_false, cond_false, decide_true, cond_true, hw, g, and_self]
    rfl
/-! ### The whole -/
def risesL (l : List Rd) : Prop := l.Pairwise fun x y => x.2.2.2.1 = y.2.2.2.1 → x.2.2.2.2 ≤ y.2.2.2.2
def below (n l : List Rd) : Prop := ∀ x ∈ n, ∀ y ∈ l, x.2.2.2.1 = y.2.2.2.1 → x.2.2.2.2 ≤ y.2.2.2.2
theorem ahead_le {x : Rd} {l r : List Rd} (h : ahead (x :: l) r = true) : ∀ y ∈ r, x.2.2.2.1 = y.2.2.2.1 → x.2.2.2.2 ≤ y.2.2.2.2 := by
  intro y hy e
  unfold ahead at h
  have : y.2.2.2.2 ∈ seqsOf r x.2.2.2.1 := List.mem_map.2 ⟨y, List.mem_filter.2 ⟨hy, beq_iff_eq.2 e.symm⟩, rfl⟩
  exact of_decide_eq_true (List.all_eq_true.1 h _ this)
theorem below_snoc {n l : List Rd} {x : Rd} (h : below n l) (hx : ∀ y ∈ l, x.2.2.2.1 = y.2.2.2.1 → x.2.2.2.2 ≤ y.2.2.2.2) : below (n ++ [numR n x]) l := by
  intro z hz y hy
  rcases List.mem_append.1 hz with hz | hz
  · exact h z hz y hy
  · obtain rfl := List.mem_singleton.1 hz
    exact hx y hy
theorem rises_snoc {n l : List Rd} {x : Rd} (h : risesL n) (hb : below n (x :: l)) : risesL (n ++ [numR n x]) := by
  refine List.pairwise_append.2 ⟨h, List.pairwise_singleton _ _, fun a ha b hb' => ?_⟩
  obtain rfl := List.mem_singleton.1 hb'
  exact hb a ha x List.mem_cons_self
theorem below_tail {n l : List Rd} {x : Rd} (h : below n (x :: l)) : below n l := fun z hz y hy => h z hz y (List.mem_cons_of_mem _ hy)
theorem jn_rises : ∀ (k : Nat) (n : List Rd) (t u : List Int) (l r : List Rd), l.length + r.length = k → risesL n → risesL l → risesL r → below n l → below n r → risesL (jnS k n t u l r).1
  | 0, _, _, _, _, _, _, hn, _, _, _, _ => hn
  | k + 1, n, t, u, l, r, hk, hn, hl, hr, bl, br => by
    unfold jnS
    cases h1 : ahead l r with
    | true =>
      obtain ⟨x, l, rfl⟩ := ahead_cons h1
      obtain ⟨hx, hl'⟩ := List.pairwise_cons.1 hl
      exact jn_rises k _ _ _ l r (by simp only [List.length_cons] at hk; omega) (rises_snoc hn bl) hl' hr (below_snoc (below_tail bl) hx) (below_snoc br (ahead_le h1))
    | false =>
      cases h2 : ahead r l with
      | true =>
        obtain ⟨x, r, rfl⟩ := ahead_cons h2
        obtain ⟨hx, hr'⟩ := List.pairwise_cons.1 hr
        exact jn_rises k _ _ _ l r (by simp only [List.length_cons] at hk; omega) (rises_snoc hn br) hl hr' (below_snoc bl (ahead_le h2)) (below_snoc (below_tail br) hx)
      | false => exact List.Pairwise.nil
def Sd (b : Nat) (j l : List Rd) (to : List Int) : Prop := to.length = l.length + 1 ∧ (b : Int) ≤ to.getD 0 0 ∧ ∀ i (h : i < l.length), ∃ p : Nat, ∃ hp : p < j.length, to.getD i 0 = (p : Int) ∧ (p : Int) < to.getD (i + 1) 0 ∧ j[p].2 = l[i].2
theorem sd_weak {b c : Nat} {j l : List Rd} {to : List Int} (h : Sd b j l to) (hc : c ≤ b) : Sd c j l to := ⟨h.1, by have := h.2.1; omega, h.2.2⟩
theorem sd_nil (b : Nat) (j : List Rd) : Sd b j [] [(b : Int)] := ⟨rfl, Int.le_refl _, fun _ h => absurd h (Nat.not_lt_zero _)⟩
theorem sd_cons {b : Nat} {j l : List Rd} {to : List Int} {x : Rd} (h : Sd (b + 1) j l to) (hb : b < j.length) (hx : j[b].2 = x.2) : Sd b j (x :: l) ((b : Int) :: to) := by
  obtain ⟨h1, h2, h3⟩ := h
  refine ⟨by simp only [List.length_cons, h1], Int.le_refl _, fun i hi => ?_⟩
  cases i with
  | zero =>
    refine ⟨b, hb, rfl, ?_, hx⟩
    have e : ((b : Int) :: to).getD (0 + 1) 0 = to.getD 0 0 := rfl
    rw [e]
    omega
  | succ i => exact h3 i (Nat.lt_of_succ_lt_succ hi)
theorem jn_stands : ∀ (k : Nat) (n : List Rd) (t u : List Int) (l r : List Rd), l.length + r.length = k → (jnS k n t u l r).2.2.2.1 = 0 →
    ∃ (rest : List Rd) (tl ul : List Int), jnS k n t u l r = (n ++ rest, t ++ tl, u ++ ul, 0, ()) ∧ rest.length = k ∧ Sd n.length (n ++ rest) l tl ∧ Sd n.length (n ++ rest) r ul ∧
      ∀ i (h : i < rest.length), rest[i].1 = ((n.length + i : Nat) : Int) ∧ ∃ y, (y ∈ l ∨ y ∈ r) ∧ rest[i].2 = y.2
  | 0, n, t, u, l, r, hk, _ => by
    obtain rfl : l = [] := List.length_eq_zero_iff.1 (by omega)
    obtain rfl : r = [] := List.length_eq_zero_iff.1 (by omega)
    exact ⟨[], [(n.length : Int)], [(n.length : Int)], by rw [List.append_nil]; rfl, rfl, sd_nil _ _, sd_nil _ _, fun i h => absurd h (Nat.not_lt_zero _)⟩
  | k + 1, n, t, u, l, r, hk, he => by
    unfold jnS at he ⊢
    have hnum : ∀ (x : Rd) (rest : List Rd), ∃ hb : n.length < (n ++ numR n x :: rest).length, (n ++ numR n x :: rest)[n.length].2 = x.2 := fun x rest => ⟨by simp, by rw [List.getElem_append_right (Nat.le_refl _)]; simp [numR]⟩
    have hlen : ∀ x : Rd, (n ++ [numR n x]).length = n.length + 1 := fun x => by simp
    have happ : ∀ (x : Rd) (rest : List Rd), n ++ [numR n x] ++ rest = n ++ numR n x :: rest := fun x rest => by simp
    cases h1 : ahead l r with
    | true =>
      obtain ⟨x, l, rfl⟩ := ahead_cons h1
      rw [h1] at he
      obtain ⟨rest, tl, ul, e1, e2, e3, e4, e5⟩ := jn_stands k (n ++ [numR n x]) (t ++ [(n.length : Int)]) u l r (by simp only [List.length_cons] at hk; omega) he
      rw [hlen, happ] at e3 e4
      obtain ⟨hb, hx⟩ := hnum x rest
      refine ⟨numR n x :: rest, (n.length : Int) :: tl, ul, ?_, by rw [List.length_cons, e2], sd_cons e3 hb hx, sd_weak e4 (Nat.le_succ _), fun i hi => ?_⟩
      · show jnS k (n ++ [numR n x]) (t ++ [(n.length : Int)]) u l r = _
        rw [e1, happ, List.append_assoc]; rfl
      · cases i with
        | zero => exact ⟨rfl, x, .inl List.mem_cons_self, rfl⟩
        | succ i =>
          obtain ⟨q1, y, q2, q3⟩ := e5 i (Nat.lt_of_succ_lt_succ hi)
          exact ⟨by simp only [List.getElem_cons_succ]; rw [q1, hlen]; omega, y, q2.imp (List.mem_cons_of_mem _) id, q3⟩
    | false =>
      cases h2 : ahead r l with
      | true =>
        obtain ⟨x, r, rfl⟩ := ahead_cons h2
        rw [h1, h2] at he
        obtain ⟨rest, tl, ul, e1, e2, e3, e4, e5⟩ := jn_stands k (n ++ [numR n x]) t (u ++ [(n.length : Int)]) l r (by simp only [List.length_cons] at hk; omega) he
        rw [hlen, happ] at e3 e4
        obtain ⟨hb, hx⟩ := hnum x rest
        refine ⟨numR n x :: rest, tl, (n.length : Int) :: ul, ?_, by rw [List.length_cons, e2], sd_weak e3 (Nat.le_succ _), sd_cons e4 hb hx, fun i hi => ?_⟩
        · show jnS k (n ++ [numR n x]) t (u ++ [(n.length : Int)]) l r = _
          rw [e1, happ, List.append_assoc]; rfl
        · cases i with
          | zero => exact ⟨rfl, x, .inr List.mem_cons_self, rfl⟩
          | succ i =>
            obtain ⟨q1, y, q2, q3⟩ := e5 i (Nat.lt_of_succ_lt_succ hi)
            exact ⟨by simp only [List.getElem_cons_succ]; rw [q1, hlen]; omega, y, q2.imp id (List.mem_cons_of_mem _), q3⟩
      | false =>
        rw [h1, h2] at he
        exact absurd he (by show ¬ (145 : Int) = 0; decide)
def Kp (a c : ByteArray) (b : Nat) (j l : List Rd) (to : List Int) : Prop := to.length = l.length + 1 ∧ to.getD 0 0 = (b : Int) ∧
  ∀ i (h : i < l.length), ∃ p : Nat, to.getD i 0 = (p : Int) ∧ to.getD (i + 1) 0 = (bif hasB a c l[i].2.1 then (p : Int) + 1 else (p : Int)) ∧ p ≤ j.length ∧ (hasB a c l[i].2.1 = true → ∃ hp : p < j.length, j[p].2 = l[i].2)
theorem kp_fold (a c : ByteArray) : ∀ (l j0 : List Rd) (k0 : List Int), ∃ (rest : List Rd) (to : List Int), keepF (l.foldl (keepT a c) (j0, k0)) = (j0 ++ rest, k0 ++ to) ∧ Kp a c j0.length (j0 ++ rest) l to ∧ rest.length ≤ l.length
  | [], j0, k0 => ⟨[], [(j0.length : Int)], by rw [List.append_nil]; rfl, ⟨rfl, rfl, fun i h => absurd h (Nat.not_lt_zero _)⟩, Nat.le_refl _⟩
  | x :: l, j0, k0 => by
    rw [List.foldl_cons]
    cases hx : hasB a c x.2.1 with
    | true =>
      have e : keepT a c (j0, k0) x = (j0 ++ [numR j0 x], k0 ++ [(j0.length : Int)]) := by unfold keepT; rw [hx]; rfl
      obtain ⟨rest, to, e1, ⟨h1, h2, h3⟩, h4⟩ := kp_fold a c l (j0 ++ [numR j0 x]) (k0 ++ [(j0.length : Int)])
      have happ : j0 ++ [numR j0 x] ++ rest = j0 ++ numR j0 x :: rest := by simp
      have hlen : (j0 ++ [numR j0 x]).length = j0.length + 1 := by simp
      rw [happ] at h3
      rw [hlen] at h2
      refine ⟨numR j0 x :: rest, (j0.length : Int) :: to, by rw [e, e1, happ, List.append_assoc]; rfl, ⟨by simp only [List.length_cons, h1], rfl, fun i hi => ?_⟩, by simp only [List.length_cons]; omega⟩
      cases i with
      | zero =>
        refine ⟨j0.length, rfl, ?_, by simp, fun _ => ⟨by simp, ?_⟩⟩
        · show to.getD 0 0 = bif hasB a c x.2.1 then _ else _
          rw [h2, hx]; rfl
        · rw [List.getElem_append_right (Nat.le_refl _)]; simp [numR]
      | succ i => exact h3 i (Nat.lt_of_succ_lt_succ hi)
    | false =>
      have e : keepT a c (j0, k0) x = (j0, k0 ++ [(j0.length : Int)]) := by unfold keepT; rw [hx]; rfl
      obtain ⟨rest, to, e1, ⟨h1, h2, h3⟩, h4⟩ := kp_fold a c l j0 (k0 ++ [(j0.length : Int)])
      refine ⟨rest, (j0.length : Int) :: to, by rw [e, e1, List.append_assoc]; rfl, ⟨by simp only [List.length_cons, h1], rfl, fun i hi => ?_⟩, by simp only [List.length_cons]; omega⟩
      cases i with
      | zero =>
        refine ⟨j0.length, rfl, ?_, by simp, fun h => ?_⟩
        · show to.getD 0 0 = bif hasB a c x.2.1 then _ else _
          rw [h2, hx]; rfl
        · have h : hasB a c x.2.1 = true := h
          rw [hx] at h; cases h
      | succ i => exact h3 i (Nat.lt_of_succ_lt_succ hi)
theorem logOk_of {l : List Rd} (hl : l.length ≤ 4096) (h : ∀ i (hi : i < l.length), l[i].1 = (i : Int) ∧ l[i].2.1.size ≤ 32 ∧ l[i].2.2.1.length ≤ 256) : logOk l = true := by
  unfold logOk
  have : (List.range l.length).any (wrong l) = false := by
    refine List.any_eq_false.2 fun i hi => ?_
    have hi := List.mem_range.1 hi
    obtain ⟨h1, h2, h3⟩ := h i hi
    have g : ∀ d, l.getD i d = l[i] := fun d => getD_lt hi
    have g2 : ¬ l[i].2.1.size > 32 := by omega
    have g3 : ¬ l[i].2.2.1.length > 256 := by omega
    unfold wrong
    simp only [g, h1, bne_self_eq_false, cond_false, g2, g3, decide_false]
    exact Bool.false_ne_true
  rw [this, cond_false, decide_eq_true hl]
theorem keep_len (l : List Rd) (a c : ByteArray) : (keepS l a c = ([], []) ∧ (logOk l = false ∨ (chkB a c == 0) = false)) ∨ (logOk l = true ∧ (chkB a c != 0) = false ∧ ∃ rest to, keepS l a c = (rest, to) ∧ Kp a c 0 rest l to ∧ rest.length ≤ l.length) := by
  unfold keepS
  cases ho : logOk l with
  | false => exact .inl ⟨rfl, .inl rfl⟩
  | true =>
    cases hq : (chkB a c != 0) with
    | true => exact .inl ⟨rfl, .inr (by simpa using hq)⟩
    | false =>
      obtain ⟨rest, to, e, h, h'⟩ := kp_fold a c l [] []
      exact .inr ⟨rfl, rfl, rest, to, e, h, h'⟩
theorem jn_all (a b : List Rd) : ((jnE a b).1 = [] ∧ (jnE a b).2.1 = [] ∧ (jnE a b).2.2.1 = [] ∧ ((jnE a b).2.2.2.1 != 0) = true) ∨
    ∃ (j : List Rd) (ta tb : List Int), jnE a b = (j, ta, tb, 0, ()) ∧ j.length = a.length + b.length ∧ j.length ≤ 4096 ∧ Sd 0 j a ta ∧ Sd 0 j b tb ∧ logOk j = true ∧ (risesL a → risesL b → risesL j) := by
  unfold jnE
  cases hab : logOk a && logOk b with
  | false => exact .inl ⟨rfl, rfl, rfl, rfl⟩
  | true =>
    obtain ⟨ha, hb⟩ := Bool.and_eq_true_iff.1 hab
    by_cases h4 : a.length + b.length > 4096
    · rw [decide_eq_true h4]; exact .inl ⟨rfl, rfl, rfl, rfl⟩
    · rw [decide_eq_false h4]
      simp only [cond_true, cond_false]
      have hbad : ∀ (k : Nat) (n : List Rd) (t u : List Int) (l r : List Rd), (jnS k n t u l r).2.2.2.1 = 0 ∨ jnS k n t u l r = ([], [], [], 145, ()) := by
        intro k
        induction k with
        | zero => intro n t u l r; exact .inl rfl
        | succ k ih =>
          intro n t u l r
          unfold jnS
          cases h1 : ahead l r with
          | true =>
            obtain ⟨x, l, rfl⟩ := ahead_cons h1
            exact ih _ _ _ _ _
          | false =>
            cases h2 : ahead r l with
            | true =>
              obtain ⟨x, r, rfl⟩ := ahead_cons h2
              exact ih _ _ _ _ _
            | false => exact .inr rfl
      rcases hbad (a.length + b.length) [] [] [] a b with h | h
      · obtain ⟨rest, ta, tb, e1, e2, e3, e4, e5⟩ := jn_stands _ [] [] [] a b rfl h
        have hr := jn_rises (a.length + b.length) [] [] [] a b rfl List.Pairwise.nil
        rw [e1] at hr
        refine .inr ⟨rest, ta, tb, e1, e2, by omega, e3, e4, logOk_of (by omega) fun i hi => ?_, fun ra rb => hr ra rb (fun x hx => absurd hx List.not_mem_nil) (fun x hx => absurd hx List.not_mem_nil)⟩
        obtain ⟨q1, y, q2, q3⟩ := e5 i hi
        have hy : y.2.1.size ≤ 32 ∧ y.2.2.1.length ≤ 256 := by
          rcases q2 with q2 | q2
          · obtain ⟨m, hm, rfl⟩ := List.getElem_of_mem q2
            exact ((log_at ha).2 m hm).2
          · obtain ⟨m, hm, rfl⟩ := List.getElem_of_mem q2
            exact ((log_at hb).2 m hm).2
        refine ⟨by rw [q1]; simp, by rw [q3]; exact hy.1, by rw [q3]; exact hy.2⟩
      · rw [h]; exact .inl ⟨rfl, rfl, rfl, rfl⟩
abbrev ky (s : ByteArray) : List UInt8 := s.data.toList
theorem ky_inj {a b : ByteArray} (h : ky a = ky b) : a = b := by
  cases a; cases b
  simp only [ky] at h
  congr 1
  exact Array.toList_inj.1 h
theorem toList_ky (s : ByteArray) : s.toList = ky s := Lib.toList_data s
theorem less_lists : ∀ x y : List UInt8, Op.bytesLess x y = decide (x < y)
  | [], [] => by simp [Op.bytesLess]
  | [], _ :: _ => by simp [Op.bytesLess]
  | _ :: _, [] => by simp [Op.bytesLess]
  | a :: xs, b :: ys => by
    rw [Op.bytesLess, less_lists xs ys, Bool.eq_iff_iff]
    by_cases h : a < b
    · simp [h, List.cons_lt_cons_iff]
    · by_cases h' : b < a
      · have : a ≠ b := fun e => by subst e; exact h h'
        simp [h, this, List.cons_lt_cons_iff]
      · have : a = b := UInt8.le_antisymm (UInt8.not_lt.1 h') (UInt8.not_lt.1 h)
        subst this
        simp [h]
theorem less_ky (a b : ByteArray) : Op.bytesLess a.toList b.toList = decide (ky a < ky b) := by
  rw [toList_ky, toList_ky, less_lists]
theorem eq_ky (a b : ByteArray) : (a.toList == b.toList) = decide (a = b) := by
  rw [toList_ky, toList_ky, Bool.eq_iff_iff]; simp only [beq_iff_eq, decide_eq_true_eq]
  exact ⟨ky_inj, fun h => h ▸ rfl⟩
theorem lt_irr (x : List UInt8) : ¬ x < x := List.lt_irrefl x
theorem lt_lt {x y z : List UInt8} (h : x < y) (h' : y < z) : x < z := List.lt_trans h h'
theorem both_not {x y : List UInt8} (h : ¬ x < y) (h' : ¬ y < x) : x = y := List.le_antisymm h' h
/-! ### Names -/
theorem p28_is (a c : ByteArray) : p28 fu ((a, c, ()), ()) = some ((), chkB a c) := by
  unfold p28 chkB befB
  by_cases c1 : a.size ≤ 32
  · by_cases c2 : c.size ≤ 32
    · simp only [show ¬ (a.size : Int) > 32 by omega, show ¬ (c.size : Int) > 32 by omega, show (a.size : Int) ≤ 32 by omega, show (c.size : Int) ≤ 32 by omega, decide_true, decide_false, cond_false, Bool.not_true]
      cases (ByteArray.toList c == ByteArray.toList (⟨#[]⟩ : ByteArray)) with
      | true => rfl
      | false =>
        cases (Op.bytesLess (ByteArray.toList c) (ByteArray.toList a) || ByteArray.toList c == ByteArray.toList a) <;> rfl
    · simp only [show ¬ (a.size : Int) > 32 by omega, show (c.size : Int) > 32 by omega, show (a.size : Int) ≤ 32 by omega, show ¬ (c.size : Int) ≤ 32 by omega, decide_true, decide_false, cond_true, cond_false, Bool.not_true, Bool.not_false]
  · simp only [show (a.size : Int) > 32 by omega, show ¬ (a.size : Int) ≤ 32 by omega, decide_true, decide_false, cond_true, Bool.not_false]
theorem bef_less {c f : ByteArray} : befB c f = bif (ByteArray.toList c == ByteArray.toList (⟨#[]⟩ : ByteArray)) then true else Op.bytesLess f.toList c.toList := by
  unfold befB
  cases (ByteArray.toList c == ByteArray.toList (⟨#[]⟩ : ByteArray)) with
  | true => rfl
  | false =>
    simp only [cond_false, less_ky, eq_ky]
    by_cases h : ky c < ky f
    · have : ¬ ky f < ky c := fun g => lt_irr _ (lt_lt h g)
      simp [h, this]
    · by_cases g : c = f
      · subst g; simp
      · have hh : ky f < ky c := by
          by_cases k : ky f < ky c
          · exact k
          · exact absurd (ky_inj (both_not h k)) g
        simp [h, g, hh]
theorem p29_is (a c f : ByteArray) : p29 fu ((a, c, ()), f, ()) = some ((), hasB a c f) := by
  unfold p29 hasB
  simp only [p28_is, bind_val]
  cases (chkB a c == 0) with
  | false => rfl
  | true =>
    simp only [cond_true]
    cases decide ((f.size : Int) ≤ 32) with
    | false => rfl
    | true =>
      simp only [cond_true]
      cases Op.bytesLess f.toList a.toList with
      | true => rfl
      | false =>
        simp only [Bool.not_false, cond_true, bef_less]
        cases (ByteArray.toList c == ByteArray.toList (⟨#[]⟩ : ByteArray)) <;> rfl
theorem p25_is (n : List Rd) (x : Rd) (hn : n.length ≤ 2097152) (hx : x.2.2.1.length ≤ 140737488355328) :
    p25 fu ((x.1, x.2.1, x.2.2.1, x.2.2.2.1, x.2.2.2.2, ()), (n.length : Int), ()) = some ((), ((numR n x).1, (numR n x).2.1, (numR n x).2.2.1, (numR n x).2.2.2.1, (numR n x).2.2.2.2, ())) := by
  unfold p25 numR
  have hw : IntKind.wrap .u64 (n.length : Int) = (n.length : Int) := u64_wrap (by omega) (by omega)
  have g : List.length ([] : List Int) + List.length x.2.2.1 ≤ maxLen ∧ (List.length ([] : List Int) + List.length x.2.2.1) * 1 ≤ 140737488355328 := ⟨by unfold maxLen; simp only [List.length_nil]; omega, by simp only [List.length_nil]; omega⟩
  simp only [List.length_nil, decide_true, cond_true, List.nil_append, hw] at g ⊢
  simp only [g, and_self, decide_true, cond_true]
theorem p17_is (l : List Rd) (a c : ByteArray) (hl : l.length ≤ 1048576) (hf : 4194304 < fu) : p17 fu (l, (a, c, ()), ()) = some ((), (keepS l a c).1, (keepS l a c).2, ()) := by
  unfold p17 keepS
  simp only [p15_is l (show l.length ≤ 2097152 by omega) hf, p28_is, bind_val]
  cases ho : logOk l
  · rfl
  cases hq : (chkB a c != 0) with
  | true => rfl
  | false =>
  simp only [Bool.not_true, cond_false]
  refine loop_fold l (fun i s => ((s.1, s.2, (i : Int), ()), ())) (keepT a c) (fun s => ((), (keepF s).1, (keepF s).2, ())) ([], []) (fun i s => s.1.length ≤ i ∧ s.2.length ≤ i) ⟨Nat.le_refl _, Nat.le_refl _⟩ (show l.length < fu by omega) (fun i hi s hs => ?_) (fun s hs => ?_) rfl
  · obtain ⟨s1, s2⟩ := s
    obtain ⟨h1, h2⟩ := hs
    have h1 : s1.length ≤ i := h1
    have h2 : s2.length ≤ i := h2
    have hg : ∀ d, l.getD i d = l[i] := fun d => getD_lt hi
    have hw : IntKind.wrap .u64 (s1.length : Int) = (s1.length : Int) := u64_wrap (by omega) (by omega)
    have hv := ((log_at ho).2 i hi).2.2
    have g : s2.length + [(s1.length : Int)].length ≤ maxLen ∧ (s2.length + [(s1.length : Int)].length) * 8 ≤ 140737488355328 := ⟨by unfold maxLen; simp only [List.length_singleton]; omega, by simp only [List.length_singleton]; omega⟩
    have g2 : ∀ y : Rd, s1.length + [y].length ≤ maxLen ∧ (s1.length + [y].length) * 64 ≤ 140737488355328 := fun y => ⟨by unfold maxLen; simp only [List.length_singleton]; omega, by simp only [List.length_singleton]; omega⟩
    simp only [Int.ofNat_lt, Int.natCast_nonneg, hi, decide_true, cond_true, and_self, Int.toNat_natCast, hg, hw, g, p29_is, bind_val, p25_is s1 l[i] (show s1.length ≤ 2097152 by omega) (show l[i].2.2.1.length ≤ 140737488355328 by omega), i64_succ hi (by omega), keepT]
    cases hasB a c l[i].2.1
    · exact ⟨rfl, by show s1.length ≤ _; omega, by show (s2 ++ [_]).length ≤ _; rw [List.length_append]; simp only [List.length_singleton]; omega⟩
    · simp only [cond_true, g2, and_self, decide_true]
      exact ⟨trivial, by show (s1 ++ [_]).length ≤ _; rw [List.length_append]; simp only [List.length_singleton]; omega, by show (s2 ++ [_]).length ≤ _; rw [List.length_append]; simp only [List.length_singleton]; omega⟩
  · obtain ⟨s1, s2⟩ := s
    have h1 : s1.length ≤ l.length := hs.1
    have h2 : s2.length ≤ l.length := hs.2
    have hw : IntKind.wrap .u64 (s1.length : Int) = (s1.length : Int) := u64_wrap (by omega) (by omega)
    have g : s2.length + [(s1.length : Int)].length ≤ maxLen ∧ (s2.length + [(s1.length : Int)].length) * 8 ≤ 140737488355328 := ⟨by unfold maxLen; simp only [List.length_singleton]; omega, by simp only [List.length_singleton]; omega⟩
    simp only [Int.ofNat_lt, Nat.lt_irrefl, decide_false, cond_false, decide_true, cond_true, hw, g, and_self]
    rfl
def lowerS (l : List Rd) (x : Rd) : Bool := l.any fun y => bif y.2.2.2.1 == x.2.2.2.1 then decide (y.2.2.2.2 < x.2.2.2.2) else false
theorem p34_is (l : List Rd) (x : Rd) (hl : l.length ≤ 2097152) (hf : 4194304 < fu) : p34 fu (l, (x.1, x.2.1, x.2.2.1, x.2.2.2.1, x.2.2.2.2, ()), ()) = some ((), lowerS l x) := by
  unfold p34
  refine loop_for l (fun i : Nat => (((i : Int), ()), ())) (fun y => bif y.2.2.2.1 == x.2.2.2.1 then decide (y.2.2.2.2 < x.2.2.2.2) else false) ((), true) ((), false) (show l.length < fu by omega) (fun i hi => ?_) ?_ ?_
  · have hg : ∀ d, l.getD i d = l[i] := fun d => getD_lt hi
    simp only [Int.ofNat_lt, Int.natCast_nonneg, hi, decide_true, cond_true, and_self, Int.toNat_natCast, hg, i64_succ hi (by omega)]
    cases (l[i].2.2.2.1 == x.2.2.2.1) with
    | false => rfl
    | true =>
      simp only [cond_true]
      cases decide (l[i].2.2.2.2 < x.2.2.2.2) <;> rfl
  · simp only [Int.lt_irrefl, decide_false, cond_false, inrO_val]
  · unfold lowerS
    cases l.any (fun y => bif y.2.2.2.1 == x.2.2.2.1 then decide (y.2.2.2.2 < x.2.2.2.2) else false) <;> rfl
theorem ahead_low (x : Rd) (l : List Rd) : ∀ r : List Rd, ahead (x :: l) r = !lowerS r x
  | [] => rfl
  | y :: r => by
    have ih := ahead_low x l r
    unfold ahead lowerS seqsOf at ih ⊢
    dsimp only at ih ⊢
    simp only [List.filter_cons, List.any_cons]
    cases h : (y.2.2.2.1 == x.2.2.2.1) with
    | false => simp only [Bool.false_eq_true, if_false, cond_false, Bool.false_or]; exact ih
    | true =>
      simp only [if_true, List.map_cons, List.all_cons, cond_true, Bool.not_or]
      rw [ih]
      by_cases c : y.2.2.2.2 < x.2.2.2.2
      · have : ¬ y.2.2.2.2 ≥ x.2.2.2.2 := by omega
        simp only [c, this, decide_true, decide_false, Bool.not_true, Bool.false_and]
      · have : y.2.2.2.2 ≥ x.2.2.2.2 := by omega
        simp only [c, this, decide_true, decide_false, Bool.not_false, Bool.true_and]
theorem p20_is (a b : List Rd) (ha : a.length ≤ 1048576) (hb : b.length ≤ 1048576) (hva : ∀ x ∈ a, x.2.2.1.length ≤ 1048576) (hvb : ∀ x ∈ b, x.2.2.1.length ≤ 1048576) (hf : 4194304 < fu) :
    p20 fu (a, b, ()) = some ((), jnE a b) := by
  unfold p20 jnE
  simp only [p15_is a (show a.length ≤ 2097152 by omega) hf, p15_is b (show b.length ≤ 2097152 by omega) hf, bind_val]
  cases logOk a
  · simp only [Bool.not_false, cond_true, orK_inl, Bool.false_and, cond_false]
  cases logOk b
  · simp only [Bool.not_false, Bool.not_true, cond_true, cond_false, orK_inl, Bool.and_false]
  simp only [Bool.not_true, cond_false, orK_inl, Bool.and_true, cond_true]
  have hw : IntKind.wrap .i64 ((a.length : Int) + (b.length : Int)) = ((a.length + b.length : Nat) : Int) := by rw [i64_wrap (by omega) (by omega)]; omega
  by_cases h4 : a.length + b.length > 4096
  · have h5 : ((a.length + b.length : Nat) : Int) > 4096 := by omega
    simp only [hw, h4, h5, decide_true, cond_true]
  have h5 : ¬ ((a.length + b.length : Nat) : Int) > 4096 := by omega
  simp only [hw, h4, h5, decide_false, cond_false]
  refine loopO_eq (I := fun s => ∃ (l r n : List Rd) (t u : List Int), s = ((l, r, n, t, u, ()), ()) ∧ n.length + l.length + r.length ≤ 4096 ∧ t.length ≤ n.length ∧ u.length ≤ n.length ∧ (∀ x ∈ l, x.2.2.1.length ≤ 1048576) ∧ ∀ x ∈ r, x.2.2.1.length ≤ 1048576)
    (m := fun s => s.1.1.length + s.1.2.1.length) (g := fun s => ((), jnS (s.1.1.length + s.1.2.1.length) s.1.2.2.1 s.1.2.2.2.1 s.1.2.2.2.2.1 s.1.1 s.1.2.1)) (fun s hs => ?_) fu _ ⟨a, b, [], [], [], rfl, by simp only [List.length_nil]; omega, Nat.le_refl _, Nat.le_refl _, hva, hvb⟩ (show a.length + b.length < fu by omega)
  obtain ⟨l, r, n, t, u, rfl, hn, ht, hu, hvl, hvr⟩ := hs
  have hwn : IntKind.wrap .u64 (n.length : Int) = (n.length : Int) := u64_wrap (by omega) (by omega)
  have hww : IntKind.wrap .i64 ((l.length : Int) + (r.length : Int)) = ((l.length + r.length : Nat) : Int) := by rw [i64_wrap (by omega) (by omega)]; omega
  have g1 : t.length + [(n.length : Int)].length ≤ maxLen ∧ (t.length + [(n.length : Int)].length) * 8 ≤ 140737488355328 := ⟨by unfold maxLen; simp only [List.length_singleton]; omega, by simp only [List.length_singleton]; omega⟩
  have g2 : u.length + [(n.length : Int)].length ≤ maxLen ∧ (u.length + [(n.length : Int)].length) * 8 ≤ 140737488355328 := ⟨by unfold maxLen; simp only [List.length_singleton]; omega, by simp only [List.length_singleton]; omega⟩
  have g3 : ∀ y : Rd, n.length + [y].length ≤ maxLen ∧ (n.length + [y].length) * 64 ≤ 140737488355328 := fun y => ⟨by unfold maxLen; simp only [List.length_singleton]; omega, by simp only [List.length_singleton]; omega⟩
  simp only [hww, hwn, g1, g2, g3, and_self, decide_true, cond_true]
  by_cases hz : l.length + r.length = 0
  · refine .inr ?_
    obtain rfl : l = [] := List.length_eq_zero_iff.1 (by omega)
    obtain rfl : r = [] := List.length_eq_zero_iff.1 (by omega)
    rfl
  obtain ⟨k, hk⟩ : ∃ k, l.length + r.length = k + 1 := ⟨l.length + r.length - 1, by omega⟩
  have hpos : ((l.length + r.length : Nat) : Int) > 0 := by omega
  simp only [hpos, decide_true, cond_true]
  -- may the first list's head go?
  have hA : ∀ {E : Type} (X : E → Option E) , True := fun _ => trivial
  have takeA : (bif decide ((l.length : Int) > 0) then bif decide ((0 : Int) ≤ 0 ∧ 0 < (l.length : Int)) then bif decide (0 < l.length) then
      Option.bind (p34 fu (r, ((List.getD l 0 (dflt T_api_Record)).1, ((List.getD l 0 (dflt T_api_Record)).2).1, (((List.getD l 0 (dflt T_api_Record)).2).2).1, ((((List.getD l 0 (dflt T_api_Record)).2).2).2).1, ((((List.getD l 0 (dflt T_api_Record)).2).2).2).2, ()), ())) fun x => some (.inl ((!x.2, ()), ()))
      else none else none else some (.inl ((false, ()), ())) : Option (((Bool × Unit) × Unit) ⊕ (((List Rd × List Rd × List Rd × List Int × List Int × Unit) × Unit) ⊕ (Unit × (List Rd × List Int × List Int × Int × Unit))))) = some (.inl ((ahead l r, ()), ())) := by
    cases l with
    | nil => rfl
    | cons x l =>
      have c1 : (((x :: l).length : Nat) : Int) > 0 := by simp only [List.length_cons]; omega
      have c2 : (0 : Int) < (((x :: l).length : Nat) : Int) := c1
      have c3 : 0 < (x :: l).length := Nat.succ_pos _
      have hg : ∀ d, (x :: l).getD 0 d = x := fun d => rfl
      simp only [c1, c3, Int.le_refl, and_self, decide_true, cond_true, hg, p34_is r x (by omega) hf, bind_val, ahead_low]
  have takeB : (bif decide ((r.length : Int) > 0) then bif decide ((0 : Int) ≤ 0 ∧ 0 < (r.length : Int)) then bif decide (0 < r.length) then
      Option.bind (p34 fu (l, ((List.getD r 0 (dflt T_api_Record)).1, ((List.getD r 0 (dflt T_api_Record)).2).1, (((List.getD r 0 (dflt T_api_Record)).2).2).1, ((((List.getD r 0 (dflt T_api_Record)).2).2).2).1, ((((List.getD r 0 (dflt T_api_Record)).2).2).2).2, ()), ())) fun x => some (.inl ((!x.2, ()), ()))
      else none else none else some (.inl ((false, ()), ())) : Option (((Bool × Unit) × Unit) ⊕ (((List Rd × List Rd × List Rd × List Int × List Int × Unit) × Unit) ⊕ (Unit × (List Rd × List Int × List Int × Int × Unit))))) = some (.inl ((ahead r l, ()), ())) := by
    cases r with
    | nil => rfl
    | cons x r =>
      have c1 : (((x :: r).length : Nat) : Int) > 0 := by simp only [List.length_cons]; omega
      have c2 : (0 : Int) < (((x :: r).length : Nat) : Int) := c1
      have c3 : 0 < (x :: r).length := Nat.succ_pos _
      have hg : ∀ d, (x :: r).getD 0 d = x := fun d => rfl
      simp only [c1, c3, Int.le_refl, and_self, decide_true, cond_true, hg, p34_is l x (by omega) hf, bind_val, ahead_low]
  rw [takeA]
  simp only [orK_inl]
  cases h1 : ahead l r with
  | true =>
    obtain ⟨x, l, rfl⟩ := ahead_cons h1
    have c2 : (0 : Int) < (((x :: l).length : Nat) : Int) := by simp only [List.length_cons]; omega
    have c3 : 0 < (x :: l).length := Nat.succ_pos _
    have c4 : 1 ≤ (x :: l).length := Nat.succ_pos _
    have hg : ∀ d, (x :: l).getD 0 d = x := fun d => rfl
    refine .inl ?_
    simp only [Bool.not_true, cond_false, orK_inl, cond_true, Int.le_refl, c2, c3, c4, and_self, decide_true, hg, p25_is n x (by omega) (Nat.le_trans (hvl x List.mem_cons_self) (by omega)), bind_val, List.drop_one, List.tail_cons]
    refine ⟨_, rfl, ⟨_, _, _, _, _, rfl, ?_, ?_, ?_, fun y hy => hvl y (List.mem_cons_of_mem _ hy), hvr⟩, ?_, ?_⟩
    · simp only [List.length_append, List.length_cons, List.length_nil] at hn ⊢; omega
    · simp only [List.length_append, List.length_cons, List.length_nil]; omega
    · simp only [List.length_append, List.length_cons, List.length_nil]; omega
    · simp only [List.length_cons]; omega
    · have e1 : (x :: l).length + r.length = (l.length + r.length) + 1 := by simp only [List.length_cons]; omega
      simp only [e1, jnS, h1, cond_true]
  | false =>
    simp only [Bool.not_false, cond_true, orK_inl, cond_false]
    have hB : ∀ {K : ((Bool × Unit) × Unit) → Option (((List Rd × List Rd × List Rd × List Int × List Int × Unit) × Unit) ⊕ (Unit × (List Rd × List Int × List Int × Int × Unit)))}, True := trivial
    rw [takeB]
    simp only [orK_inl]
    cases h2 : ahead r l with
    | true =>
      obtain ⟨x, r, rfl⟩ := ahead_cons h2
      have c2 : (0 : Int) < (((x :: r).length : Nat) : Int) := by simp only [List.length_cons]; omega
      have c3 : 0 < (x :: r).length := Nat.succ_pos _
      have c4 : 1 ≤ (x :: r).length := Nat.succ_pos _
      have hg : ∀ d, (x :: r).getD 0 d = x := fun d => rfl
      refine .inl ?_
      simp only [cond_true, Int.le_refl, c2, c3, c4, and_self, decide_true, hg, p25_is n x (by omega) (Nat.le_trans (hvr x List.mem_cons_self) (by omega)), bind_val, List.drop_one, List.tail_cons]
      refine ⟨_, rfl, ⟨_, _, _, _, _, rfl, ?_, ?_, ?_, hvl, fun y hy => hvr y (List.mem_cons_of_mem _ hy)⟩, ?_, ?_⟩
      · simp only [List.length_append, List.length_cons, List.length_nil] at hn ⊢; omega
      · simp only [List.length_append, List.length_cons, List.length_nil]; omega
      · simp only [List.length_append, List.length_cons, List.length_nil]; omega
      · simp only [List.length_cons]; omega
      · have e1 : l.length + (x :: r).length = (l.length + r.length) + 1 := by simp only [List.length_cons]; omega
        simp only [e1, jnS, h1, h2, cond_true, cond_false]
    | false =>
      refine .inr ?_
      simp only [cond_false, hk, jnS, h1, h2, inrO_val]
end
end Go.Proofs.Ytlmnhbobgfpanaa
