/-
  Layer 14, consumers: names, lists of consumers, the order of names.
-/
import Derived.Test.YtgneanhmjkdkaaaPtR
import Derived.Test.YtgneanhmjkdkaaaDaP
import Derived.Test.YtgneanhmjkdkaaaInC
namespace Go.Proofs.Ytgneanhmjkdkaaa
open Go.RowKit
section
variable {fu : Nat}
abbrev Cn := D_runtime_errorAddressString
/-- A loop that looks for one. -/
theorem loop_any {X S R : Type} {f : S → Option (S ⊕ R)} : ∀ (l : List X) (mk : Nat → S) (q : X → Bool) (r fin : R), l.length < fu →
    (∀ i (h : i < l.length), f (mk i) = some (bif q l[i] then .inr r else .inl (mk (i + 1)))) → f (mk l.length) = some (.inr fin) → loopO fu f (mk 0) = some (bif l.any q then r else fin) := by
  intro l mk q r fin hf hs he
  have key : ∀ k i n, i + k = l.length → k < n → loopO n f (mk i) = some (bif (l.drop i).any q then r else fin) := by
    intro k
    induction k with
    | zero =>
      intro i n hi hn
      obtain ⟨m, rfl⟩ : ∃ m, n = m + 1 := ⟨n - 1, by omega⟩
      obtain rfl : i = l.length := by omega
      simp only [loopO, he, List.drop_length, List.any_nil, cond_false]
    | succ k ih =>
      intro i n hi hn
      obtain ⟨m, rfl⟩ : ∃ m, n = m + 1 := ⟨n - 1, by omega⟩
      have hlt : i < l.length := by omega
      rw [List.drop_eq_getElem_cons hlt]
      simp only [loopO, hs i hlt, List.any_cons]
      cases q l[i] with
      | true => rfl
      | false => exact ih (i + 1) m (by omega) (by omega)
  exact key l.length 0 fu (by omega) hf
theorem loop_for {X S R : Type} {f : S → Option (S ⊕ R)} {res : R} (l : List X) (mk : Nat → S) (q : X → Bool) (r fin : R) (hf : l.length < fu)
    (hs : ∀ i (h : i < l.length), f (mk i) = some (bif q l[i] then .inr r else .inl (mk (i + 1)))) (he : f (mk l.length) = some (.inr fin)) (hr : (bif l.any q then r else fin) = res) : loopO fu f (mk 0) = some res :=
  hr ▸ loop_any l mk q r fin hf hs he
/-- A name's letters. -/
abbrev ky (s : ByteArray) : List UInt8 := s.data.toList
theorem ky_inj {a b : ByteArray} (h : ky a = ky b) : a = b := by
  cases a; cases b
  simp only [ky] at h
  congr 1
  exact Array.toList_inj.1 h
theorem toList_ky (s : ByteArray) : s.toList = ky s := Lib.toList_data s
theorem less_lists : ∀ x y : List UInt8, Op.bytesLess x y = decide (x < y)
  | [], [] => by simp [Op.bytesLess]
  | [], _ :: _ => by simp [Op.bytesLess]
  | _ :: _, [] => by simp [Op.bytesLess]
  | a :: xs, b :: ys => by
    rw [Op.bytesLess, less_lists xs ys, Bool.eq_iff_iff]
    by_cases h : a < b
    · simp [h, List.cons_lt_cons_iff]
    · by_cases h' : b < a
      · have : a ≠ b := fun e => by subst e; exact h h'
        simp [h, this, List.cons_lt_cons_iff]
      · have : a = b := UInt8.le_antisymm (UInt8.not_lt.1 h') (UInt8.not_lt.1 h)
        subst this
        simp [h]
theorem less_ky (a b : ByteArray) : Op.bytesLess a.toList b.toList = decide (ky a < ky b) := by
  rw [toList_ky, toList_ky, less_lists]
theorem eq_ky (a b : ByteArray) : (a.toList == b.toList) = decide (a = b) := by
  rw [toList_ky, toList_ky, Bool.eq_iff_iff]; simp only [beq_iff_eq, decide_eq_true_eq]
  exact ⟨ky_inj, fun h => h ▸ rfl⟩
theorem cmp_lists : ∀ a b : List UInt8, Lib.compareBytes a b = if a < b then -1 else if b < a then 1 else 0
  | [], [] => by simp [Lib.compareBytes]
  | [], _ :: _ => by simp [Lib.compareBytes]
  | _ :: _, [] => by simp [Lib.compareBytes]
  | a :: xs, b :: ys => by
    rw [Lib.compareBytes, cmp_lists xs ys]
    simp only [List.cons_lt_cons_iff]
    by_cases h : a < b
    · simp [h]
    · by_cases h' : b < a
      · have : a ≠ b := fun e => by subst e; exact h h'
        simp [h, h', this]
      · have : a = b := UInt8.le_antisymm (UInt8.not_lt.1 h') (UInt8.not_lt.1 h)
        subst this
        simp [h]
theorem cmpI_ky (a b : ByteArray) : cmpI a b = if ky a < ky b then -1 else if ky b < ky a then 1 else 0 := cmp_lists _ _
theorem lt_irr (x : List UInt8) : ¬ x < x := List.lt_irrefl x
theorem lt_lt {x y z : List UInt8} (h : x < y) (h' : y < z) : x < z := List.lt_trans h h'
theorem both_not {x y : List UInt8} (h : ¬ x < y) (h' : ¬ y < x) : x = y := List.le_antisymm h' h
/-! ### Names -/
def sq (x : Int) : Bool := bif x != 45 then bif x != 95 then bif x != 46 then true else false else false else false
def qb (x : Int) : Bool := bif decide (x < 97) then (bif decide (x < 48) then sq x else bif decide (x > 57) then sq x else false) else bif decide (x > 122) then (bif decide (x < 48) then sq x else bif decide (x > 57) then sq x else false) else false
def nameB (a : ByteArray) : Bool := bif (numsOf a).any qb then false else decide (1 ≤ a.size ∧ a.size ≤ 32)
theorem step_qb {S R : Type} {r : R} {s : S} (x : Int) : (bif decide (x < 97) then
   bif decide (x < 48) then
    bif x != 45 then bif x != 95 then bif x != 46 then some (.inr r) else some (.inl s) else some (.inl s) else some (.inl s)
   else bif decide (x > 57) then
    bif x != 45 then bif x != 95 then bif x != 46 then some (.inr r) else some (.inl s) else some (.inl s) else some (.inl s)
   else some (.inl s)
  else bif decide (x > 122) then
   bif decide (x < 48) then
    bif x != 45 then bif x != 95 then bif x != 46 then some (.inr r) else some (.inl s) else some (.inl s) else some (.inl s)
   else bif decide (x > 57) then
    bif x != 45 then bif x != 95 then bif x != 46 then some (.inr r) else some (.inl s) else some (.inl s) else some (.inl s)
   else some (.inl s)
  else some (.inl s) : Option (S ⊕ R)) = some (bif qb x then .inr r else .inl s) := by
  unfold qb sq
  generalize decide (x < 97) = b1; generalize decide (x < 48) = b2; generalize decide (x > 57) = b3; generalize decide (x > 122) = b4
  generalize (x != 45) = b5; generalize (x != 95) = b6; generalize (x != 46) = b7
  cases b1 <;> cases b2 <;> cases b3 <;> cases b4 <;> cases b5 <;> cases b6 <;> cases b7 <;> rfl
theorem bAt_num (a : ByteArray) (i : Nat) (h : i < (numsOf a).length) : bAt a i = (numsOf a)[i] := by
  have h' : i < a.data.toList.length := by simpa [numsOf] using h
  have : (numsOf a)[i] = ((a.data.toList[i].toNat : Int)) := List.getElem_map ..
  rw [this, bAt, getD_lt h']
theorem p37_is (a : ByteArray) (ha : a.size ≤ 1048576) (hf : a.size < fu) : p37 fu (a, ()) = some ((), nameB a) := by
  unfold p37 nameB
  have hl := numsOf_length a
  refine loop_for (numsOf a) (fun i => (((i : Int), ()), ())) qb ((), false) ((), decide (1 ≤ a.size ∧ a.size ≤ 32)) (by omega) (fun i h => ?_) ?_ (by cases (numsOf a).any qb <;> rfl)
  · simp only [Int.ofNat_lt, Int.natCast_nonneg, h, decide_true, cond_true, and_self, Int.toNat_natCast, getD_lt h, i64_succ h (by omega)]
    exact step_qb _
  · simp only [Int.ofNat_lt, Nat.lt_irrefl, decide_false, cond_false]
    by_cases h1 : 1 ≤ a.size
    · have h2 : (a.size : Int) ≥ 1 := by omega
      have h3 : decide ((a.size : Int) ≤ 32) = decide (a.size ≤ 32) := decide_eq_decide.2 (by omega)
      simp only [h1, h2, h3, decide_true, cond_true, true_and]; rfl
    · have h2 : ¬ (a.size : Int) ≥ 1 := by omega
      simp only [h1, h2, decide_false, cond_false, false_and]; rfl
theorem p38_is (a : ByteArray) (hf : a.size < fu) : p38 fu (a, ()) = some ((), nameB a) := by
  unfold p38 nameB
  have hl := numsOf_length a
  by_cases h1 : a.size < 1
  · have h2 : (a.size : Int) < 1 := by omega
    have h3 : ¬ (1 ≤ a.size ∧ a.size ≤ 32) := by omega
    simp only [h2, h3, decide_true, decide_false, cond_true]
    cases (numsOf a).any qb <;> rfl
  have h2 : ¬ (a.size : Int) < 1 := by omega
  by_cases h4 : a.size > 32
  · have h5 : (a.size : Int) > 32 := by omega
    have h3 : ¬ (1 ≤ a.size ∧ a.size ≤ 32) := by omega
    simp only [h2, h3, h5, decide_true, decide_false, cond_true, cond_false]
    cases (numsOf a).any qb <;> rfl
  have h5 : ¬ (a.size : Int) > 32 := by omega
  have h3 : (1 ≤ a.size ∧ a.size ≤ 32) := by omega
  simp only [h2, h3, h5, decide_true, decide_false, cond_false, and_self]
  refine loop_for (numsOf a) (fun i => (((i : Int), ()), ())) qb ((), false) ((), true) (by omega) (fun i h => ?_) ?_ (by cases (numsOf a).any qb <;> rfl)
  · have h' : i < a.size := by omega
    simp only [Int.ofNat_lt, Int.natCast_nonneg, h', decide_true, cond_true, and_self, Int.toNat_natCast, bAt_num a i h, i64_succ h' (by omega)]
    exact step_qb _
  · rw [hl]
    simp only [Int.ofNat_lt, Nat.lt_irrefl, decide_false, cond_false]; rfl
end
section
variable {fu : Nat}
theorem loop_find {X S R : Type} {f : S → Option (S ⊕ R)} {res : R} (l : List X) (mk : Nat → S) (q : X → Bool) (g : Option X → R) (hf : l.length < fu)
    (hs : ∀ i (h : i < l.length), f (mk i) = some (bif q l[i] then .inr (g (some l[i])) else .inl (mk (i + 1)))) (he : f (mk l.length) = some (.inr (g none))) (hr : g (l.find? q) = res) : loopO fu f (mk 0) = some res := by
  subst hr
  have key : ∀ k i n, i + k = l.length → k < n → loopO n f (mk i) = some (g ((l.drop i).find? q)) := by
    intro k
    induction k with
    | zero =>
      intro i n hi hn
      obtain ⟨m, rfl⟩ : ∃ m, n = m + 1 := ⟨n - 1, by omega⟩
      obtain rfl : i = l.length := by omega
      simp only [loopO, he, List.drop_length, List.find?_nil]
    | succ k ih =>
      intro i n hi hn
      obtain ⟨m, rfl⟩ : ∃ m, n = m + 1 := ⟨n - 1, by omega⟩
      have hlt : i < l.length := by omega
      rw [List.drop_eq_getElem_cons hlt]
      simp only [loopO, hs i hlt, List.find?_cons]
      cases q l[i] with
      | true => rfl
      | false => exact ih (i + 1) m (by omega) (by omega)
  exact key l.length 0 fu (by omega) hf
/-- A loop over a list that folds. -/
theorem loop_fold {X S A R : Type} {f : S → Option (S ⊕ R)} {res : R} (l : List X) (mk : Nat → A → S) (st : A → X → A) (fin : A → R) (a : A) (P : Nat → A → Prop) (h0 : P 0 a) (hf : l.length < fu)
    (hs : ∀ i (h : i < l.length) b, P i b → f (mk i b) = some (.inl (mk (i + 1) (st b l[i]))) ∧ P (i + 1) (st b l[i])) (he : ∀ b, P l.length b → f (mk l.length b) = some (.inr (fin b))) (hr : fin (l.foldl st a) = res) : loopO fu f (mk 0 a) = some res := by
  subst hr
  have key : ∀ k i n b, i + k = l.length → k < n → P i b → loopO n f (mk i b) = some (fin ((l.drop i).foldl st b)) := by
    intro k
    induction k with
    | zero =>
      intro i n b hi hn hb
      obtain ⟨m, rfl⟩ : ∃ m, n = m + 1 := ⟨n - 1, by omega⟩
      obtain rfl : i = l.length := by omega
      simp only [loopO, he b hb, List.drop_length, List.foldl_nil]
    | succ k ih =>
      intro i n b hi hn hb
      obtain ⟨m, rfl⟩ : ∃ m, n = m + 1 := ⟨n - 1, by omega⟩
      have hlt : i < l.length := by omega
      rw [List.drop_eq_getElem_cons hlt]
      obtain ⟨e1, e2⟩ := hs i hlt b hb
      simp only [loopO, e1, List.foldl_cons]
      exact ih (i + 1) m _ (by omega) (by omega) e2
  exact key l.length 0 fu a (by omega) hf h0

/-- A list that came in. -/
def okL (l : List Cn) : Prop := l.length ≤ 2097152 ∧ ∀ x ∈ l, x.1.size ≤ 1048576 ∧ 0 ≤ x.2 ∧ x.2 < 18446744073709551616
theorem okL_at {l : List Cn} (h : okL l) {i : Nat} (hi : i < l.length) : l[i].1.size ≤ 1048576 := (h.2 _ (List.getElem_mem hi)).1
def bad (l : List Cn) (i : Nat) : Bool := bif !nameB (l.getD i (⟨#[]⟩, 0)).1 then true else bif decide (0 < i) then !Op.bytesLess (l.getD (i - 1) (⟨#[]⟩, 0)).1.toList (l.getD i (⟨#[]⟩, 0)).1.toList else false
def okC (l : List Cn) : Bool := bif (List.range l.length).any (bad l) then false else decide (l.length ≤ 64)
theorem p39_is (l : List Cn) (hl : okL l) (hf : 4194304 < fu) : p39 fu (l, ()) = some ((), okC l) := by
  unfold p39 okC
  have hn : l.length ≤ 2097152 := hl.1
  refine loop_for (List.range l.length) (fun i => (((i : Int), ()), ())) (bad l) ((), false) ((), decide (l.length ≤ 64)) (by simp only [List.length_range]; omega) (fun i h => ?_) ?_ (by cases (List.range l.length).any (bad l) <;> rfl)
  · simp only [List.length_range] at h
    have hs := okL_at hl h
    have hg : ∀ d, l.getD i d = l[i] := fun d => getD_lt h
    simp only [List.getElem_range, Int.ofNat_lt, Int.natCast_nonneg, h, decide_true, cond_true, and_self, Int.toNat_natCast, hg, p37_is _ hs (fu := fu) (by omega), bind_val, i64_succ h (by omega), bad]
    cases nameB l[i].1
    · rfl
    simp only [Bool.not_true, cond_false]
    by_cases h0 : 0 < i
    · have h1 : (i : Int) > 0 := by omega
      have h2 : i - 1 < l.length := by omega
      have h3 : ∀ d, l.getD (i - 1) d = l[i - 1] := fun d => getD_lt h2
      simp only [h0, h1, decide_true, cond_true, i64_pred h0 (by omega), Int.natCast_nonneg, Int.ofNat_lt, h2, and_self, Int.toNat_natCast, h3]
      cases Op.bytesLess l[i - 1].1.toList l[i].1.toList <;> rfl
    · have h1 : ¬ (i : Int) > 0 := by omega
      simp only [h0, h1, decide_false, cond_false]
  · simp only [List.length_range, Int.ofNat_lt, Nat.lt_irrefl, decide_false, cond_false]
    have h3 : decide ((l.length : Int) ≤ 64) = decide (l.length ≤ 64) := decide_eq_decide.2 (by omega)
    rw [h3]; rfl
theorem p40_is (l : List Cn) (hl : okL l) (hf : 4194304 < fu) : p40 fu (l, ()) = some ((), okC l) := by
  unfold p40 okC
  have hn : l.length ≤ 2097152 := hl.1
  rcases Nat.lt_or_ge 64 l.length with h6' | h6
  · have h6 : ¬ l.length ≤ 64 := by omega
    have h7 : (l.length : Int) > 64 := by omega
    simp only [h6, h7, decide_true, decide_false, cond_true]
    cases (List.range l.length).any (bad l) <;> rfl
  have h7 : ¬ (l.length : Int) > 64 := by omega
  simp only [h6, h7, decide_true, decide_false, cond_false]
  refine loop_for (List.range l.length) (fun i => (((i : Int), ()), ())) (bad l) ((), false) ((), true) (by simp only [List.length_range]; omega) (fun i h => ?_) ?_ (by cases (List.range l.length).any (bad l) <;> rfl)
  · simp only [List.length_range] at h
    have hs := okL_at hl h
    have hg : ∀ d, l.getD i d = l[i] := fun d => getD_lt h
    simp only [List.getElem_range, Int.ofNat_lt, Int.natCast_nonneg, h, decide_true, cond_true, and_self, Int.toNat_natCast, hg, p38_is _ (fu := fu) (show l[i].1.size < fu by omega), bind_val, i64_succ h (by omega), bad]
    cases nameB l[i].1
    · rfl
    simp only [Bool.not_true, cond_false]
    by_cases h0 : 0 < i
    · have h1 : (i : Int) > 0 := by omega
      have h2 : i - 1 < l.length := by omega
      have h3 : ∀ d, l.getD (i - 1) d = l[i - 1] := fun d => getD_lt h2
      simp only [h0, h1, decide_true, cond_true, i64_pred h0 (by omega), Int.natCast_nonneg, Int.ofNat_lt, h2, and_self, Int.toNat_natCast, h3]
      cases Op.bytesLess l[i - 1].1.toList l[i].1.toList <;> rfl
    · have h1 : ¬ (i : Int) > 0 := by omega
      simp only [h0, h1, decide_false, cond_false]
  · simp only [List.length_range, Int.ofNat_lt, Nat.lt_irrefl, decide_false, cond_false]; rfl
/-- Who reads on where. -/
def readO (o : Option Cn) : Int × Bool := match o with | some x => (x.2, true) | none => (0, false)
def readC (l : List Cn) (c : ByteArray) : Int × Bool := readO (l.find? fun x => x.1.toList == c.toList)
theorem p33_is (l : List Cn) (c : ByteArray) (hl : l.length ≤ 2097152) (hf : 4194304 < fu) : p33 fu (l, c, ()) = some ((), (readC l c).1, (readC l c).2, ()) := by
  unfold p33
  refine loop_find l (fun i => (((i : Int), ()), ())) (fun x => x.1.toList == c.toList) (fun o => ((), (readO o).1, (readO o).2, ())) (by omega) (fun i h => ?_) ?_ rfl
  · have hg : ∀ d, l.getD i d = l[i] := fun d => getD_lt h
    simp only [Int.ofNat_lt, Int.natCast_nonneg, h, decide_true, cond_true, and_self, Int.toNat_natCast, hg, i64_succ h (by omega)]
    cases l[i].1.toList == c.toList <;> rfl
  · simp only [Int.ofNat_lt, Nat.lt_irrefl, decide_false, cond_false]; rfl
theorem p34_is (l : List Cn) (c : ByteArray) (hl : l.length ≤ 2097152) (hf : 4194304 < fu) : p34 fu (l, c, ()) = some ((), (readC l c).1, (readC l c).2, ()) := by
  unfold p34
  refine loop_find l (fun i => (((i : Int), ()), ())) (fun x => x.1.toList == c.toList) (fun o => ((), (readO o).1, (readO o).2, ())) (by omega) (fun i h => ?_) ?_ rfl
  · have hg : ∀ d, l.getD i d = l[i] := fun d => getD_lt h
    simp only [Int.ofNat_lt, Int.natCast_nonneg, h, decide_true, cond_true, and_self, Int.toNat_natCast, hg, i64_succ h (by omega)]
    cases l[i].1.toList == c.toList <;> rfl
  · simp only [Int.ofNat_lt, Nat.lt_irrefl, decide_false, cond_false]; rfl
theorem any_no {α : Type} (l : List α) : l.any (fun _ => false) = false := by induction l <;> simp_all
theorem self_beq (s : ByteArray) : (s == s) = true := by
  cases s with
  | mk d => show (d == d) = true; exact beq_self_eq_true d
theorem p32_is (l : List Cn) (hl : l.length ≤ 2097152) (hf : 4194304 < fu) : p32 fu (l, l, ()) = some ((), true) := by
  unfold p32
  simp only [bne_self_eq_false, cond_false]
  refine loop_for l (fun i => (((i : Int), ()), ())) (fun _ => false) ((), false) ((), true) (by omega) (fun i h => ?_) ?_ (by rw [any_no]; rfl)
  · simp only [Int.ofNat_lt, Int.natCast_nonneg, h, decide_true, cond_true, and_self, Int.toNat_natCast, i64_succ h (by omega), beq_self_eq_true, Bool.and_true]
    generalize (l.getD i (dflt T_runtime_errorAddressString)).fst = s
    have : (s == s) = true := self_beq s
    simp only [this, Bool.not_true, cond_false]
  · simp only [Int.ofNat_lt, Nat.lt_irrefl, decide_false, cond_false]; rfl
end
section
variable {fu : Nat}
theorem loop_val {S R : Type} {f : S → Option (S ⊕ R)} (I : S → Prop) (m : S → Nat) {n : Nat} {s : S} {r : R} (hI : I s) (hm : m s < n) (h : ∀ s, I s → ∃ o, f s = some o ∧ LStep I m (fun q => q = r) s o) : loopO n f s = some r := by
  obtain ⟨q, e, rfl⟩ := loopO_rule I m (fun q => q = r) h n s hI hm
  exact e
theorem mid_is {lo hi : Nat} (h : lo + hi ≤ 9223372036854775807) : IntKind.wrap .i64 (Int.fdiv (IntKind.wrap .u64 (IntKind.wrap .i64 ((lo : Int) + (hi : Int)))) (2 ^ (min (Int.toNat (1 : Int)) (IntKind.bits .u64)))) = (((lo + hi) / 2 : Nat) : Int) := by
  have e1 : IntKind.wrap .i64 ((lo : Int) + (hi : Int)) = ((lo + hi : Nat) : Int) := by rw [i64_wrap (by omega) (by omega)]; omega
  have e2 : IntKind.wrap .u64 ((lo + hi : Nat) : Int) = ((lo + hi : Nat) : Int) := wrap_u64 (by omega) (by omega)
  have e3 : (2 : Int) ^ (min (Int.toNat (1 : Int)) (IntKind.bits .u64)) = 2 := rfl
  have e4 : Int.fdiv ((lo + hi : Nat) : Int) 2 = (((lo + hi) / 2 : Nat) : Int) := by
    rw [Int.fdiv_eq_ediv_of_nonneg _ (by omega)]; omega
  rw [e1, e2, e3, e4, i64_wrap (by omega) (by omega)]
def Rises (l : List Cn) : Prop := l.Pairwise fun x y => ky x.1 < ky y.1
def isB (e : Cn) (x : Cn) : Bool := !(x.1.toList == e.1.toList)
def insS : List Cn → Cn → List Cn
  | [], e => [e]
  | x :: l, e => bif Op.bytesLess x.1.toList e.1.toList then x :: insS l e else e :: (x :: l).filter (isB e)
theorem guardE {p : Prop} [Decidable p] {α : Type} {a : α} (h : p) : (bif decide p then some a else none) = some a := by rw [decide_eq_true h]; rfl
theorem isB_iff (e x : Cn) : isB e x = true ↔ x.1 ≠ e.1 := by
  unfold isB; rw [eq_ky]; simp
theorem isB_less {e x : Cn} (h : Op.bytesLess x.1.toList e.1.toList = true) : (x.1.toList == e.1.toList) = false := by
  rw [less_ky] at h
  rw [eq_ky, decide_eq_false_iff_not]
  intro e'
  rw [e'] at h
  exact lt_irr _ (of_decide_eq_true h)
def docR (e : Cn) (b : Bool) (l : List Cn) : List Cn := bif b then l.filter (isB e) else insS l e
theorem p62_is (l : List Cn) (c : ByteArray) (f : Int) (hl : l.length ≤ 2097152) (hf : 4194304 < fu) : p62 fu (l, (c, f, ()), ()) = some ((), insS l (c, f)) := by
  unfold p62
  refine (loopO_eq (I := fun s => ∃ (h : List Cn) (i : Bool) (j : Nat), s = ((h, i, (j : Int), ()), ()) ∧ j ≤ l.length ∧ h.length ≤ j + (bif i then 1 else 0)) (m := fun s => l.length + 1 - Int.toNat s.1.2.2.1) (g := fun s => ((), s.1.1 ++ docR (c, f) s.1.2.1 (l.drop (Int.toNat s.1.2.2.1)))) (fun s hs => ?_) fu _ ⟨[], false, 0, rfl, Nat.zero_le _, Nat.zero_le _⟩ (by show l.length + 1 - 0 < fu; omega)).trans (by simp [docR])
  obtain ⟨h, i, j, rfl, h1, h2'⟩ := hs
  have h2 : h.length ≤ j + 1 := Nat.le_trans h2' (by cases i <;> simp)
  by_cases hj : j < l.length
  · refine .inl ?_
    have hg : ∀ d, l.getD j d = l[j] := fun d => getD_lt hj
    have hm : ∀ x : Cn, h.length + [x].length ≤ maxLen ∧ (h.length + [x].length) * 24 ≤ 140737488355328 := fun x => ⟨by unfold maxLen; simp only [List.length_singleton]; omega, by simp only [List.length_singleton]; omega⟩
    have hm2 : ∀ x y : Cn, (h ++ [y]).length + [x].length ≤ maxLen ∧ ((h ++ [y]).length + [x].length) * 24 ≤ 140737488355328 := fun x y => ⟨by unfold maxLen; simp only [List.length_append, List.length_singleton]; omega, by simp only [List.length_append, List.length_singleton]; omega⟩
    simp only [Int.ofNat_lt, Int.natCast_nonneg, hj, decide_true, cond_true, and_self, Int.toNat_natCast, hg, i64_succ hj (by omega), hm, List.drop_eq_getElem_cons hj]
    cases hb : Op.bytesLess l[j].1.toList c.toList with
    | true =>
      have he : (l[j].1.toList == c.toList) = false := isB_less (e := (c, f)) hb
      simp only [Bool.not_true, cond_false, orK_inl, he, Bool.not_false, cond_true]
      refine ⟨_, guardE ⟨by unfold maxLen; simp only [List.length_singleton]; omega, by simp only [List.length_singleton]; omega⟩, ⟨_, _, j + 1, rfl, hj, by simp only [List.length_append, List.length_singleton] at h2' ⊢; omega⟩, by simp only [Int.toNat_natCast]; omega, ?_⟩
      have hk : isB (c, f) l[j] = true := by unfold isB; simp only [he, Bool.not_false]
      cases i
      · simp only [docR, cond_false, Int.toNat_natCast, insS, hb, cond_true, List.append_assoc, List.singleton_append]
      · simp only [docR, cond_true, Int.toNat_natCast, List.filter_cons, hk, if_true, List.append_assoc, List.singleton_append]
    | false =>
      cases i
      · simp only [Bool.not_false, cond_true, orK_inl]
        cases he : (l[j].1.toList == c.toList) with
        | true =>
          simp only [Bool.not_true, cond_false]
          refine ⟨_, rfl, ⟨_, _, j + 1, rfl, hj, by simp only [List.length_append, List.length_singleton, cond_true, cond_false] at h2' ⊢; omega⟩, by simp only [Int.toNat_natCast]; omega, ?_⟩
          have hk : isB (c, f) l[j] = false := by unfold isB; simp only [he, Bool.not_true]
          simp only [docR, cond_false, cond_true, Int.toNat_natCast, insS, hb, List.append_assoc, List.singleton_append, List.filter_cons, hk, Bool.false_eq_true, if_false]
        | false =>
          simp only [Bool.not_false, cond_true]
          refine ⟨_, guardE ⟨by unfold maxLen; simp only [List.length_append, List.length_singleton]; omega, by simp only [List.length_append, List.length_singleton]; omega⟩, ⟨_, _, j + 1, rfl, hj, by simp only [List.length_append, List.length_singleton, cond_true, cond_false] at h2' ⊢; omega⟩, by simp only [Int.toNat_natCast]; omega, ?_⟩
          have hk : isB (c, f) l[j] = true := by unfold isB; simp only [he, Bool.not_false]
          simp only [docR, cond_false, cond_true, Int.toNat_natCast, insS, hb, List.append_assoc, List.cons_append, List.nil_append, List.filter_cons, hk, if_true]
      · simp only [Bool.not_false, Bool.not_true, cond_true, cond_false, orK_inl]
        cases he : (l[j].1.toList == c.toList) with
        | true =>
          simp only [Bool.not_true, cond_false]
          refine ⟨_, rfl, ⟨_, _, j + 1, rfl, hj, by simp only [cond_true] at h2' ⊢; omega⟩, by simp only [Int.toNat_natCast]; omega, ?_⟩
          have hk : isB (c, f) l[j] = false := by unfold isB; simp only [he, Bool.not_true]
          simp only [docR, cond_true, Int.toNat_natCast, List.filter_cons, hk, Bool.false_eq_true, if_false]
        | false =>
          simp only [Bool.not_false, cond_true]
          refine ⟨_, guardE ⟨by unfold maxLen; simp only [List.length_singleton]; omega, by simp only [List.length_singleton]; omega⟩, ⟨_, _, j + 1, rfl, hj, by simp only [List.length_append, List.length_singleton, cond_true] at h2' ⊢; omega⟩, by simp only [Int.toNat_natCast]; omega, ?_⟩
          have hk : isB (c, f) l[j] = true := by unfold isB; simp only [he, Bool.not_false]
          simp only [docR, cond_true, Int.toNat_natCast, List.append_assoc, List.singleton_append, List.filter_cons, hk, if_true]
  · refine .inr ?_
    obtain rfl : j = l.length := by omega
    have hm : h.length + [(c, f)].length ≤ maxLen ∧ (h.length + [(c, f)].length) * 24 ≤ 140737488355328 := ⟨by unfold maxLen; simp only [List.length_singleton]; omega, by simp only [List.length_singleton]; omega⟩
    simp only [Int.ofNat_lt, Nat.lt_irrefl, decide_false, cond_false, Int.toNat_natCast, List.drop_length, hm, and_self, decide_true, cond_true]
    cases i
    · rfl
    · simp only [Bool.not_true, cond_false, docR, cond_true, List.filter_nil, List.append_nil]; rfl
/-! ### By halves -/
theorem copyL_all {α : Type} (l : List α) (d : α) : copyL (List.replicate l.length d) 0 l.length l = l := by
  simp [copyL]
theorem p72_is (l : List Cn) (hl : l.length ≤ 2097152) : p72 fu (l, ()) = some ((), l) := by
  unfold p72
  cases l with
  | nil => rfl
  | cons a l =>
    have h0 : (((a :: l).length : Int) == 0) = false := by simp; omega
    have h1 : (0 : Int) ≤ ((a :: l).length : Int) ∧ ((a :: l).length : Int) ≤ ((a :: l).length : Int) ∧ ((a :: l).length : Int) ≤ 9223372036854775807 ∧ (24 : Int) * ((a :: l).length : Int) ≤ 140737488355328 := by omega
    simp only [h0, cond_false, h1, and_self, decide_true, cond_true, Int.toNat_natCast, List.length_replicate, copyL_all]
theorem p55_is (a c : ByteArray) (x y : Int) : p55 fu ((a, x, ()), (c, y, ()), ()) = some ((), cmpI a c) := rfl
/-- Where it stands, or would stand. -/
def At (l : List Cn) (c : ByteArray) (n : Nat) : Prop := n ≤ l.length ∧ (∀ k (h : k < l.length), k < n → ky l[k].1 < ky c) ∧ ∀ k (h : k < l.length), n ≤ k → ¬ ky l[k].1 < ky c
theorem at_some (c : ByteArray) : ∀ l : List Cn, Rises l → ∃ n, At l c n
  | [], _ => ⟨0, Nat.le_refl _, fun k h => absurd h (Nat.not_lt_zero _), fun k h => absurd h (Nat.not_lt_zero _)⟩
  | x :: l, hr => by
    obtain ⟨hx, hr'⟩ := List.pairwise_cons.1 hr
    by_cases h : ky x.1 < ky c
    · obtain ⟨n, h1, h2, h3⟩ := at_some c l hr'
      refine ⟨n + 1, Nat.succ_le_succ h1, fun k hk hn => ?_, fun k hk hn => ?_⟩
      · cases k with
        | zero => exact h
        | succ k => exact h2 k (Nat.lt_of_succ_lt_succ hk) (by omega)
      · cases k with
        | zero => omega
        | succ k => exact h3 k (Nat.lt_of_succ_lt_succ hk) (by omega)
    · refine ⟨0, Nat.zero_le _, fun k hk hn => absurd hn (Nat.not_lt_zero _), fun k hk _ => ?_⟩
      cases k with
      | zero => exact h
      | succ k => exact fun g => h (lt_lt (hx _ (List.getElem_mem (Nat.lt_of_succ_lt_succ hk))) g)
theorem p71_is (l : List Cn) (c : ByteArray) (f : Int) (n : Nat) (hl : l.length ≤ 2097152) (hf : 4194304 < fu) (ha : At l c n) :
    p71 fu (l, (c, f, ()), ((), ()), ()) = some ((), (n : Int), (if h : n < l.length then decide (l[n].1 = c) else false), ()) := by
  obtain ⟨hn, ha1, ha2⟩ := ha
  unfold p71
  refine loop_val (I := fun s => ∃ h i : Nat, s = (((h : Int), (i : Int), ()), ()) ∧ h ≤ n ∧ n ≤ i ∧ i ≤ l.length) (m := fun s => Int.toNat s.1.2.1 - Int.toNat s.1.1) ⟨0, l.length, rfl, Nat.zero_le _, hn, Nat.le_refl _⟩ (by simp only [Int.toNat_natCast]; omega) fun s hs => ?_
  obtain ⟨h, i, rfl, h1, h2, h3⟩ := hs
  by_cases hlt : h < i
  · have hm : (h + i) / 2 < l.length := by omega
    have hg : ∀ d, l.getD ((h + i) / 2) d = l[(h + i) / 2] := fun d => getD_lt hm
    simp only [mid_is (lo := h) (hi := i) (by omega), Int.ofNat_lt, hlt, Int.natCast_nonneg, hm, decide_true, cond_true, and_self, Int.toNat_natCast, hg, p55_is, bind_val, cmpI_ky]
    by_cases hc : ky l[(h + i) / 2].1 < ky c
    · simp only [hc, if_true, show decide ((-1 : Int) < 0) = true from rfl, cond_true, i64_succ hm (by omega)]
      refine ⟨_, rfl, ⟨_, _, rfl, ?_, h2, h3⟩, by simp only [Int.toNat_natCast]; omega⟩
      rcases Nat.lt_or_ge ((h + i) / 2) n with g | g
      · exact g
      · exact absurd hc (ha2 _ hm g)
    · have hz : decide ((if ky c < ky l[(h + i) / 2].1 then (1 : Int) else 0) < 0) = false := by split <;> rfl
      simp only [hc, if_false, hz, cond_false]
      refine ⟨_, rfl, ⟨_, _, rfl, h1, ?_, by omega⟩, by simp only [Int.toNat_natCast]; omega⟩
      rcases Nat.lt_or_ge ((h + i) / 2) n with g | g
      · exact absurd (ha1 _ hm g) hc
      · exact g
  · obtain rfl : h = n := by omega
    simp only [Int.ofNat_lt, hlt, decide_false, cond_false]
    by_cases hm : h < l.length
    · have hg : ∀ d, l.getD h d = l[h] := fun d => getD_lt hm
      simp only [hm, Int.natCast_nonneg, decide_true, cond_true, and_self, Int.toNat_natCast, hg, p55_is, bind_val, cmpI_ky, ha2 _ hm (Nat.le_refl _), if_false, dite_true]
      refine ⟨_, rfl, ?_⟩
      have : ((if ky c < ky l[h].1 then (1 : Int) else 0) == 0) = decide (l[h].1 = c) := by
        by_cases hx : ky c < ky l[h].1
        · have : ¬ l[h].1 = c := fun e => lt_irr _ (e ▸ hx)
          simp [hx, this]
        · have : l[h].1 = c := ky_inj (both_not (ha2 _ hm (Nat.le_refl _)) hx)
          simp [this]
      rw [this]
    · simp only [hm, decide_false, cond_false, dite_false]
      exact ⟨_, rfl, rfl⟩
end
section
variable {fu : Nat}
theorem filter_all {l : List Cn} {e : Cn} (h : ∀ y ∈ l, y.1 ≠ e.1) : l.filter (isB e) = l := List.filter_eq_self.2 fun y hy => (isB_iff e y).2 (h y hy)
theorem ky_ne {a b : ByteArray} (h : ky a < ky b) : a ≠ b := fun e => lt_irr _ (e ▸ h)
theorem less_not {x e : Cn} (h : ¬ ky x.1 < ky e.1) : Op.bytesLess x.1.toList e.1.toList = false := by rw [less_ky, decide_eq_false h]
theorem less_yes {x e : Cn} (h : ky x.1 < ky e.1) : Op.bytesLess x.1.toList e.1.toList = true := by rw [less_ky, decide_eq_true h]
theorem insS_place (e : Cn) : ∀ (l : List Cn) (n : Nat), Rises l → At l e.1 n → insS l e = if h : n < l.length then (if l[n].1 = e.1 then l.set n e else l.take n ++ [e] ++ l.drop n) else l.take n ++ [e] ++ l.drop n
  | [], n, _, h => by
    obtain rfl : n = 0 := Nat.le_zero.1 h.1
    rfl
  | x :: l, 0, hr, h => by
    obtain ⟨hx, hr'⟩ := List.pairwise_cons.1 hr
    have h0 : ¬ ky x.1 < ky e.1 := h.2.2 0 (Nat.succ_pos _) (Nat.le_refl _)
    simp only [insS, less_not h0, cond_false, List.length_cons, Nat.succ_pos, dite_true, List.getElem_cons_zero, List.set_cons_zero, List.take_zero, List.nil_append, List.drop_zero, List.filter_cons]
    by_cases hq : x.1 = e.1
    · have hk : isB e x = false := by rw [← Bool.not_eq_true, isB_iff]; exact fun g => g hq
      simp only [hq, if_true, hk, Bool.false_eq_true, if_false]
      rw [filter_all fun y hy g => ky_ne (hx y hy) (hq.trans g.symm)]
    · have hk : isB e x = true := (isB_iff e x).2 hq
      have hlt : ky e.1 < ky x.1 := by
        rcases Classical.em (ky e.1 < ky x.1) with g | g
        · exact g
        · exact absurd (ky_inj (both_not h0 g)) hq
      simp only [hq, if_false, hk, if_true]
      rw [filter_all fun y hy g => ky_ne (lt_lt hlt (hx y hy)) g.symm]
      rfl
  | x :: l, n + 1, hr, h => by
    obtain ⟨hx, hr'⟩ := List.pairwise_cons.1 hr
    have h0 : ky x.1 < ky e.1 := h.2.1 0 (Nat.succ_pos _) (Nat.succ_pos _)
    have ha : At l e.1 n := ⟨Nat.le_of_succ_le_succ h.1, fun k hk hn => h.2.1 (k + 1) (Nat.succ_lt_succ hk) (Nat.succ_lt_succ hn), fun k hk hn => h.2.2 (k + 1) (Nat.succ_lt_succ hk) (Nat.succ_le_succ hn)⟩
    simp only [insS, less_yes h0, cond_true, insS_place e l n hr' ha, List.length_cons, Nat.add_lt_add_iff_right, List.getElem_cons_succ, List.set_cons_succ, List.take_succ_cons, List.drop_succ_cons, List.cons_append]
    split
    · split <;> rfl
    · rfl
theorem mem_insS {e y : Cn} : ∀ {l : List Cn}, y ∈ insS l e → y = e ∨ y ∈ l
  | [], h => .inl (List.mem_singleton.1 h)
  | x :: l, h => by
    unfold insS at h
    cases hb : Op.bytesLess x.1.toList e.1.toList with
    | true =>
      rw [hb, cond_true] at h
      rcases List.mem_cons.1 h with h | h
      · exact .inr (h ▸ List.mem_cons_self)
      · exact (mem_insS h).imp id (List.mem_cons_of_mem _)
    | false =>
      rw [hb, cond_false] at h
      exact (List.mem_cons.1 h).imp id fun h => (List.mem_filter.1 h).1
theorem len_insS (e : Cn) : ∀ l : List Cn, (insS l e).length ≤ l.length + 1
  | [] => Nat.le_refl _
  | x :: l => by
    unfold insS
    cases Op.bytesLess x.1.toList e.1.toList with
    | true => simpa using len_insS e l
    | false =>
      simp only [cond_false, List.length_cons]
      exact Nat.succ_le_succ (List.length_filter_le _ (x :: l))
theorem rises_insS {e : Cn} : ∀ {l : List Cn}, Rises l → Rises (insS l e)
  | [], _ => List.pairwise_singleton _ _
  | x :: l, hr => by
    obtain ⟨hx, hr'⟩ := List.pairwise_cons.1 hr
    unfold insS
    by_cases h0 : ky x.1 < ky e.1
    · rw [less_yes h0, cond_true]
      refine List.pairwise_cons.2 ⟨fun y hy => ?_, rises_insS hr'⟩
      rcases mem_insS hy with rfl | hy
      · exact h0
      · exact hx y hy
    · rw [less_not h0, cond_false]
      refine List.pairwise_cons.2 ⟨fun y hy => ?_, hr.sublist (List.filter_sublist)⟩
      obtain ⟨hm, hb⟩ := List.mem_filter.1 hy
      have hne := (isB_iff e y).1 hb
      have key : ∀ z : Cn, ¬ ky z.1 < ky e.1 → z.1 ≠ e.1 → ky e.1 < ky z.1 := fun z hz hn => by
        rcases Classical.em (ky e.1 < ky z.1) with g | g
        · exact g
        · exact absurd (ky_inj (both_not hz g)) hn
      refine key y (fun g => ?_) hne
      rcases List.mem_cons.1 hm with rfl | hm
      · exact h0 g
      · exact h0 (lt_lt (hx y hm) g)
theorem p54_is (l : List Cn) (c : ByteArray) (f : Int) (hr : Rises l) (hl : l.length ≤ 2097151) (hf : 4194304 < fu) : p54 fu (l, (c, f, ()), ((), ()), ()) = some ((), insS l (c, f)) := by
  obtain ⟨n, ha⟩ := at_some c l hr
  rw [insS_place (c, f) l n hr ha]
  have hn := ha.1
  unfold p54
  simp only [p71_is l c f n (by omega) hf ha, p72_is l (by omega), bind_val]
  have hins : pInsertC fu (l, (n : Int), [(c, f)], ()) = some (((), (), ()), l.take n ++ [(c, f)] ++ l.drop n) := by
    unfold pInsertC
    exact guardE ⟨Int.natCast_nonneg _, by simpa using hn, by simp, by simp only [List.length_singleton]; omega⟩
  by_cases h : n < l.length
  · by_cases hq : l[n].1 = c
    · simp only [h, hq, dite_true, decide_true, cond_true, if_true, Int.natCast_nonneg, Int.ofNat_lt, and_self, Int.toNat_natCast, List.length_set]
    · simp only [h, hq, dite_true, decide_false, cond_false, if_false, hins, bind_val, decide_true, cond_true]
  · simp only [h, dite_false, cond_false, hins, bind_val, decide_true, cond_true]
/-! ### Commit -/
theorem rises_adj : ∀ l : List Cn, (∀ i (h : i + 1 < l.length), ky (l[i]'(Nat.lt_of_succ_lt h)).1 < ky l[i + 1].1) → Rises l
  | [], _ => List.Pairwise.nil
  | [x], _ => List.pairwise_singleton _ _
  | x :: y :: l, h => by
    have h1 : Rises (y :: l) := rises_adj (y :: l) fun i hi => h (i + 1) (Nat.succ_lt_succ hi)
    have h2 : ky x.1 < ky y.1 := h 0 (Nat.succ_lt_succ (Nat.succ_pos _))
    refine List.pairwise_cons.2 ⟨fun z hz => ?_, h1⟩
    rcases List.mem_cons.1 hz with rfl | hz
    · exact h2
    · exact lt_lt h2 ((List.pairwise_cons.1 h1).1 z hz)
theorem okC_rises {l : List Cn} (h : okC l = true) : Rises l ∧ l.length ≤ 64 := by
  unfold okC at h
  cases hb : (List.range l.length).any (bad l) with
  | true => rw [hb] at h; exact absurd h Bool.false_ne_true
  | false =>
    rw [hb, cond_false] at h
    refine ⟨rises_adj l fun i hi => ?_, of_decide_eq_true h⟩
    have := List.any_eq_false.1 hb (i + 1) (List.mem_range.2 hi)
    unfold bad at this
    have g1 : ∀ d, l.getD (i + 1) d = l[i + 1] := fun d => getD_lt hi
    have g2 : ∀ d, l.getD i d = l[i]'(Nat.lt_of_succ_lt hi) := fun d => getD_lt _
    simp only [g1, g2, Nat.succ_pos, decide_true, cond_true, Nat.add_sub_cancel, less_ky] at this
    cases hn : nameB l[i + 1].1 with
    | false => rw [hn] at this; exact absurd rfl this
    | true =>
      rw [hn] at this
      simpa using this
theorem len_found (l : List Cn) (c : ByteArray) (f : Int) (hr : Rises l) : (insS l (c, f)).length = l.length + (bif (readC l c).2 then 0 else 1) := by
  obtain ⟨n, ha⟩ := at_some c l hr
  rw [insS_place (c, f) l n hr ha]
  have hn := ha.1
  have hfound : ∀ b : Bool, (readC l c).2 = b ↔ ((∃ k, ∃ h : k < l.length, l[k].1 = c) ↔ b = true) := by
    intro b
    unfold readC
    cases hx : l.find? fun x => x.1.toList == c.toList with
    | some x =>
      have h1 := List.find?_some hx
      rw [eq_ky, decide_eq_true_eq] at h1
      obtain ⟨k, hk, e⟩ := List.getElem_of_mem (List.mem_of_find?_eq_some hx)
      have : ∃ k, ∃ h : k < l.length, l[k].1 = c := ⟨k, hk, by rw [e]; exact h1⟩
      simp only [readO, this, true_iff]; exact eq_comm
    | none =>
      have : ¬ ∃ k, ∃ h : k < l.length, l[k].1 = c := by
        rintro ⟨k, hk, e⟩
        have := List.find?_eq_none.1 hx _ (List.getElem_mem hk)
        rw [eq_ky, e] at this
        exact this (decide_eq_true rfl)
      simp only [readO, this, false_iff, Bool.not_eq_true]; exact eq_comm
  by_cases h : n < l.length
  · by_cases hq : l[n].1 = c
    · rw [(hfound true).2 ⟨fun _ => rfl, fun _ => ⟨n, h, hq⟩⟩]
      simp only [h, hq, dite_true, if_true, List.length_set, cond_true, Nat.add_zero]
    · have : (readC l c).2 = false := (hfound false).2 ⟨fun ⟨k, hk, e⟩ => by
        exfalso
        rcases Nat.lt_trichotomy k n with g | rfl | g
        · exact ky_ne (ha.2.1 k hk g) e
        · exact hq e
        · exact ha.2.2 n h (Nat.le_refl _) (e ▸ List.pairwise_iff_getElem.1 hr n k h hk g), fun g => absurd g Bool.false_ne_true⟩
      rw [this]
      simp only [h, hq, dite_true, if_false, cond_false, List.length_append, List.length_take, List.length_drop, List.length_singleton]
      omega
  · have : (readC l c).2 = false := (hfound false).2 ⟨fun ⟨k, hk, e⟩ => absurd e (ky_ne (ha.2.1 k hk (by omega))), fun g => absurd g Bool.false_ne_true⟩
    rw [this]
    simp only [h, dite_false, cond_false, List.length_append, List.length_take, List.length_drop, List.length_singleton]
    omega
def commitS (l : List Cn) (c : ByteArray) (f h : Int) : List Cn × Int :=
  bif !okC l then ([], 1) else bif !nameB c then ([], 142) else bif decide (f > h) then ([], 141) else bif decide ((insS l (c, f)).length ≤ 64) then (insS l (c, f), 0) else ([], 143)
theorem p19_is (l : List Cn) (c : ByteArray) (f h : Int) (hl : okL l) (hc : c.size ≤ 1048576) (hf : 4194304 < fu) : p19 fu (l, (c, f, ()), h, ()) = some ((), (commitS l c f h).1, (commitS l c f h).2, ()) := by
  unfold p19 commitS
  simp only [p39_is l hl hf, p37_is c hc (fu := fu) (by omega), bind_val]
  cases ho : okC l
  · rfl
  cases nameB c
  · rfl
  simp only [Bool.not_true, cond_false]
  by_cases hh : f > h
  · simp only [hh, decide_true, cond_true]
  simp only [hh, decide_false, cond_false, p54_is l c f (okC_rises ho).1 (by have := (okC_rises ho).2; omega) hf, bind_val]
  by_cases h6 : (insS l (c, f)).length ≤ 64
  · have h7 : ((insS l (c, f)).length : Int) ≤ 64 := by omega
    simp only [h6, h7, decide_true, cond_true]
  · have h7 : ¬ ((insS l (c, f)).length : Int) ≤ 64 := by omega
    simp only [h6, h7, decide_false, cond_false]
theorem p31_is (l : List Cn) (c : ByteArray) (f h : Int) (hl : okL l) (hc : c.size ≤ 1048576) (hf : 4194304 < fu) : p31 fu (l, (c, f, ()), h, ()) = some ((), (commitS l c f h).1, (commitS l c f h).2, ()) := by
  have hn : l.length ≤ 2097152 := hl.1
  unfold p31 commitS
  simp only [p40_is l hl hf, p38_is c (fu := fu) (by omega), p34_is l c hn hf, p62_is l c f hn hf, bind_val]
  cases ho : okC l
  · rfl
  cases nameB c
  · rfl
  simp only [Bool.not_true, cond_false]
  by_cases hh : f > h
  · simp only [hh, decide_true, cond_true]; rfl
  simp only [hh, decide_false, cond_false]
  have hlen := len_found l c f (okC_rises ho).1
  have h6 := (okC_rises ho).2
  cases hr : (readC l c).2
  · rw [hr, cond_false] at hlen
    by_cases h7 : l.length ≥ 64
    · have h8 : (l.length : Int) ≥ 64 := by omega
      have h9 : ¬ (insS l (c, f)).length ≤ 64 := by omega
      simp only [h8, h9, Bool.not_false, cond_true, decide_true, decide_false, cond_false]; rfl
    · have h8 : ¬ (l.length : Int) ≥ 64 := by omega
      have h9 : (insS l (c, f)).length ≤ 64 := by omega
      simp only [h8, h9, Bool.not_false, cond_true, decide_true, decide_false, cond_false]; rfl
  · rw [hr, cond_true] at hlen
    have h9 : (insS l (c, f)).length ≤ 64 := by omega
    simp only [h9, Bool.not_true, cond_false, decide_true, cond_true]; rfl
end
section
variable {fu : Nat}
theorem u64_wrap {x : Int} (h1 : 0 ≤ x) (h2 : x < 18446744073709551616) : IntKind.wrap .u64 x = x := by
  show x % 18446744073709551616 = x
  omega
/-- An offset of 64 bits. -/
def isU (x : Int) : Prop := 0 ≤ x ∧ x < 18446744073709551616
def atS (o : List Int) (c : Int) : Int := o.getD (min (Int.toNat c) (o.length - 1)) 0
theorem p52_is (o : List Int) (c : Int) (ho : 0 < o.length) (hl : o.length ≤ 2097152) (hc : isU c) : p52 fu (o, c, ()) = some ((), atS o c) := by
  obtain ⟨c1, c2⟩ := hc
  unfold p52 atS
  have e1 : IntKind.wrap .u64 (IntKind.wrap .i64 ((o.length : Int) - 1)) = ((o.length - 1 : Nat) : Int) := by
    rw [i64_pred ho (by omega), u64_wrap (by omega) (by omega)]
  have e2 : (if ((o.length - 1 : Nat) : Int) < c then ((o.length - 1 : Nat) : Int) else c) = ((min (Int.toNat c) (o.length - 1) : Nat) : Int) := by split <;> omega
  have hlt : min (Int.toNat c) (o.length - 1) < o.length := by omega
  simp only [e1, e2, Int.natCast_nonneg, Int.ofNat_lt, hlt, and_self, decide_true, cond_true, Int.toNat_natCast, getD_lt hlt]
theorem p63_is (o : List Int) (c : Int) (ho : 0 < o.length) (hl : o.length ≤ 2097152) (hc : isU c) : p63 fu (o, c, ()) = some ((), atS o c) := by
  obtain ⟨c1, c2⟩ := hc
  unfold p63 atS
  have e1 : IntKind.wrap .u64 (o.length : Int) = (o.length : Int) := u64_wrap (by omega) (by omega)
  have e3 : IntKind.wrap .i64 ((o.length : Int) - 1) = ((o.length - 1 : Nat) : Int) := i64_pred ho (by omega)
  have hlt : min (Int.toNat c) (o.length - 1) < o.length := by omega
  simp only [e1, e3]
  by_cases h : c ≥ (o.length : Int)
  · have e : min (Int.toNat c) (o.length - 1) = o.length - 1 := by omega
    have h' : o.length - 1 < o.length := by omega
    rw [e]
    simp only [h, decide_true, cond_true, Int.natCast_nonneg, Int.ofNat_lt, h', and_self, Int.toNat_natCast, getD_lt h']
  · have e : min (Int.toNat c) (o.length - 1) = Int.toNat c := by omega
    have e4 : IntKind.wrap .i64 c = ((Int.toNat c : Nat) : Int) := by rw [i64_wrap (by omega) (by omega)]; omega
    have h' : Int.toNat c < o.length := by omega
    rw [e]
    simp only [h, decide_false, cond_false, e4, Int.natCast_nonneg, Int.ofNat_lt, h', and_self, Int.toNat_natCast, getD_lt h', decide_true, cond_true]
/-! ### Map -/
def mvC (o : List Int) (x : Cn) : Cn := (x.1, atS o x.2)
def mapS (l : List Cn) (o : List Int) : List Cn := bif decide (0 < o.length) then l.map (mvC o) else []
theorem okL_u {l : List Cn} (h : okL l) {i : Nat} (hi : i < l.length) : isU l[i].2 := (h.2 _ (List.getElem_mem hi)).2
theorem take_set_succ {α : Type} (l : List α) (i : Nat) (x : α) (h : i < l.length) : (l.set i x).take (i + 1) = l.take i ++ [x] := by
  rw [List.take_succ_eq_append_getElem (by simpa using h), List.getElem_set_self, List.take_set_of_le (Nat.le_refl _)]
theorem p68_is (l : List Cn) (o : List Int) (ho : 0 < o.length) (hl : okL l) (hol : o.length ≤ 2097152) (hf : 4194304 < fu) :
    p68 fu (l, ((), ((((o, ()), ()), ()), ())), ()) = some (((((o, ()), ()), ()), ()), l.map (mvC o)) := by
  have hn : l.length ≤ 2097152 := hl.1
  unfold p68
  cases hz : ((l.length : Int) == 0) with
  | true =>
    have : l = [] := List.length_eq_zero_iff.1 (by have := beq_iff_eq.1 hz; omega)
    subst this
    rfl
  | false =>
  have h1 : (0 : Int) ≤ (l.length : Int) ∧ (l.length : Int) ≤ (l.length : Int) ∧ (l.length : Int) ≤ 9223372036854775807 ∧ (24 : Int) * (l.length : Int) ≤ 140737488355328 := by omega
  simp only [hz, cond_false, h1, and_self, decide_true, cond_true, Int.toNat_natCast, List.length_replicate]
  refine (loopO_eq (I := fun s => ∃ (f : List Cn) (i : Nat), s = ((f, (i : Int), ()), ((((o, ()), ()), ()), ())) ∧ i ≤ l.length ∧ f.length = l.length) (m := fun s => l.length - Int.toNat s.1.2.1) (g := fun s => (((((o, ()), ()), ()), ()), s.1.1.take (Int.toNat s.1.2.1) ++ (l.drop (Int.toNat s.1.2.1)).map (mvC o))) (fun s hs => ?_) fu _ ⟨_, 0, rfl, Nat.zero_le _, List.length_replicate⟩ (by show l.length - 0 < fu; omega)).trans (show _ = some (((((o, ()), ()), ()), ()), l.map (mvC o)) by simp)
  obtain ⟨f, i, rfl, h2, h3⟩ := hs
  by_cases h : i < l.length
  · refine .inl ?_
    have hg : ∀ d, l.getD i d = l[i] := fun d => getD_lt h
    have h' : i < f.length := by omega
    have e69 : p69 fu ((l[i].1, l[i].2, ()), ((((o, ()), ()), ()), ())) = some (((((o, ()), ()), ()), ()), (l[i].1, atS o l[i].2, ())) := by
      unfold p69
      simp only [p52_is o _ ho hol (okL_u hl h), bind_val]
    simp only [Int.ofNat_lt, Int.natCast_nonneg, h, h', decide_true, cond_true, and_self, Int.toNat_natCast, hg, e69, bind_val, i64_succ h (by omega), List.length_set]
    refine ⟨_, rfl, ⟨_, i + 1, rfl, h, by rw [List.length_set]; exact h3⟩, by simp only [Int.toNat_natCast]; omega, ?_⟩
    simp only [Int.toNat_natCast, take_set_succ f i _ h', List.drop_eq_getElem_cons h, List.map_cons, List.append_assoc, List.singleton_append]
    rfl
  · refine .inr ?_
    obtain rfl : i = l.length := by omega
    simp only [Int.ofNat_lt, Nat.lt_irrefl, decide_false, cond_false, Int.toNat_natCast, List.drop_length, List.map_nil, List.append_nil]
    rw [← h3, List.take_length]
    rfl
theorem p15_is (l : List Cn) (o : List Int) (hl : okL l) (hol : o.length ≤ 2097152) (hf : 4194304 < fu) : p15 fu (l, o, ()) = some ((), mapS l o) := by
  unfold p15 mapS
  by_cases h : 0 < o.length
  · have h0 : ((o.length : Int) == 0) = false := beq_eq_false_iff_ne.2 (by omega)
    simp only [h0, cond_false, p51, p68_is l o h hl hol hf, bind_val, h, decide_true, cond_true]
  · have h0 : ((o.length : Int) == 0) = true := beq_iff_eq.2 (by omega)
    simp only [h0, cond_true, h, decide_false, cond_false]
theorem p35_is (l : List Cn) (o : List Int) (hl : okL l) (hol : o.length ≤ 2097152) (hf : 4194304 < fu) : p35 fu (l, o, ()) = some ((), mapS l o) := by
  have hn : l.length ≤ 2097152 := hl.1
  unfold p35 mapS
  by_cases ho : 0 < o.length
  · refine (loopO_eq (I := fun s => ∃ (f : List Cn) (i : Nat), s = ((f, (i : Int), ()), ()) ∧ i ≤ l.length ∧ f.length = i) (m := fun s => l.length - Int.toNat s.1.2.1) (g := fun s => ((), s.1.1 ++ (l.drop (Int.toNat s.1.2.1)).map (mvC o))) (fun s hs => ?_) fu _ ⟨[], 0, rfl, Nat.zero_le _, rfl⟩ (by show l.length - 0 < fu; omega)).trans (by simp [ho])
    obtain ⟨f, i, rfl, h2, h3⟩ := hs
    have ho' : (o.length : Int) > 0 := by omega
    by_cases h : i < l.length
    · refine .inl ?_
      have hg : ∀ d, l.getD i d = l[i] := fun d => getD_lt h
      simp only [Int.ofNat_lt, Int.natCast_nonneg, h, ho', decide_true, cond_true, and_self, Int.toNat_natCast, hg, p63_is o _ ho hol (okL_u hl h), bind_val, i64_succ h (by omega)]
      refine ⟨_, guardE ⟨by unfold maxLen; simp only [List.length_singleton]; omega, by simp only [List.length_singleton]; omega⟩, ⟨_, i + 1, rfl, h, by rw [List.length_append, h3]; rfl⟩, by simp only [Int.toNat_natCast]; omega, ?_⟩
      simp only [Int.toNat_natCast, List.drop_eq_getElem_cons h, List.map_cons, List.append_assoc, List.singleton_append]
      rfl
    · refine .inr ?_
      obtain rfl : i = l.length := by omega
      simp only [Int.ofNat_lt, Nat.lt_irrefl, decide_false, cond_false, decide_true, cond_true, Int.toNat_natCast, List.drop_length, List.map_nil, List.append_nil]
      rfl
  · have ho' : ¬ (o.length : Int) > 0 := by omega
    refine (loopO_eq (I := fun s => s = (([], 0, ()), ())) (m := fun s => 0) (g := fun s => ((), [])) (fun s hs => ?_) fu _ rfl (by omega)).trans (by simp [ho])
    subst hs
    refine .inr ?_
    simp only [ho', decide_false, cond_false, decide_true, cond_true]
    cases decide ((0 : Int) < (l.length : Int)) <;> rfl
end
section
variable {fu : Nat}
theorem read_u {l : List Cn} (h : okL l) (c : ByteArray) : isU (readC l c).1 := by
  unfold readC
  cases hx : l.find? fun x => x.1.toList == c.toList with
  | some x => exact (h.2 x (List.mem_of_find?_eq_some hx)).2
  | none => exact ⟨Int.le_refl _, by decide⟩
def minI (a b : Int) : Int := if b < a then b else a
def stepB (a b : List Cn) (f h : List Int) (l : List Cn) (x : Cn) : List Cn := insS l (x.1, minI (atS f (readC a x.1).1) (atS h (readC b x.1).1))
def foldB (a b : List Cn) (f h : List Int) : List Cn := (a ++ b).foldl (stepB a b f h) []
def finB (l : List Cn) : List Cn × Int := bif decide (l.length > 64) then ([], 143) else (l, 0)
def bothS (a b : List Cn) (f h : List Int) : List Cn × Int :=
  bif !okC a then ([], 1) else bif !okC b then ([], 1) else bif decide (0 < f.length) then (bif decide (0 < h.length) then finB (foldB a b f h) else ([], 1)) else ([], 1)
theorem p70_is (n : Nat) (hn : n ≤ 2097152) : p70 fu ((), (n : Int), ()) = some ((), []) := by
  unfold p70
  have e0 : IntKind.wrap .i64 ((n : Int) - 0) = (n : Int) := by rw [Int.sub_zero, i64_wrap (by omega) (by omega)]
  have h0 : ¬ (n : Int) < 0 := by omega
  simp only [e0, h0, decide_false, cond_false]
  by_cases h : (n : Int) > 0
  · have h1 : (0 : Int) < (n : Int) ∧ (n : Int) * 24 ≤ 140737488355328 ∧ (n : Int) ≤ 9223372036854775807 := by omega
    simp only [h, h1, and_self, Nat.le_refl, Nat.zero_le, decide_true, cond_true, List.take_zero, List.length_nil]
  · simp only [h, decide_false, cond_false]
theorem p53_is (a b : List Cn) (ha : a.length ≤ 64) (hb : b.length ≤ 64) (hf : 4194304 < fu) : p53 fu ([a, b], ()) = some ((), a ++ b) := by
  have hx : ∀ x ∈ [a, b], x.length ≤ 64 := by simp [ha, hb]
  have hn : [a, b].length = 2 := rfl
  generalize hll : [a, b] = ll at hx hn
  have he : ll.foldl (fun u x => u ++ x) [] = a ++ b := by subst hll; simp
  clear hll
  unfold p53
  refine loop_fold ll (fun i (c : Int) => ((c, (i : Int), ()), ())) (fun c x => c + (x.length : Int)) (fun _ => ((), a ++ b)) 0 (fun i c => 0 ≤ c ∧ c ≤ 64 * (i : Int)) ⟨Int.le_refl _, Int.le_refl _⟩ (by omega) (fun i hi c hc => ?_) (fun c hc => ?_) rfl
  · have hg : ∀ d, ll.getD i d = ll[i] := fun d => getD_lt hi
    have hl := hx _ (List.getElem_mem hi)
    have e1 : IntKind.wrap .i64 (c + (ll[i].length : Int)) = c + (ll[i].length : Int) := i64_wrap (by omega) (by omega)
    have e2 : ¬ c + (ll[i].length : Int) < 0 := by omega
    refine ⟨?_, by omega, by omega⟩
    simp only [Int.ofNat_lt, Int.natCast_nonneg, hi, decide_true, cond_true, and_self, Int.toNat_natCast, hg, e1, e2, decide_false, cond_false, i64_succ hi (by omega)]
  · obtain ⟨n, rfl⟩ : ∃ n : Nat, c = (n : Int) := ⟨Int.toNat c, by omega⟩
    simp only [Int.ofNat_lt, Nat.lt_irrefl, decide_false, cond_false, p70_is n (show n ≤ 2097152 by omega), bind_val, decide_true, cond_true]
    have : ∀ (o : Option (Unit × List Cn)) (r : Unit × List Cn), o = some r → inrO (E := ((Int × Int × Unit) × Unit)) o = some (.inr r) := fun o r h => by rw [h]; rfl
    refine this _ _ ?_
    refine loop_fold ll (fun i (u : List Cn) => ((u, (i : Int), ()), ())) (fun u x => u ++ x) (fun u => ((), u)) [] (fun i u => u.length ≤ 64 * i) (Nat.le_refl _) (by omega) (fun i hi u hu => ?_) (fun u hu => ?_) (by rw [he])
    · have hg : ∀ d, ll.getD i d = ll[i] := fun d => getD_lt hi
      have hl := hx _ (List.getElem_mem hi)
      refine ⟨?_, by rw [List.length_append]; omega⟩
      simp only [Int.ofNat_lt, Int.natCast_nonneg, hi, decide_true, cond_true, and_self, Int.toNat_natCast, hg, i64_succ hi (by omega)]
      exact guardE ⟨by unfold maxLen; omega, by omega⟩
    · simp only [Int.ofNat_lt, Nat.lt_irrefl, decide_false, cond_false]; rfl
theorem p16_is (a b : List Cn) (f h : List Int) (ha : okL a) (hb : okL b) (hlf : f.length ≤ 2097152) (hlh : h.length ≤ 2097152) (hf : 4194304 < fu) : p16 fu (a, b, f, h, ()) = some ((), (bothS a b f h).1, (bothS a b f h).2, ()) := by
  unfold p16 bothS
  simp only [p39_is a ha hf, p39_is b hb hf, bind_val]
  cases hoa : okC a
  · rfl
  cases hob : okC b
  · rfl
  have la := (okC_rises hoa).2
  have lb := (okC_rises hob).2
  rcases Nat.eq_zero_or_pos f.length with h0' | h0
  · have h0 : ¬ 0 < f.length := by omega
    have h1 : ((f.length : Int) == 0) = true := beq_iff_eq.2 (by omega)
    simp only [h0, h1, Bool.not_true, cond_false, cond_true, decide_false]
  rcases Nat.eq_zero_or_pos h.length with h2' | h2
  · have h2 : ¬ 0 < h.length := by omega
    have h1 : ((f.length : Int) == 0) = false := beq_eq_false_iff_ne.2 (by omega)
    have h3 : ((h.length : Int) == 0) = true := beq_iff_eq.2 (by omega)
    simp only [h0, h1, h2, h3, Bool.not_true, cond_false, cond_true, decide_false, decide_true]
  have h1 : ((f.length : Int) == 0) = false := beq_eq_false_iff_ne.2 (by omega)
  have h3 : ((h.length : Int) == 0) = false := beq_eq_false_iff_ne.2 (by omega)
  simp only [h0, h1, h2, h3, Bool.not_true, cond_false, cond_true, decide_true, p53_is a b la lb hf, bind_val]
  refine loop_fold (a ++ b) (fun i l => ((l, (i : Int), ()), ())) (stepB a b f h) (fun l => ((), (finB l).1, (finB l).2, ())) [] (fun i l => Rises l ∧ l.length ≤ i) ⟨List.Pairwise.nil, Nat.le_refl _⟩ (by simp only [List.length_append]; omega) (fun i hi l hl => ?_) (fun l hl => ?_) rfl
  · obtain ⟨hr, hll⟩ := hl
    have hi' : i < a.length + b.length := by simpa using hi
    have hg : ∀ d, (a ++ b).getD i d = (a ++ b)[i] := fun d => getD_lt hi
    refine ⟨?_, rises_insS hr, Nat.le_trans (len_insS _ _) (Nat.succ_le_succ hll)⟩
    simp only [Int.ofNat_lt, Int.natCast_nonneg, hi, decide_true, cond_true, and_self, Int.toNat_natCast, hg, p33_is a _ (show a.length ≤ 2097152 by omega) hf, p33_is b _ (show b.length ≤ 2097152 by omega) hf, bind_val, p52_is f _ h0 hlf (read_u ha _), p52_is h _ h2 hlh (read_u hb _), p54_is l _ _ hr (show l.length ≤ 2097151 by omega) hf, i64_succ hi' (by omega)]
    rfl
  · simp only [Int.ofNat_lt, Nat.lt_irrefl, decide_false, cond_false, finB]
    by_cases h6 : l.length > 64
    · have h7 : (l.length : Int) > 64 := by omega
      simp only [h6, h7, decide_true, cond_true]; rfl
    · have h7 : ¬ (l.length : Int) > 64 := by omega
      simp only [h6, h7, decide_false, cond_false]; rfl
theorem p36_is (a b : List Cn) (f h : List Int) (ha : okL a) (hb : okL b) (hlf : f.length ≤ 2097152) (hlh : h.length ≤ 2097152) (hf : 4194304 < fu) : p36 fu (a, b, f, h, ()) = some ((), (bothS a b f h).1, (bothS a b f h).2, ()) := by
  unfold p36 bothS
  simp only [p40_is a ha hf, p40_is b hb hf, bind_val]
  cases hoa : okC a
  · rfl
  cases hob : okC b
  · rfl
  have la := (okC_rises hoa).2
  have lb := (okC_rises hob).2
  have g1 : a.length ≤ maxLen ∧ a.length * 24 ≤ 140737488355328 := ⟨by unfold maxLen; omega, by omega⟩
  have g2 : a.length + b.length ≤ maxLen ∧ (a.length + b.length) * 24 ≤ 140737488355328 := ⟨by unfold maxLen; omega, by omega⟩
  rcases Nat.eq_zero_or_pos f.length with h0' | h0
  · have h0 : ¬ 0 < f.length := by omega
    have h1 : ((f.length : Int) == 0) = true := beq_iff_eq.2 (by omega)
    simp only [h0, h1, Bool.not_true, cond_false, cond_true, decide_false]
  rcases Nat.eq_zero_or_pos h.length with h2' | h2
  · have h2 : ¬ 0 < h.length := by omega
    have h1 : ((f.length : Int) == 0) = false := beq_eq_false_iff_ne.2 (by omega)
    have h3 : ((h.length : Int) == 0) = true := beq_iff_eq.2 (by omega)
    simp only [h0, h1, h2, h3, Bool.not_true, cond_false, cond_true, decide_false, decide_true]
  have h1 : ((f.length : Int) == 0) = false := beq_eq_false_iff_ne.2 (by omega)
  have h3 : ((h.length : Int) == 0) = false := beq_eq_false_iff_ne.2 (by omega)
  simp only [h0, h1, h2, h3, Bool.not_true, cond_false, cond_true, decide_true, Nat.zero_add, List.nil_append, List.length_nil, g1, g2, and_self]
  refine loop_fold (a ++ b) (fun i l => ((l, (i : Int), ()), ())) (stepB a b f h) (fun l => ((), (finB l).1, (finB l).2, ())) [] (fun i l => Rises l ∧ l.length ≤ i) ⟨List.Pairwise.nil, Nat.le_refl _⟩ (by simp only [List.length_append]; omega) (fun i hi l hl => ?_) (fun l hl => ?_) rfl
  · obtain ⟨hr, hll⟩ := hl
    have hi' : i < a.length + b.length := by simpa using hi
    have hg : ∀ d, (a ++ b).getD i d = (a ++ b)[i] := fun d => getD_lt hi
    refine ⟨?_, rises_insS hr, Nat.le_trans (len_insS _ _) (Nat.succ_le_succ hll)⟩
    simp only [Int.ofNat_lt, Int.natCast_nonneg, hi, decide_true, cond_true, and_self, Int.toNat_natCast, hg, p34_is a _ (show a.length ≤ 2097152 by omega) hf, p34_is b _ (show b.length ≤ 2097152 by omega) hf, bind_val, p63_is f _ h0 hlf (read_u ha _), p63_is h _ h2 hlh (read_u hb _), p62_is l _ _ (show l.length ≤ 2097152 by omega) hf, i64_succ hi' (by omega)]
    rfl
  · simp only [Int.ofNat_lt, Nat.lt_irrefl, decide_false, cond_false, finB]
    by_cases h6 : l.length > 64
    · have h7 : (l.length : Int) > 64 := by omega
      simp only [h6, h7, decide_true, cond_true]; rfl
    · have h7 : ¬ (l.length : Int) > 64 := by omega
      simp only [h6, h7, decide_false, cond_false]; rfl
end
section
variable {fu : Nat}
theorem inK_u64 {x : Int} (h : inK .u64 x) : 0 ≤ x ∧ x < 18446744073709551616 := by
  have h1 : (0 : Int) ≤ x := h.1
  have h2 : x ≤ 18446744073709551615 := h.2
  omega
theorem lenOk14 {α : Type} {l : List α} (h : l.length * 134217727 ≤ 140737488351232) : l.length ≤ 2097152 := by omega
theorem p11_is (hf : 4194304 < fu) : p11 fu () = some ((), true) := by
  obtain ⟨m, rfl⟩ : ∃ m, fu = m + 16 := ⟨fu - 16, by omega⟩
  kernel_rfl
theorem commit_len (l : List Cn) (c : ByteArray) (f h : Int) : (commitS l c f h).1.length ≤ 64 := by
  unfold commitS
  cases okC l
  · exact Nat.zero_le _
  cases nameB c
  · exact Nat.zero_le _
  cases decide (f > h)
  · by_cases g : (insS l (c, f)).length ≤ 64
    · simp only [Bool.not_true, cond_false, g, decide_true, cond_true]
    · simp only [Bool.not_true, cond_false, g, decide_false]; exact Nat.zero_le _
  · exact Nat.zero_le _
theorem both_le (a b : List Cn) (f h : List Int) : (bothS a b f h).1.length ≤ 64 := by
  unfold bothS
  cases okC a
  · exact Nat.zero_le _
  cases okC b
  · exact Nat.zero_le _
  cases decide (0 < f.length)
  · exact Nat.zero_le _
  cases decide (0 < h.length)
  · exact Nat.zero_le _
  simp only [Bool.not_true, cond_false, cond_true, finB]
  by_cases g : (foldB a b f h).length > 64
  · simp only [g, decide_true, cond_true]; exact Nat.zero_le _
  · simp only [g, decide_false, cond_false]; omega
theorem map_len (l : List Cn) (o : List Int) : (mapS l o).length ≤ l.length := by
  unfold mapS
  cases decide (0 < o.length)
  · exact Nat.zero_le _
  · simp only [cond_true, List.length_map, Nat.le_refl]
theorem p7_is (a c : List Cn) (f : ByteArray) (h i : Int) (j k : List Int) (ha : okL a) (hc : okL c) (hs : f.size ≤ 1048576) (hj : j.length ≤ 2097152) (hk : k.length ≤ 2097152) (hf : 4194304 < fu) :
    p7 fu ((a, c, f, h, i, j, k, ()), ()) = some ((), true) := by
  have hn : a.length ≤ 2097152 := ha.1
  have g1 : a.length ≤ maxLen ∧ a.length * 24 ≤ 140737488355328 := ⟨by unfold maxLen; omega, by omega⟩
  have l1 := commit_len a f h i
  have l2 := both_le a c j k
  have l3 := map_len a j
  unfold p7
  simp only [p11_is hf, bind_val, List.length_nil, List.nil_append, Nat.zero_add, g1, and_self, decide_true, cond_true, p19_is a f h i ha hs hf, p31_is a f h i ha hs hf, p32_is (commitS a f h i).1 (by omega) hf]
  refine loopO_eq (I := fun s => ∃ (t : List Cn) (u : Nat), s = ((t, (u : Int), ()), ()) ∧ u ≤ t.length ∧ t.length ≤ 64) (m := fun s => s.1.1.length - Int.toNat s.1.2.1) (g := fun _ => ((), true)) (fun s hs' => ?_) fu _ ⟨(commitS a f h i).1, 0, rfl, Nat.zero_le _, l1⟩ (by show (commitS a f h i).1.length - 0 < fu; omega)
  obtain ⟨t, u, rfl, h1, h2⟩ := hs'
  by_cases hu : u < t.length
  · refine .inl ?_
    simp only [Int.ofNat_lt, Int.natCast_nonneg, hu, decide_true, cond_true, and_self, Int.toNat_natCast, List.length_set, i64_succ hu (by omega)]
    exact ⟨_, rfl, ⟨_, u + 1, rfl, by rw [List.length_set]; exact hu, by rw [List.length_set]; exact h2⟩, by simp only [Int.toNat_natCast, List.length_set]; omega, trivial⟩
  · refine .inr ?_
    obtain rfl : u = t.length := by omega
    simp only [Int.ofNat_lt, Nat.lt_irrefl, decide_false, cond_false, cond_true, bind_val, p33_is a f hn hf, p34_is a f hn hf, p15_is a j ha hj hf, p35_is a j ha hj hf, p32_is (mapS a j) (by omega) hf, p16_is a c j k ha hc hj hk hf, p36_is a c j k ha hc hj hk hf, p32_is (bothS a c j k).1 (by omega) hf, p32_is a hn hf, beq_self_eq_true, p37_is f hs (show f.size < fu by omega), p38_is f (show f.size < fu by omega), p39_is a ha hf, p40_is a ha hf]
    rfl
end
end Go.Proofs.Ytgneanhmjkdkaaa
