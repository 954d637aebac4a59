/-
  Layer 17, from layers 14 and 16: names, consumers, records, ranges.
-/
import Derived.Test.YtmjmhobeiamgiaaPtS
import Derived.Test.YtmjmhobeiamgiaaDaP
namespace Go.Proofs.Ytmjmhobeiamgiaa
open Go.RowKit
section
variable {fu : Nat}
abbrev Cn := D_runtime_errorAddressString
theorem loop_any {X S R : Type} {f : S → Option (S ⊕ R)} : ∀ (l : List X) (mk : Nat → S) (q : X → Bool) (r fin : R), l.length < fu →
    (∀ i (h : i < l.length), f (mk i) = some (bif q l[i] then .inr r else .inl (mk (i + 1)))) → f (mk l.length) = some (.inr fin) → loopO fu f (mk 0) = some (bif l.any q then r else fin) := by
  intro l mk q r fin hf hs he
  have key : ∀ k i n, i + k = l.length → k < n → loopO n f (mk i) = some (bif (l.drop i).any q then r else fin) := by
    intro k
    induction k with
    | zero =>
      intro i n hi hn
      obtain ⟨m, rfl⟩ : ∃ m, n = m + 1 := ⟨n - 1, by omega⟩
      obtain rfl : i = l.length := by omega
      simp only [loopO, he, List.drop_length, List.any_nil, cond_false]
    | succ k ih =>
      intro i n hi hn
      obtain ⟨m, rfl⟩ : ∃ m, n = m + 1 := ⟨n - 1, by omega⟩
      have hlt : i < l.length := by omega
      rw [List.drop_eq_getElem_cons hlt]
      simp only [loopO, hs i hlt, List.any_cons]
      cases q l[i] with
      | true => rfl
      | false => exact ih (i + 1) m (by omega) (by omega)
  exact key l.length 0 fu (by omega) hf
theorem loop_for {X S R : Type} {f : S → Option (S ⊕ R)} {res : R} (l : List X) (mk : Nat → S) (q : X → Bool) (r fin : R) (hf : l.length < fu)
    (hs : ∀ i (h : i < l.length), f (mk i) = some (bif q l[i] then .inr r else .inl (mk (i + 1)))) (he : f (mk l.length) = some (.inr fin)) (hr : (bif l.any q then r else fin) = res) : loopO fu f (mk 0) = some res :=
  hr ▸ loop_any l mk q r fin hf hs he
abbrev ky (s : ByteArray) : List UInt8 := s.data.toList
theorem ky_inj {a b : ByteArray} (h : ky a = ky b) : a = b := by
  cases a; cases b
  simp only [ky] at h
  congr 1
  exact Array.toList_inj.1 h
theorem toList_ky (s : ByteArray) : s.toList = ky s := Lib.toList_data s
theorem less_lists : ∀ x y : List UInt8, Op.bytesLess x y = decide (x < y)
  | [], [] => by simp [Op.bytesLess]
  | [], _ :: _ => by simp [Op.bytesLess]
  | _ :: _, [] => by simp [Op.bytesLess]
  | a :: xs, b :: ys => by
    rw [Op.bytesLess, less_lists xs ys, Bool.eq_iff_iff]
    by_cases h : a < b
    · simp [h, List.cons_lt_cons_iff]
    · by_cases h' : b < a
      · have : a ≠ b := fun e => by subst e; exact h h'
        simp [h, this, List.cons_lt_cons_iff]
      · have : a = b := UInt8.le_antisymm (UInt8.not_lt.1 h') (UInt8.not_lt.1 h)
        subst this
        simp [h]
theorem less_ky (a b : ByteArray) : Op.bytesLess a.toList b.toList = decide (ky a < ky b) := by
  rw [toList_ky, toList_ky, less_lists]
theorem eq_ky (a b : ByteArray) : (a.toList == b.toList) = decide (a = b) := by
  rw [toList_ky, toList_ky, Bool.eq_iff_iff]; simp only [beq_iff_eq, decide_eq_true_eq]
  exact ⟨ky_inj, fun h => h ▸ rfl⟩
theorem lt_irr (x : List UInt8) : ¬ x < x := List.lt_irrefl x
theorem lt_lt {x y z : List UInt8} (h : x < y) (h' : y < z) : x < z := List.lt_trans h h'
theorem both_not {x y : List UInt8} (h : ¬ x < y) (h' : ¬ y < x) : x = y := List.le_antisymm h' h
/-! ### Names -/
def sq (x : Int) : Bool := bif x != 45 then bif x != 95 then bif x != 46 then true else false else false else false
def qb (x : Int) : Bool := bif decide (x < 97) then (bif decide (x < 48) then sq x else bif decide (x > 57) then sq x else false) else bif decide (x > 122) then (bif decide (x < 48) then sq x else bif decide (x > 57) then sq x else false) else false
def nameB (a : ByteArray) : Bool := bif (numsOf a).any qb then false else decide (1 ≤ a.size ∧ a.size ≤ 32)
theorem step_qb {S R : Type} {r : R} {s : S} (x : Int) : (bif decide (x < 97) then
   bif decide (x < 48) then
    bif x != 45 then bif x != 95 then bif x != 46 then some (.inr r) else some (.inl s) else some (.inl s) else some (.inl s)
   else bif decide (x > 57) then
    bif x != 45 then bif x != 95 then bif x != 46 then some (.inr r) else some (.inl s) else some (.inl s) else some (.inl s)
   else some (.inl s)
  else bif decide (x > 122) then
   bif decide (x < 48) then
    bif x != 45 then bif x != 95 then bif x != 46 then some (.inr r) else some (.inl s) else some (.inl s) else some (.inl s)
   else bif decide (x > 57) then
    bif x != 45 then bif x != 95 then bif x != 46 then some (.inr r) else some (.inl s) else some (.inl s) else some (.inl s)
   else some (.inl s)
  else some (.inl s) : Option (S ⊕ R)) = some (bif qb x then .inr r else .inl s) := by
  unfold qb sq
  generalize decide (x < 97) = b1; generalize decide (x < 48) = b2; generalize decide (x > 57) = b3; generalize decide (x > 122) = b4
  generalize (x != 45) = b5; generalize (x != 95) = b6; generalize (x != 46) = b7
  cases b1 <;> cases b2 <;> cases b3 <;> cases b4 <;> cases b5 <;> cases b6 <;> cases b7 <;> rfl
theorem bAt_num (a : ByteArray) (i : Nat) (h : i < (numsOf a).length) : bAt a i = (numsOf a)[i] := by
  have h' : i < a.data.toList.length := by simpa [numsOf] using h
  have : (numsOf a)[i] = ((a.data.toList[i].toNat : Int)) := List.getElem_map ..
  rw [this, bAt, getD_lt h']
theorem p90_is (a : ByteArray) (ha : a.size ≤ 1048576) (hf : a.size < fu) : p90 fu (a, ()) = some ((), nameB a) := by
  unfold p90 nameB
  have hl := numsOf_length a
  refine loop_for (numsOf a) (fun i => (((i : Int), ()), ())) qb ((), false) ((), decide (1 ≤ a.size ∧ a.size ≤ 32)) (by omega) (fun i h => ?_) ?_ (by cases (numsOf a).any qb <;> rfl)
  · simp only [Int.ofNat_lt, Int.natCast_nonneg, h, decide_true, cond_true, and_self, Int.toNat_natCast, getD_lt h, i64_succ h (by omega)]
    exact step_qb _
  · simp only [Int.ofNat_lt, Nat.lt_irrefl, decide_false, cond_false]
    by_cases h1 : 1 ≤ a.size
    · have h2 : (a.size : Int) ≥ 1 := by omega
      have h3 : decide ((a.size : Int) ≤ 32) = decide (a.size ≤ 32) := decide_eq_decide.2 (by omega)
      simp only [h1, h2, h3, decide_true, cond_true, true_and]; rfl
    · have h2 : ¬ (a.size : Int) ≥ 1 := by omega
      simp only [h1, h2, decide_false, cond_false, false_and]; rfl
theorem loop_fold {X S A R : Type} {f : S → Option (S ⊕ R)} {res : R} (l : List X) (mk : Nat → A → S) (st : A → X → A) (fin : A → R) (a : A) (P : Nat → A → Prop) (h0 : P 0 a) (hf : l.length < fu)
    (hs : ∀ i (h : i < l.length) b, P i b → f (mk i b) = some (.inl (mk (i + 1) (st b l[i]))) ∧ P (i + 1) (st b l[i])) (he : ∀ b, P l.length b → f (mk l.length b) = some (.inr (fin b))) (hr : fin (l.foldl st a) = res) : loopO fu f (mk 0 a) = some res := by
  subst hr
  have key : ∀ k i n b, i + k = l.length → k < n → P i b → loopO n f (mk i b) = some (fin ((l.drop i).foldl st b)) := by
    intro k
    induction k with
    | zero =>
      intro i n b hi hn hb
      obtain ⟨m, rfl⟩ : ∃ m, n = m + 1 := ⟨n - 1, by omega⟩
      obtain rfl : i = l.length := by omega
      simp only [loopO, he b hb, List.drop_length, List.foldl_nil]
    | succ k ih =>
      intro i n b hi hn hb
      obtain ⟨m, rfl⟩ : ∃ m, n = m + 1 := ⟨n - 1, by omega⟩
      have hlt : i < l.length := by omega
      rw [List.drop_eq_getElem_cons hlt]
      obtain ⟨e1, e2⟩ := hs i hlt b hb
      simp only [loopO, e1, List.foldl_cons]
      exact ih (i + 1) m _ (by omega) (by omega) e2
  exact key l.length 0 fu a (by omega) hf h0
def okL (l : List Cn) : Prop := l.length ≤ 2097152 ∧ ∀ x ∈ l, x.1.size ≤ 1048576 ∧ 0 ≤ x.2 ∧ x.2 < 18446744073709551616
theorem okL_at {l : List Cn} (h : okL l) {i : Nat} (hi : i < l.length) : l[i].1.size ≤ 1048576 := (h.2 _ (List.getElem_mem hi)).1
def bad (l : List Cn) (i : Nat) : Bool := bif !nameB (l.getD i (⟨#[]⟩, 0)).1 then true else bif decide (0 < i) then !Op.bytesLess (l.getD (i - 1) (⟨#[]⟩, 0)).1.toList (l.getD i (⟨#[]⟩, 0)).1.toList else false
def okC (l : List Cn) : Bool := bif (List.range l.length).any (bad l) then false else decide (l.length ≤ 64)
theorem p48_is (l : List Cn) (hl : okL l) (hf : 4194304 < fu) : p48 fu (l, ()) = some ((), okC l) := by
  unfold p48 okC
  have hn : l.length ≤ 2097152 := hl.1
  refine loop_for (List.range l.length) (fun i => (((i : Int), ()), ())) (bad l) ((), false) ((), decide (l.length ≤ 64)) (by simp only [List.length_range]; omega) (fun i h => ?_) ?_ (by cases (List.range l.length).any (bad l) <;> rfl)
  · simp only [List.length_range] at h
    have hs := okL_at hl h
    have hg : ∀ d, l.getD i d = l[i] := fun d => getD_lt h
    simp only [List.getElem_range, Int.ofNat_lt, Int.natCast_nonneg, h, decide_true, cond_true, and_self, Int.toNat_natCast, hg, p90_is _ hs (fu := fu) (by omega), bind_val, i64_succ h (by omega), bad]
    cases nameB l[i].1
    · rfl
    simp only [Bool.not_true, cond_false]
    by_cases h0 : 0 < i
    · have h1 : (i : Int) > 0 := by omega
      have h2 : i - 1 < l.length := by omega
      have h3 : ∀ d, l.getD (i - 1) d = l[i - 1] := fun d => getD_lt h2
      simp only [h0, h1, decide_true, cond_true, i64_pred h0 (by omega), Int.natCast_nonneg, Int.ofNat_lt, h2, and_self, Int.toNat_natCast, h3]
      cases Op.bytesLess l[i - 1].1.toList l[i].1.toList <;> rfl
    · have h1 : ¬ (i : Int) > 0 := by omega
      simp only [h0, h1, decide_false, cond_false]
  · simp only [List.length_range, Int.ofNat_lt, Nat.lt_irrefl, decide_false, cond_false]
    have h3 : decide ((l.length : Int) ≤ 64) = decide (l.length ≤ 64) := decide_eq_decide.2 (by omega)
    rw [h3]; rfl
theorem any_no {α : Type} (l : List α) : l.any (fun _ => false) = false := by induction l <;> simp_all
theorem self_beq (s : ByteArray) : (s == s) = true := by
  cases s with
  | mk d => show (d == d) = true; exact beq_self_eq_true d
theorem p27_is (l : List Cn) (hl : l.length ≤ 2097152) (hf : 4194304 < fu) : p27 fu (l, l, ()) = some ((), true) := by
  unfold p27
  simp only [bne_self_eq_false, cond_false]
  refine loop_for l (fun i => (((i : Int), ()), ())) (fun _ => false) ((), false) ((), true) (by omega) (fun i h => ?_) ?_ (by rw [any_no]; rfl)
  · simp only [Int.ofNat_lt, Int.natCast_nonneg, h, decide_true, cond_true, and_self, Int.toNat_natCast, i64_succ h (by omega), beq_self_eq_true, Bool.and_true]
    generalize (l.getD i (dflt T_runtime_errorAddressString)).fst = s
    have : (s == s) = true := self_beq s
    simp only [this, Bool.not_true, cond_false]
  · simp only [Int.ofNat_lt, Nat.lt_irrefl, decide_false, cond_false]; rfl
theorem loop_val {S R : Type} {f : S → Option (S ⊕ R)} (I : S → Prop) (m : S → Nat) {n : Nat} {s : S} {r : R} (hI : I s) (hm : m s < n) (h : ∀ s, I s → ∃ o, f s = some o ∧ LStep I m (fun q => q = r) s o) : loopO n f s = some r := by
  obtain ⟨q, e, rfl⟩ := loopO_rule I m (fun q => q = r) h n s hI hm
  exact e
theorem mid_is {lo hi : Nat} (h : lo + hi ≤ 9223372036854775807) : IntKind.wrap .i64 (Int.fdiv (IntKind.wrap .u64 (IntKind.wrap .i64 ((lo : Int) + (hi : Int)))) (2 ^ (min (Int.toNat (1 : Int)) (IntKind.bits .u64)))) = (((lo + hi) / 2 : Nat) : Int) := by
  have e1 : IntKind.wrap .i64 ((lo : Int) + (hi : Int)) = ((lo + hi : Nat) : Int) := by rw [i64_wrap (by omega) (by omega)]; omega
  have e2 : IntKind.wrap .u64 ((lo + hi : Nat) : Int) = ((lo + hi : Nat) : Int) := wrap_u64 (by omega) (by omega)
  have e3 : (2 : Int) ^ (min (Int.toNat (1 : Int)) (IntKind.bits .u64)) = 2 := rfl
  have e4 : Int.fdiv ((lo + hi : Nat) : Int) 2 = (((lo + hi) / 2 : Nat) : Int) := by
    rw [Int.fdiv_eq_ediv_of_nonneg _ (by omega)]; omega
  rw [e1, e2, e3, e4, i64_wrap (by omega) (by omega)]
theorem guardE {p : Prop} [Decidable p] {α : Type} {a : α} (h : p) : (bif decide p then some a else none) = some a := by rw [decide_eq_true h]; rfl
theorem copyL_all {α : Type} (l : List α) (d : α) : copyL (List.replicate l.length d) 0 l.length l = l := by
  simp [copyL]
abbrev Rd := D_api_Record
theorem u64_wrap {x : Int} (h1 : 0 ≤ x) (h2 : x < 18446744073709551616) : IntKind.wrap .u64 x = x := by
  show x % 18446744073709551616 = x
  omega
/-! ### Logs -/
def noRec : Rd := (0, ⟨#[]⟩, [], 0, 0)
def wrong (l : List Rd) (i : Nat) : Bool := bif ((l.getD i noRec).1 != (i : Int)) then true else bif decide ((l.getD i noRec).2.1.size > 32) then true else decide ((l.getD i noRec).2.2.1.length > 256)
def logOk (l : List Rd) : Bool := bif (List.range l.length).any (wrong l) then false else decide (l.length ≤ 4096)
theorem p89_is (a : Int) (c : ByteArray) (l : List Int) (x y : Int) : p89 fu ((a, c, l, x, y, ()), ()) = some ((), bif decide (c.size > 32) then 131 else bif decide (l.length > 256) then 144 else 0) := by
  unfold p89
  have h1 : decide ((c.size : Int) > 32) = decide (c.size > 32) := decide_eq_decide.2 (by omega)
  have h2 : decide ((l.length : Int) > 256) = decide (l.length > 256) := decide_eq_decide.2 (by omega)
  simp only [h1, h2]
  cases decide (c.size > 32) <;> cases decide (l.length > 256) <;> rfl
theorem p46_is (l : List Rd) (hl : l.length ≤ 2097152) (hf : 4194304 < fu) : p46 fu (l, ()) = some ((), logOk l) := by
  unfold p46 logOk
  refine loop_for (List.range l.length) (fun i => (((i : Int), ()), ())) (wrong l) ((), false) ((), decide (l.length ≤ 4096)) (by simp only [List.length_range]; omega) (fun i h => ?_) ?_ (by cases (List.range l.length).any (wrong l) <;> rfl)
  · simp only [List.length_range] at h
    have hg : ∀ d, l.getD i d = l[i] := fun d => getD_lt h
    have hw : IntKind.wrap .u64 (i : Int) = (i : Int) := u64_wrap (by omega) (by omega)
    simp only [List.getElem_range, Int.ofNat_lt, Int.natCast_nonneg, h, decide_true, cond_true, and_self, Int.toNat_natCast, hg, hw, p89_is, bind_val, i64_succ h (by omega), wrong]
    cases (l[i].1 != (i : Int))
    · simp only [cond_false]
      cases decide (l[i].2.1.size > 32) <;> cases decide (l[i].2.2.1.length > 256) <;> rfl
    · rfl
  · simp only [List.length_range, Int.ofNat_lt, Nat.lt_irrefl, decide_false, cond_false]
    have h3 : decide ((l.length : Int) ≤ 4096) = decide (l.length ≤ 4096) := decide_eq_decide.2 (by omega)
    rw [h3]; rfl
theorem p107_is (l : List Int) (h : l.length ≤ 140737488355328) : p107 fu (l, ()) = some ((), l) := by
  unfold p107
  cases l with
  | nil => rfl
  | cons a l =>
    have h0 : (((a :: l).length : Int) == 0) = false := beq_eq_false_iff_ne.2 (by simp only [List.length_cons]; omega)
    have h1 : (0 : Int) ≤ ((a :: l).length : Int) ∧ ((a :: l).length : Int) ≤ ((a :: l).length : Int) ∧ ((a :: l).length : Int) ≤ 9223372036854775807 ∧ (1 : Int) * ((a :: l).length : Int) ≤ 140737488355328 := by omega
    simp only [h0, cond_false, h1, and_self, decide_true, cond_true, Int.toNat_natCast, List.length_replicate, copyL_all]
def numR (n : List Rd) (x : Rd) : Rd := ((n.length : Int), x.2.1, x.2.2.1, x.2.2.2.1, x.2.2.2.2)
theorem p57_1_is (n : List Rd) (x : Rd) (hn : n.length ≤ 2097152) (hx : x.2.2.1.length ≤ 140737488355328) : p57_1 fu (n, (x.1, x.2.1, x.2.2.1, x.2.2.2.1, x.2.2.2.2, ()), ()) = some (((), ()), n ++ [numR n x]) := by
  unfold p57_1 p94
  have hw : IntKind.wrap .u64 (n.length : Int) = (n.length : Int) := u64_wrap (by omega) (by omega)
  simp only [p107_is _ hx, bind_val, decide_true, cond_true, hw]
  exact guardE ⟨by unfold maxLen; simp only [List.length_singleton]; omega, by simp only [List.length_singleton]; omega⟩
def befB (c f : ByteArray) : Bool := bif (ByteArray.toList c == ByteArray.toList (⟨#[]⟩ : ByteArray)) then true else !(Op.bytesLess (ByteArray.toList c) (ByteArray.toList f) || ByteArray.toList c == ByteArray.toList f)
def chkB (a c : ByteArray) : Int := bif !decide ((a.size : Int) ≤ 32) then 131 else bif !decide ((c.size : Int) ≤ 32) then 131 else bif !befB c a then 132 else 0
def hasB (a c f : ByteArray) : Bool := bif (chkB a c == 0) then (bif decide ((f.size : Int) ≤ 32) then (bif !Op.bytesLess f.toList a.toList then befB c f else false) else false) else false
theorem p88_is (c f : ByteArray) : p88 fu ((c, ByteArray.toList c == ByteArray.toList (⟨#[]⟩ : ByteArray), ()), f, ()) = some ((), befB c f) := by
  unfold p88 befB
  cases (ByteArray.toList c == ByteArray.toList (⟨#[]⟩ : ByteArray)) <;> rfl
theorem p45_is (a c : ByteArray) : p45 fu ((a, c, ()), ()) = some ((), chkB a c) := by
  unfold p45 chkB
  simp only [p55, p63, bind_val, p88_is]
  cases decide ((a.size : Int) ≤ 32)
  · rfl
  cases decide ((c.size : Int) ≤ 32)
  · rfl
  cases befB c a <;> rfl
theorem p56_is (a c f : ByteArray) : p56 fu ((a, c, ()), f, ()) = some ((), hasB a c f) := by
  unfold p56 hasB
  simp only [p45_is, p55, p63, bind_val, p88_is]
  cases (chkB a c == 0)
  · rfl
  cases decide ((f.size : Int) ≤ 32)
  · rfl
  cases Op.bytesLess f.toList a.toList <;> rfl
theorem p25_same (l : List Rd) (hl : l.length ≤ 2097152) (hf : 4194304 < fu) : p25 fu (l, l, ()) = some ((), true) := by
  unfold p25
  simp only [bne_self_eq_false, cond_false]
  refine loop_for l (fun i => (((i : Int), ()), ())) (fun _ => false) ((), false) ((), true) (by omega) (fun i h => ?_) ?_ (by rw [any_no]; rfl)
  · simp only [Int.ofNat_lt, Int.natCast_nonneg, h, decide_true, cond_true, and_self, Int.toNat_natCast, i64_succ h (by omega), cond_false, beq_self_eq_true, Bool.not_true]
  · simp only [Int.ofNat_lt, Nat.lt_irrefl, decide_false, cond_false]; rfl
end
section
variable {fu : Nat}
abbrev Pr := Int × Int × Bool × Int
def seqB (s : Int) : Bool := decide (1 ≤ s) && decide (s ≤ 9223372036854775807)
def cmpZ (a b : Int) : Int := if a < b then -1 else if a > b then 1 else 0
theorem p52_is (s : Int) : p52 fu (s, ()) = some ((), seqB s) := by
  unfold p52 seqB
  by_cases h : 1 ≤ s
  · simp [h]
  · simp [h]
theorem p106_is (a : Int) : p106 fu (a, ()) = some ((), false) := by simp [p106]
theorem p93_is (a b : Int) : p93 fu (a, b, ()) = some ((), cmpZ a b) := by
  simp only [p93, p106_is, bind_val, cond_false]
  unfold cmpZ
  by_cases h : a < b
  · simp [h]
  · by_cases h2 : a > b
    · simp [h, h2]
    · simp [h, h2]
theorem p70_is (x y : Pr) : p70 fu ((x.1, x.2.1, x.2.2.1, x.2.2.2, ()), (y.1, y.2.1, y.2.2.1, y.2.2.2, ()), ()) = some ((), cmpZ x.1 y.1) := by
  simp only [p70, p93_is, bind_val]
def findI (l : List Pr) (id : Int) : Nat := l.findIdx fun x => x.1 == id
theorem findI_le (l : List Pr) (id : Int) : findI l id ≤ l.length := List.findIdx_le_length
def okP (x : Pr) : Bool := !(x.1 == 0) && (seqB x.2.1 && (x.2.2.1 || x.2.2.2 == 0))
def rowOK (l : List Pr) (i : Nat) : Bool := (i == 0 || decide ((l.getD (i - 1) (dflt T_api_Producer)).1 < (l.getD i (dflt T_api_Producer)).1)) && okP (l.getD i (dflt T_api_Producer))
def tabI (l : List Pr) : Bool := (List.range l.length).all (rowOK l) && decide (l.length ≤ 256)
theorem tabI_no {l : List Pr} {i : Nat} (hi : i < l.length) (h : rowOK l i = false) : tabI l = false := by
  unfold tabI
  have : (List.range l.length).all (rowOK l) = false := by
    rw [List.all_eq_false]
    exact ⟨i, List.mem_range.2 hi, by simp [h]⟩
  rw [this]; rfl
theorem cmpZ_neg (a b : Int) : decide (cmpZ a b < 0) = decide (a < b) := by
  unfold cmpZ
  by_cases h : a < b
  · simp [h]
  · by_cases h2 : a > b
    · simp [h, h2]
    · simp [h, h2]
theorem p47_is (l : List Pr) (hl : l.length ≤ 9223372036854775806) (hf : l.length < fu) : p47 fu (l, ()) = some ((), tabI l) := by
  unfold p47
  refine loopO_eq (I := fun s => ∃ i : Nat, s = (((i : Int), ()), ()) ∧ i ≤ l.length ∧ ∀ j, j < i → rowOK l j = true) (m := fun s => l.length - s.1.1.toNat)
    (g := fun _ => ((), tabI l)) ?_ fu _ ⟨0, rfl, Nat.zero_le _, fun j hj => absurd hj (Nat.not_lt_zero _)⟩ (by simpa using hf)
  rintro s ⟨i, rfl, h1, h2⟩
  by_cases hi : i < l.length
  · -- what stands ahead of it
    have hd : ∀ {R : Type} (k : (Bool × Unit) × Unit → Option R), orK (E := (Bool × Unit) × Unit)
        (bif ((i : Int) == (0 : Int)) then some (.inl ((true, ()), ())) else
          bif decide ((0 : Int) ≤ IntKind.wrap .i64 ((i : Int) - (1 : Int)) ∧ IntKind.wrap .i64 ((i : Int) - (1 : Int)) < (List.length l : Int)) then
           bif decide (Int.toNat (IntKind.wrap .i64 ((i : Int) - (1 : Int))) < List.length l) then
            Option.bind (p70 fu (((List.getD l (Int.toNat (IntKind.wrap .i64 ((i : Int) - (1 : Int)))) (dflt T_api_Producer)).1, ((List.getD l (Int.toNat (IntKind.wrap .i64 ((i : Int) - (1 : Int)))) (dflt T_api_Producer)).2).1, (((List.getD l (Int.toNat (IntKind.wrap .i64 ((i : Int) - (1 : Int)))) (dflt T_api_Producer)).2).2).1, (((List.getD l (Int.toNat (IntKind.wrap .i64 ((i : Int) - (1 : Int)))) (dflt T_api_Producer)).2).2).2, ()), ((List.getD l i (dflt T_api_Producer)).1, ((List.getD l i (dflt T_api_Producer)).2).1, (((List.getD l i (dflt T_api_Producer)).2).2).1, (((List.getD l i (dflt T_api_Producer)).2).2).2, ()), ())) fun ⟨_, r33⟩ =>
            some (.inl ((decide (r33 < (0 : Int)), ()), ()))
           else none
          else none) k = k ((i == 0 || decide ((l.getD (i - 1) (dflt T_api_Producer)).1 < (l.getD i (dflt T_api_Producer)).1), ()), ()) := by
      intro R k
      by_cases h0 : i = 0
      · subst h0; simp [orK]
      · have hw := i64_pred (i := i) (by omega) (by omega)
        have hlt : i - 1 < l.length := by omega
        have h0' : ((i : Int) == 0) = false := by simpa using h0
        have h0'' : (i == 0) = false := by simpa using h0
        simp only [h0', h0'', cond_false, hw, Int.natCast_nonneg, Int.ofNat_lt, hlt, true_and, decide_true, cond_true, Int.toNat_natCast, p70_is, bind_val, orK_inl, cmpZ_neg, Bool.false_or]
    simp only [Int.ofNat_lt, hi, decide_true, cond_true, Int.natCast_nonneg, true_and, Int.toNat_natCast, hd]
    generalize hb : (i == 0 || decide ((l.getD (i - 1) (dflt T_api_Producer)).1 < (l.getD i (dflt T_api_Producer)).1)) = b
    generalize hx : l.getD i (dflt T_api_Producer) = x
    obtain ⟨x1, x2, x3, x4⟩ := x
    have hrow : rowOK l i = (b && okP (x1, x2, x3, x4)) := by unfold rowOK; rw [hb, hx]
    have bad : rowOK l i = false → ((), tabI l) = ((), false) := fun h => by rw [tabI_no hi h]
    have good : rowOK l i = true → (∃ s' : ((Int × Unit) × Unit), (some (.inl ((IntKind.wrap .i64 ((i : Int) + (1 : Int)), ()), ())) : Option (((Int × Unit) × Unit) ⊕ (Unit × Bool))) = some (.inl s') ∧
        (∃ i : Nat, s' = (((i : Int), ()), ()) ∧ i ≤ l.length ∧ ∀ j, j < i → rowOK l j = true) ∧ l.length - s'.1.1.toNat < l.length - i ∧ ((), tabI l) = ((), tabI l)) := fun h =>
      ⟨((((i + 1 : Nat) : Int), ()), ()), by rw [i64_succ hi (by omega)], ⟨i + 1, rfl, hi, fun j hj => by
        rcases Nat.lt_succ_iff_lt_or_eq.1 hj with h' | rfl
        · exact h2 j h'
        · exact h⟩, by simp; omega, rfl⟩
    simp only [okP] at hrow
    by_cases hz : x1 = 0
    · right; rw [bad (by rw [hrow]; simp [hz])]; simp [hz, inrO]
    · have hz' : (x1 == (0 : Int)) = false := by simpa using hz
      simp only [hz', cond_false, p52_is, bind_val, Bool.not_false, Bool.true_and] at hrow ⊢
      cases hs : seqB x2 with
      | false => right; rw [bad (by rw [hrow, hs]; simp)]; simp [inrO]
      | true =>
        cases b with
        | false => right; rw [bad (by rw [hrow]; simp)]; simp [inrO]
        | true =>
          cases x3 with
          | true =>
            have hr : rowOK l i = true := by rw [hrow, hs]; rfl
            left; simpa using good hr
          | false =>
            by_cases h4 : x4 = 0
            · have hr : rowOK l i = true := by rw [hrow, hs]; simp [h4]
              left; simpa [h4] using good hr
            · right; rw [bad (by rw [hrow, hs]; simp [h4])]
              have h4' : (x4 != (0 : Int)) = true := by simpa using h4
              simp [h4', inrO]
  · right
    have e : i = l.length := by omega
    subst e
    have : (List.range l.length).all (rowOK l) = true := List.all_eq_true.2 fun j hj => h2 j (List.mem_range.1 hj)
    simp [inrO, tabI, this]
    omega
def SP (l : List Pr) : Prop := l.Pairwise fun a b => a.1 < b.1
theorem tab_iff (l : List Pr) : tabI l = true ↔ (∀ x ∈ l, okP x = true) ∧ SP l ∧ l.length ≤ 256 := by
  unfold tabI
  simp only [Bool.and_eq_true, List.all_eq_true, List.mem_range, decide_eq_true_eq]
  constructor
  · rintro ⟨h1, h2⟩
    refine ⟨fun x hx => ?_, ?_, h2⟩
    · obtain ⟨i, hi, rfl⟩ := List.getElem_of_mem hx
      have := h1 i hi
      unfold rowOK at this
      rw [getD_lt hi] at this
      simp only [Bool.and_eq_true] at this
      exact this.2
    · have step : ∀ i (hi : i + 1 < l.length), (l[i]'(by omega)).1 < l[i + 1].1 := fun i hi => by
        have := h1 (i + 1) hi
        unfold rowOK at this
        simp only [Bool.and_eq_true] at this
        have h3 := this.1
        rw [show i + 1 - 1 = i by omega, getD_lt hi, getD_lt (show i < l.length by omega)] at h3
        simpa using h3
      unfold SP
      rw [List.pairwise_iff_getElem]
      have key : ∀ d i (hi : i + d + 1 < l.length), (l[i]'(by omega)).1 < (l[i + d + 1]'hi).1 := by
        intro d
        induction d with
        | zero => intro i hi; exact step i hi
        | succ d ih =>
          intro i hi
          have h1 := ih i (by omega)
          have h2 := step (i + d + 1) (by omega)
          have e : i + (d + 1) + 1 = i + d + 1 + 1 := by omega
          simp only [e]
          omega
      intro i j hi hj hij
      have := key (j - i - 1) i (by omega)
      have e : i + (j - i - 1) + 1 = j := by omega
      simp only [e] at this
      exact this
  · rintro ⟨h1, h2, h3⟩
    refine ⟨fun i hi => ?_, h3⟩
    unfold rowOK
    rw [getD_lt hi]
    simp only [Bool.and_eq_true]
    refine ⟨?_, h1 _ (List.getElem_mem _)⟩
    cases i with
    | zero => rfl
    | succ i =>
      have := (List.pairwise_iff_getElem.1 h2) i (i + 1) (by omega) hi (by omega)
      rw [show i + 1 - 1 = i by omega, getD_lt (show i < l.length by omega)]
      simp [this]
theorem p26_refl (l : List Pr) (hl : l.length ≤ 9223372036854775806) (hf : l.length < fu) : p26 fu (l, l, ()) = some ((), true) := by
  unfold p26
  simp only [bne_self_eq_false, cond_false]
  refine loopO_eq (I := fun s => ∃ i : Nat, s = (((i : Int), ()), ()) ∧ i ≤ l.length) (m := fun s => l.length - s.1.1.toNat) (g := fun _ => ((), true)) ?_ fu _ ⟨0, rfl, Nat.zero_le _⟩ (by simpa using hf)
  rintro s ⟨i, rfl, h1⟩
  by_cases hi : i < l.length
  · left
    refine ⟨((((i + 1 : Nat) : Int), ()), ()), ?_, ⟨i + 1, rfl, hi⟩, by simp only [Int.toNat_natCast]; omega, rfl⟩
    simp only [Int.ofNat_lt, hi, decide_true, cond_true, Int.natCast_nonneg, true_and, Int.toNat_natCast, beq_self_eq_true, Bool.and_self, Bool.not_true, cond_false, i64_succ hi (by omega)]
  · right
    obtain rfl : i = l.length := by omega
    simp [inrO]
end
section
variable {fu : Nat}
theorem take_snoc' {α : Type} {l : List α} {i : Nat} (h : i < l.length) (d : α) : l.take (i + 1) = l.take i ++ [l.getD i d] := by
  rw [List.take_add_one, List.getD_eq_getElem?_getD, List.getElem?_eq_getElem h]; rfl
def AtP (l : List Pr) (c : Int) (n : Nat) : Prop := n ≤ l.length ∧ (∀ k (h : k < l.length), k < n → l[k].1 < c) ∧ ∀ k (h : k < l.length), n ≤ k → ¬ l[k].1 < c
theorem atP_some (c : Int) : ∀ l : List Pr, SP l → ∃ n, AtP l c n
  | [], _ => ⟨0, Nat.le_refl _, fun k h => absurd h (Nat.not_lt_zero _), fun k h => absurd h (Nat.not_lt_zero _)⟩
  | x :: l, hr => by
    obtain ⟨hx, hr'⟩ := List.pairwise_cons.1 hr
    by_cases h : x.1 < c
    · obtain ⟨n, h1, h2, h3⟩ := atP_some c l hr'
      refine ⟨n + 1, Nat.succ_le_succ h1, fun k hk hn => ?_, fun k hk hn => ?_⟩
      · cases k with
        | zero => exact h
        | succ k => exact h2 k (Nat.lt_of_succ_lt_succ hk) (by omega)
      · cases k with
        | zero => omega
        | succ k => exact h3 k (Nat.lt_of_succ_lt_succ hk) (by omega)
    · refine ⟨0, Nat.zero_le _, fun k hk hn => absurd hn (Nat.not_lt_zero _), fun k hk _ => ?_⟩
      cases k with
      | zero => exact h
      | succ k =>
        have := hx _ (List.getElem_mem (Nat.lt_of_succ_lt_succ hk))
        simp only [List.getElem_cons_succ]
        omega
theorem p92_is (x : Pr) (c : Int) : p92 fu ((x.1, x.2.1, x.2.2.1, x.2.2.2, ()), c, ()) = some ((), cmpZ x.1 c) := by
  unfold p92
  simp only [p93_is, bind_val]
theorem p91_is (l : List Pr) (c : Int) (n : Nat) (hl : l.length ≤ 2097152) (hf : 4194304 < fu) (ha : AtP l c n) :
    p91 fu (l, c, ((), ()), ()) = some ((), (n : Int), (if h : n < l.length then decide (l[n].1 = c) else false), ()) := by
  obtain ⟨hn, ha1, ha2⟩ := ha
  unfold p91
  refine loop_val (I := fun s => ∃ h i : Nat, s = (((h : Int), (i : Int), ()), ()) ∧ h ≤ n ∧ n ≤ i ∧ i ≤ l.length) (m := fun s => Int.toNat s.1.2.1 - Int.toNat s.1.1) ⟨0, l.length, rfl, Nat.zero_le _, hn, Nat.le_refl _⟩ (by simp only [Int.toNat_natCast]; omega) fun s hs => ?_
  obtain ⟨h, i, rfl, h1, h2, h3⟩ := hs
  by_cases hlt : h < i
  · have hm : (h + i) / 2 < l.length := by omega
    have hg : ∀ d, l.getD ((h + i) / 2) d = l[(h + i) / 2] := fun d => getD_lt hm
    simp only [mid_is (lo := h) (hi := i) (by omega), Int.ofNat_lt, hlt, Int.natCast_nonneg, hm, decide_true, cond_true, and_self, Int.toNat_natCast, hg, p92_is, bind_val, cmpZ_neg]
    by_cases hc : l[(h + i) / 2].1 < c
    · simp only [hc, decide_true, cond_true, i64_succ hm (by omega)]
      refine ⟨_, rfl, ⟨_, _, rfl, ?_, h2, h3⟩, by simp only [Int.toNat_natCast]; omega⟩
      rcases Nat.lt_or_ge ((h + i) / 2) n with g | g
      · exact g
      · exact absurd hc (ha2 _ hm g)
    · simp only [hc, decide_false, cond_false]
      refine ⟨_, rfl, ⟨_, _, rfl, h1, ?_, by omega⟩, by simp only [Int.toNat_natCast]; omega⟩
      rcases Nat.lt_or_ge ((h + i) / 2) n with g | g
      · exact absurd (ha1 _ hm g) hc
      · exact g
  · obtain rfl : h = n := by omega
    simp only [Int.ofNat_lt, hlt, decide_false, cond_false]
    by_cases hm : h < l.length
    · have hg : ∀ d, l.getD h d = l[h] := fun d => getD_lt hm
      simp only [hm, Int.natCast_nonneg, decide_true, cond_true, and_self, Int.toNat_natCast, hg, p92_is, bind_val, dite_true]
      refine ⟨_, rfl, ?_⟩
      have : (cmpZ l[h].1 c == 0) = decide (l[h].1 = c) := by
        have h5 := ha2 _ hm (Nat.le_refl _)
        unfold cmpZ
        by_cases hx : l[h].1 > c
        · have : ¬ l[h].1 = c := by omega
          simp [h5, hx, this]
        · have : l[h].1 = c := by omega
          simp [this]
      rw [this]
    · simp only [hm, decide_false, cond_false, dite_false]
      exact ⟨_, rfl, rfl⟩
theorem p91_find (l : List Pr) (c : Int) (hl : l.length ≤ 2097152) (hf : 4194304 < fu) (hs : SP l) :
    ∃ n : Nat, p91 fu (l, c, ((), ()), ()) = some ((), (n : Int), decide (findI l c < l.length), ()) ∧ (findI l c < l.length → n = findI l c) := by
  obtain ⟨n, hn⟩ := atP_some c l hs
  have key : (if h : n < l.length then decide (l[n].1 = c) else false) = decide (findI l c < l.length) ∧ (findI l c < l.length → n = findI l c) := by
    by_cases hk : findI l c < l.length
    · have e1 : l[findI l c].1 = c := by
        have hw : findI l c < l.length := hk
        have := List.findIdx_getElem (w := hw)
        have h2 : l[List.findIdx (fun x => x.1 == c) l].1 = c := by simpa using this
        exact h2
      have e2 : n = findI l c := by
        rcases Nat.lt_trichotomy n (findI l c) with g | g | g
        · have hnl : n < l.length := by omega
          have h1 := hn.2.2 n hnl (Nat.le_refl _)
          have h2 := List.pairwise_iff_getElem.1 hs n (findI l c) hnl hk g
          omega
        · exact g
        · have := hn.2.1 _ hk g
          omega
      subst e2
      simp [hk, e1]
    · have hne : ∀ h : n < l.length, ¬ l[n].1 = c := fun h e => by
        have := findI_le l c
        have h1 : findI l c ≤ n := by
          rcases Nat.lt_or_ge n (findI l c) with g | g
          · have := List.not_of_lt_findIdx g
            rw [e] at this
            simp at this
          · exact g
        omega
      refine ⟨?_, fun h => absurd h hk⟩
      by_cases h : n < l.length
      · simp [h, hne h, hk]
      · simp [h, hk]
  refine ⟨n, ?_, key.2⟩
  rw [p91_is l c n hl hf hn, key.1]
def noPr : Pr := (0, 0, false, 0)
def lastS (rs : List Rd) (id : Int) : Int := rs.foldl (fun a x => if x.2.2.2.1 = id then x.2.2.2.2 else a) 0
theorem lastS_snoc (rs : List Rd) (x : Rd) (id : Int) : lastS (rs ++ [x]) id = if x.2.2.2.1 = id then x.2.2.2.2 else lastS rs id := by
  unfold lastS
  rw [List.foldl_append]
  rfl
def recOk1 (lo hi : ByteArray) (ps : List Pr) (before : List Rd) (x : Rd) : Bool :=
  decide (findI ps x.2.2.2.1 < ps.length) && (hasB lo hi x.2.1 && (decide (lastS before x.2.2.2.1 < x.2.2.2.2) && decide (x.2.2.2.2 ≤ (ps.getD (findI ps x.2.2.2.1) noPr).2.1)))
def recOk (lo hi : ByteArray) (ps : List Pr) (l : List Rd) (j : Nat) : Bool := recOk1 lo hi ps (l.take j) (l.getD j noRec)
def lastL (ps : List Pr) (l : List Rd) (i : Nat) : List Int := ps.map fun y => lastS (l.take i) y.1
theorem find_id {ps : List Pr} {id : Int} (hk : findI ps id < ps.length) : (ps[findI ps id]).1 = id := by
  have hw : findI ps id < ps.length := hk
  have := List.findIdx_getElem (w := hw)
  have h2 : ps[List.findIdx (fun x => x.1 == id) ps].1 = id := by simpa using this
  exact h2
theorem sp_inj {ps : List Pr} (hs : SP ps) {i j : Nat} (hi : i < ps.length) (hj : j < ps.length) (h : ps[i].1 = ps[j].1) : i = j := by
  rcases Nat.lt_trichotomy i j with g | g | g
  · have := List.pairwise_iff_getElem.1 hs i j hi hj g; omega
  · exact g
  · have := List.pairwise_iff_getElem.1 hs j i hj hi g; omega
theorem last_set {ps : List Pr} (hs : SP ps) {id s : Int} (F : Int → Int) (hk : findI ps id < ps.length) :
    (ps.map fun y => F y.1).set (findI ps id) s = ps.map fun y => if id = y.1 then s else F y.1 := by
  apply List.ext_getElem
  · simp
  · intro j h1 h2
    have hj : j < ps.length := by simpa using h2
    rw [List.getElem_set, List.getElem_map, List.getElem_map]
    by_cases e : findI ps id = j
    · subst e
      simp [find_id hk]
    · have : ¬ id = ps[j].1 := fun g => e (sp_inj hs hk hj ((find_id hk).trans g))
      simp [e, this]
theorem lastL_get {ps : List Pr} {l : List Rd} {i : Nat} {id : Int} (hk : findI ps id < ps.length) (d : Int) : (lastL ps l i).getD (findI ps id) d = lastS (l.take i) id := by
  have hlen : findI ps id < (ps.map fun y => lastS (l.take i) y.1).length := by simpa using hk
  show (ps.map fun y => lastS (l.take i) y.1).getD _ d = _
  rw [getD_lt hlen, List.getElem_map, find_id hk]
theorem lastL_succ {ps : List Pr} {l : List Rd} {i : Nat} (hs : SP ps) (hi : i < l.length) (hk : findI ps l[i].2.2.2.1 < ps.length) :
    (lastL ps l i).set (findI ps l[i].2.2.2.1) l[i].2.2.2.2 = lastL ps l (i + 1) := by
  unfold lastL
  rw [last_set hs (fun id => lastS (l.take i) id) hk]
  apply List.map_congr_left
  intro y _
  rw [take_snoc' hi noRec, getD_lt hi, lastS_snoc]
theorem p49_is (lo up : ByteArray) (e z : Int) (l : List Rd) (ps : List Pr) (cs : List Cn) (hl : l.length ≤ 2097152) (hp : ps.length ≤ 2097152) (hs : SP ps) (hf : 4194304 < fu) :
    p49 fu ((lo, up, e, z, l, ps, cs, ()), ()) = some ((), (List.range l.length).all (recOk lo up ps l)) := by
  unfold p49
  have h1 : (0 : Int) ≤ (ps.length : Int) ∧ (ps.length : Int) ≤ (ps.length : Int) ∧ (ps.length : Int) ≤ 9223372036854775807 ∧ (8 : Int) * (ps.length : Int) ≤ 140737488355328 := by omega
  simp only [h1, and_self, decide_true, cond_true, Int.toNat_natCast, List.length_replicate]
  have e0 : ((List.replicate ps.length (0 : Int), (0 : Int), ()), ()) = (fun i : Nat => ((lastL ps l i, (i : Int), ()), ())) 0 := by
    simp only [lastL, List.take_zero, lastS, List.foldl_nil, List.map_const']
    rfl
  rw [e0]
  refine loop_for (List.range l.length) (fun i : Nat => ((lastL ps l i, (i : Int), ()), ())) (fun j => !recOk lo up ps l j) ((), false) ((), true) (by simp; omega) (fun i h => ?_) ?_ ?_
  · have hi : i < l.length := by simpa using h
    have hll : (lastL ps l i).length = ps.length := by simp [lastL]
    obtain ⟨n, e1, e2⟩ := p91_find (fu := fu) ps l[i].2.2.2.1 hp hf hs
    have hg : ∀ d, l.getD i d = l[i] := fun d => getD_lt hi
    simp only [Int.ofNat_lt, hi, decide_true, cond_true, Int.natCast_nonneg, true_and, Int.toNat_natCast, hg, e1, bind_val, List.getElem_range, p56_is, recOk, recOk1]
    by_cases hk : findI ps l[i].2.2.2.1 < ps.length
    · obtain rfl := e2 hk
      have hgp : ∀ d, ps.getD (findI ps l[i].2.2.2.1) d = ps[findI ps l[i].2.2.2.1] := fun d => getD_lt hk
      simp only [hk, decide_true, Bool.not_true, cond_false, Bool.true_and]
      cases hh : hasB lo up l[i].2.1 with
      | false => simp only [Bool.not_false, cond_true, Bool.false_and, inrO_val]
      | true =>
        simp only [Bool.not_true, cond_false, Bool.true_and, hll, hk, decide_true, cond_true, lastL_get hk, hgp, List.length_set]
        by_cases h3 : lastS (l.take i) l[i].2.2.2.1 < l[i].2.2.2.2
        · have h3' : ¬ l[i].2.2.2.2 ≤ lastS (l.take i) l[i].2.2.2.1 := by omega
          by_cases h4 : l[i].2.2.2.2 ≤ (ps[findI ps l[i].2.2.2.1]).2.1
          · have h4' : ¬ l[i].2.2.2.2 > (ps[findI ps l[i].2.2.2.1]).2.1 := by omega
            simp only [h3, h3', h4, h4', decide_true, decide_false, cond_false, Bool.and_self, Bool.not_true, lastL_succ hs hi hk, i64_succ hi (by omega)]
          · have h4' : l[i].2.2.2.2 > (ps[findI ps l[i].2.2.2.1]).2.1 := by omega
            simp only [h3, h3', h4, h4', decide_true, decide_false, cond_false, cond_true, Bool.and_false, Bool.not_false, inrO_val]
        · have h3' : l[i].2.2.2.2 ≤ lastS (l.take i) l[i].2.2.2.1 := by omega
          simp only [h3, h3', decide_true, decide_false, cond_true, Bool.false_and, Bool.not_false, inrO_val]
    · simp only [hk, decide_false, Bool.not_false, cond_true, Bool.false_and, inrO_val]
  · simp only [List.length_range, Int.lt_irrefl, decide_false, cond_false, inrO_val]
  · rw [← List.not_all_eq_any_not]
    cases (List.range l.length).all (recOk lo up ps l) <;> rfl
def proOk (l : List Rd) (y : Pr) : Bool := !y.2.2.1 || (decide (y.2.2.2 < (l.length : Int)) && ((l.getD y.2.2.2.toNat noRec).2.2.2.1 == y.1 && (l.getD y.2.2.2.toNat noRec).2.2.2.2 == y.2.1))
theorem p50_is (lo up : ByteArray) (e z : Int) (l : List Rd) (ps : List Pr) (cs : List Cn) (hl : l.length ≤ 2097152) (hp : ps.length ≤ 2097152) (h0 : ∀ y ∈ ps, 0 ≤ y.2.2.2) (hf : 4194304 < fu) :
    p50 fu ((lo, up, e, z, l, ps, cs, ()), ()) = some ((), ps.all (proOk l)) := by
  unfold p50
  refine loop_for ps (fun i : Nat => (((i : Int), ()), ())) (fun y => !proOk l y) ((), false) ((), true) (by omega) (fun i hi => ?_) ?_ ?_
  · have hg : ∀ d, ps.getD i d = ps[i] := fun d => getD_lt hi
    have hz := h0 _ (List.getElem_mem hi)
    simp only [Int.ofNat_lt, hi, decide_true, cond_true, Int.natCast_nonneg, true_and, Int.toNat_natCast, hg, proOk, u64_wrap (x := (l.length : Int)) (by omega) (by omega)]
    cases hh : ps[i].2.2.1 with
    | false => simp only [Bool.not_false, cond_true, Bool.true_or, Bool.not_true, cond_false, i64_succ hi (by omega)]
    | true =>
      simp only [Bool.not_true, cond_false, Bool.false_or]
      by_cases h3 : ps[i].2.2.2 < (l.length : Int)
      · have h3' : ¬ ps[i].2.2.2 ≥ (l.length : Int) := by omega
        have h3n : ps[i].2.2.2.toNat < l.length := by omega
        have hgl : ∀ d, l.getD ps[i].2.2.2.toNat d = l[ps[i].2.2.2.toNat] := fun d => getD_lt h3n
        simp only [h3, h3', h3n, hz, and_self, decide_true, decide_false, cond_true, cond_false, hgl, Bool.true_and]
        cases h4 : (l[ps[i].2.2.2.toNat].2.2.2.1 == ps[i].1) with
        | false => simp only [bne, h4, Bool.not_false, cond_true, Bool.false_and, inrO_val]
        | true =>
          simp only [bne, h4, Bool.not_true, cond_false, Bool.true_and]
          cases h5 : (l[ps[i].2.2.2.toNat].2.2.2.2 == ps[i].2.1) with
          | false => simp only [Bool.not_false, cond_true, inrO_val]
          | true => simp only [Bool.not_true, cond_false, i64_succ hi (by omega)]
      · have h3' : ps[i].2.2.2 ≥ (l.length : Int) := by omega
        simp only [h3, h3', decide_true, decide_false, cond_true, Bool.false_and, Bool.not_false, inrO_val]
  · simp only [Int.lt_irrefl, decide_false, cond_false, inrO_val]
  · rw [← List.not_all_eq_any_not]
    cases ps.all (proOk l) <;> rfl
def conOk (l : List Rd) (y : Cn) : Bool := decide (y.2 ≤ (l.length : Int))
theorem p51_is (lo up : ByteArray) (e z : Int) (l : List Rd) (ps : List Pr) (cs : List Cn) (hl : l.length ≤ 2097152) (hp : cs.length ≤ 2097152) (hf : 4194304 < fu) :
    p51 fu ((lo, up, e, z, l, ps, cs, ()), ()) = some ((), cs.all (conOk l)) := by
  unfold p51
  refine loop_for cs (fun i : Nat => (((i : Int), ()), ())) (fun y => !conOk l y) ((), false) ((), true) (by omega) (fun i hi => ?_) ?_ ?_
  · have hg : ∀ d, cs.getD i d = cs[i] := fun d => getD_lt hi
    simp only [Int.ofNat_lt, hi, decide_true, cond_true, Int.natCast_nonneg, true_and, Int.toNat_natCast, hg, conOk, u64_wrap (x := (l.length : Int)) (by omega) (by omega)]
    by_cases h3 : cs[i].2 ≤ (l.length : Int)
    · have h3' : ¬ cs[i].2 > (l.length : Int) := by omega
      simp only [h3, h3', decide_true, decide_false, cond_false, Bool.not_true, i64_succ hi (by omega)]
    · have h3' : cs[i].2 > (l.length : Int) := by omega
      simp only [h3, h3', decide_true, decide_false, cond_true, Bool.not_false, inrO_val]
  · simp only [Int.lt_irrefl, decide_false, cond_false, inrO_val]
  · rw [← List.not_all_eq_any_not]
    cases cs.all (conOk l) <;> rfl
abbrev St16 := ByteArray × ByteArray × Int × Int × List Rd × List Pr × List Cn × Unit
def chkS : St16 → Bool
  | (lo, hi, e, _, l, ps, cs, _) => (chkB lo hi == 0) && ((e != 0) && (logOk l && (tabI ps && (okC cs && ((List.range l.length).all (recOk lo hi ps l) && (ps.all (proOk l) && cs.all (conOk l)))))))
def bndS : St16 → Prop
  | (_, _, _, _, l, ps, cs, _) => l.length ≤ 2097152 ∧ ps.length ≤ 2097152 ∧ okL cs ∧ ∀ y ∈ ps, 0 ≤ y.2.2.2
theorem p16_is (p : St16) (hb : bndS p) (hf : 4194304 < fu) : p16 fu (p, ()) = some ((), bif chkS p then 0 else 165) := by
  obtain ⟨lo, hi, e, z, l, ps, cs, ⟨⟩⟩ := p
  obtain ⟨h1, h2, h3, h4⟩ := hb
  unfold p16
  simp only [p45_is, bind_val, p46_is l (by omega) hf, p47_is ps (by omega) (show ps.length < fu by omega), p48_is cs h3 hf, p50_is lo hi e z l ps cs h1 h2 h4 hf, p51_is lo hi e z l ps cs h1 h3.1 hf, chkS]
  cases (chkB lo hi == 0)
  · rfl
  cases (e != 0)
  · rfl
  cases logOk l
  · rfl
  cases ht : tabI ps
  · rfl
  simp only [p49_is lo hi e z l ps cs h1 h2 ((tab_iff ps).1 ht).2.1 hf, bind_val]
  cases okC cs
  · rfl
  cases (List.range l.length).all (recOk lo hi ps l)
  · rfl
  cases ps.all (proOk l)
  · rfl
  cases cs.all (conOk l) <;> rfl
end
section
variable {fu : Nat}
def seqsOf (l : List Rd) (k : Int) : List Int := (l.filter fun x => x.2.2.2.1 == k).map fun x => x.2.2.2.2
def ahead (l r : List Rd) : Bool := match l with
  | [] => false
  | x :: _ => (seqsOf r x.2.2.2.1).all fun y => decide (y ≥ x.2.2.2.2)
def keepT (a c : ByteArray) (s : List Rd × List Int) (x : Rd) : List Rd × List Int := (bif hasB a c x.2.1 then s.1 ++ [numR s.1 x] else s.1, s.2 ++ [(s.1.length : Int)])
def keepF (s : List Rd × List Int) : List Rd × List Int := (s.1, s.2 ++ [(s.1.length : Int)])
def keepS (l : List Rd) (a c : ByteArray) : List Rd × List Int := bif !logOk l then ([], []) else bif (chkB a c != 0) then ([], []) else keepF (l.foldl (keepT a c) ([], []))
theorem log_at {l : List Rd} (h : logOk l = true) : l.length ≤ 4096 ∧ ∀ i (hi : i < l.length), l[i].1 = (i : Int) ∧ l[i].2.1.size ≤ 32 ∧ l[i].2.2.1.length ≤ 256 := by
  unfold logOk at h
  cases hb : (List.range l.length).any (wrong l) with
  | true => rw [hb] at h; exact absurd h Bool.false_ne_true
  | false =>
    rw [hb, cond_false] at h
    refine ⟨of_decide_eq_true h, fun i hi => ?_⟩
    have := List.any_eq_false.1 hb i (List.mem_range.2 hi)
    unfold wrong at this
    have g : ∀ d, l.getD i d = l[i] := fun d => getD_lt hi
    simp only [g] at this
    cases h1 : (l[i].1 != (i : Int)) with
    | true => rw [h1] at this; exact absurd rfl this
    | false =>
      rw [h1, cond_false] at this
      have h1' : l[i].1 = (i : Int) := by simpa using h1
      by_cases h2 : l[i].2.1.size > 32
      · rw [decide_eq_true h2] at this; exact absurd rfl this
      · rw [decide_eq_false h2, cond_false] at this
        exact ⟨h1', by omega, by simpa using this⟩
theorem p22_is (l : List Rd) (a c : ByteArray) (hl : l.length ≤ 1048576) (hf : 4194304 < fu) : p22 fu (l, (a, c, ()), ()) = some ((), (keepS l a c).1, (keepS l a c).2, ()) := by
  unfold p22 keepS
  simp only [p46_is l (show l.length ≤ 2097152 by omega) hf, p45_is, bind_val]
  cases ho : logOk l
  · rfl
  cases hq : (chkB a c != 0) with
  | true => rfl
  | false =>
  simp only [Bool.not_true, cond_false]
  refine loop_fold l (fun i s => ((s.1, s.2, (i : Int), ()), ())) (keepT a c) (fun s => ((), (keepF s).1, (keepF s).2, ())) ([], []) (fun i s => s.1.length ≤ i ∧ s.2.length ≤ i) ⟨Nat.le_refl _, Nat.le_refl _⟩ (show l.length < fu by omega) (fun i hi s hs => ?_) (fun s hs => ?_) rfl
  · obtain ⟨s1, s2⟩ := s
    obtain ⟨h1, h2⟩ := hs
    have h1 : s1.length ≤ i := h1
    have h2 : s2.length ≤ i := h2
    have hg : ∀ d, l.getD i d = l[i] := fun d => getD_lt hi
    have hw : IntKind.wrap .u64 (s1.length : Int) = (s1.length : Int) := u64_wrap (by omega) (by omega)
    have hv := ((log_at ho).2 i hi).2.2
    have g : s2.length + [(s1.length : Int)].length ≤ maxLen ∧ (s2.length + [(s1.length : Int)].length) * 8 ≤ 140737488355328 := ⟨by unfold maxLen; simp only [List.length_singleton]; omega, by simp only [List.length_singleton]; omega⟩
    simp only [Int.ofNat_lt, Int.natCast_nonneg, hi, decide_true, cond_true, and_self, Int.toNat_natCast, hg, hw, g, p56_is, bind_val, p57_1_is s1 l[i] (show s1.length ≤ 2097152 by omega) (show l[i].2.2.1.length ≤ 140737488355328 by omega), i64_succ hi (by omega), keepT]
    cases hasB a c l[i].2.1
    · exact ⟨rfl, by show s1.length ≤ _; omega, by show (s2 ++ [_]).length ≤ _; rw [List.length_append]; simp only [List.length_singleton]; omega⟩
    · exact ⟨rfl, by show (s1 ++ [_]).length ≤ _; rw [List.length_append]; simp only [List.length_singleton]; omega, by show (s2 ++ [_]).length ≤ _; rw [List.length_append]; simp only [List.length_singleton]; omega⟩
  · obtain ⟨s1, s2⟩ := s
    have h1 : s1.length ≤ l.length := hs.1
    have h2 : s2.length ≤ l.length := hs.2
    have hw : IntKind.wrap .u64 (s1.length : Int) = (s1.length : Int) := u64_wrap (by omega) (by omega)
    have g : s2.length + [(s1.length : Int)].length ≤ maxLen ∧ (s2.length + [(s1.length : Int)].length) * 8 ≤ 140737488355328 := ⟨by unfold maxLen; simp only [List.length_singleton]; omega, by simp only [List.length_singleton]; omega⟩
    simp only [Int.ofNat_lt, Nat.lt_irrefl, decide_false, cond_false, decide_true, cond_true, hw, g, and_self]
    rfl
/-! ### The whole -/
def below (n l : List Rd) : Prop := ∀ x ∈ n, ∀ y ∈ l, x.2.2.2.1 = y.2.2.2.1 → x.2.2.2.2 ≤ y.2.2.2.2
def Kp (a c : ByteArray) (b : Nat) (j l : List Rd) (to : List Int) : Prop := to.length = l.length + 1 ∧ to.getD 0 0 = (b : Int) ∧
  ∀ i (h : i < l.length), ∃ p : Nat, to.getD i 0 = (p : Int) ∧ to.getD (i + 1) 0 = (bif hasB a c l[i].2.1 then (p : Int) + 1 else (p : Int)) ∧ p ≤ j.length ∧ (hasB a c l[i].2.1 = true → ∃ hp : p < j.length, j[p].2 = l[i].2)
theorem kp_fold (a c : ByteArray) : ∀ (l j0 : List Rd) (k0 : List Int), ∃ (rest : List Rd) (to : List Int), keepF (l.foldl (keepT a c) (j0, k0)) = (j0 ++ rest, k0 ++ to) ∧ Kp a c j0.length (j0 ++ rest) l to ∧ rest.length ≤ l.length
  | [], j0, k0 => ⟨[], [(j0.length : Int)], by rw [List.append_nil]; rfl, ⟨rfl, rfl, fun i h => absurd h (Nat.not_lt_zero _)⟩, Nat.le_refl _⟩
  | x :: l, j0, k0 => by
    rw [List.foldl_cons]
    cases hx : hasB a c x.2.1 with
    | true =>
      have e : keepT a c (j0, k0) x = (j0 ++ [numR j0 x], k0 ++ [(j0.length : Int)]) := by unfold keepT; rw [hx]; rfl
      obtain ⟨rest, to, e1, ⟨h1, h2, h3⟩, h4⟩ := kp_fold a c l (j0 ++ [numR j0 x]) (k0 ++ [(j0.length : Int)])
      have happ : j0 ++ [numR j0 x] ++ rest = j0 ++ numR j0 x :: rest := by simp
      have hlen : (j0 ++ [numR j0 x]).length = j0.length + 1 := by simp
      rw [happ] at h3
      rw [hlen] at h2
      refine ⟨numR j0 x :: rest, (j0.length : Int) :: to, by rw [e, e1, happ, List.append_assoc]; rfl, ⟨by simp only [List.length_cons, h1], rfl, fun i hi => ?_⟩, by simp only [List.length_cons]; omega⟩
      cases i with
      | zero =>
        refine ⟨j0.length, rfl, ?_, by simp, fun _ => ⟨by simp, ?_⟩⟩
        · show to.getD 0 0 = bif hasB a c x.2.1 then _ else _
          rw [h2, hx]; rfl
        · rw [List.getElem_append_right (Nat.le_refl _)]; simp [numR]
      | succ i => exact h3 i (Nat.lt_of_succ_lt_succ hi)
    | false =>
      have e : keepT a c (j0, k0) x = (j0, k0 ++ [(j0.length : Int)]) := by unfold keepT; rw [hx]; rfl
      obtain ⟨rest, to, e1, ⟨h1, h2, h3⟩, h4⟩ := kp_fold a c l j0 (k0 ++ [(j0.length : Int)])
      refine ⟨rest, (j0.length : Int) :: to, by rw [e, e1, List.append_assoc]; rfl, ⟨by simp only [List.length_cons, h1], rfl, fun i hi => ?_⟩, by simp only [List.length_cons]; omega⟩
      cases i with
      | zero =>
        refine ⟨j0.length, rfl, ?_, by simp, fun h => ?_⟩
        · show to.getD 0 0 = bif hasB a c x.2.1 then _ else _
          rw [h2, hx]; rfl
        · have h : hasB a c x.2.1 = true := h
          rw [hx] at h; cases h
      | succ i => exact h3 i (Nat.lt_of_succ_lt_succ hi)
end
section
variable {fu : Nat}
def isU (x : Int) : Prop := 0 ≤ x ∧ x < 18446744073709551616
def atS (o : List Int) (c : Int) : Int := o.getD (min (Int.toNat c) (o.length - 1)) 0
theorem p62_is (o : List Int) (c : Int) (ho : 0 < o.length) (hl : o.length ≤ 2097152) (hc : isU c) : p62 fu (o, c, ()) = some ((), atS o c) := by
  obtain ⟨c1, c2⟩ := hc
  unfold p62 atS
  have e1 : IntKind.wrap .u64 (IntKind.wrap .i64 ((o.length : Int) - 1)) = ((o.length - 1 : Nat) : Int) := by
    rw [i64_pred ho (by omega), u64_wrap (by omega) (by omega)]
  have e2 : (if ((o.length - 1 : Nat) : Int) < c then ((o.length - 1 : Nat) : Int) else c) = ((min (Int.toNat c) (o.length - 1) : Nat) : Int) := by split <;> omega
  have hlt : min (Int.toNat c) (o.length - 1) < o.length := by omega
  simp only [e1, e2, Int.natCast_nonneg, Int.ofNat_lt, hlt, and_self, decide_true, cond_true, Int.toNat_natCast, getD_lt hlt]
/-! ### Map -/
def mvC (o : List Int) (x : Cn) : Cn := (x.1, atS o x.2)
def mapS (l : List Cn) (o : List Int) : List Cn := bif decide (0 < o.length) then l.map (mvC o) else []
theorem okL_u {l : List Cn} (h : okL l) {i : Nat} (hi : i < l.length) : isU l[i].2 := (h.2 _ (List.getElem_mem hi)).2
theorem take_set_succ {α : Type} (l : List α) (i : Nat) (x : α) (h : i < l.length) : (l.set i x).take (i + 1) = l.take i ++ [x] := by
  rw [List.take_succ_eq_append_getElem (by simpa using h), List.getElem_set_self, List.take_set_of_le (Nat.le_refl _)]
theorem p95_is (l : List Cn) (o : List Int) (ho : 0 < o.length) (hl : okL l) (hol : o.length ≤ 2097152) (hf : 4194304 < fu) :
    p95 fu (l, ((), ((((o, ()), ()), ()), ())), ()) = some (((((o, ()), ()), ()), ()), l.map (mvC o)) := by
  have hn : l.length ≤ 2097152 := hl.1
  unfold p95
  cases hz : ((l.length : Int) == 0) with
  | true =>
    have : l = [] := List.length_eq_zero_iff.1 (by have := beq_iff_eq.1 hz; omega)
    subst this
    rfl
  | false =>
  have h1 : (0 : Int) ≤ (l.length : Int) ∧ (l.length : Int) ≤ (l.length : Int) ∧ (l.length : Int) ≤ 9223372036854775807 ∧ (24 : Int) * (l.length : Int) ≤ 140737488355328 := by omega
  simp only [hz, cond_false, h1, and_self, decide_true, cond_true, Int.toNat_natCast, List.length_replicate]
  refine (loopO_eq (I := fun s => ∃ (f : List Cn) (i : Nat), s = ((f, (i : Int), ()), ((((o, ()), ()), ()), ())) ∧ i ≤ l.length ∧ f.length = l.length) (m := fun s => l.length - Int.toNat s.1.2.1) (g := fun s => (((((o, ()), ()), ()), ()), s.1.1.take (Int.toNat s.1.2.1) ++ (l.drop (Int.toNat s.1.2.1)).map (mvC o))) (fun s hs => ?_) fu _ ⟨_, 0, rfl, Nat.zero_le _, List.length_replicate⟩ (by show l.length - 0 < fu; omega)).trans (show _ = some (((((o, ()), ()), ()), ()), l.map (mvC o)) by simp)
  obtain ⟨f, i, rfl, h2, h3⟩ := hs
  by_cases h : i < l.length
  · refine .inl ?_
    have hg : ∀ d, l.getD i d = l[i] := fun d => getD_lt h
    have h' : i < f.length := by omega
    have e69 : p96 fu ((l[i].1, l[i].2, ()), ((((o, ()), ()), ()), ())) = some (((((o, ()), ()), ()), ()), (l[i].1, atS o l[i].2, ())) := by
      unfold p96
      simp only [p62_is o _ ho hol (okL_u hl h), bind_val]
    simp only [Int.ofNat_lt, Int.natCast_nonneg, h, h', decide_true, cond_true, and_self, Int.toNat_natCast, hg, e69, bind_val, i64_succ h (by omega), List.length_set]
    refine ⟨_, rfl, ⟨_, i + 1, rfl, h, by rw [List.length_set]; exact h3⟩, by simp only [Int.toNat_natCast]; omega, ?_⟩
    simp only [Int.toNat_natCast, take_set_succ f i _ h', List.drop_eq_getElem_cons h, List.map_cons, List.append_assoc, List.singleton_append]
    rfl
  · refine .inr ?_
    obtain rfl : i = l.length := by omega
    simp only [Int.ofNat_lt, Nat.lt_irrefl, decide_false, cond_false, Int.toNat_natCast, List.drop_length, List.map_nil, List.append_nil]
    rw [← h3, List.take_length]
    rfl
theorem p24_is (l : List Cn) (o : List Int) (hl : okL l) (hol : o.length ≤ 2097152) (hf : 4194304 < fu) : p24 fu (l, o, ()) = some ((), mapS l o) := by
  unfold p24 mapS
  by_cases h : 0 < o.length
  · have h0 : ((o.length : Int) == 0) = false := beq_eq_false_iff_ne.2 (by omega)
    simp only [h0, cond_false, p61, p95_is l o h hl hol hf, bind_val, h, decide_true, cond_true]
  · have h0 : ((o.length : Int) == 0) = true := beq_iff_eq.2 (by omega)
    simp only [h0, cond_true, h, decide_false, cond_false]
end
section
variable {fu : Nat}
def standsB (o : Int) (to : List Int) : Bool := decide (o + 1 < (to.length : Int)) && decide (to.getD o.toNat (dflt (.int .u64)) < to.getD (o + 1).toNat (dflt (.int .u64)))
theorem p60_is (o : Int) (to : List Int) (h0 : 0 ≤ o) (hl : to.length ≤ 9223372036854775807) : p60 fu (o, to, ()) = some ((), standsB o to) := by
  have e1 := u64_wrap (x := (to.length : Int)) (by omega) (by omega)
  simp only [p60, standsB, e1]
  by_cases h1 : o < (to.length : Int)
  · have e2 := u64_wrap (x := o + 1) (by omega) (by omega)
    simp only [e2]
    by_cases h2 : o + 1 < (to.length : Int)
    · have h3 : 0 ≤ o + 1 := by omega
      have h4 : o.toNat < to.length := by omega
      have h5 : (o + 1).toNat < to.length := by omega
      simp [h0, h1, h2, h3, h4, h5]
    · simp [h1, h2]
  · have h2 : ¬ (o + 1 < (to.length : Int)) := by omega
    simp [h1, h2]
def mv (to : List Int) (x : Pr) : Pr := if x.2.2.1 = true ∧ standsB x.2.2.2 to = true then (x.1, x.2.1, true, to.getD x.2.2.2.toNat (dflt (.int .u64))) else (x.1, x.2.1, false, 0)
theorem p59_is (x : Pr) (to : List Int) (h0 : 0 ≤ x.2.2.2) (hl : to.length ≤ 9223372036854775807) :
    p59 fu ((x.1, x.2.1, x.2.2.1, x.2.2.2, ()), (to, ()), ()) = some ((), ((mv to x).1, (mv to x).2.1, (mv to x).2.2.1, (mv to x).2.2.2, ())) := by
  obtain ⟨a, b, c, d⟩ := x
  simp only [p59, mv]
  simp only at h0
  cases c with
  | false => simp [orK]
  | true =>
    simp only [cond_true, p60_is d to h0 hl, bind_val, orK_inl, true_and]
    cases hs : standsB d to with
    | false => simp
    | true =>
      have h1 : d + 1 < (to.length : Int) := by unfold standsB at hs; simp at hs; exact hs.1
      have h2 : d < (to.length : Int) := by omega
      have h3 : d.toNat < to.length := by omega
      simp [h0, h2, h3]
theorem p58_is (l : List Pr) (to : List Int) (h0 : ∀ x ∈ l, 0 ≤ x.2.2.2) (hl : l.length * 32 ≤ 140737488355328) (ht : to.length ≤ 9223372036854775807) (hf : l.length < fu) :
    p58 fu (l, ((), ((to, ()), ())), ()) = some (((to, ()), ()), l.map (mv to)) := by
  unfold p58
  by_cases hz : l.length = 0
  · have : l = [] := List.eq_nil_of_length_eq_zero hz
    subst this; rfl
  · have hz' : ((l.length : Int) == 0) = false := by simpa using hz
    have hb : ((0 : Int) ≤ (l.length : Int) ∧ ((l.length : Int) : Int) ≤ (l.length : Int) ∧ ((l.length : Int) : Int) ≤ 9223372036854775807 ∧ (32 : Int) * (l.length : Int) ≤ 140737488355328) := by omega
    simp only [hz', cond_false, hb, and_self, decide_true, cond_true, Int.toNat_natCast, List.length_replicate]
    refine loopO_eq (I := fun s => ∃ (v : List Pr) (i : Nat), s = ((v, (i : Int), ()), ()) ∧ i ≤ l.length ∧ v.length = l.length ∧ ∀ j, j < i → v[j]? = (l.map (mv to))[j]?) (m := fun s => l.length - s.1.2.1.toNat)
      (g := fun _ => (((to, ()), ()), l.map (mv to))) ?_ fu _ ⟨_, 0, rfl, Nat.zero_le _, by simp, fun j hj => absurd hj (Nat.not_lt_zero _)⟩ (by simpa using hf)
    rintro s ⟨v, i, rfl, h1, h2, h3⟩
    by_cases hi : i < l.length
    · left
      have hx : 0 ≤ (l.getD i (dflt T_api_Producer)).2.2.2 := by rw [getD_lt hi]; exact h0 _ (List.getElem_mem _)
      have e29 := p59_is (fu := fu) (l.getD i (dflt T_api_Producer)) to hx ht
      have hv : i < v.length := by omega
      refine ⟨((v.set i (mv to (l.getD i (dflt T_api_Producer))), ((i + 1 : Nat) : Int), ()), ()), ?_, ⟨_, i + 1, rfl, hi, by simpa using h2, fun j hj => ?_⟩, by simp only [Int.toNat_natCast]; omega, rfl⟩
      · simp only [Int.ofNat_lt, hi, hv, decide_true, cond_true, Int.natCast_nonneg, and_self, Int.toNat_natCast, e29, bind_val, List.length_set, i64_succ hi (by omega)]
      · rw [List.getElem?_set]
        by_cases hj' : i = j
        · subst hj'
          rw [if_pos rfl, if_pos hv, List.getElem?_map, List.getElem?_eq_getElem hi, getD_lt hi]; rfl
        · rw [if_neg hj']
          exact h3 j (by omega)
    · right
      obtain rfl : i = l.length := by omega
      have : v = l.map (mv to) := List.ext_getElem? fun j => by
        by_cases hj : j < l.length
        · exact h3 j hj
        · rw [List.getElem?_eq_none (by omega), List.getElem?_eq_none (by simp; omega)]
      simp [inrO, this]
theorem p23_is (l : List Pr) (to : List Int) (h0 : ∀ x ∈ l, 0 ≤ x.2.2.2) (hl : l.length * 32 ≤ 140737488355328) (ht : to.length ≤ 9223372036854775807) (hf : l.length < fu) :
    p23 fu (l, to, ()) = some ((), l.map (mv to)) := by
  unfold p23
  simp only [p58_is l to h0 hl ht hf, bind_val, decide_true, cond_true]
end
section
variable {fu : Nat}
theorem pIsN_is (a b : Int) : pIsN fu (a, b, ()) = some ((), a == b) := rfl
def noSt : St16 := (⟨#[]⟩, ⟨#[]⟩, 0, 0, [], [], [], ())
def badS (p : St16) : Bool := !chkS p || (p.2.2.1 == 18446744073709551615)
def liveS (p : St16) : Bool := p.2.2.2.1 == 0
def partS (p : St16) : Int := bif badS p then 172 else bif liveS p then 171 else 0
theorem loop1 {S R : Type} {f : S → Option (S ⊕ R)} {s : S} {r : R} (h : f s = some (.inr r)) (hf : 0 < fu) : loopO fu f s = some r := by
  obtain ⟨n, rfl⟩ : ∃ n, fu = n + 1 := ⟨fu - 1, by omega⟩
  simp only [loopO, h]
theorem loopN {S R : Type} {f : S → Option (S ⊕ R)} {n : Nat} {s s' : S} (h : f s = some (.inl s')) : loopO (n + 1) f s = loopO n f s' := by
  simp only [loopO, h]
theorem inrO_of {E R : Type} {o : Option R} {r : R} (h : o = some r) : inrO (E := E) o = some (.inr r) := by rw [h]; rfl
theorem p19_one (p : St16) (hb : bndS p) (hf : 4194304 < fu) : p19 fu ([((p.1, p.2.1), p.2.2.1, p.2.2.2.1, p.2.2.2.2.1, p.2.2.2.2.2.1, p.2.2.2.2.2.2.1)], ()) = some ((), partS p) := by
  have h16 := p16_is (fu := fu) p hb hf
  obtain ⟨lo, hi, e, z, l, ps, cs, ⟨⟩⟩ := p
  obtain ⟨n, rfl⟩ : ∃ n, fu = n + 1 + 1 := ⟨fu - 2, by omega⟩
  unfold p19 partS badS
  dsimp only
  have g : ∀ d, List.getD [((lo, hi), e, z, l, ps, cs)] 0 d = ((lo, hi), e, z, l, ps, cs) := fun d => rfl
  have e1 : decide ((0 : Int) < (List.length [((lo, hi), e, z, l, ps, cs)] : Int)) = true := rfl
  have e2 : decide ((0 : Int) ≤ 0 ∧ (0 : Int) < (List.length [((lo, hi), e, z, l, ps, cs)] : Int)) = true := rfl
  have e3 : decide (Int.toNat 0 < List.length [((lo, hi), e, z, l, ps, cs)]) = true := rfl
  have e3' : decide (0 < List.length [((lo, hi), e, z, l, ps, cs)]) = true := rfl
  have e4 : decide ((1 : Int) < (List.length [((lo, hi), e, z, l, ps, cs)] : Int)) = false := rfl
  have w1 : IntKind.wrap .i64 ((0 : Int) + 1) = 1 := rfl
  cases hc : chkS (lo, hi, e, z, l, ps, cs, ()) with
  | false =>
    rw [hc] at h16
    refine loop1 ?_ (by omega)
    simp only [e1, e2, e3', cond_true, Int.toNat_zero, g, h16, bind_val, pIsN_is, cond_false]
    rfl
  | true =>
    rw [hc] at h16
    cases hm : (e == 18446744073709551615) with
    | true =>
      refine loop1 ?_ (by omega)
      simp only [e1, e2, e3', cond_true, Int.toNat_zero, g, h16, bind_val, pIsN_is, hm, show ((0 : Int) == 165) = false from rfl, cond_false]
      rfl
    | false =>
      rw [loopN (s' := (((1 : Int), ()), ())) (by simp only [e1, e2, e3', cond_true, Int.toNat_zero, g, h16, bind_val, pIsN_is, hm, show ((0 : Int) == 165) = false from rfl, cond_false, w1])]
      refine loop1 ?_ (by omega)
      simp only [e4, cond_false]
      refine inrO_of ?_
      unfold liveS
      cases hz : (z == 0) with
      | true => exact loop1 (by simp only [e1, e2, e3', cond_true, Int.toNat_zero, g, hz]; rfl) (by omega)
      | false =>
        rw [loopN (s' := (((1 : Int), ()), ())) (by simp only [e1, e2, e3', cond_true, Int.toNat_zero, g, hz, cond_false, w1])]
        exact loop1 (by simp only [e4, cond_false]; rfl) (by omega)
def cutE (a c f : ByteArray) : Int := bif (chkB a c != 0) then chkB a c else bif !decide ((f.size : Int) ≤ 32) then 131 else bif (Op.bytesLess f.toList a.toList || f.toList == a.toList) then 132 else bif !hasB a c f then 132 else 0
def noRg : ByteArray × ByteArray × Unit := (⟨#[]⟩, ⟨#[]⟩, ())
theorem p20_is (a c f : ByteArray) : p20 fu ((a, c, ()), f, ()) = some ((), bif (cutE a c f != 0) then (noRg, noRg, cutE a c f, ()) else ((a, f, ()), (f, c, ()), 0, ())) := by
  unfold p20 cutE
  simp only [p45_is, p55, p56_is, bind_val]
  cases h1 : (chkB a c != 0) with
  | true => simp only [cond_true, orK_inl, h1]; rfl
  | false =>
    simp only [cond_false]
    cases h2 : !decide ((f.size : Int) ≤ 32) with
    | true => rfl
    | false =>
      simp only [cond_false]
      cases h3 : (Op.bytesLess f.toList a.toList || f.toList == a.toList) with
      | true => rfl
      | false =>
        simp only [cond_false]
        cases h4 : !hasB a c f with
        | true => rfl
        | false => simp only [cond_false, orK_inl, h1]; rfl
def kid (p : St16) (a c : ByteArray) : St16 := (a, c, IntKind.wrap .u64 (p.2.2.1 + 1), 0, (keepS p.2.2.2.2.1 a c).1, p.2.2.2.2.2.1.map (mv (keepS p.2.2.2.2.1 a c).2), mapS p.2.2.2.2.2.2.1 (keepS p.2.2.2.2.1 a c).2, ())
def splitS (p : St16) (f : ByteArray) : St16 × St16 × Int × Unit :=
  bif (partS p != 0) then (noSt, noSt, partS p, ()) else bif (cutE p.1 p.2.1 f != 0) then (noSt, noSt, cutE p.1 p.2.1 f, ()) else (kid p p.1 f, kid p f p.2.1, 0, ())
theorem keep_lens (l : List Rd) (a c : ByteArray) : (keepS l a c).1.length ≤ l.length ∧ (keepS l a c).2.length ≤ l.length + 1 := by
  unfold keepS
  cases logOk l with
  | false => exact ⟨Nat.zero_le _, Nat.zero_le _⟩
  | true =>
    cases (chkB a c != 0) with
    | true => exact ⟨Nat.zero_le _, Nat.zero_le _⟩
    | false =>
      obtain ⟨rest, to, h1, h2, h3⟩ := kp_fold a c l [] []
      simp only [Bool.not_true, cond_false, h1, List.nil_append]
      exact ⟨h3, by rw [h2.1]; exact Nat.le_refl _⟩
theorem p21_1_is (p : St16) (a c : ByteArray) (hb : bndS p) (hl : p.2.2.2.2.1.length ≤ 1048576) (hf : 4194304 < fu) : p21_1 fu ((a, c, ()), p, ()) = some ((p, ()), kid p a c) := by
  obtain ⟨lo, hi, e, z, l, ps, cs, ⟨⟩⟩ := p
  obtain ⟨h1, h2, h3, h4⟩ := hb
  obtain ⟨k1, k2⟩ := keep_lens l a c
  unfold p21_1 kid
  dsimp only at hl ⊢
  simp only [p22_is (fu := fu) l a c hl hf, bind_val, decide_true, cond_true, p23_is (fu := fu) ps (keepS l a c).2 h4 (by omega) (by omega) (by omega), p24_is (fu := fu) cs (keepS l a c).2 h3 (by omega) hf]
theorem p10_is (p : St16) (f : ByteArray) (hb : bndS p) (hl : p.2.2.2.2.1.length ≤ 1048576) (hf : 4194304 < fu) : p10 fu (p, f, ()) = some ((), splitS p f) := by
  have h19 := p19_one (fu := fu) p hb hf
  have h21 := fun a c => p21_1_is (fu := fu) p a c hb hl hf
  obtain ⟨lo, hi, e, z, l, ps, cs, ⟨⟩⟩ := p
  unfold p10 splitS
  dsimp only at h19 ⊢
  rw [h19]
  simp only [bind_val]
  cases h1 : (partS (lo, hi, e, z, l, ps, cs, ()) != 0) with
  | true => rfl
  | false =>
    simp only [cond_false]
    rw [p20_is]
    cases h2 : (cutE lo hi f != 0) with
    | true => simp only [bind_val, cond_true, noRg, h2]; rfl
    | false =>
      simp only [bind_val, cond_false, show ((0 : Int) != 0) = false from rfl]
      rw [h21 lo f]
      simp only [bind_val]
      rw [h21 f hi]
      simp only [bind_val, decide_true, cond_true, kid]
end
section
variable {fu : Nat}
def someS : St16 := (⟨#[]⟩, ⟨#[]⟩, 3, 1, [(0, ⟨#[97]⟩, [], 7, 1), (1, ⟨#[109]⟩, [], 7, 2), (2, ⟨#[98]⟩, [], 8, 1)], [(7, 2, true, 1), (8, 1, true, 2)], [(⟨#[99]⟩, 2)], ())
def someA : St16 := (⟨#[]⟩, ⟨#[99]⟩, 4, 0, [(0, ⟨#[97]⟩, [], 7, 1), (1, ⟨#[98]⟩, [], 8, 1)], [(7, 2, false, 0), (8, 1, true, 1)], [(⟨#[99]⟩, 1)], ())
def someB : St16 := (⟨#[99]⟩, ⟨#[]⟩, 4, 0, [(0, ⟨#[109]⟩, [], 7, 2)], [(7, 2, true, 0), (8, 1, false, 0)], [(⟨#[99]⟩, 1)], ())
theorem some_bnd : bndS someS := ⟨by decide, by decide, ⟨by decide, fun y hy => by
    rw [List.mem_singleton.1 hy]
    exact ⟨by decide, by decide, by decide⟩⟩, fun y hy => by
    rcases List.mem_cons.1 hy with e | e
    · rw [e]; decide
    · rw [List.mem_singleton.1 e]; decide⟩
theorem some_split : splitS someS ⟨#[99]⟩ = (someA, someB, 0, ()) := by kernel_rfl
theorem p9_is (hf : 4194304 < fu) : p9 fu () = some ((), true) := by
  have h := p10_is (fu := fu) someS ⟨#[99]⟩ some_bnd (by decide) hf
  rw [some_split] at h
  unfold p9
  rw [show p11 fu () = some ((), someS) from rfl]
  simp only [bind_val, someS, decide_true, cond_true] at h ⊢
  rw [h]
  rfl
theorem p12_same (p : St16) (h1 : p.2.2.2.2.1.length ≤ 2097152) (h2 : p.2.2.2.2.2.1.length ≤ 2097152) (h3 : p.2.2.2.2.2.2.1.length ≤ 2097152) (hf : 4194304 < fu) : p12 fu (p, p, ()) = some ((), true) := by
  obtain ⟨lo, hi, e, z, l, ps, cs, ⟨⟩⟩ := p
  unfold p12
  simp only [p25_same l h1 hf, p26_refl ps (show ps.length ≤ 9223372036854775806 by dsimp only at h2; omega) (show ps.length < fu by dsimp only at h2; omega), p27_is cs h3 hf, bind_val, cond_true, self_beq, beq_self_eq_true, Bool.and_self]
end
section
variable {fu : Nat}
theorem p102_is (a : ByteArray) (hf : a.size < fu) : p102 fu (a, ()) = some ((), nameB a) := by
  unfold p102 nameB
  have hl := numsOf_length a
  by_cases h1 : a.size < 1
  · have h2 : (a.size : Int) < 1 := by omega
    have h3 : ¬ (1 ≤ a.size ∧ a.size ≤ 32) := by omega
    simp only [h2, h3, decide_true, decide_false, cond_true]
    cases (numsOf a).any qb <;> rfl
  have h2 : ¬ (a.size : Int) < 1 := by omega
  by_cases h4 : a.size > 32
  · have h5 : (a.size : Int) > 32 := by omega
    have h3 : ¬ (1 ≤ a.size ∧ a.size ≤ 32) := by omega
    simp only [h2, h3, h5, decide_true, decide_false, cond_true, cond_false]
    cases (numsOf a).any qb <;> rfl
  have h5 : ¬ (a.size : Int) > 32 := by omega
  have h3 : (1 ≤ a.size ∧ a.size ≤ 32) := by omega
  simp only [h2, h3, h5, decide_true, decide_false, cond_false, and_self]
  refine loop_for (numsOf a) (fun i => (((i : Int), ()), ())) qb ((), false) ((), true) (by omega) (fun i h => ?_) ?_ (by cases (numsOf a).any qb <;> rfl)
  · have h' : i < a.size := by omega
    simp only [Int.ofNat_lt, Int.natCast_nonneg, h', decide_true, cond_true, and_self, Int.toNat_natCast, bAt_num a i h, i64_succ h' (by omega)]
    exact step_qb _
  · rw [hl]
    simp only [Int.ofNat_lt, Nat.lt_irrefl, decide_false, cond_false]; rfl
theorem p81_is (l : List Cn) (hl : okL l) (hf : 4194304 < fu) : p81 fu (l, ()) = some ((), okC l) := by
  unfold p81 okC
  have hn : l.length ≤ 2097152 := hl.1
  rcases Nat.lt_or_ge 64 l.length with h6' | h6
  · have h6 : ¬ l.length ≤ 64 := by omega
    have h7 : (l.length : Int) > 64 := by omega
    simp only [h6, h7, decide_true, decide_false, cond_true]
    cases (List.range l.length).any (bad l) <;> rfl
  have h7 : ¬ (l.length : Int) > 64 := by omega
  simp only [h6, h7, decide_true, decide_false, cond_false]
  refine loop_for (List.range l.length) (fun i => (((i : Int), ()), ())) (bad l) ((), false) ((), true) (by simp only [List.length_range]; omega) (fun i h => ?_) ?_ (by cases (List.range l.length).any (bad l) <;> rfl)
  · simp only [List.length_range] at h
    have hs := okL_at hl h
    have hg : ∀ d, l.getD i d = l[i] := fun d => getD_lt h
    simp only [List.getElem_range, Int.ofNat_lt, Int.natCast_nonneg, h, decide_true, cond_true, and_self, Int.toNat_natCast, hg, p102_is _ (fu := fu) (show l[i].1.size < fu by omega), bind_val, i64_succ h (by omega), bad]
    cases nameB l[i].1
    · rfl
    simp only [Bool.not_true, cond_false]
    by_cases h0 : 0 < i
    · have h1 : (i : Int) > 0 := by omega
      have h2 : i - 1 < l.length := by omega
      have h3 : ∀ d, l.getD (i - 1) d = l[i - 1] := fun d => getD_lt h2
      simp only [h0, h1, decide_true, cond_true, i64_pred h0 (by omega), Int.natCast_nonneg, Int.ofNat_lt, h2, and_self, Int.toNat_natCast, h3]
      cases Op.bytesLess l[i - 1].1.toList l[i].1.toList <;> rfl
    · have h1 : ¬ (i : Int) > 0 := by omega
      simp only [h0, h1, decide_false, cond_false]
  · simp only [List.length_range, Int.ofNat_lt, Nat.lt_irrefl, decide_false, cond_false]; rfl
theorem p105_is (o : List Int) (c : Int) (ho : 0 < o.length) (hl : o.length ≤ 2097152) (hc : isU c) : p105 fu (o, c, ()) = some ((), atS o c) := by
  obtain ⟨c1, c2⟩ := hc
  unfold p105 atS
  have e1 : IntKind.wrap .u64 (o.length : Int) = (o.length : Int) := u64_wrap (by omega) (by omega)
  have e3 : IntKind.wrap .i64 ((o.length : Int) - 1) = ((o.length - 1 : Nat) : Int) := i64_pred ho (by omega)
  have hlt : min (Int.toNat c) (o.length - 1) < o.length := by omega
  simp only [e1, e3]
  by_cases h : c ≥ (o.length : Int)
  · have e : min (Int.toNat c) (o.length - 1) = o.length - 1 := by omega
    have h' : o.length - 1 < o.length := by omega
    rw [e]
    simp only [h, decide_true, cond_true, Int.natCast_nonneg, Int.ofNat_lt, h', and_self, Int.toNat_natCast, getD_lt h']
  · have e : min (Int.toNat c) (o.length - 1) = Int.toNat c := by omega
    have e4 : IntKind.wrap .i64 c = ((Int.toNat c : Nat) : Int) := by rw [i64_wrap (by omega) (by omega)]; omega
    have h' : Int.toNat c < o.length := by omega
    rw [e]
    simp only [h, decide_false, cond_false, e4, Int.natCast_nonneg, Int.ofNat_lt, h', and_self, Int.toNat_natCast, getD_lt h', decide_true, cond_true]
/-! ### Map -/
theorem p87_is (l : List Cn) (o : List Int) (hl : okL l) (hol : o.length ≤ 2097152) (hf : 4194304 < fu) : p87 fu (l, o, ()) = some ((), mapS l o) := by
  have hn : l.length ≤ 2097152 := hl.1
  unfold p87 mapS
  by_cases ho : 0 < o.length
  · refine (loopO_eq (I := fun s => ∃ (f : List Cn) (i : Nat), s = ((f, (i : Int), ()), ()) ∧ i ≤ l.length ∧ f.length = i) (m := fun s => l.length - Int.toNat s.1.2.1) (g := fun s => ((), s.1.1 ++ (l.drop (Int.toNat s.1.2.1)).map (mvC o))) (fun s hs => ?_) fu _ ⟨[], 0, rfl, Nat.zero_le _, rfl⟩ (by show l.length - 0 < fu; omega)).trans (by simp [ho])
    obtain ⟨f, i, rfl, h2, h3⟩ := hs
    have ho' : (o.length : Int) > 0 := by omega
    by_cases h : i < l.length
    · refine .inl ?_
      have hg : ∀ d, l.getD i d = l[i] := fun d => getD_lt h
      simp only [Int.ofNat_lt, Int.natCast_nonneg, h, ho', decide_true, cond_true, and_self, Int.toNat_natCast, hg, p105_is o _ ho hol (okL_u hl h), bind_val, i64_succ h (by omega)]
      refine ⟨_, guardE ⟨by unfold maxLen; simp only [List.length_singleton]; omega, by simp only [List.length_singleton]; omega⟩, ⟨_, i + 1, rfl, h, by rw [List.length_append, h3]; rfl⟩, by simp only [Int.toNat_natCast]; omega, ?_⟩
      simp only [Int.toNat_natCast, List.drop_eq_getElem_cons h, List.map_cons, List.append_assoc, List.singleton_append]
      rfl
    · refine .inr ?_
      obtain rfl : i = l.length := by omega
      simp only [Int.ofNat_lt, Nat.lt_irrefl, decide_false, cond_false, decide_true, cond_true, Int.toNat_natCast, List.drop_length, List.map_nil, List.append_nil]
      rfl
  · have ho' : ¬ (o.length : Int) > 0 := by omega
    refine (loopO_eq (I := fun s => s = (([], 0, ()), ())) (m := fun s => 0) (g := fun s => ((), [])) (fun s hs => ?_) fu _ rfl (by omega)).trans (by simp [ho])
    subst hs
    refine .inr ?_
    simp only [ho', decide_false, cond_false, decide_true, cond_true]
    cases decide ((0 : Int) < (l.length : Int)) <;> rfl
end
section
variable {fu : Nat}
theorem p104_is (x : Pr) (to : List Int) (h0 : 0 ≤ x.2.2.2) (hl : to.length ≤ 9223372036854775807) :
    p104 fu ((x.1, x.2.1, x.2.2.1, x.2.2.2, ()), to, ()) = some ((), ((mv to x).1, (mv to x).2.1, (mv to x).2.2.1, (mv to x).2.2.2, ())) := by
  obtain ⟨a, b, c, d⟩ := x
  simp only at h0
  simp only [p104, mv]
  cases c with
  | false => simp [orK]
  | true =>
    simp only [cond_true, true_and]
    by_cases h1 : (to.length : Int) > 0
    · have e1 : IntKind.wrap .u64 (IntKind.wrap .i64 ((to.length : Int) - 1)) = (to.length : Int) - 1 := by rw [i64_wrap (by omega) (by omega), u64_wrap (by omega) (by omega)]
      simp only [h1, decide_true, cond_true, e1]
      by_cases h2 : d < (to.length : Int) - 1
      · have e2 : IntKind.wrap .i64 d = d := i64_wrap (by omega) (by omega)
        have e3 : IntKind.wrap .i64 (d + 1) = d + 1 := i64_wrap (by omega) (by omega)
        have k1 : 0 ≤ d + 1 ∧ d + 1 < (to.length : Int) := by omega
        have k2 : (d + 1).toNat < to.length := by omega
        have k3 : 0 ≤ d ∧ d < (to.length : Int) := by omega
        have k4 : d.toNat < to.length := by omega
        have es : standsB d to = decide (to.getD d.toNat (dflt (.int .u64)) < to.getD (d + 1).toNat (dflt (.int .u64))) := by
          unfold standsB; simp [k1.2]
        simp only [h2, e2, e3, k1, k2, k3, k4, decide_true, cond_true, and_self, orK_inl, es, gt_iff_lt, decide_eq_true_eq]
        by_cases h3 : to.getD d.toNat (dflt (.int .u64)) < to.getD (d + 1).toNat (dflt (.int .u64))
        · simp only [h3, decide_true, cond_true, if_true]
        · simp only [h3, decide_false, cond_false, if_false]
      · have es : standsB d to = false := by
          unfold standsB
          have : ¬ (d + 1 < (to.length : Int)) := by omega
          simp [this]
        simp [h2, es, orK]
    · have es : standsB d to = false := by
        unfold standsB
        have : ¬ (d + 1 < (to.length : Int)) := by omega
        simp [this]
      simp only [h1, es, decide_false, cond_false, orK_inl, Bool.false_eq_true, if_false]
theorem p86_is (l : List Pr) (to : List Int) (h0 : ∀ x ∈ l, 0 ≤ x.2.2.2) (hl : l.length * 32 ≤ 140737488355328) (ht : to.length ≤ 9223372036854775807) (hf : l.length < fu) :
    p86 fu (l, to, ()) = some ((), l.map (mv to)) := by
  unfold p86
  refine loopO_eq (I := fun s => ∃ i : Nat, s = (((l.take i).map (mv to), (i : Int), ()), ()) ∧ i ≤ l.length) (m := fun s => l.length - s.1.2.1.toNat) (g := fun _ => ((), l.map (mv to))) ?_ fu _ ⟨0, by simp, Nat.zero_le _⟩ (by simpa using hf)
  rintro s ⟨i, rfl, h1⟩
  by_cases hi : i < l.length
  · left
    have hx : 0 ≤ (l.getD i (dflt T_api_Producer)).2.2.2 := by rw [getD_lt hi]; exact h0 _ (List.getElem_mem _)
    have e37 := p104_is (fu := fu) (l.getD i (dflt T_api_Producer)) to hx ht
    have hb : (((l.take i).map (mv to)).length + [mv to (l.getD i (dflt T_api_Producer))].length ≤ maxLen ∧ (((l.take i).map (mv to)).length + [mv to (l.getD i (dflt T_api_Producer))].length) * 32 ≤ 140737488355328) := by
      simp only [List.length_map, List.length_take, List.length_singleton]
      exact ⟨by show _ ≤ 9223372036854775807; omega, by omega⟩
    refine ⟨(((l.take (i + 1)).map (mv to), ((i + 1 : Nat) : Int), ()), ()), ?_, ⟨i + 1, rfl, hi⟩, by simp only [Int.toNat_natCast]; omega, rfl⟩
    rw [take_snoc' hi (dflt T_api_Producer), List.map_append]
    simp only [Int.ofNat_lt, hi, decide_true, cond_true, Int.natCast_nonneg, true_and, Int.toNat_natCast, e37, bind_val, i64_succ hi (by omega), hb, List.map_cons, List.map_nil]
  · right
    obtain rfl : i = l.length := by omega
    simp [inrO]
theorem p80_is (l : List Pr) (hl : l.length ≤ 9223372036854775806) (hf : l.length < fu) : p80 fu (l, ()) = some ((), tabI l) := by
  unfold p80
  by_cases h256 : (l.length : Int) > 256
  · have : tabI l = false := by
      unfold tabI
      have : decide (l.length ≤ 256) = false := by simpa using (show 256 < l.length by omega)
      rw [this, Bool.and_false]
    simp only [h256, decide_true, cond_true, this]
  · simp only [h256, decide_false, cond_false]
    refine loopO_eq (I := fun s => ∃ i : Nat, s = (((i : Int), ()), ()) ∧ i ≤ l.length ∧ ∀ j, j < i → rowOK l j = true) (m := fun s => l.length - s.1.1.toNat)
      (g := fun _ => ((), tabI l)) ?_ fu _ ⟨0, rfl, Nat.zero_le _, fun j hj => absurd hj (Nat.not_lt_zero _)⟩ (by simpa using hf)
    rintro s ⟨i, rfl, h1, h2⟩
    by_cases hi : i < l.length
    · have hi' : (i : Int) < (l.length : Int) := by omega
      simp only [hi', decide_true, cond_true, Int.natCast_nonneg, Int.toNat_natCast, hi, and_self]
      have hrow : rowOK l i = ((i == 0 || decide ((l.getD (i - 1) (dflt T_api_Producer)).1 < (l.getD i (dflt T_api_Producer)).1)) && okP (l.getD i (dflt T_api_Producer))) := rfl
      have bad : rowOK l i = false → ((), tabI l) = ((), false) := fun h => by rw [tabI_no hi h]
      have good : rowOK l i = true → (∃ s' : ((Int × Unit) × Unit), (some (.inl ((IntKind.wrap .i64 ((i : Int) + (1 : Int)), ()), ())) : Option (((Int × Unit) × Unit) ⊕ (Unit × Bool))) = some (.inl s') ∧
          (∃ i : Nat, s' = (((i : Int), ()), ()) ∧ i ≤ l.length ∧ ∀ j, j < i → rowOK l j = true) ∧ l.length - s'.1.1.toNat < l.length - i ∧ True) := fun h =>
        ⟨((((i + 1 : Nat) : Int), ()), ()), by rw [i64_succ hi (by omega)], ⟨i + 1, rfl, hi, fun j hj => by
          rcases Nat.lt_succ_iff_lt_or_eq.1 hj with h' | rfl
          · exact h2 j h'
          · exact h⟩, by simp; omega, trivial⟩
      -- what stands ahead of it
      have hahead : ∃ bb : Bool, (i == 0 || decide ((l.getD (i - 1) (dflt T_api_Producer)).1 < (l.getD i (dflt T_api_Producer)).1)) = bb ∧ ∀ (X Y : Option (((Int × Unit) × Unit) ⊕ (Unit × Bool))), (bif decide ((i : Int) > (0 : Int)) then
              bif decide ((0 : Int) ≤ IntKind.wrap .i64 ((i : Int) - (1 : Int)) ∧ IntKind.wrap .i64 ((i : Int) - (1 : Int)) < (List.length l : Int)) then
               bif decide (Int.toNat (IntKind.wrap .i64 ((i : Int) - (1 : Int))) < List.length l) then
                  bif decide (((List.getD l (Int.toNat (IntKind.wrap .i64 ((i : Int) - (1 : Int)))) (dflt T_api_Producer)).1) ≥ (List.getD l i (dflt T_api_Producer)).1) then X else Y
               else none
              else none
             else Y) = bif bb then Y else X := by
        by_cases h0 : i = 0
        · subst h0; exact ⟨true, rfl, fun X Y => by simp⟩
        · have hpos : (i : Int) > 0 := by omega
          have hlt : i - 1 < l.length := by omega
          have hlt' : ((i - 1 : Nat) : Int) < (l.length : Int) := by omega
          have hw : IntKind.wrap .i64 ((i : Int) - (1 : Int)) = ((i - 1 : Nat) : Int) := i64_pred (by omega) (by omega)
          have h0' : (i == 0) = false := by simpa using h0
          refine ⟨decide ((l.getD (i - 1) (dflt T_api_Producer)).1 < (l.getD i (dflt T_api_Producer)).1), by rw [h0', Bool.false_or], fun X Y => ?_⟩
          simp only [hpos, decide_true, cond_true, hw, Int.natCast_nonneg, hlt', and_self, Int.toNat_natCast, hlt]
          by_cases hlt2 : (l.getD (i - 1) (dflt T_api_Producer)).1 < (l.getD i (dflt T_api_Producer)).1
          · have hn : ¬ (l.getD (i - 1) (dflt T_api_Producer)).1 ≥ (l.getD i (dflt T_api_Producer)).1 := by omega
            simp only [hn, hlt2, decide_true, decide_false, cond_true, cond_false]
          · have hn : (l.getD (i - 1) (dflt T_api_Producer)).1 ≥ (l.getD i (dflt T_api_Producer)).1 := by omega
            simp only [hn, hlt2, decide_true, decide_false, cond_true, cond_false]
      obtain ⟨bb, hbb, hah⟩ := hahead
      rw [hbb] at hrow
      simp only [hah]
      clear hah hbb
      obtain ⟨x, hx⟩ : ∃ x, l.getD i (dflt T_api_Producer) = x := ⟨_, rfl⟩
      simp only [hx] at hrow ⊢
      clear hx
      obtain ⟨x1, x2, x3, x4⟩ := x
      simp only [okP, seqB] at hrow
      simp only
      by_cases hz : x1 = 0
      · right; rw [bad (by rw [hrow]; simp [hz])]; simp [hz, inrO]
      · have hz' : (x1 == (0 : Int)) = false := by simpa using hz
        simp only [hz', cond_false]
        by_cases hs1 : x2 < 1
        · right
          have : decide (1 ≤ x2) = false := by simpa using hs1
          rw [bad (by rw [hrow, this]; simp)]; simp [hs1, inrO]
        · have hs1' : decide (1 ≤ x2) = true := by simpa using (show 1 ≤ x2 by omega)
          simp only [hs1, decide_false, cond_false]
          by_cases hs2 : x2 > 9223372036854775807
          · right
            have : decide (x2 ≤ 9223372036854775807) = false := by simpa using hs2
            rw [bad (by rw [hrow, this]; simp)]; simp [hs2, inrO]
          · have hs2' : decide (x2 ≤ 9223372036854775807) = true := by simpa using (show x2 ≤ 9223372036854775807 by omega)
            simp only [hs2, decide_false, cond_false]
            cases bb with
            | false =>
              right; rw [bad (by rw [hrow]; rfl)]
              cases x3 with
              | true => simp [inrO]
              | false =>
                by_cases h4 : x4 = 0
                · simp [h4, inrO]
                · have h4' : (x4 != (0 : Int)) = true := by simpa using h4
                  simp [h4', inrO]
            | true =>
              cases x3 with
              | true =>
                left
                simp only [Bool.not_true, cond_false, cond_true]
                exact good (by rw [hrow]; simp [hz, hs1', hs2'])
              | false =>
                by_cases h4 : x4 = 0
                · subst h4
                  left
                  simp only [Bool.not_false, cond_true, bne_self_eq_false, cond_false]
                  exact good (by rw [hrow]; simp [hz, hs1', hs2'])
                · right; rw [bad (by rw [hrow]; simp [h4])]
                  have h4' : (x4 != (0 : Int)) = true := by simpa using h4
                  simp [h4', inrO]
    · right
      have e : i = l.length := by omega
      subst e
      have : (List.range l.length).all (rowOK l) = true := List.all_eq_true.2 fun j hj => h2 j (List.mem_range.1 hj)
      simp [inrO, tabI, this]
      omega
end
section
variable {fu : Nat}
theorem p79_is (l : List Rd) (hl : l.length ≤ 2097152) (hf : 4194304 < fu) : p79 fu (l, ()) = some ((), logOk l) := by
  unfold p79 logOk
  by_cases h4 : l.length ≤ 4096
  · have h4' : ¬ (l.length : Int) > 4096 := by omega
    simp only [h4', decide_false, cond_false, h4, decide_true]
    refine loop_for (List.range l.length) (fun i => (((i : Int), ()), ())) (wrong l) ((), false) ((), true) (by simp only [List.length_range]; omega) (fun i h => ?_) ?_ (by cases (List.range l.length).any (wrong l) <;> rfl)
    · simp only [List.length_range] at h
      have hg : ∀ d, l.getD i d = l[i] := fun d => getD_lt h
      have hw : IntKind.wrap .u64 (i : Int) = (i : Int) := u64_wrap (by omega) (by omega)
      simp only [List.getElem_range, Int.ofNat_lt, Int.natCast_nonneg, h, decide_true, cond_true, and_self, Int.toNat_natCast, hg, hw, i64_succ h (by omega), wrong]
      cases (l[i].1 != (i : Int))
      · simp only [cond_false]
        by_cases c1 : l[i].2.1.size > 32
        · simp only [c1, show (l[i].2.1.size : Int) > 32 by omega, decide_true, cond_true, inrO_val]
        · by_cases c2 : l[i].2.2.1.length > 256
          · simp only [c1, show ¬ (l[i].2.1.size : Int) > 32 by omega, c2, show (l[i].2.2.1.length : Int) > 256 by omega, decide_true, decide_false, cond_true, cond_false, inrO_val]
          · simp only [c1, show ¬ (l[i].2.1.size : Int) > 32 by omega, c2, show ¬ (l[i].2.2.1.length : Int) > 256 by omega, decide_false, cond_false]
      · rfl
    · simp only [List.length_range, Int.ofNat_lt, Nat.lt_irrefl, decide_false, cond_false]
      rfl
  · have h4' : (l.length : Int) > 4096 := by omega
    simp only [h4', decide_true, cond_true, h4, decide_false]
    cases (List.range l.length).any (wrong l) <;> rfl
theorem p82_is (a c : ByteArray) : p82 fu ((a, c, ()), ()) = some ((), chkB a c) := by
  unfold p82 chkB befB
  by_cases c1 : a.size ≤ 32
  · by_cases c2 : c.size ≤ 32
    · simp only [show ¬ (a.size : Int) > 32 by omega, show ¬ (c.size : Int) > 32 by omega, show (a.size : Int) ≤ 32 by omega, show (c.size : Int) ≤ 32 by omega, decide_true, decide_false, cond_false, Bool.not_true]
      cases (ByteArray.toList c == ByteArray.toList (⟨#[]⟩ : ByteArray)) with
      | true => rfl
      | false =>
        cases (Op.bytesLess (ByteArray.toList c) (ByteArray.toList a) || ByteArray.toList c == ByteArray.toList a) <;> rfl
    · simp only [show ¬ (a.size : Int) > 32 by omega, show (c.size : Int) > 32 by omega, show (a.size : Int) ≤ 32 by omega, show ¬ (c.size : Int) ≤ 32 by omega, decide_true, decide_false, cond_true, cond_false, Bool.not_true, Bool.not_false]
  · simp only [show (a.size : Int) > 32 by omega, show ¬ (a.size : Int) ≤ 32 by omega, decide_true, decide_false, cond_true, Bool.not_false]
theorem bef_less {c f : ByteArray} : befB c f = bif (ByteArray.toList c == ByteArray.toList (⟨#[]⟩ : ByteArray)) then true else Op.bytesLess f.toList c.toList := by
  unfold befB
  cases (ByteArray.toList c == ByteArray.toList (⟨#[]⟩ : ByteArray)) with
  | true => rfl
  | false =>
    simp only [cond_false, less_ky, eq_ky]
    by_cases h : ky c < ky f
    · have : ¬ ky f < ky c := fun g => lt_irr _ (lt_lt h g)
      simp [h, this]
    · by_cases g : c = f
      · subst g; simp
      · have hh : ky f < ky c := by
          by_cases k : ky f < ky c
          · exact k
          · exact absurd (ky_inj (both_not h k)) g
        simp [h, g, hh]
theorem p83_is (a c f : ByteArray) : p83 fu ((a, c, ()), f, ()) = some ((), hasB a c f) := by
  unfold p83 hasB
  simp only [p82_is, bind_val]
  cases (chkB a c == 0) with
  | false => rfl
  | true =>
    simp only [cond_true]
    cases decide ((f.size : Int) ≤ 32) with
    | false => rfl
    | true =>
      simp only [cond_true]
      cases Op.bytesLess f.toList a.toList with
      | true => rfl
      | false =>
        simp only [Bool.not_false, cond_true, bef_less]
        cases (ByteArray.toList c == ByteArray.toList (⟨#[]⟩ : ByteArray)) <;> rfl
def proI (l : List Pr) (id : Int) : Int := bif decide (findI l id < l.length) then (findI l id : Int) else -1
theorem p84_is (l : List Pr) (id : Int) (hl : l.length ≤ 9223372036854775806) (hf : l.length < fu) : p84 fu (l, id, ()) = some ((), proI l id) := by
  unfold p84
  refine loopO_eq (I := fun s => ∃ i : Nat, s = (((i : Int), ()), ()) ∧ i ≤ l.length ∧ ∀ j (hj : j < l.length), j < i → ¬ (l[j]).1 = id) (m := fun s => l.length - s.1.1.toNat)
    (g := fun _ => ((), proI l id)) ?_ fu _ ⟨0, rfl, Nat.zero_le _, fun j _ hj => absurd hj (Nat.not_lt_zero _)⟩ (by simpa using hf)
  rintro s ⟨i, rfl, h1, h2⟩
  by_cases hi : i < l.length
  · have hg : ∀ d, l.getD i d = l[i] := fun d => getD_lt hi
    simp only [Int.ofNat_lt, hi, decide_true, cond_true, Int.natCast_nonneg, Int.toNat_natCast, and_self, hg]
    by_cases he : l[i].1 = id
    · right
      have hk : findI l id = i := by
        unfold findI
        refine (List.findIdx_eq hi).2 ⟨by simpa using he, fun j hj => ?_⟩
        have := h2 j (by omega) hj
        simpa using this
      rw [beq_iff_eq.2 he]
      simp only [cond_true, inrO_val, proI, hk, hi, decide_true]
    · left
      have he' : (l[i].1 == id) = false := by simpa using he
      refine ⟨((((i + 1 : Nat) : Int), ()), ()), by rw [he', i64_succ hi (by omega)]; rfl, ⟨i + 1, rfl, hi, fun j hj hji => ?_⟩, by simp; omega, trivial⟩
      rcases Nat.lt_succ_iff_lt_or_eq.1 hji with g | rfl
      · exact h2 j hj g
      · exact he
  · right
    have hn : ¬ (i : Int) < (l.length : Int) := by omega
    obtain rfl : i = l.length := by omega
    have hk : ¬ findI l id < l.length := fun hh => by
      exact h2 _ hh hh (find_id hh)
    simp only [hn, decide_false, cond_false, inrO_val, proI, hk]
theorem bif_any {X R : Type} (l : List X) (q : X → Bool) (a b : R) : (bif l.any fun x => !q x then a else b) = bif l.all q then b else a := by
  rw [← List.not_all_eq_any_not]
  cases l.all q <;> rfl
theorem p42_is (p : St16) (hb : bndS p) (hf : 4194304 < fu) : p42 fu (p, ()) = some ((), bif chkS p then 0 else 165) := by
  obtain ⟨lo, hi, e, z, l, ps, cs, ⟨⟩⟩ := p
  obtain ⟨hl, hp, hcs, h0⟩ := hb
  unfold p42
  simp only [p82_is, bind_val, p79_is l hl hf, p80_is ps (by omega) (show ps.length < fu by omega), p81_is cs hcs hf, chkS]
  cases hc : (chkB lo hi == 0) with
  | false => simp only [bne, hc, Bool.not_false, cond_true, Bool.false_and, cond_false]
  | true =>
  simp only [bne, hc, Bool.not_true, cond_false, Bool.true_and]
  cases (e == 0) with
  | true => rfl
  | false =>
  simp only [cond_false, Bool.not_false, Bool.true_and]
  cases logOk l with
  | false => rfl
  | true =>
  simp only [Bool.not_true, cond_false, Bool.true_and]
  cases ht : tabI ps with
  | false => rfl
  | true =>
  have hs := ((tab_iff ps).1 ht).2.1
  simp only [Bool.not_true, cond_false, Bool.true_and]
  cases okC cs with
  | false => rfl
  | true =>
  simp only [Bool.not_true, cond_false, Bool.true_and]
  have h1 : (0 : Int) ≤ (ps.length : Int) ∧ (ps.length : Int) ≤ (ps.length : Int) ∧ (ps.length : Int) ≤ 9223372036854775807 ∧ (8 : Int) * (ps.length : Int) ≤ 140737488355328 := by omega
  simp only [h1, and_self, decide_true, cond_true, Int.toNat_natCast, List.length_replicate]
  have e0 : ((List.replicate ps.length (0 : Int), (0 : Int), ()), ()) = (fun i : Nat => ((lastL ps l i, (i : Int), ()), ())) 0 := by
    simp only [lastL, List.take_zero, lastS, List.foldl_nil, List.map_const']
    rfl
  rw [e0]
  refine loop_for (List.range l.length) (fun i : Nat => ((lastL ps l i, (i : Int), ()), ())) (fun j => !recOk lo hi ps l j) ((), (165 : Int)) ((), bif (ps.all (proOk l) && cs.all (conOk l)) then 0 else 165) (by simp; omega) (fun i h => ?_) ?_ ?_
  · have hi' : i < l.length := by simpa using h
    have hll : (lastL ps l i).length = ps.length := by simp [lastL]
    have hg : ∀ d, l.getD i d = l[i] := fun d => getD_lt hi'
    simp only [Int.ofNat_lt, hi', decide_true, cond_true, Int.natCast_nonneg, true_and, Int.toNat_natCast, hg, bind_val, List.getElem_range, p83_is, p84_is ps l[i].2.2.2.1 (by omega) (show ps.length < fu by omega), recOk, recOk1]
    cases hh : hasB lo hi l[i].2.1 with
    | false => simp only [Bool.not_false, cond_true, Bool.false_and, Bool.and_false, inrO_val]
    | true =>
      simp only [Bool.not_true, cond_false, Bool.true_and]
      by_cases hk : findI ps l[i].2.2.2.1 < ps.length
      · have hgp : ∀ d, ps.getD (findI ps l[i].2.2.2.1) d = ps[findI ps l[i].2.2.2.1] := fun d => getD_lt hk
        have hp0 : proI ps l[i].2.2.2.1 = (findI ps l[i].2.2.2.1 : Int) := by simp only [proI, hk, decide_true, cond_true]
        have hpn : ¬ ((findI ps l[i].2.2.2.1 : Nat) : Int) < 0 := by omega
        simp only [hp0, hpn, hk, decide_true, decide_false, cond_false, Bool.true_and, hll, Int.ofNat_lt, and_self, Int.natCast_nonneg, cond_true, Int.toNat_natCast, lastL_get hk, hgp, List.length_set]
        by_cases h3 : lastS (l.take i) l[i].2.2.2.1 < l[i].2.2.2.2
        · have h3' : ¬ l[i].2.2.2.2 ≤ lastS (l.take i) l[i].2.2.2.1 := by omega
          by_cases h4 : l[i].2.2.2.2 ≤ (ps[findI ps l[i].2.2.2.1]).2.1
          · have h4' : ¬ l[i].2.2.2.2 > (ps[findI ps l[i].2.2.2.1]).2.1 := by omega
            simp only [h3, h3', h4, h4', decide_true, decide_false, cond_false, Bool.and_self, Bool.not_true, lastL_succ hs hi' hk, i64_succ hi' (by omega)]
          · have h4' : l[i].2.2.2.2 > (ps[findI ps l[i].2.2.2.1]).2.1 := by omega
            simp only [h3, h3', h4, h4', decide_true, decide_false, cond_false, cond_true, Bool.and_false, Bool.not_false, inrO_val]
        · have h3' : l[i].2.2.2.2 ≤ lastS (l.take i) l[i].2.2.2.1 := by omega
          simp only [h3, h3', decide_true, decide_false, cond_true, Bool.false_and, Bool.not_false, inrO_val]
      · have hp0 : proI ps l[i].2.2.2.1 = -1 := by simp only [proI, hk, decide_false, cond_false]
        simp only [hp0, hk, show ((-1 : Int) < 0) from by decide, decide_true, decide_false, cond_true, Bool.false_and, Bool.not_false, inrO_val]
  · simp only [List.length_range, Int.lt_irrefl, decide_false, cond_false]
    refine congrArg inrO ?_ |>.trans (inrO_val)
    refine loop_for ps (fun i : Nat => (((i : Int), ()), ())) (fun y => !proOk l y) ((), (165 : Int)) ((), bif cs.all (conOk l) then 0 else 165) (show ps.length < fu by omega) (fun i h => ?_) ?_ ?_
    · have hg : ∀ d, ps.getD i d = ps[i] := fun d => getD_lt h
      have hz := h0 _ (List.getElem_mem h)
      simp only [Int.ofNat_lt, h, decide_true, cond_true, Int.natCast_nonneg, true_and, Int.toNat_natCast, hg, proOk, u64_wrap (x := (l.length : Int)) (by omega) (by omega)]
      cases hh : ps[i].2.2.1 with
      | false => simp only [Bool.not_false, cond_true, Bool.true_or, Bool.not_true, cond_false, i64_succ h (by omega)]
      | true =>
        simp only [Bool.not_true, cond_false, Bool.false_or]
        by_cases h3 : ps[i].2.2.2 < (l.length : Int)
        · have h3' : ¬ ps[i].2.2.2 ≥ (l.length : Int) := by omega
          have h3n : ps[i].2.2.2.toNat < l.length := by omega
          have hgl : ∀ d, l.getD ps[i].2.2.2.toNat d = l[ps[i].2.2.2.toNat] := fun d => getD_lt h3n
          simp only [i64_wrap (x := ps[i].2.2.2) (by omega) (by omega), h3, h3', h3n, hz, and_self, decide_true, decide_false, cond_true, cond_false, hgl, Bool.true_and]
          cases h4 : (l[ps[i].2.2.2.toNat].2.2.2.1 == ps[i].1) with
          | false => simp only [Bool.not_false, cond_true, Bool.false_and, inrO_val]
          | true =>
            simp only [Bool.not_true, cond_false, Bool.true_and]
            cases h5 : (l[ps[i].2.2.2.toNat].2.2.2.2 == ps[i].2.1) with
            | false => simp only [Bool.not_false, cond_true, inrO_val]
            | true => simp only [Bool.not_true, cond_false, i64_succ h (by omega)]
        · have h3' : ps[i].2.2.2 ≥ (l.length : Int) := by omega
          simp only [h3, h3', decide_true, decide_false, cond_true, Bool.false_and, Bool.not_false, inrO_val]
    · simp only [Int.lt_irrefl, decide_false, cond_false]
      refine congrArg inrO ?_ |>.trans (inrO_val)
      refine loop_for cs (fun i : Nat => (((i : Int), ()), ())) (fun y => !conOk l y) ((), (165 : Int)) ((), (0 : Int)) (show cs.length < fu by have := hcs.1; omega) (fun i h => ?_) ?_ ?_
      · have hg : ∀ d, cs.getD i d = cs[i] := fun d => getD_lt h
        have hcl := hcs.1
        simp only [Int.ofNat_lt, h, decide_true, cond_true, Int.natCast_nonneg, true_and, Int.toNat_natCast, hg, conOk, u64_wrap (x := (l.length : Int)) (by omega) (by omega)]
        by_cases h3 : cs[i].2 ≤ (l.length : Int)
        · have h3' : ¬ cs[i].2 > (l.length : Int) := by omega
          simp only [h3, h3', decide_true, decide_false, cond_false, Bool.not_true, i64_succ h (by omega)]
        · have h3' : cs[i].2 > (l.length : Int) := by omega
          simp only [h3, h3', decide_true, decide_false, cond_true, Bool.not_false, inrO_val]
      · simp only [Int.lt_irrefl, decide_false, cond_false, inrO_val]
      · rw [bif_any]; cases cs.all (conOk l) <;> rfl
    · rw [bif_any]; cases ps.all (proOk l) <;> rfl
  · rw [bif_any]; cases (List.range l.length).all (recOk lo hi ps l) <;> rfl
end
section
variable {fu : Nat}
theorem p43_is (a c f : ByteArray) : p43 fu ((a, c, ()), f, ()) = some ((), bif (cutE a c f != 0) then (noRg, noRg, cutE a c f, ()) else ((a, f, ()), (f, c, ()), 0, ())) := by
  unfold p43 cutE
  simp only [p82_is, p83_is, bind_val]
  cases h1 : (chkB a c != 0) with
  | true => simp only [cond_true, h1]; rfl
  | false =>
    simp only [cond_false]
    by_cases h2 : (f.size : Int) ≤ 32
    · have h2' : ¬ (f.size : Int) > 32 := by omega
      simp only [h2, h2', decide_true, decide_false, cond_false, Bool.not_true]
      cases h3 : (Op.bytesLess f.toList a.toList || f.toList == a.toList) with
      | true => rfl
      | false =>
        simp only [cond_false, orK_inl]
        cases h4 : !hasB a c f with
        | true => rfl
        | false => rfl
    · have h2' : (f.size : Int) > 32 := by omega
      simp only [h2, h2', decide_true, decide_false, cond_true, Bool.not_false]
      rfl
theorem p103_is (n : List Rd) (x : Rd) (hn : n.length ≤ 2097152) (hx : x.2.2.1.length ≤ 140737488355328) :
    p103 fu ((x.1, x.2.1, x.2.2.1, x.2.2.2.1, x.2.2.2.2, ()), (n.length : Int), ()) = some ((), ((numR n x).1, (numR n x).2.1, (numR n x).2.2.1, (numR n x).2.2.2.1, (numR n x).2.2.2.2, ())) := by
  unfold p103 numR
  have hw : IntKind.wrap .u64 (n.length : Int) = (n.length : Int) := u64_wrap (by omega) (by omega)
  have g : List.length ([] : List Int) + List.length x.2.2.1 ≤ maxLen ∧ (List.length ([] : List Int) + List.length x.2.2.1) * 1 ≤ 140737488355328 := ⟨by unfold maxLen; simp only [List.length_nil]; omega, by simp only [List.length_nil]; omega⟩
  simp only [List.length_nil, decide_true, cond_true, List.nil_append, hw] at g ⊢
  simp only [g, and_self, decide_true, cond_true]
theorem p85_is (l : List Rd) (a c : ByteArray) (hl : l.length ≤ 1048576) (hf : 4194304 < fu) : p85 fu (l, (a, c, ()), ()) = some ((), (keepS l a c).1, (keepS l a c).2, ()) := by
  unfold p85 keepS
  simp only [p79_is l (show l.length ≤ 2097152 by omega) hf, p82_is, bind_val]
  cases ho : logOk l
  · rfl
  cases hq : (chkB a c != 0) with
  | true => rfl
  | false =>
  simp only [Bool.not_true, cond_false]
  refine loop_fold l (fun i s => ((s.1, s.2, (i : Int), ()), ())) (keepT a c) (fun s => ((), (keepF s).1, (keepF s).2, ())) ([], []) (fun i s => s.1.length ≤ i ∧ s.2.length ≤ i) ⟨Nat.le_refl _, Nat.le_refl _⟩ (show l.length < fu by omega) (fun i hi s hs => ?_) (fun s hs => ?_) rfl
  · obtain ⟨s1, s2⟩ := s
    obtain ⟨h1, h2⟩ := hs
    have h1 : s1.length ≤ i := h1
    have h2 : s2.length ≤ i := h2
    have hg : ∀ d, l.getD i d = l[i] := fun d => getD_lt hi
    have hw : IntKind.wrap .u64 (s1.length : Int) = (s1.length : Int) := u64_wrap (by omega) (by omega)
    have hv := ((log_at ho).2 i hi).2.2
    have g : s2.length + [(s1.length : Int)].length ≤ maxLen ∧ (s2.length + [(s1.length : Int)].length) * 8 ≤ 140737488355328 := ⟨by unfold maxLen; simp only [List.length_singleton]; omega, by simp only [List.length_singleton]; omega⟩
    have g2 : ∀ y : Rd, s1.length + [y].length ≤ maxLen ∧ (s1.length + [y].length) * 64 ≤ 140737488355328 := fun y => ⟨by unfold maxLen; simp only [List.length_singleton]; omega, by simp only [List.length_singleton]; omega⟩
    simp only [Int.ofNat_lt, Int.natCast_nonneg, hi, decide_true, cond_true, and_self, Int.toNat_natCast, hg, hw, g, p83_is, bind_val, p103_is s1 l[i] (show s1.length ≤ 2097152 by omega) (show l[i].2.2.1.length ≤ 140737488355328 by omega), i64_succ hi (by omega), keepT]
    cases hasB a c l[i].2.1
    · exact ⟨rfl, by show s1.length ≤ _; omega, by show (s2 ++ [_]).length ≤ _; rw [List.length_append]; simp only [List.length_singleton]; omega⟩
    · simp only [cond_true, g2, and_self, decide_true]
      exact ⟨trivial, by show (s1 ++ [_]).length ≤ _; rw [List.length_append]; simp only [List.length_singleton]; omega, by show (s2 ++ [_]).length ≤ _; rw [List.length_append]; simp only [List.length_singleton]; omega⟩
  · obtain ⟨s1, s2⟩ := s
    have h1 : s1.length ≤ l.length := hs.1
    have h2 : s2.length ≤ l.length := hs.2
    have hw : IntKind.wrap .u64 (s1.length : Int) = (s1.length : Int) := u64_wrap (by omega) (by omega)
    have g : s2.length + [(s1.length : Int)].length ≤ maxLen ∧ (s2.length + [(s1.length : Int)].length) * 8 ≤ 140737488355328 := ⟨by unfold maxLen; simp only [List.length_singleton]; omega, by simp only [List.length_singleton]; omega⟩
    simp only [Int.ofNat_lt, Nat.lt_irrefl, decide_false, cond_false, decide_true, cond_true, hw, g, and_self]
    rfl
theorem p44_is (p : St16) (a c : ByteArray) (hb : bndS p) (hl : p.2.2.2.2.1.length ≤ 1048576) (hf : 4194304 < fu) : p44 fu (p, (a, c, ()), ()) = some ((), kid p a c) := by
  obtain ⟨lo, hi, e, z, l, ps, cs, ⟨⟩⟩ := p
  obtain ⟨h1, h2, h3, h4⟩ := hb
  obtain ⟨k1, k2⟩ := keep_lens l a c
  unfold p44 kid
  dsimp only at hl ⊢
  simp only [p85_is (fu := fu) l a c hl hf, bind_val, decide_true, cond_true, p86_is (fu := fu) ps (keepS l a c).2 h4 (by omega) (by omega) (by omega), p87_is (fu := fu) cs (keepS l a c).2 h3 (by omega) hf]
theorem wrap_last {e : Int} (h0 : 0 ≤ e) (h1 : e < 18446744073709551616) : (IntKind.wrap .u64 (e + 1) == 0) = (e == 18446744073709551615) := by
  by_cases h : e = 18446744073709551615
  · subst h; rfl
  · rw [u64_wrap (by omega) (by omega)]
    have a1 : (e + 1 == 0) = false := by simp; omega
    have a2 : (e == 18446744073709551615) = false := by simp; omega
    rw [a1, a2]
theorem p15_is (p : St16) (f : ByteArray) (hb : bndS p) (hl : p.2.2.2.2.1.length ≤ 1048576) (he : 0 ≤ p.2.2.1) (he' : p.2.2.1 < 18446744073709551616) (hf : 4194304 < fu) : p15 fu (p, f, ()) = some ((), splitS p f) := by
  have h19 := p42_is (fu := fu) p hb hf
  have h21 := fun a c => p44_is (fu := fu) p a c hb hl hf
  obtain ⟨lo, hi, e, z, l, ps, cs, ⟨⟩⟩ := p
  unfold p15 splitS partS badS liveS
  dsimp only at h19 he he' ⊢
  rw [h19]
  simp only [bind_val, wrap_last he he']
  cases hc : chkS (lo, hi, e, z, l, ps, cs, ()) with
  | false => simp only [cond_false, show ((165 : Int) != 0) = true from rfl, cond_true, orK_inl, Bool.not_false, Bool.true_or, show ((172 : Int) != 0) = true from rfl]; rfl
  | true =>
    simp only [cond_true, show ((0 : Int) != 0) = false from rfl, cond_false, orK_inl, Bool.not_true, Bool.false_or]
    cases hm : (e == 18446744073709551615) with
    | true => rfl
    | false =>
      simp only [cond_false]
      cases hz : (z == 0) with
      | true => rfl
      | false =>
        simp only [cond_false, show ((0 : Int) != 0) = false from rfl]
        rw [p43_is]
        cases h2 : (cutE lo hi f != 0) with
        | true => simp only [bind_val, cond_true, noRg, h2]; rfl
        | false =>
          simp only [bind_val, cond_false, show ((0 : Int) != 0) = false from rfl]
          rw [h21 lo f]
          simp only [bind_val]
          rw [h21 f hi]
          simp only [bind_val, decide_true, cond_true, kid]
end
section
variable {fu : Nat}
theorem gL {a b : List Int} (h : a.length + b.length ≤ 100000000000000) : decide (List.length a + List.length b ≤ maxLen ∧ (List.length a + List.length b) * 1 ≤ 140737488355328) = true :=
  decide_eq_true ⟨by unfold maxLen; omega, by omega⟩
theorem len1 (x : Int) : [x].length = 1 := rfl
theorem ex_list {o : Option (Unit × List Int)} (P : List Int → Prop) (h : ∃ r : Unit × List Int, o = some r ∧ P r.2) : ∃ l, o = some ((), l) ∧ P l := by
  obtain ⟨⟨⟨⟩, l⟩, e, q⟩ := h
  exact ⟨l, e, q⟩
theorem ex_some {o : Option (Unit × List Int)} (h : ∃ r : Unit × List Int, o = some r ∧ True) : ∃ l, o = some ((), l) := by
  obtain ⟨⟨⟨⟩, l⟩, e, _⟩ := h
  exact ⟨l, e⟩
theorem ex_inr {S R : Type} {o : Option R} (h : ∃ r : R, o = some r ∧ True) : ∃ r : R, inrO (E := S) o = some (.inr r) ∧ True := by
  obtain ⟨r, e, _⟩ := h
  rw [e]
  exact ⟨_, rfl, trivial⟩
theorem p38_tot {a : Int} (h : isU a) (hf : 100 < fu) : ∃ l, p38 fu (a, ()) = some ((), l) ∧ l.length ≤ 10 := by
  unfold p38
  obtain ⟨h0, h1⟩ := h
  refine ex_list (fun l => l.length ≤ 10) (loopO_rule (I := fun s : ((Int × (List Int × Unit)) × Unit) => ∃ (a : Int) (f : List Int), s = ((a, f, ()), ()) ∧ 0 ≤ a ∧ f.length ≤ 9 ∧ a < 128 ^ (10 - f.length)) (m := fun s => 10 - s.1.2.1.length) (Q := fun r : Unit × List Int => r.2.length ≤ 10) ?_ fu ((a, [], ()), ()) ⟨a, [], rfl, h0, by simp, by simp only [List.length_nil]; omega⟩ (by show 10 - 0 < fu; omega))
  · rintro s ⟨a, f, rfl, k0, k1, k2⟩
    by_cases c : a ≥ 128
    · have e7 : (2 : Int) ^ (min (Int.toNat (7 : Int)) (IntKind.bits .u64)) = 128 := by decide
      have hd : Int.fdiv a 128 = a / 128 := Int.fdiv_eq_ediv_of_nonneg _ (by decide)
      simp only [c, decide_true, cond_true]
      rw [gL (by rw [len1]; omega)]
      simp only [cond_true, e7, hd]
      refine ⟨_, rfl, ⟨_, _, rfl, by omega, ?_, ?_⟩, ?_⟩
      · rw [List.length_append, len1]
        rcases Nat.lt_or_ge f.length 9 with g | g
        · omega
        · have : f.length = 9 := by omega
          rw [this] at k2
          have : (128 : Int) ^ (10 - 9) = 128 := by decide
          omega
      · rw [List.length_append, len1]
        have e : (10 - f.length) = (10 - (f.length + 1)) + 1 := by omega
        rw [e, Int.pow_succ] at k2
        omega
      · show 10 - (f ++ [_]).length < 10 - f.length
        rw [List.length_append, len1]
        omega
    · simp only [c, decide_false, cond_false, decide_true, cond_true]
      rw [gL (by rw [len1]; omega)]
      refine ⟨_, rfl, ?_⟩
      show (f ++ [_]).length ≤ 10
      rw [List.length_append, len1]
      omega
theorem len_u {α : Type} {l : List α} (h : l.length ≤ 1000000000) : isU (IntKind.wrap .u64 (l.length : Int)) := by
  rw [u64_wrap (by omega) (by omega)]
  exact ⟨by omega, by omega⟩
theorem p41_tot {a : List Int} (h : a.length ≤ 1048576) (hf : 100 < fu) : ∃ l, p41 fu (a, ()) = some ((), l) ∧ l.length ≤ 1048586 := by
  unfold p41
  obtain ⟨u, hu, lu⟩ := p38_tot (fu := fu) (len_u (l := a) (by omega)) hf
  simp only [hu, bind_val, decide_true, cond_true, gL (a := u) (b := a) (by omega)]
  exact ⟨_, rfl, by rw [List.length_append]; omega⟩
theorem p37_tot {a c : ByteArray} (ha : a.size ≤ 1048576) (hc : c.size ≤ 1048576) (hf : 100 < fu) : ∃ l, p37 fu ((a, c, ()), ()) = some ((), l) ∧ l.length ≤ 2097172 := by
  unfold p37
  obtain ⟨u, hu, lu⟩ := p41_tot (fu := fu) (a := numsOf a) (by rw [numsOf_length]; exact ha) hf
  obtain ⟨v, hv, lv⟩ := p41_tot (fu := fu) (a := numsOf c) (by rw [numsOf_length]; exact hc) hf
  simp only [hu, hv, bind_val, decide_true, cond_true, gL (a := u) (b := v) (by omega)]
  exact ⟨_, rfl, by rw [List.length_append]; omega⟩
def fitR (x : Rd) : Prop := isU x.1 ∧ x.2.1.size ≤ 1048576 ∧ x.2.2.1.length ≤ 1048576 ∧ isU x.2.2.2.1 ∧ isU x.2.2.2.2
theorem p78_tot {x : Rd} (h : fitR x) (hf : 100 < fu) : ∃ l, p78 fu ((x.1, x.2.1, x.2.2.1, x.2.2.2.1, x.2.2.2.2, ()), ()) = some ((), l) ∧ l.length ≤ 2097202 := by
  obtain ⟨a, c, f, g, i⟩ := x
  obtain ⟨h1, h2, h3, h4, h5⟩ := h
  unfold p78
  obtain ⟨u, hu, lu⟩ := p38_tot (fu := fu) h1 hf
  obtain ⟨v, hv, lv⟩ := p41_tot (fu := fu) (a := numsOf c) (by rw [numsOf_length]; exact h2) hf
  obtain ⟨w, hw, lw⟩ := p41_tot (fu := fu) h3 hf
  obtain ⟨x, hx, lx⟩ := p38_tot (fu := fu) h4 hf
  obtain ⟨y, hy, ly⟩ := p38_tot (fu := fu) h5 hf
  have e1 : (u ++ v).length ≤ 1048596 := by rw [List.length_append]; omega
  have e2 : (u ++ v ++ w).length ≤ 2097182 := by rw [List.length_append]; omega
  have e3 : (u ++ v ++ w ++ x).length ≤ 2097192 := by rw [List.length_append]; omega
  dsimp only at hu hv hw hx hy ⊢
  simp only [hu, hv, hw, hx, hy, bind_val, decide_true, cond_true, gL (a := u) (b := v) (by omega), gL (a := u ++ v) (b := w) (by omega), gL (a := u ++ v ++ w) (b := x) (by omega), gL (a := u ++ v ++ w ++ x) (b := y) (by omega)]
  exact ⟨_, rfl, by rw [List.length_append]; omega⟩
theorem loop_len {X R : Type} {f : ((List Int × (Int × Unit)) × Unit) → Option (((List Int × (Int × Unit)) × Unit) ⊕ R)} (l : List X) (c K : Nat) (Q : R → Prop) (s0 : List Int) (h0 : s0.length ≤ c) (hf : l.length < fu)
    (hs : ∀ i (_ : i < l.length) s, s.length ≤ c + i * K → ∃ t : List Int, f ((s, (i : Int), ()), ()) = some (.inl ((t, ((i + 1 : Nat) : Int), ()), ())) ∧ t.length ≤ s.length + K)
    (he : ∀ s, s.length ≤ c + l.length * K → ∃ r, f ((s, (l.length : Int), ()), ()) = some (.inr r) ∧ Q r) : ∃ r, loopO fu f ((s0, (0 : Int), ()), ()) = some r ∧ Q r := by
  refine loopO_rule (I := fun s => ∃ (t : List Int) (i : Nat), s = ((t, (i : Int), ()), ()) ∧ i ≤ l.length ∧ t.length ≤ c + i * K) (m := fun s => l.length - s.1.2.1.toNat) Q ?_ fu _ ⟨s0, 0, rfl, Nat.zero_le _, by omega⟩ (by show l.length - 0 < fu; omega)
  rintro s ⟨t, i, rfl, k1, k2⟩
  rcases Nat.lt_or_ge i l.length with g | g
  · obtain ⟨u, hu, lu⟩ := hs i g t k2
    refine ⟨_, hu, ⟨_, _, rfl, g, ?_⟩, ?_⟩
    · rw [Nat.succ_mul]; omega
    · show l.length - ((i + 1 : Nat) : Int).toNat < l.length - (i : Int).toNat
      rw [Int.toNat_natCast, Int.toNat_natCast]; omega
  · obtain rfl : i = l.length := by omega
    obtain ⟨r, hr, qr⟩ := he t k2
    exact ⟨_, hr, qr⟩
theorem p39_tot {l : List Rd} (hl : l.length ≤ 1048576) (h : ∀ x ∈ l, fitR x) (hf : 4194304 < fu) : ∃ r, p39 fu (l, ()) = some ((), r) ∧ r.length ≤ 10 + l.length * 2097202 := by
  unfold p39
  obtain ⟨u, hu, lu⟩ := p38_tot (fu := fu) (len_u (l := l) (by omega)) (by omega)
  simp only [hu, bind_val, decide_true, cond_true]
  refine ex_list (fun r => r.length ≤ 10 + l.length * 2097202) (loop_len (fu := fu) l 10 2097202 (fun r : Unit × List Int => r.2.length ≤ 10 + l.length * 2097202) u lu (by omega) (fun i hi s hs => ?_) (fun s hs => ?_))
  · have hg : ∀ d, l.getD i d = l[i] := fun d => getD_lt hi
    obtain ⟨v, hv, lv⟩ := p78_tot (fu := fu) (h _ (List.getElem_mem hi)) (by omega)
    have hmul : i * 2097202 ≤ 1048576 * 2097202 := Nat.mul_le_mul_right _ (by omega)
    refine ⟨s ++ v, ?_, by rw [List.length_append]; omega⟩
    simp only [Int.ofNat_lt, Int.natCast_nonneg, hi, decide_true, cond_true, and_self, Int.toNat_natCast, hg, hv, bind_val, i64_succ hi (by omega), gL (a := s) (b := v) (by omega)]
  · exact ⟨((), s), by simp only [Int.lt_irrefl, decide_false, cond_false, inrO_val], hs⟩
def fitS : St16 → Prop
  | (lo, hi, e, z, l, ps, cs, _) => lo.size ≤ 1048576 ∧ hi.size ≤ 1048576 ∧ isU e ∧ isU z ∧ (l.length ≤ 1048576 ∧ ∀ x ∈ l, fitR x) ∧ (ps.length ≤ 1048576 ∧ ∀ y ∈ ps, isU y.1 ∧ isU y.2.1 ∧ isU y.2.2.2) ∧ (cs.length ≤ 1048576 ∧ ∀ y ∈ cs, y.1.size ≤ 1048576 ∧ isU y.2)
theorem p40_tot (b : Bool) : ∃ x, p40 fu (b, ()) = some ((), [x]) := by
  unfold p40
  cases b
  · exact ⟨_, rfl⟩
  · exact ⟨_, rfl⟩
set_option maxRecDepth 4000 in
theorem p14_tot {p : St16} (h : fitS p) (hf : 4194304 < fu) : ∃ r, p14 fu (p, ()) = some ((), r) := by
  obtain ⟨lo, hi, e, z, l, ps, cs, ⟨⟩⟩ := p
  obtain ⟨b1, b2, b3, b4, ⟨b5, b6⟩, ⟨b7, b8⟩, b9, b10⟩ := h
  unfold p14
  obtain ⟨a1, h1, l1⟩ := p37_tot (fu := fu) b1 b2 (by omega)
  obtain ⟨a2, h2, l2⟩ := p38_tot (fu := fu) b3 (by omega)
  obtain ⟨a3, h3, l3⟩ := p38_tot (fu := fu) b4 (by omega)
  obtain ⟨a4, h4, l4⟩ := p39_tot (fu := fu) b5 b6 hf
  obtain ⟨a5, h5, l5⟩ := p38_tot (fu := fu) (len_u (l := ps) (by omega)) (by omega)
  obtain ⟨a6, h6, l6⟩ := p38_tot (fu := fu) (len_u (l := cs) (by omega)) (by omega)
  have hm4 : l.length * 2097202 ≤ 1048576 * 2097202 := Nat.mul_le_mul_right _ b5
  have e1 : (a1 ++ a2).length ≤ 2097182 := by rw [List.length_append]; omega
  have e2 : (a1 ++ a2 ++ a3).length ≤ 2097192 := by rw [List.length_append]; omega
  have e3 : (a1 ++ a2 ++ a3 ++ a4).length ≤ 2199100000000 := by rw [List.length_append]; omega
  have e4 : (a1 ++ a2 ++ a3 ++ a4 ++ a5).length ≤ 2199100000010 := by rw [List.length_append]; omega
  simp only [h1, h2, h3, h4, h5, h6, bind_val, decide_true, cond_true, gL (a := a1) (b := a2) (by omega), gL (a := a1 ++ a2) (b := a3) (by omega), gL (a := a1 ++ a2 ++ a3) (b := a4) (by omega), gL (a := a1 ++ a2 ++ a3 ++ a4) (b := a5) (by omega)]
  refine ex_some (loop_len (fu := fu) ps 2199100000010 31 (fun _ : Unit × List Int => True) _ e4 (by omega) (fun i hi s hs => ?_) (fun s hs => ?_))
  · have hg : ∀ d, ps.getD i d = ps[i] := fun d => getD_lt hi
    obtain ⟨k1, k2, k3⟩ := b8 _ (List.getElem_mem hi)
    obtain ⟨c1, g1, m1⟩ := p38_tot (fu := fu) k1 (by omega)
    obtain ⟨c2, g2, m2⟩ := p38_tot (fu := fu) k2 (by omega)
    obtain ⟨c3, g3⟩ := p40_tot (fu := fu) ps[i].2.2.1
    obtain ⟨c4, g4, m4⟩ := p38_tot (fu := fu) k3 (by omega)
    have hmul : i * 31 ≤ 1048576 * 31 := Nat.mul_le_mul_right _ (by omega)
    have f1 : (s ++ c1).length ≤ s.length + 10 := by rw [List.length_append]; omega
    have f2 : (s ++ c1 ++ c2).length ≤ s.length + 20 := by rw [List.length_append]; omega
    have f3 : (s ++ c1 ++ c2 ++ [c3]).length ≤ s.length + 21 := by rw [List.length_append, len1]; omega
    refine ⟨s ++ c1 ++ c2 ++ [c3] ++ c4, ?_, by rw [List.length_append]; omega⟩
    simp only [Int.ofNat_lt, Int.natCast_nonneg, hi, decide_true, cond_true, and_self, Int.toNat_natCast, hg, g1, g2, g3, g4, bind_val, i64_succ hi (by omega), gL (a := s) (b := c1) (by omega), gL (a := s ++ c1) (b := c2) (by omega), gL (a := s ++ c1 ++ c2) (b := [c3]) (by rw [len1]; omega), gL (a := s ++ c1 ++ c2 ++ [c3]) (b := c4) (by omega)]
  · have hmul : ps.length * 31 ≤ 1048576 * 31 := Nat.mul_le_mul_right _ (by omega)
    have e5 : (s ++ a6).length ≤ 2199200000000 := by rw [List.length_append]; omega
    simp only [Int.lt_irrefl, decide_false, cond_false, gL (a := s) (b := a6) (by omega), cond_true]
    refine ex_inr (loop_len (fu := fu) cs 2199200000000 1048596 (fun _ : Unit × List Int => True) _ e5 (by omega) (fun i hi s hs => ?_) (fun s hs => ?_))
    · have hg : ∀ d, cs.getD i d = cs[i] := fun d => getD_lt hi
      obtain ⟨k1, k2⟩ := b10 _ (List.getElem_mem hi)
      obtain ⟨c1, g1, m1⟩ := p41_tot (fu := fu) (a := numsOf cs[i].1) (by rw [numsOf_length]; exact k1) (by omega)
      obtain ⟨c2, g2, m2⟩ := p38_tot (fu := fu) k2 (by omega)
      have hmul : i * 1048596 ≤ 1048576 * 1048596 := Nat.mul_le_mul_right _ (by omega)
      have f1 : (s ++ c1).length ≤ s.length + 1048586 := by rw [List.length_append]; omega
      refine ⟨s ++ c1 ++ c2, ?_, by rw [List.length_append]; omega⟩
      simp only [Int.ofNat_lt, Int.natCast_nonneg, hi, decide_true, cond_true, and_self, Int.toNat_natCast, hg, g1, g2, bind_val, i64_succ hi (by omega), gL (a := s) (b := c1) (by omega), gL (a := s ++ c1) (b := c2) (by omega)]
    · exact ⟨((), s), by simp only [Int.lt_irrefl, decide_false, cond_false, inrO_val], trivial⟩
end
section
variable {fu : Nat}
def okK (s : St16) : Prop := s.2.2.2.2.1.length ≤ 2097152 ∧ s.2.2.2.2.2.1.length ≤ 2097152 ∧ s.2.2.2.2.2.2.1.length ≤ 2097152 ∧ ∀ x ∈ s.2.2.2.2.1, x.2.2.1.length ≤ 1048576
theorem ok_no : okK noSt := ⟨Nat.zero_le _, Nat.zero_le _, Nat.zero_le _, fun x hx => by cases hx⟩
theorem keep_vals (a c : ByteArray) : ∀ (l : List Rd) (s : List Rd × List Int), (∀ x ∈ s.1, x.2.2.1.length ≤ 1048576) → (∀ x ∈ l, x.2.2.1.length ≤ 1048576) → ∀ x ∈ (l.foldl (keepT a c) s).1, x.2.2.1.length ≤ 1048576
  | [], _, hs, _ => hs
  | y :: l, s, hs, hl => by
    refine keep_vals a c l (keepT a c s y) (fun x hx => ?_) fun x hx => hl x (List.mem_cons_of_mem _ hx)
    unfold keepT at hx
    cases hh : hasB a c y.2.1 with
    | false => rw [hh] at hx; exact hs x hx
    | true =>
      rw [hh] at hx
      rcases List.mem_append.1 hx with g | g
      · exact hs x g
      · rw [List.mem_singleton.1 g]
        exact hl y (List.mem_cons_self ..)
theorem ok_kid (p : St16) (a c : ByteArray) (hp : p.2.2.2.2.1.length ≤ 1048576 ∧ p.2.2.2.2.2.1.length ≤ 2097152 ∧ p.2.2.2.2.2.2.1.length ≤ 2097152 ∧ ∀ x ∈ p.2.2.2.2.1, x.2.2.1.length ≤ 1048576) : okK (kid p a c) := by
  obtain ⟨h1, h2, h3, h4⟩ := hp
  have hk := (keep_lens p.2.2.2.2.1 a c).1
  refine ⟨by show (keepS _ a c).1.length ≤ _; omega, by show (List.map _ _).length ≤ _; rw [List.length_map]; exact h2, ?_, ?_⟩
  · show (mapS _ _).length ≤ _
    unfold mapS
    cases decide (0 < (keepS p.2.2.2.2.1 a c).2.length) with
    | true => simp only [cond_true, List.length_map]; exact h3
    | false => exact Nat.zero_le _
  · show ∀ x ∈ (keepS p.2.2.2.2.1 a c).1, _
    unfold keepS
    cases logOk p.2.2.2.2.1 with
    | false => intro x hx; cases hx
    | true =>
      cases (chkB a c != 0) with
      | true => intro x hx; cases hx
      | false => exact keep_vals a c _ ([], []) (fun x hx => by cases hx) h4
theorem ok_split (p : St16) (f : ByteArray) (hp : p.2.2.2.2.1.length ≤ 1048576 ∧ p.2.2.2.2.2.1.length ≤ 2097152 ∧ p.2.2.2.2.2.2.1.length ≤ 2097152 ∧ ∀ x ∈ p.2.2.2.2.1, x.2.2.1.length ≤ 1048576) : okK (splitS p f).1 ∧ okK (splitS p f).2.1 := by
  unfold splitS
  cases (partS p != 0) with
  | true => exact ⟨ok_no, ok_no⟩
  | false =>
    cases (cutE p.1 p.2.1 f != 0) with
    | true => exact ⟨ok_no, ok_no⟩
    | false => exact ⟨ok_kid p _ _ hp, ok_kid p _ _ hp⟩
theorem fit_bnd {p : St16} (h : fitS p) : bndS p ∧ (p.2.2.2.2.1.length ≤ 1048576 ∧ p.2.2.2.2.2.1.length ≤ 2097152 ∧ p.2.2.2.2.2.2.1.length ≤ 2097152 ∧ ∀ x ∈ p.2.2.2.2.1, x.2.2.1.length ≤ 1048576) ∧ isU p.2.2.1 := by
  obtain ⟨lo, hi, e, z, l, ps, cs, ⟨⟩⟩ := p
  obtain ⟨b1, b2, b3, b4, ⟨b5, b6⟩, ⟨b7, b8⟩, b9, b10⟩ := h
  exact ⟨⟨by omega, by omega, ⟨by omega, fun x hx => ⟨(b10 x hx).1, (b10 x hx).2.1, (b10 x hx).2.2⟩⟩, fun y hy => (b8 y hy).2.2.1⟩, ⟨b5, by show ps.length ≤ _; omega, by show cs.length ≤ _; omega, fun x hx => (b6 x hx).2.2.1⟩, b3⟩
theorem any_nil' {X : Type} (l : List X) : l.any (fun _ => false) = false := by
  induction l with
  | nil => rfl
  | cons a l ih => simp only [List.any_cons, ih, Bool.false_or]
theorem p4_is {p : St16} (f : ByteArray) (h : fitS p) (hf : 4194304 < fu) : p4 fu (p, f, ()) = some ((), true) := by
  obtain ⟨hb, hq, he⟩ := fit_bnd h
  obtain ⟨bs, hB⟩ := p14_tot (fu := fu) h hf
  have h1 := p10_is (fu := fu) p f hb hq.1 hf
  have h2 := p15_is (fu := fu) p f hb hq.1 he.1 he.2 hf
  obtain ⟨k1, k2⟩ := ok_split p f hq
  have s1 := p12_same (fu := fu) _ k1.1 k1.2.1 k1.2.2.1 hf
  have s2 := p12_same (fu := fu) _ k2.1 k2.2.1 k2.2.2.1 hf
  obtain ⟨lo, hi, e, z, l, ps, cs, ⟨⟩⟩ := p
  unfold p4
  generalize splitS (lo, hi, e, z, l, ps, cs, ()) f = S at h1 h2 k1 k2 s1 s2
  obtain ⟨⟨a1, a2, a3, a4, a5, a6, a7, ⟨⟩⟩, ⟨c1, c2, c3, c4, c5, c6, c7, ⟨⟩⟩, er, ⟨⟩⟩ := S
  dsimp only at k1 k2 s1 s2
  simp only [p9_is hf, hB, h1, h2, s1, s2, bind_val, decide_true, cond_true, orK_inl]
  have n1 : a5.length ≤ 2097152 := k1.1
  have n4 : ∀ x ∈ a5, x.2.2.1.length ≤ 1048576 := k1.2.2.2
  refine loop_for a5 (fun i : Nat => (((i : Int), ()), ())) (fun _ => false) ((), true) ((), true) (show a5.length < fu by omega) (fun i hi => ?_) ?_ (by rw [any_nil']; rfl)
  · have hg : ∀ d, a5.getD i d = a5[i] := fun d => getD_lt hi
    have hv := n4 _ (List.getElem_mem hi)
    simp only [Int.ofNat_lt, Int.natCast_nonneg, hi, decide_true, cond_true, cond_false, and_self, Int.toNat_natCast, hg]
    refine loop_for a5[i].2.2.1 (fun i : Nat => (((i : Int), ()), ())) (fun _ => false) (.inl ((((i + 1 : Nat) : Int), ()), ())) (.inl ((((i + 1 : Nat) : Int), ()), ())) (show a5[i].2.2.1.length < fu by omega) (fun k hk => ?_) ?_ (by rw [any_nil']; rfl)
    · simp only [Int.ofNat_lt, Int.natCast_nonneg, hk, decide_true, cond_true, cond_false, and_self, Int.toNat_natCast, i64_succ hk (by omega)]
    · simp only [Int.lt_irrefl, decide_false, cond_false, i64_succ hi (by omega), inrO_val]
  · simp only [Int.lt_irrefl, decide_false, cond_false, beq_self_eq_true, cond_true, inrO_val]
end
end Go.Proofs.Ytmjmhobeiamgiaa
