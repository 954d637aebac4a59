/-
  Logs: what they are, what is appended, fetched, copied; both sides.
-/
import Derived.Test.YtlmnhbobgfpanaaPtL
import Derived.Test.YtlmnhbobgfpanaaDaP
namespace Go.Proofs.Ytlmnhbobgfpanaa
open Go.RowKit
section
variable {fu : Nat}
theorem loop_any {X S R : Type} {f : S → Option (S ⊕ R)} : ∀ (l : List X) (mk : Nat → S) (q : X → Bool) (r fin : R), l.length < fu →
    (∀ i (h : i < l.length), f (mk i) = some (bif q l[i] then .inr r else .inl (mk (i + 1)))) → f (mk l.length) = some (.inr fin) → loopO fu f (mk 0) = some (bif l.any q then r else fin) := by
  intro l mk q r fin hf hs he
  have key : ∀ k i n, i + k = l.length → k < n → loopO n f (mk i) = some (bif (l.drop i).any q then r else fin) := by
    intro k
    induction k with
    | zero =>
      intro i n hi hn
      obtain ⟨m, rfl⟩ : ∃ m, n = m + 1 := ⟨n - 1, by omega⟩
      obtain rfl : i = l.length := by omega
      simp only [loopO, he, List.drop_length, List.any_nil, cond_false]
    | succ k ih =>
      intro i n hi hn
      obtain ⟨m, rfl⟩ : ∃ m, n = m + 1 := ⟨n - 1, by omega⟩
      have hlt : i < l.length := by omega
      rw [List.drop_eq_getElem_cons hlt]
      simp only [loopO, hs i hlt, List.any_cons]
      cases q l[i] with
      | true => rfl
      | false => exact ih (i + 1) m (by omega) (by omega)
  exact key l.length 0 fu (by omega) hf
theorem loop_for {X S R : Type} {f : S → Option (S ⊕ R)} {res : R} (l : List X) (mk : Nat → S) (q : X → Bool) (r fin : R) (hf : l.length < fu)
    (hs : ∀ i (h : i < l.length), f (mk i) = some (bif q l[i] then .inr r else .inl (mk (i + 1)))) (he : f (mk l.length) = some (.inr fin)) (hr : (bif l.any q then r else fin) = res) : loopO fu f (mk 0) = some res :=
  hr ▸ loop_any l mk q r fin hf hs he
def sq (x : Int) : Bool := bif x != 45 then bif x != 95 then bif x != 46 then true else false else false else false
theorem loop_fold {X S A R : Type} {f : S → Option (S ⊕ R)} {res : R} (l : List X) (mk : Nat → A → S) (st : A → X → A) (fin : A → R) (a : A) (P : Nat → A → Prop) (h0 : P 0 a) (hf : l.length < fu)
    (hs : ∀ i (h : i < l.length) b, P i b → f (mk i b) = some (.inl (mk (i + 1) (st b l[i]))) ∧ P (i + 1) (st b l[i])) (he : ∀ b, P l.length b → f (mk l.length b) = some (.inr (fin b))) (hr : fin (l.foldl st a) = res) : loopO fu f (mk 0 a) = some res := by
  subst hr
  have key : ∀ k i n b, i + k = l.length → k < n → P i b → loopO n f (mk i b) = some (fin ((l.drop i).foldl st b)) := by
    intro k
    induction k with
    | zero =>
      intro i n b hi hn hb
      obtain ⟨m, rfl⟩ : ∃ m, n = m + 1 := ⟨n - 1, by omega⟩
      obtain rfl : i = l.length := by omega
      simp only [loopO, he b hb, List.drop_length, List.foldl_nil]
    | succ k ih =>
      intro i n b hi hn hb
      obtain ⟨m, rfl⟩ : ∃ m, n = m + 1 := ⟨n - 1, by omega⟩
      have hlt : i < l.length := by omega
      rw [List.drop_eq_getElem_cons hlt]
      obtain ⟨e1, e2⟩ := hs i hlt b hb
      simp only [loopO, e1, List.foldl_cons]
      exact ih (i + 1) m _ (by omega) (by omega) e2
  exact key l.length 0 fu a (by omega) hf h0
theorem guardE {p : Prop} [Decidable p] {α : Type} {a : α} (h : p) : (bif decide p then some a else none) = some a := by rw [decide_eq_true h]; rfl
theorem copyL_all {α : Type} (l : List α) (d : α) : copyL (List.replicate l.length d) 0 l.length l = l := by
  simp [copyL]
abbrev Rd := D_api_Record
theorem u64_wrap {x : Int} (h1 : 0 ≤ x) (h2 : x < 18446744073709551616) : IntKind.wrap .u64 x = x := by
  show x % 18446744073709551616 = x
  omega
/-! ### Logs -/
def noRec : Rd := (0, ⟨#[]⟩, [], 0, 0)
def wrong (l : List Rd) (i : Nat) : Bool := bif ((l.getD i noRec).1 != (i : Int)) then true else bif decide ((l.getD i noRec).2.1.size > 32) then true else decide ((l.getD i noRec).2.2.1.length > 256)
def logOk (l : List Rd) : Bool := bif (List.range l.length).any (wrong l) then false else decide (l.length ≤ 4096)
theorem p22_is (a : Int) (c : ByteArray) (l : List Int) (x y : Int) : p22 fu ((a, c, l, x, y, ()), ()) = some ((), bif decide (c.size > 32) then 131 else bif decide (l.length > 256) then 144 else 0) := by
  unfold p22
  have h1 : decide ((c.size : Int) > 32) = decide (c.size > 32) := decide_eq_decide.2 (by omega)
  have h2 : decide ((l.length : Int) > 256) = decide (l.length > 256) := decide_eq_decide.2 (by omega)
  simp only [h1, h2]
  cases decide (c.size > 32) <;> cases decide (l.length > 256) <;> rfl
theorem p14_is (l : List Rd) (hl : l.length ≤ 2097152) (hf : 4194304 < fu) : p14 fu (l, ()) = some ((), logOk l) := by
  unfold p14 logOk
  refine loop_for (List.range l.length) (fun i => (((i : Int), ()), ())) (wrong l) ((), false) ((), decide (l.length ≤ 4096)) (by simp only [List.length_range]; omega) (fun i h => ?_) ?_ (by cases (List.range l.length).any (wrong l) <;> rfl)
  · simp only [List.length_range] at h
    have hg : ∀ d, l.getD i d = l[i] := fun d => getD_lt h
    have hw : IntKind.wrap .u64 (i : Int) = (i : Int) := u64_wrap (by omega) (by omega)
    simp only [List.getElem_range, Int.ofNat_lt, Int.natCast_nonneg, h, decide_true, cond_true, and_self, Int.toNat_natCast, hg, hw, p22_is, bind_val, i64_succ h (by omega), wrong]
    cases (l[i].1 != (i : Int))
    · simp only [cond_false]
      cases decide (l[i].2.1.size > 32) <;> cases decide (l[i].2.2.1.length > 256) <;> rfl
    · rfl
  · simp only [List.length_range, Int.ofNat_lt, Nat.lt_irrefl, decide_false, cond_false]
    have h3 : decide ((l.length : Int) ≤ 4096) = decide (l.length ≤ 4096) := decide_eq_decide.2 (by omega)
    rw [h3]; rfl
theorem p43_is (l : List Int) (h : l.length ≤ 140737488355328) : p43 fu (l, ()) = some ((), l) := by
  unfold p43
  cases l with
  | nil => rfl
  | cons a l =>
    have h0 : (((a :: l).length : Int) == 0) = false := beq_eq_false_iff_ne.2 (by simp only [List.length_cons]; omega)
    have h1 : (0 : Int) ≤ ((a :: l).length : Int) ∧ ((a :: l).length : Int) ≤ ((a :: l).length : Int) ∧ ((a :: l).length : Int) ≤ 9223372036854775807 ∧ (1 : Int) * ((a :: l).length : Int) ≤ 140737488355328 := by omega
    simp only [h0, cond_false, h1, and_self, decide_true, cond_true, Int.toNat_natCast, List.length_replicate, copyL_all]
def numR (n : List Rd) (x : Rd) : Rd := ((n.length : Int), x.2.1, x.2.2.1, x.2.2.2.1, x.2.2.2.2)
theorem p23_is (n : List Rd) (x : Rd) (hn : n.length ≤ 2097152) (hx : x.2.2.1.length ≤ 140737488355328) : p23 fu (n, (x.1, x.2.1, x.2.2.1, x.2.2.2.1, x.2.2.2.2, ()), ()) = some (((), ()), n ++ [numR n x]) := by
  unfold p23 p35
  have hw : IntKind.wrap .u64 (n.length : Int) = (n.length : Int) := u64_wrap (by omega) (by omega)
  simp only [p43_is _ hx, bind_val, decide_true, cond_true, hw]
  exact guardE ⟨by unfold maxLen; simp only [List.length_singleton]; omega, by simp only [List.length_singleton]; omega⟩
theorem p39_is (a b : List Int) (h : a.length + b.length ≤ 140737488355328) : p39 fu ((a, ()), b, ()) = some (((a ++ b, ()), (), ()), b) := by
  unfold p39
  cases b with
  | nil => simp
  | cons c b =>
    have h0 : (((c :: b).length : Int) == 0) = false := by simp; omega
    have h1 : a.length + (c :: b).length ≤ maxLen ∧ (a.length + (c :: b).length) * 1 ≤ 140737488355328 := ⟨by unfold maxLen; omega, by omega⟩
    have h2 : slice' (a ++ c :: b) a.length (some (a ++ c :: b).length) = c :: b := by
      cases a with
      | nil => simp [slice']
      | cons x a => simp [slice']
    have h3 : a.length ≤ (a ++ c :: b).length ∧ (a ++ c :: b).length ≤ (a ++ c :: b).length ∧ (a ++ c :: b).length ≤ (a ++ c :: b).length ∧ 0 + (a ++ c :: b).length ≤ (a ++ c :: b).length := by simp
    simp only [h0, cond_false, h1, and_self, decide_true, cond_true, Int.natCast_nonneg, Int.toNat_natCast, h3, h2]
theorem p38_is (x : Rd) (r : List Int) (hd : r.length + x.2.2.1.length ≤ 140737488355328) :
    p38 fu ((x.1, x.2.1, x.2.2.1, x.2.2.2.1, x.2.2.2.2, ()), ((r, ()), ()), ()) = some ((((), ()), (r ++ x.2.2.1, ()), (), ()), (x.1, x.2.1, x.2.2.1, x.2.2.2.1, x.2.2.2.2, ())) := by
  unfold p38
  simp only [p39_is _ _ hd, bind_val, decide_true, cond_true]
def valsR (l : List Rd) : List Int := l.flatMap fun x => x.2.2.1
theorem valsR_app (a b : List Rd) : valsR (a ++ b) = valsR a ++ valsR b := List.flatMap_append
theorem valsR_snoc (l : List Rd) (x : Rd) : valsR (l ++ [x]) = valsR l ++ x.2.2.1 := by simp [valsR]
def fitsR (l : List Rd) : Prop := l.length * 64 ≤ 140737488355328 ∧ (valsR l).length ≤ 140737488355328
theorem take_snoc' {α : Type} {l : List α} {i : Nat} (h : i < l.length) (d : α) : l.take (i + 1) = l.take i ++ [l.getD i d] := by
  rw [List.take_add_one, List.getD_eq_getElem?_getD, List.getElem?_eq_getElem h]; rfl
theorem valsR_take {l : List Rd} {i : Nat} (h : i < l.length) : (valsR (l.take i)).length + (l.getD i (dflt T_api_Record)).2.2.1.length ≤ (valsR l).length := by
  have h1 := congrArg valsR (take_snoc' h (dflt T_api_Record))
  rw [valsR_snoc] at h1
  have h2 : valsR l = valsR (l.take (i + 1)) ++ valsR (l.drop (i + 1)) := by rw [← valsR_app, List.take_append_drop]
  rw [h2, h1]
  simp only [List.length_append]
  omega
theorem p37_is (l : List Rd) (h : fitsR l) (hf : l.length < fu) : p37 fu (l, ((), (((([] : List Int), ()), ()), ())), ()) = some ((((), ()), (valsR l, ()), (), ()), l) := by
  unfold p37
  obtain ⟨h1, h2⟩ := h
  cases hl0 : l with
  | nil => rfl
  | cons a0 l0 =>
    rw [← hl0]
    have h0 : ((l.length : Int) == 0) = false := by rw [hl0]; simp; omega
    have h4 : (0 : Int) ≤ (l.length : Int) ∧ (l.length : Int) ≤ (l.length : Int) ∧ (l.length : Int) ≤ 9223372036854775807 ∧ (64 : Int) * (l.length : Int) ≤ 140737488355328 := by omega
    simp only [h0, cond_false, h4, and_self, decide_true, cond_true, Int.toNat_natCast, List.length_replicate]
    refine loopO_eq (I := fun s => ∃ i : Nat, s = ((l.take i ++ List.replicate (l.length - i) (dflt T_api_Record), (i : Int), ()), (((), ()), (valsR (l.take i), ()), ())) ∧ i ≤ l.length)
      (m := fun s => l.length - s.1.2.1.toNat) (g := fun _ => ((((), ()), (valsR l, ()), (), ()), l)) ?_ fu _ ⟨0, by simp only [List.take_zero, List.nil_append, Nat.sub_zero, valsR, List.flatMap_nil]; rfl, Nat.zero_le _⟩ (by simpa using hf)
    rintro s ⟨i, rfl, hi⟩
    by_cases hi' : i < l.length
    · left
      have hx := valsR_take hi'
      have e52 := p38_is (fu := fu) (l.getD i (dflt T_api_Record)) (valsR (l.take i)) (by omega)
      have hlen : (l.take i ++ List.replicate (l.length - i) (dflt T_api_Record)).length = l.length := by simp; omega
      refine ⟨((l.take (i + 1) ++ List.replicate (l.length - (i + 1)) (dflt T_api_Record), ((i + 1 : Nat) : Int), ()), (((), ()), (valsR (l.take (i + 1)), ()), ())), ?_, ⟨i + 1, rfl, hi'⟩, by simp only [Int.toNat_natCast]; omega, rfl⟩
      have hs : (l.take i ++ List.replicate (l.length - i) (dflt T_api_Record)).set i (l.getD i (dflt T_api_Record)) = l.take (i + 1) ++ List.replicate (l.length - (i + 1)) (dflt T_api_Record) := by
        have ht : (l.take i).length = i := by simp; omega
        rw [List.set_append_right _ _ (by omega), ht, Nat.sub_self, show l.length - i = (l.length - (i + 1)) + 1 by omega, List.replicate_succ, List.set_cons_zero, take_snoc' hi' (dflt T_api_Record)]
        simp
      rw [take_snoc' hi' (dflt T_api_Record), valsR_snoc, ← take_snoc' hi' (dflt T_api_Record), ← hs]
      simp only [Int.ofNat_lt, hi', decide_true, cond_true, Int.natCast_nonneg, and_self, Int.toNat_natCast, e52, bind_val, hlen, List.length_set, i64_succ hi' (show l.length ≤ 9223372036854775807 by omega)]
    · right
      obtain rfl : i = l.length := by omega
      simp [inrO]
theorem p36_is (n : Nat) (h : n ≤ 140737488355328) : p36 fu ((n : Int), ()) = some ((), ([], ())) := by
  unfold p36
  have h1 : (0 : Int) ≤ 0 ∧ (0 : Int) ≤ (n : Int) ∧ (n : Int) ≤ 9223372036854775807 ∧ (1 : Int) * (n : Int) ≤ 140737488355328 := by omega
  simp only [h1, and_self, decide_true, cond_true]; rfl
theorem p24_is (l : List Rd) (h : fitsR l) (hf : l.length < fu) : p24 fu (l, ()) = some ((), l) := by
  unfold p24
  refine loopO_eq (I := fun s => ∃ i : Nat, s = ((((valsR (l.take i)).length : Int), (i : Int), ()), ()) ∧ i ≤ l.length) (m := fun s => l.length - s.1.2.1.toNat) (g := fun _ => ((), l)) ?_ fu _ ⟨0, by simp [valsR], Nat.zero_le _⟩ (by simpa using hf)
  rintro s ⟨i, rfl, hi⟩
  have h1 := h.1
  have h2 := h.2
  by_cases hi' : i < l.length
  · left
    have hx := valsR_take hi'
    refine ⟨((((valsR (l.take (i + 1))).length : Int), ((i + 1 : Nat) : Int), ()), ()), ?_, ⟨i + 1, rfl, hi'⟩, by simp only [Int.toNat_natCast]; omega, rfl⟩
    have hw : IntKind.wrap .i64 (((valsR (l.take i)).length : Int) + ((l.getD i (dflt T_api_Record)).2.2.1.length : Int)) = ((valsR (l.take (i + 1))).length : Int) := by
      rw [take_snoc' hi' (dflt T_api_Record), valsR_snoc, i64_wrap (by omega) (by omega), List.length_append]; omega
    simp only [Int.ofNat_lt, hi', decide_true, cond_true, Int.natCast_nonneg, and_self, Int.toNat_natCast, hw, i64_succ hi' (show l.length ≤ 9223372036854775807 by omega)]
  · right
    obtain rfl : i = l.length := by omega
    rw [List.take_length]
    simp only [Int.lt_irrefl, decide_false, cond_false, p36_is (fu := fu) _ h2, bind_val, decide_true, cond_true, p37_is l h hf, inrO_val]
theorem logOk_parts {l : List Rd} (h : logOk l = true) : l.length ≤ 4096 ∧ ∀ i (hi : i < l.length), l[i].1 = (i : Int) ∧ l[i].2.1.size ≤ 32 ∧ l[i].2.2.1.length ≤ 256 := by
  unfold logOk at h
  cases ha : (List.range l.length).any (wrong l) with
  | true => rw [ha] at h; cases h
  | false =>
    rw [ha] at h
    refine ⟨by simpa using h, fun i hi => ?_⟩
    rw [List.any_eq_false] at ha
    have hw := ha i (List.mem_range.2 hi)
    unfold wrong at hw
    rw [getD_lt hi] at hw
    by_cases h1 : l[i].1 = (i : Int)
    · by_cases h2 : l[i].2.1.size ≤ 32
      · refine ⟨h1, h2, ?_⟩
        have g2 : ¬ l[i].2.1.size > 32 := by omega
        simpa [h1, g2] using hw
      · have g2 : l[i].2.1.size > 32 := by omega
        simp [h1, g2] at hw
    · have g1 : (l[i].1 != (i : Int)) = true := by simpa using h1
      simp [g1] at hw
theorem valsR_le {l : List Rd} (h : ∀ x ∈ l, x.2.2.1.length ≤ 256) : (valsR l).length ≤ l.length * 256 := by
  induction l with
  | nil => simp [valsR]
  | cons x l ih =>
    have h1 := h x (List.mem_cons_self ..)
    have h2 := ih fun y hy => h y (List.mem_cons_of_mem _ hy)
    have e : (valsR (x :: l)).length = x.2.2.1.length + (valsR l).length := by simp [valsR]
    rw [e, List.length_cons]
    omega
theorem logOk_fits {l : List Rd} (h : logOk l = true) : fitsR l := by
  obtain ⟨h1, h2⟩ := logOk_parts h
  have h3 := valsR_le (l := l) fun x hx => by
    obtain ⟨i, hi, rfl⟩ := List.getElem_of_mem hx
    exact (h2 i hi).2.2
  exact ⟨by omega, by omega⟩
theorem fitsR_sub {l m : List Rd} (h : logOk l = true) (hm : ∀ x ∈ m, x ∈ l) (hn : m.length ≤ 4096) : fitsR m := by
  obtain ⟨h1, h2⟩ := logOk_parts h
  have h3 := valsR_le (l := m) fun x hx => by
    obtain ⟨i, hi, rfl⟩ := List.getElem_of_mem (hm x hx)
    exact (h2 i hi).2.2
  exact ⟨by omega, by omega⟩
theorem p8_is (l : List Rd) (x : Rd) (hl : logOk l = true) (hk : x.2.1.size ≤ 32) (hv : x.2.2.1.length ≤ 256) (hf : 4194304 < fu) :
    p8 fu (l, (x.1, x.2.1, x.2.2.1, x.2.2.2.1, x.2.2.2.2, ()), ()) = some ((), if l.length < 4096 then (l ++ [numR l x], (l.length : Int), 0, ()) else ([], 0, 143, ())) := by
  have hn := (logOk_parts hl).1
  have g1 : ¬ x.2.1.size > 32 := by omega
  have g2 : ¬ x.2.2.1.length > 256 := by omega
  unfold p8
  simp only [p14_is l (by omega) hf, bind_val, hl, Bool.not_true, cond_false, p22_is, g1, g2, decide_false, show ((0 : Int) != 0) = false from rfl]
  by_cases h : l.length < 4096
  · have h' : ¬ (l.length : Int) ≥ 4096 := by omega
    simp only [h, h', if_true, decide_false, cond_false, p24_is l (logOk_fits hl) (show l.length < fu by omega), bind_val, decide_true, cond_true, p23_is l x (by omega) (by omega), u64_wrap (x := (l.length : Int)) (by omega) (by omega)]
  · have h' : (l.length : Int) ≥ 4096 := by omega
    simp only [h, h', if_false, decide_true, cond_true]
theorem slice_none {α : Type} (l : List α) (n : Nat) : slice' l n none = l.drop n := by
  cases n with
  | zero => rfl
  | succ n => rfl
theorem p12_is (l : List Rd) (c f : Int) (hl : logOk l = true) (h0 : 0 ≤ c) (hf : 4194304 < fu) :
    p12 fu (l, c, f, ()) = some ((), if c ≤ (l.length : Int) then ((l.drop c.toNat).take (min (min f.toNat 64) (l.length - c.toNat)), 0, ()) else ([], 141, ())) := by
  have hn := (logOk_parts hl).1
  unfold p12
  simp only [p14_is l (by omega) hf, bind_val, hl, Bool.not_true, cond_false, u64_wrap (x := (l.length : Int)) (by omega) (by omega)]
  by_cases h : c ≤ (l.length : Int)
  · have h1 : ¬ c > (l.length : Int) := by omega
    have h2 : c.toNat ≤ l.length := by omega
    have hs : (slice' l c.toNat none).length = l.length - c.toNat := by rw [slice_none]; simp
    have hz : (if ((l.length - c.toNat : Nat) : Int) < (if (64 : Int) < (if (0 : Int) > f then (0 : Int) else f) then (64 : Int) else (if (0 : Int) > f then (0 : Int) else f)) then ((l.length - c.toNat : Nat) : Int) else (if (64 : Int) < (if (0 : Int) > f then (0 : Int) else f) then (64 : Int) else (if (0 : Int) > f then (0 : Int) else f))) = ((min (min f.toNat 64) (l.length - c.toNat) : Nat) : Int) := by
      split <;> split <;> (try split) <;> (try split) <;> omega
    simp only [hs]
    simp only [h, h1, h0, h2, if_true, decide_true, decide_false, cond_true, cond_false, hz, Int.natCast_nonneg, Int.toNat_natCast, Nat.zero_le, true_and, Nat.min_le_right]
    rw [slice_none, p24_is _ (fitsR_sub hl (fun x hx => List.drop_subset _ _ (List.take_subset _ _ hx)) (by simp; omega)) (by simp; omega)]
    simp only [bind_val]
  · have h1 : c > (l.length : Int) := by omega
    simp only [h, h1, if_false, decide_true, cond_true]
theorem p15_is (l : List Rd) (hl : l.length ≤ 2097152) (hf : 4194304 < fu) : p15 fu (l, ()) = some ((), logOk l) := by
  unfold p15 logOk
  by_cases h4 : l.length ≤ 4096
  · have h4' : ¬ (l.length : Int) > 4096 := by omega
    simp only [h4', decide_false, cond_false, h4, decide_true]
    refine loop_for (List.range l.length) (fun i => (((i : Int), ()), ())) (wrong l) ((), false) ((), true) (by simp only [List.length_range]; omega) (fun i h => ?_) ?_ (by cases (List.range l.length).any (wrong l) <;> rfl)
    · simp only [List.length_range] at h
      have hg : ∀ d, l.getD i d = l[i] := fun d => getD_lt h
      have hw : IntKind.wrap .u64 (i : Int) = (i : Int) := u64_wrap (by omega) (by omega)
      simp only [List.getElem_range, Int.ofNat_lt, Int.natCast_nonneg, h, decide_true, cond_true, and_self, Int.toNat_natCast, hg, hw, i64_succ h (by omega), wrong]
      cases (l[i].1 != (i : Int))
      · simp only [cond_false]
        by_cases c1 : l[i].2.1.size > 32
        · simp only [c1, show (l[i].2.1.size : Int) > 32 by omega, decide_true, cond_true, inrO_val]
        · by_cases c2 : l[i].2.2.1.length > 256
          · simp only [c1, show ¬ (l[i].2.1.size : Int) > 32 by omega, c2, show (l[i].2.2.1.length : Int) > 256 by omega, decide_true, decide_false, cond_true, cond_false, inrO_val]
          · simp only [c1, show ¬ (l[i].2.1.size : Int) > 32 by omega, c2, show ¬ (l[i].2.2.1.length : Int) > 256 by omega, decide_false, cond_false]
      · rfl
    · simp only [List.length_range, Int.ofNat_lt, Nat.lt_irrefl, decide_false, cond_false]
      rfl
  · have h4' : (l.length : Int) > 4096 := by omega
    simp only [h4', decide_true, cond_true, h4, decide_false]
    cases (List.range l.length).any (wrong l) <;> rfl
theorem sl_d {α : Type} (l : List α) (i j : Nat) : slice' l i (some j) = (l.drop i).take (j - i) := by
  cases i <;> simp [slice']
theorem p9_is (l : List Rd) (o : Int) (key : ByteArray) (v : List Int) (pr sq : Int) (hl : logOk l = true) (hk : key.size ≤ 32) (hv : v.length ≤ 256) (hf : 4194304 < fu) :
    p9 fu (l, (o, key, v, pr, sq, ()), ()) = some ((), if l.length < 4096 then (l ++ [((l.length : Int), key, v, pr, sq)], (l.length : Int), 0, ()) else ([], 0, 143, ())) := by
  have hn := (logOk_parts hl).1
  have h1 : ¬ (key.size : Int) > 32 := by omega
  have h2 : ¬ (v.length : Int) > 256 := by omega
  have hw : IntKind.wrap .u64 (l.length : Int) = (l.length : Int) := u64_wrap (by omega) (by omega)
  unfold p9 p25
  simp only [p15_is l (by omega) hf, hl, bind_val, Bool.not_true, cond_false, h1, h2, decide_false, hw]
  by_cases h : l.length < 4096
  · have h' : ¬ (l.length : Int) ≥ 4096 := by omega
    simp only [h, h', decide_false, cond_false, if_true, List.length_nil, decide_true, cond_true, List.nil_append]
    simp only [show decide (0 + l.length ≤ maxLen ∧ (0 + l.length) * 64 ≤ 140737488355328) = true from decide_eq_true ⟨by unfold maxLen; omega, by omega⟩, show decide (0 + v.length ≤ maxLen ∧ (0 + v.length) * 1 ≤ 140737488355328) = true from decide_eq_true ⟨by unfold maxLen; omega, by omega⟩, cond_true, bind_val]
    show (bif decide (l.length + 1 ≤ maxLen ∧ (l.length + 1) * 64 ≤ 140737488355328) then some ((), l ++ [((l.length : Int), key, v, pr, sq)], (l.length : Int), (0 : Int), ()) else none) = _
    rw [guardE ⟨by unfold maxLen; omega, by omega⟩]
  · have h' : (l.length : Int) ≥ 4096 := by omega
    simp only [h, h', decide_true, cond_true, if_false]
theorem p13_is (l : List Rd) (c f : Int) (hl : logOk l = true) (h0 : 0 ≤ c) (hf : 4194304 < fu) :
    p13 fu (l, c, f, ()) = some ((), if c ≤ (l.length : Int) then ((l.drop c.toNat).take (min (min f.toNat 64) (l.length - c.toNat)), 0, ()) else ([], 141, ())) := by
  have hn := (logOk_parts hl).1
  unfold p13
  simp only [p15_is l (by omega) hf, bind_val, hl, Bool.not_true, cond_false, u64_wrap (x := (l.length : Int)) (by omega) (by omega)]
  by_cases h : c ≤ (l.length : Int)
  · have h1 : ¬ c > (l.length : Int) := by omega
    have h2 : c.toNat ≤ l.length := by omega
    have hc : IntKind.wrap .i64 c = c := i64_wrap (by omega) (by omega)
    have hd : IntKind.wrap .i64 ((l.length : Int) - c) = ((l.length - c.toNat : Nat) : Int) := by rw [i64_wrap (by omega) (by omega)]; omega
    have hz : (if ((l.length - c.toNat : Nat) : Int) < (if (64 : Int) < (if (0 : Int) > f then (0 : Int) else f) then (64 : Int) else (if (0 : Int) > f then (0 : Int) else f)) then ((l.length - c.toNat : Nat) : Int) else (if (64 : Int) < (if (0 : Int) > f then (0 : Int) else f) then (64 : Int) else (if (0 : Int) > f then (0 : Int) else f))) = ((min (min f.toNat 64) (l.length - c.toNat) : Nat) : Int) := by
      split <;> split <;> (try split) <;> (try split) <;> omega
    simp only [hc, hd, hz]
    generalize hm : min (min f.toNat 64) (l.length - c.toNat) = m
    have hm1 : m ≤ l.length - c.toNat := by omega
    have he : IntKind.wrap .i64 (c + (m : Int)) = ((c.toNat + m : Nat) : Int) := by rw [i64_wrap (by omega) (by omega)]; omega
    have hs : slice' l c.toNat (some (c.toNat + m)) = (l.drop c.toNat).take m := by
      rw [sl_d, Nat.add_sub_cancel_left]
    have hsl : ((l.drop c.toNat).take m).length = m := by simp; omega
    simp only [he, h1, h0, if_pos h, decide_true, decide_false, cond_true, cond_false, Int.natCast_nonneg, Int.toNat_natCast, hs, List.nil_append, List.length_nil, hsl]
    rw [guardE ⟨by unfold maxLen; omega, by omega⟩, guardE ⟨by omega, by omega⟩]
  · have h1 : c > (l.length : Int) := by omega
    simp only [h, h1, if_false, decide_true, cond_true]
end
end Go.Proofs.Ytlmnhbobgfpanaa
