/-
  Layer 21: the document's new client; what a step leaves as it is, and what it sends.
-/
import Derived.Test.YtiiodikdbkpjjaaClC
namespace Go.Proofs.Ytiiodikdbkpjjaa
open Go.RowKit
variable {fu : Nat}
/-- What makes a server's number one that may not be. -/
def badN (id : Int) (l : List Int) (j : Nat) : Bool := !(isN (l.getD j 0)) || ((l.getD j 0 == id) || decide (l.getD j 0 ∈ l.take j))
def newR (id : Int) (l : List Int) (pr : Int) : Bool := isN id && ((pr != 0) && (decide ((l.length : Int) > 0) && (firstN l.length (badN id l)).isNone))
theorem firstN_isNone_eq {n : Nat} {p : Nat → Bool} : (firstN n p).isNone = (List.range n).all fun j => !p j := by
  rw [Bool.eq_iff_iff, Option.isNone_iff_eq_none, List.all_eq_true]
  constructor
  · intro h j hj
    rw [firstN_none h j (List.mem_range.1 hj)]; rfl
  · intro h
    exact firstN_isNone fun j hj => by simpa using h j (List.mem_range.2 hj)
theorem newB_eq (id : Int) (l : List Int) (pr : Int) : newB id l pr = newR id l pr := by
  unfold newB newR newA
  rw [firstN_isNone_eq]
  have key : (!decide (id ∈ l) && (List.range l.length).all (newQ l)) = (List.range l.length).all fun j => !badN id l j := by
    rw [Bool.eq_iff_iff, Bool.and_eq_true, List.all_eq_true, List.all_eq_true]
    constructor
    · rintro ⟨h1, h2⟩ j hj
      have h3 := h2 j hj
      have hj' := List.mem_range.1 hj
      have h4 : ¬ l.getD j 0 = id := fun e => by
        have : id ∈ l := by rw [← e, getD_lt hj']; exact List.getElem_mem _
        simp [this] at h1
      unfold newQ at h3
      simp only [Bool.and_eq_true, Bool.not_eq_true'] at h3
      unfold badN
      simp only [h3.1, h3.2, beqF h4]; rfl
    · intro h
      refine ⟨?_, fun j hj => ?_⟩
      · simp only [Bool.not_eq_true', decide_eq_false_iff_not]
        intro hm
        obtain ⟨j, hj, e⟩ := List.getElem_of_mem hm
        have h1 := h j (List.mem_range.2 hj)
        unfold badN at h1
        rw [getD_lt hj, e] at h1
        simp at h1
      · have h1 := h j hj
        unfold badN at h1
        unfold newQ
        generalize isN (l.getD j 0) = a at h1 ⊢
        generalize (l.getD j 0 == id) = b at h1
        generalize decide (l.getD j 0 ∈ l.take j) = c at h1 ⊢
        revert h1
        cases a <;> cases b <;> cases c <;> simp
  rw [← key]
  cases isN id <;> cases (pr != 0) <;> cases decide ((l.length : Int) > 0) <;> cases decide (id ∈ l) <;> cases (List.range l.length).all (newQ l) <;> rfl
theorem isN_lt {y : Int} (h : y < 1) : isN y = false := by unfold isN; simp; omega
theorem isN_gt {y : Int} (h : y > 7) : isN y = false := by unfold isN; simp; omega
theorem isN_in {y : Int} (h1 : ¬ y < 1) (h2 : ¬ y > 7) : isN y = true := by unfold isN; simp; omega
theorem take_mem_iff (l : List Int) (i : Nat) (h : i < l.length) (x : Int) : decide (x ∈ l.take i) = (firstN i fun k => l.getD k 0 == x).isSome := by
  cases hc : firstN i (fun k => l.getD k 0 == x) with
  | none =>
    have : x ∉ l.take i := fun hm => by
      obtain ⟨k, hk, e⟩ := List.getElem_of_mem hm
      have hk' : k < i := by simp at hk; omega
      have h1 := firstN_none hc k hk'
      rw [getD_lt (by omega)] at h1
      rw [List.getElem_take] at e
      simp [e] at h1
    simp [this]
  | some k =>
    obtain ⟨h1, h2, _⟩ := firstN_some hc
    have : x ∈ l.take i := by
      rw [getD_lt (by omega)] at h2
      rw [← beq_iff_eq.1 h2]
      have hk : k < (l.take i).length := by simp; omega
      have := List.getElem_mem hk
      rwa [List.getElem_take] at this
    simp [this]
theorem p37_g (l : List Int) (g : Int) (hl : l.length ≤ 35184372088832) (hf : 35184372088832 < fu) : p37 fu (l, g, ()) = some ((), match firstN l.length (fun i => g == l.getD i 0) with | some i => (i : Int) | none => -1) := by
  unfold p37
  dsimp only
  rw [scan_is l.length _ (fun i => g == l.getD i 0) (fun i => ((), (i : Int))) ((), (-1 : Int)) (fun i hi => ?_) ?_ (by omega)]
  · cases firstN l.length (fun i => g == l.getD i 0) <;> rfl
  · simp only [Int.lt_irrefl, decide_false, cond_false, inrO_val]
  · simp only [Int.ofNat_lt, hi, decide_true, cond_true, Int.natCast_nonneg, true_and, and_self, Int.toNat_natCast, bind_val, inrO_val, i64_succ hi (show l.length ≤ 9223372036854775807 by omega)]
    rfl
theorem p22_g (l : List Int) (g : Int) (hl : l.length ≤ 35184372088832) (hf : 35184372088832 < fu) : p22 fu (l, g, ()) = some ((), decide (g ∈ l)) := by
  unfold p22
  simp only [p37_g l g hl hf, bind_val]
  cases hc : firstN l.length (fun i => g == l.getD i 0) with
  | none =>
    have h0 : ¬ ((-1 : Int) ≥ 0) := by omega
    have : g ∉ l := fun hm => by
      obtain ⟨i, hi, rfl⟩ := List.getElem_of_mem hm
      have := firstN_none hc i hi
      rw [getD_lt hi] at this
      simp at this
    simp only [h0, this, decide_false]
  | some i =>
    obtain ⟨hi, hp, _⟩ := firstN_some hc
    have h0 : ((i : Int) ≥ 0) := by omega
    have : g ∈ l := by
      rw [getD_lt hi] at hp
      rw [beq_iff_eq.1 hp]
      exact List.getElem_mem _
    simp only [h0, this, decide_true]
theorem may_g {R : Type} (id : Int) (l : List Int) (pr : Int) (hl : l.length ≤ 17592186044416) (hf : 35184372088832 < fu) (k : (Bool × Unit) × Unit → Option R) :
    orK (E := (Bool × Unit) × Unit) (Option.bind (p21 fu (id, ())) fun x => bif x.2 then (bif (pr != 0) then (bif decide ((l.length : Int) > 0) then Option.bind (p22 fu (l, id, ())) fun y => some (.inl ((!y.2, ()), ())) else some (.inl ((false, ()), ()))) else some (.inl ((false, ()), ()))) else some (.inl ((false, ()), ()))) k = k ((newA id l pr, ()), ()) := by
  simp only [p21_is, bind_val, p22_g l id (show l.length ≤ 35184372088832 by omega) hf]
  unfold newA
  cases isN id <;> cases (pr != 0) <;> cases decide ((l.length : Int) > 0) <;> rfl
theorem p10_g (id : Int) (l : List Int) (pr : Int) (hl : l.length ≤ 17592186044416) (hf : 35184372088832 < fu) :
    p10 fu (id, l, pr, ()) = some ((), bif newB id l pr then ((Cl.new id l pr).fl (), 0, ()) else (Cl.none.fl (), 1, ())) := by
  unfold p10
  refine (may_g id l pr hl hf _).trans ?_
  dsimp only
  refine loopO_eq (I := fun s => ∃ i : Nat, s = ((newA id l pr && (List.range i).all (newQ l), (i : Int), ()), ()) ∧ i ≤ l.length) (m := fun s => l.length - s.1.2.1.toNat) (g := fun _ => ((), bif newB id l pr then ((Cl.new id l pr).fl (), 0, ()) else (Cl.none.fl (), 1, ()))) ?_ fu _ ⟨0, by simp, Nat.zero_le _⟩ (by simp; omega)
  rintro s ⟨i, rfl, hi⟩
  by_cases hi' : i < l.length
  · left
    refine ⟨((newA id l pr && (List.range (i + 1)).all (newQ l), ((i + 1 : Nat) : Int), ()), ()), ?_, ⟨i + 1, rfl, hi'⟩, by simp only [Int.toNat_natCast]; omega, rfl⟩
    have e2 : (0 ≤ i ∧ i ≤ l.length) := ⟨Nat.zero_le _, hi⟩
    have e3 : (newA id l pr && (List.range (i + 1)).all (newQ l)) = ((newA id l pr && (List.range i).all (newQ l)) && newQ l i) := by
      rw [List.range_succ, List.all_append]; simp [Bool.and_assoc]
    have e22 := p22_g (fu := fu) (l.take i) (l.getD i 0) (by simp; omega) hf
    rw [e3]
    unfold newQ
    cases (newA id l pr && (List.range i).all (fun i => isN (l.getD i 0) && !decide (l.getD i 0 ∈ l.take i))) with
    | false => simp only [Int.ofNat_lt, hi', decide_true, cond_true, Int.natCast_nonneg, true_and, and_self, Int.toNat_natCast, cond_false, Bool.false_and, i64_succ hi' (show l.length ≤ 9223372036854775807 by omega)]
    | true =>
      have ed : l.getD i (dflt (.int .i64)) = l.getD i 0 := rfl
      simp only [Int.ofNat_lt, hi', decide_true, cond_true, Int.natCast_nonneg, true_and, and_self, Int.toNat_natCast, Bool.true_and, i64_succ hi' (show l.length ≤ 9223372036854775807 by omega), ed, p21_is, bind_val, e22, e2]
      cases isN (l.getD i 0) <;> rfl
  · right
    obtain rfl : i = l.length := by omega
    simp only [Int.lt_irrefl, decide_false, cond_false]
    have e4 : (newA id l pr && (List.range l.length).all (newQ l)) = newB id l pr := rfl
    rw [e4]
    cases newB id l pr with
    | false => rfl
    | true =>
      simp only [Bool.not_true, cond_false, cond_true, p23_is l (show l.length * 8 ≤ 140737488355328 by omega), bind_val, decide_true]
      rfl
theorem p25_g (l : List Int) (h : l.length ≤ 17592186044416) (hf : 35184372088832 < fu) : p25 fu (l, l, ()) = some ((), true) := by
  unfold p25
  simp only [bneF rfl, cond_false]
  refine scanT_is l.length _ _ (fun i hi => ?_) ?_ (by omega)
  · simp only [Int.ofNat_lt, hi, decide_true, cond_true, Int.natCast_nonneg, true_and, and_self, Int.toNat_natCast, bneF rfl, cond_false, i64_succ hi (show l.length ≤ 9223372036854775807 by omega)]
  · simp only [Int.lt_irrefl, decide_false, cond_false, inrO_val]
theorem p12_g {n : Nat} (hn : n ≤ 4194304) (c : Cl) (h : topOk n c.topics ∧ c.leaders.length ≤ n ∧ c.servers.length ≤ 17592186044416 ∧ c.call.ok) (hf : 35184372088832 < fu) : p12 fu (c.fl (), c.fl (), ()) = some ((), true) := by
  obtain ⟨ht, hl, hs, hc⟩ := h
  have ht1 := ht.1
  have hf0 : 4194304 < fu := by omega
  have e := p24_is (fu := fu) c.call hc hf0
  simp only [Ca.fl] at e
  unfold p12
  simp only [Cl.fl, e, bind_val, p25_g c.servers hs hf, Bool.not_true, bneF rfl, cond_false]
  refine scanT_is c.topics.length _ _ (fun i hi => ?_) ?_ (by omega)
  · have hm : c.topics.getD i (dflt T_api_Topic) ∈ c.topics := by rw [getD_lt hi]; exact List.getElem_mem _
    simp only [Int.ofNat_lt, hi, decide_true, cond_true, Int.natCast_nonneg, true_and, and_self, Int.toNat_natCast, p26_is _ (ht.2 _ hm) hf0, bind_val, Bool.not_true, cond_false, beq_self_eq_true, i64_succ hi (show c.topics.length ≤ 9223372036854775807 by omega)]
  · simp only [Int.lt_irrefl, decide_false, cond_false]
    rw [scanT_is c.leaders.length _ ((), true) (fun i hi => ?_) ?_ (by omega)]
    · rfl
    · simp only [Int.lt_irrefl, decide_false, cond_false, beq_self_eq_true, cond_true, inrO_val]
    · simp only [Int.ofNat_lt, hi, decide_true, cond_true, Int.natCast_nonneg, true_and, and_self, Int.toNat_natCast, Bool.not_true, cond_false, beq_self_eq_true, i64_succ hi (show c.leaders.length ≤ 9223372036854775807 by omega)]
      rfl
set_option maxRecDepth 100000 in
theorem p11_is (id : Int) (l : List Int) (pr : Int) (hl : l.length ≤ 17592186044416) (hf : 35184372088832 < fu) :
    p11 fu (id, l, pr, ()) = some ((), bif newB id l pr then ((Cl.new id l pr).fl (), 0, ()) else (Cl.none.fl (), 1, ())) := by
  rw [newB_eq]
  unfold p11
  have k1 : ∀ {R : Type} (k : (Bool × Unit) × Unit → Option R), orK (E := (Bool × Unit) × Unit)
     (bif decide (id < (1 : Int)) then some (.inl ((true, ()), ())) else bif decide (id > (7 : Int)) then some (.inl ((true, ()), ())) else bif ((l.length : Int) == (0 : Int)) then some (.inl ((true, ()), ())) else some (.inl (((pr == (0 : Int)), ()), ()))) k
      = k ((!(isN id && ((pr != 0) && decide ((l.length : Int) > 0))), ()), ()) := fun k => by
    unfold isN
    by_cases a1 : id < 1
    · have : ¬ id ≥ 1 := by omega
      simp [a1, this, orK]
    · have b1 : id ≥ 1 := by omega
      by_cases a2 : id > 7
      · have : ¬ id ≤ 7 := by omega
        simp [a1, a2, this, orK]
      · have b2 : id ≤ 7 := by omega
        by_cases a3 : (l.length : Int) = 0
        · have : ¬ ((l.length : Int) > 0) := by omega
          simp only [a1, a2, b1, b2, beqT a3, this, decide_true, decide_false, cond_true, cond_false, Bool.and_false, Bool.true_and, Bool.not_false, orK_inl]
        · have b3 : (l.length : Int) > 0 := by omega
          by_cases a4 : pr = 0
          · simp only [a1, a2, b1, b2, beqF a3, b3, beqT a4, bneF a4, decide_true, decide_false, cond_false, Bool.and_true, Bool.true_and, Bool.not_false, Bool.not_true, orK_inl]
          · simp only [a1, a2, b1, b2, beqF a3, b3, beqF a4, bneT a4, decide_true, decide_false, cond_false, Bool.and_true, Bool.true_and, Bool.not_false, Bool.not_true, orK_inl]
  dsimp only
  refine (k1 _).trans ?_
  unfold newR
  have hb : ∀ n : Option Nat, (isN id && ((pr != 0) && (decide ((l.length : Int) > 0) && n.isNone))) = ((isN id && ((pr != 0) && decide ((l.length : Int) > 0))) && n.isNone) := fun n => by
    cases isN id <;> cases (pr != 0) <;> cases decide ((l.length : Int) > 0) <;> rfl
  rw [hb]
  cases (isN id && ((pr != 0) && decide ((l.length : Int) > 0))) with
  | false => simp only [Bool.not_false, cond_true, Bool.false_and, cond_false]; rfl
  | true =>
    simp only [Bool.not_true, cond_false, Bool.true_and]
    rw [scan_is l.length _ (badN id l) (fun _ => ((), (Cl.none.fl (), 1, ()))) ((), ((Cl.new id l pr).fl (), 0, ())) (fun i hi => ?_) ?_ (by omega)]
    · cases firstN l.length (badN id l) <;> rfl
    · simp only [Int.lt_irrefl, decide_false, cond_false, List.nil_append, List.length_nil, Nat.zero_add, decide_true, cond_true, show (l.length ≤ maxLen ∧ l.length * 8 ≤ 140737488355328) from ⟨by unfold maxLen; omega, by omega⟩, and_self, inrO_val]
      rfl
    · have ed : l.getD i (dflt (.int .i64)) = l.getD i 0 := rfl
      simp only [Int.ofNat_lt, hi, decide_true, cond_true, Int.natCast_nonneg, true_and, and_self, Int.toNat_natCast, ed]
      unfold badN
      rw [take_mem_iff l i hi]
      by_cases a1 : l.getD i 0 < 1
      · have : isN (l.getD i 0) = false := isN_lt a1
        simp only [a1, this, decide_true, cond_true, orK_inl, inrO_val, Bool.not_false, Bool.true_or]; rfl
      · by_cases a2 : l.getD i 0 > 7
        · have : isN (l.getD i 0) = false := isN_gt a2
          simp only [a1, a2, this, decide_true, decide_false, cond_true, cond_false, orK_inl, inrO_val, Bool.not_false, Bool.true_or]; rfl
        · have b : isN (l.getD i 0) = true := isN_in a1 a2
          simp only [a1, a2, b, decide_false, cond_false, orK_inl, Bool.not_true, Bool.false_or]
          cases hq : (l.getD i 0 == id) with
          | true => simp only [cond_true, Bool.true_or, inrO_val]; rfl
          | false =>
            simp only [cond_false, Bool.false_or]
            rw [scan_is i _ (fun k => l.getD k 0 == l.getD i 0) (fun _ => .inr ((), (Cl.none.fl (), 1, ()))) (.inl ((((i + 1 : Nat) : Int), ()), ())) (fun k hk => ?_) ?_ (by omega)]
            · cases firstN i (fun k => l.getD k 0 == l.getD i 0) <;> rfl
            · simp only [Int.lt_irrefl, decide_false, cond_false, inrO_val, i64_succ hi (show l.length ≤ 9223372036854775807 by omega)]
            · have hkl : k < l.length := by omega
              have ek : l.getD k (dflt (.int .i64)) = l.getD k 0 := rfl
              simp only [Int.ofNat_lt, hk, hkl, decide_true, cond_true, Int.natCast_nonneg, true_and, and_self, Int.toNat_natCast, ek, inrO_val, i64_succ hk (show i ≤ 9223372036854775807 by omega)]
              rfl
set_option maxRecDepth 100000 in
theorem p3_is (id : Int) (sv : List Int) (pr : Int) (hs : sv.length * 8 ≤ 140737488351232) (hf : 140737488355330 < fu) : p3 fu (id, sv, pr, ()) = some ((), true) := by
  have hf' : 35184372088832 < fu := by omega
  have hsn : sv.length ≤ 17592186044416 := by omega
  have e10 := p10_g (fu := fu) id sv pr hsn hf'
  have e11 := p11_is (fu := fu) id sv pr hsn hf'
  have ht : List.take sv.length (sv ++ [(77 : Int)]) = sv := by simp
  obtain ⟨c, e, hc, hok⟩ : ∃ (c : Cl) (e : Int), (bif newB id sv pr then ((Cl.new id sv pr).fl (), (0 : Int), ()) else (Cl.none.fl (), (1 : Int), ())) = (c.fl (), e, ()) ∧ (topOk 0 c.topics ∧ c.leaders.length ≤ 0 ∧ c.servers.length ≤ 17592186044416 ∧ c.call.ok) := by
    cases newB id sv pr with
    | true => exact ⟨Cl.new id sv pr, 0, rfl, ⟨Nat.le_refl _, fun _ h => (by cases h)⟩, Nat.le_refl _, hsn, Ca.zero_ok⟩
    | false => exact ⟨Cl.none, 1, rfl, ⟨Nat.le_refl _, fun _ h => (by cases h)⟩, Nat.le_refl _, Nat.zero_le _, Ca.zero_ok⟩
  rw [hc] at e10 e11
  have e12 := p12_g (fu := fu) (n := 0) (by omega) c hok hf'
  have hsl := hok.2.2.1
  unfold p3
  have m1 : (sv.length ≤ maxLen ∧ sv.length * 8 ≤ 140737488355328) := ⟨by unfold maxLen; omega, by omega⟩
  have m2 : (sv.length + 1 ≤ maxLen ∧ (sv.length + 1) * 8 ≤ 140737488355328) := ⟨by unfold maxLen; omega, by omega⟩
  have m3 : sv.length ≤ sv.length + 1 := by omega
  simp only [Cl.fl] at e10 e11 e12
  simp only [p9_is hf, bind_val, List.length_nil, List.nil_append, Nat.zero_add, decide_true, cond_true, m1, and_self, List.length_cons, m2, Int.natCast_nonneg, Int.toNat_natCast, Nat.zero_le, List.length_append, m3, ht, e10, e11, e12]
  refine loopO_eq (I := fun s => ∃ (i : Nat) (v : List Int), s = (((i : Int), ()), (({ c with servers := v } : Cl).fl (), ())) ∧ v.length = c.servers.length ∧ i ≤ v.length) (m := fun s => c.servers.length - s.1.1.toNat) (g := fun _ => ((), true)) ?_ fu _ ⟨0, c.servers, rfl, rfl, Nat.zero_le _⟩ (by simp; omega)
  rintro s ⟨i, v, rfl, hv, hi⟩
  by_cases hi' : i < v.length
  · left
    refine ⟨_, ?_, ⟨i + 1, v.set i 99, rfl, by rw [List.length_set]; exact hv, by rw [List.length_set]; exact hi'⟩, by simp only [Int.toNat_natCast]; omega, rfl⟩
    simp only [Cl.fl, Int.ofNat_lt, hi', decide_true, cond_true, Int.natCast_nonneg, true_and, and_self, Int.toNat_natCast, List.length_set, i64_succ hi' (show v.length ≤ 9223372036854775807 by omega)]
  · right
    obtain rfl : i = v.length := by omega
    simp only [Cl.fl, Int.lt_irrefl, decide_false, cond_false]
    rw [scanT_is sv.length _ ((), true) (fun i hi => ?_) ?_ (by omega)]
    · rfl
    · have w1 : IntKind.wrap .i64 ((sv.length : Int) + 1) = ((sv.length + 1 : Nat) : Int) := by rw [i64_wrap (by omega) (by omega)]; omega
      have g1 : (sv ++ [(77 : Int)]).getD sv.length (dflt (.int .i64)) = 77 := by simp
      have h2 : (sv.length : Int) < ((sv.length + 1 : Nat) : Int) := by omega
      simp only [Int.lt_irrefl, decide_false, cond_false, cond_true, beq_self_eq_true, w1, Int.natCast_nonneg, decide_true, Int.toNat_natCast, Nat.zero_le, Nat.le_refl, and_self, h2, Nat.lt_succ_self, g1, inrO_val]
    · have g1 : (sv ++ [(77 : Int)]).getD i (dflt (.int .i64)) = sv.getD i (dflt (.int .i64)) := by
        simp only [List.getD_eq_getElem?_getD]; rw [List.getElem?_append_left hi]
      simp only [Int.ofNat_lt, hi, Nat.lt_succ_of_lt hi, decide_true, cond_true, Int.natCast_nonneg, true_and, and_self, Int.toNat_natCast, g1, bneF rfl, cond_false, i64_succ hi (show sv.length ≤ 9223372036854775807 by omega)]
/-- What of a client stays while a call is under way. -/
structure Kin (c d : Cl) : Prop where
  seq : d.seq = c.seq
  pr : d.producer = c.producer
  busy : d.busy = c.busy
  call : d.call = c.call
theorem Kin.refl (c : Cl) : Kin c c := ⟨rfl, rfl, rfl, rfl⟩
theorem Kin.taught (c : Cl) (r : Rep) : Kin c (c.taught r) := by
  unfold Cl.taught
  split
  · exact ⟨rfl, rfl, rfl, rfl⟩
  · exact Kin.refl c
/-- What is asked of a call, by its kinds. -/
structure Asks (c : Cl) (q : Req) : Prop where
  k1 : q.kind = 1 → c.call.kind = 1 ∧ q.part.seq = c.seq ∧ q.part.producer = c.producer ∧ q.part.key = c.call.key ∧ q.part.value = c.call.value
  k3 : q.kind = 3 → c.call.kind = 3 ∧ q.part.seq = c.seq ∧ q.part.producer = c.producer ∧ q.part.name = c.call.name ∧ q.part.offset = c.call.offset
  k5 : q.kind = 5 → c.call.kind = 5 ∧ q.adm.s = c.seq ∧ q.adm.p = c.producer
theorem asks_req (c : Cl) : Asks c c.req.2.1 := by
  unfold Cl.req
  split
  · rename_i h
    refine ⟨fun k => ?_, fun k => ?_, fun _ => ⟨h, rfl, rfl⟩⟩
    · exact absurd (show (5 : Int) = 1 from k) (by decide)
    · exact absurd (show (5 : Int) = 3 from k) (by decide)
  · rename_i h
    split
    · refine ⟨fun k => ?_, fun k => ?_, fun k => ?_⟩
      · exact absurd (show (6 : Int) = 1 from k) (by decide)
      · exact absurd (show (6 : Int) = 3 from k) (by decide)
      · exact absurd (show (6 : Int) = 5 from k) (by decide)
    · split
      · refine ⟨fun k => ?_, fun k => ?_, fun k => ?_⟩
        · exact absurd (show (6 : Int) = 1 from k) (by decide)
        · exact absurd (show (6 : Int) = 3 from k) (by decide)
        · exact absurd (show (6 : Int) = 5 from k) (by decide)
      · refine ⟨fun k => ?_, fun k => ?_, fun k => absurd k h⟩
        · have k' : c.call.kind = 1 := k
          refine ⟨k', ?_, ?_, ?_, ?_⟩ <;> · unfold Cl.command; rw [if_pos k']
        · have k' : c.call.kind = 3 := k
          have h1 : ¬ c.call.kind = 1 := by rw [k']; decide
          have h2 : ¬ c.call.kind = 2 := by rw [k']; decide
          refine ⟨k', ?_, ?_, ?_, ?_⟩ <;> · unfold Cl.command; rw [if_neg h1, if_neg h2, if_pos k']
/-- What a step comes to for who looks at numbers. -/
inductive Fine (c d : Cl) (o : Out) : Prop where
  | still (h1 : o.send = false) (h2 : o.done = false) (k : Kin c d)
  | ends (h1 : o.send = false) (h2 : o.done = true) (h3 : d.busy = false) (h4 : d.seq = c.seq) (h5 : d.producer = c.producer)
  | sends (h1 : o.send = true) (h2 : o.done = false) (h3 : c.busy = true) (k : Kin c d) (a : Asks c o.req)
theorem fine_send {c d : Cl} (k : Kin c d) (hb : c.busy = true) : Fine c d.send.1 d.send.2 := by
  unfold Cl.send
  split
  · exact .ends rfl rfl rfl k.seq k.pr
  · have a := asks_req d.nx
    refine .sends rfl rfl hb ⟨k.seq, k.pr, k.busy, k.call⟩ ⟨fun h => ?_, fun h => ?_, fun h => ?_⟩
    · obtain ⟨a1, a2, a3, a4, a5⟩ := a.k1 h
      have e1 : d.nx.call = c.call := k.call
      have e2 : d.nx.seq = c.seq := k.seq
      have e3 : d.nx.producer = c.producer := k.pr
      rw [e1] at a1 a4 a5; rw [e2] at a2; rw [e3] at a3
      exact ⟨a1, a2, a3, a4, a5⟩
    · obtain ⟨a1, a2, a3, a4, a5⟩ := a.k3 h
      have e1 : d.nx.call = c.call := k.call
      have e2 : d.nx.seq = c.seq := k.seq
      have e3 : d.nx.producer = c.producer := k.pr
      rw [e1] at a1 a4 a5; rw [e2] at a2; rw [e3] at a3
      exact ⟨a1, a2, a3, a4, a5⟩
    · obtain ⟨a1, a2, a3⟩ := a.k5 h
      have e1 : d.nx.call = c.call := k.call
      have e2 : d.nx.seq = c.seq := k.seq
      have e3 : d.nx.producer = c.producer := k.pr
      rw [e1] at a1; rw [e2] at a2; rw [e3] at a3
      exact ⟨a1, a2, a3⟩
theorem fine_fini {c d : Cl} (k : Kin c d) (r : Rep) : Fine c d.fini (Out.told r) := .ends rfl rfl rfl k.seq k.pr
theorem fine_zero {c d : Cl} (k : Kin c d) : Fine c d Out.zero := .still rfl rfl k
theorem fine_reply (c : Cl) (r : Rep) : Fine c (c.replyS r).1 (c.replyS r).2 := by
  unfold Cl.replyS
  by_cases hb : c.busy = false
  · rw [if_pos hb]; exact fine_zero (Kin.refl c)
  rw [if_neg hb]
  have hb' : c.busy = true := by simpa using hb
  split
  · exact fine_zero (Kin.refl c)
  split
  · split
    · unfold Cl.answ
      have k := Kin.taught c r
      split
      · exact fine_fini k r
      · split
        · exact fine_send k hb'
        · exact fine_zero ⟨k.seq, k.pr, k.busy, k.call⟩
    · split
      · unfold Cl.toldL
        split
        · exact fine_send ⟨rfl, rfl, rfl, rfl⟩ hb'
        · exact fine_zero ⟨rfl, rfl, rfl, rfl⟩
      · split
        · split
          · exact fine_fini (Kin.refl c) r
          · exact fine_zero ⟨rfl, rfl, rfl, rfl⟩
        · split
          · split
            · exact fine_zero ⟨rfl, rfl, rfl, rfl⟩
            · exact fine_zero ⟨rfl, rfl, rfl, rfl⟩
          · split
            · split
              · exact fine_fini (Kin.refl c) Rep.time
              · exact fine_zero ⟨rfl, rfl, rfl, rfl⟩
            · exact fine_fini (Kin.refl c) r
  · exact fine_zero (Kin.refl c)
theorem fine_tick (c : Cl) : Fine c c.tickS.1 c.tickS.2 := by
  unfold Cl.tickS
  by_cases hb : c.busy = false
  · rw [if_pos hb]; exact fine_zero (Kin.refl c)
  rw [if_neg hb]
  have hb' : c.busy = true := by simpa using hb
  split
  · exact fine_send (Kin.refl c) hb'
  · split
    · split
      · exact fine_fini (c := c) (d := c.waits.forget.nextS) ⟨rfl, rfl, rfl, rfl⟩ Rep.time
      · exact fine_send ⟨rfl, rfl, rfl, rfl⟩ hb'
    · exact fine_zero ⟨rfl, rfl, rfl, rfl⟩
/-- A step, for who looks at numbers: a call is taken, or not. -/
theorem fine_step (c : Cl) (k : Int) (x : Ca) (r : Rep) :
    (k = 1 ∧ (c.step k x r).2 = 0 ∧ c.busy = false ∧ Fine (c.calls x) (c.step k x r).1.1 (c.step k x r).1.2) ∨ (¬ (k = 1 ∧ (c.step k x r).2 = 0) ∧ Fine c (c.step k x r).1.1 (c.step k x r).1.2) := by
  unfold Cl.step
  by_cases k1 : k = 1
  · rw [if_pos k1]
    unfold Cl.callS
    by_cases hb : c.busy = true
    · rw [if_pos hb]
      exact .inr ⟨fun h => absurd h.2 (show ¬ (211 : Int) = 0 by decide), fine_zero (Kin.refl c)⟩
    · rw [if_neg hb]
      by_cases hm : mayB x = false
      · rw [if_pos hm]
        exact .inr ⟨fun h => absurd h.2 (show ¬ (212 : Int) = 0 by decide), fine_zero (Kin.refl c)⟩
      · rw [if_neg hm]
        exact .inl ⟨k1, rfl, by simpa using hb, fine_send (Kin.refl _) rfl⟩
  · rw [if_neg k1]
    refine .inr ⟨fun h => k1 h.1, ?_⟩
    split
    · exact fine_reply c r
    · split
      · exact fine_tick c
      · exact fine_zero (Kin.refl c)
/-- What the numbers' keeper knows. -/
structure Knows (c : Cl) (seq : Int) (under : Bool) (now : Ca) : Prop where
  sq : c.seq = seq
  pr : c.producer = 9
  un : under = (c.busy && chB c.call.kind)
  nw : under = true → now = c.call
theorem p13_is (x : Ca) (h : x.ok) : p13 fu (x.fl (), ()) = some ((), x.fl ()) := by
  have h1 := h.1
  have h2 := h.2
  have m1 : x.value.length ≤ maxLen ∧ x.value.length * 1 ≤ 140737488355328 := ⟨by unfold maxLen; omega, by omega⟩
  have m2 : x.adm.ns.length ≤ maxLen ∧ x.adm.ns.length * 8 ≤ 140737488355328 := ⟨by unfold maxLen; omega, by omega⟩
  unfold p13
  simp only [Ca.fl, List.length_nil, List.nil_append, Nat.zero_add, decide_true, cond_true, m1, m2, and_self]
theorem chB_is {R : Type} (k : Int) (f : (Bool × Unit) × Unit → Option R) : orK (E := (Bool × Unit) × Unit) (bif (k == (1 : Int)) then some (.inl ((true, ()), ())) else bif (k == (3 : Int)) then some (.inl ((true, ()), ())) else some (.inl (((k == (5 : Int)), ()), ()))) f = f ((chB k, ()), ()) := by
  unfold chB
  cases k == 1 <;> cases k == 3 <;> rfl
/-- What is kept behind a step. -/
def nowOf (b : Bool) (now x : Ca) : Ca := if b then x else now
theorem keeps (c d : Cl) (o : Out) (seq : Int) (under : Bool) (now : Ca) (h : Knows c seq under now) (f : Fine c d o) :
    Knows d seq (bif o.done then false else under) now ∧
    (o.send = true → o.req.kind = 1 → under = true ∧ o.req.part.seq = seq ∧ o.req.part.producer = 9 ∧ o.req.part.key = now.key ∧ o.req.part.value = now.value) ∧
    (o.send = true → o.req.kind = 3 → under = true ∧ o.req.part.seq = seq ∧ o.req.part.producer = 9 ∧ o.req.part.name = now.name ∧ o.req.part.offset = now.offset) ∧
    (o.send = true → o.req.kind = 5 → under = true ∧ o.req.adm.s = seq ∧ o.req.adm.p = 9) := by
  cases f with
  | still h1 h2 k =>
    refine ⟨?_, fun e => ?_, fun e => ?_, fun e => ?_⟩
    · rw [h2]
      exact ⟨k.seq.trans h.sq, k.pr.trans h.pr, by rw [k.busy, k.call]; exact h.un, fun e => by rw [k.call]; exact h.nw e⟩
    all_goals rw [h1] at e; cases e
  | ends h1 h2 h3 h4 h5 =>
    refine ⟨?_, fun e => ?_, fun e => ?_, fun e => ?_⟩
    · rw [h2]
      exact ⟨h4.trans h.sq, h5.trans h.pr, by rw [h3]; rfl, fun e => by cases e⟩
    all_goals rw [h1] at e; cases e
  | sends h1 h2 h3 k a =>
    refine ⟨?_, fun _ e => ?_, fun _ e => ?_, fun _ e => ?_⟩
    · rw [h2]
      exact ⟨k.seq.trans h.sq, k.pr.trans h.pr, by rw [k.busy, k.call]; exact h.un, fun e => by rw [k.call]; exact h.nw e⟩
    · obtain ⟨a1, a2, a3, a4, a5⟩ := a.k1 e
      have hu : under = true := by rw [h.un, h3, a1]; rfl
      rw [h.nw hu]
      exact ⟨hu, a2.trans h.sq, a3.trans h.pr, a4, a5⟩
    · obtain ⟨a1, a2, a3, a4, a5⟩ := a.k3 e
      have hu : under = true := by rw [h.un, h3, a1]; rfl
      rw [h.nw hu]
      exact ⟨hu, a2.trans h.sq, a3.trans h.pr, a4, a5⟩
    · obtain ⟨a1, a2, a3⟩ := a.k5 e
      have hu : under = true := by rw [h.un, h3, a1]; rfl
      exact ⟨hu, a2.trans h.sq, a3.trans h.pr⟩
theorem rule1 {R : Type} (o : Out) (seq : Int) (under : Bool) (now : Ca) (h : o.send = true → o.req.kind = 1 → under = true ∧ o.req.part.seq = seq ∧ o.req.part.producer = 9 ∧ o.req.part.key = now.key ∧ o.req.part.value = now.value) (z : Option (Unit × Unit ⊕ R)) (k : Unit × Unit → Option R) :
    orK (bif o.send then bif (o.req.kind == (1 : Int)) then bif !under then z else bif (o.req.part.seq != seq) then z else bif (o.req.part.producer != (9 : Int)) then z else
      bif !(ByteArray.toList o.req.part.key == ByteArray.toList now.key) then z else bif !(ByteArray.toList (strOfNums o.req.part.value) == ByteArray.toList (strOfNums now.value)) then z else some (.inl ((), ()))
      else some (.inl ((), ())) else some (.inl ((), ()))) k = k ((), ()) := by
  cases hs : o.send with
  | false => rfl
  | true =>
    by_cases hk : o.req.kind = 1
    · obtain ⟨h1, h2, h3, h4, h5⟩ := h hs hk
      rw [h1, h2, h3, h4, h5]
      simp only [beqT hk, cond_true, Bool.not_true, cond_false, bneF rfl, beq_self_eq_true, orK_inl]
    · simp only [beqF hk, cond_true, cond_false, orK_inl]
theorem rule3 {R : Type} (o : Out) (seq : Int) (under : Bool) (now : Ca) (h : o.send = true → o.req.kind = 3 → under = true ∧ o.req.part.seq = seq ∧ o.req.part.producer = 9 ∧ o.req.part.name = now.name ∧ o.req.part.offset = now.offset) (z : Option (Unit × Unit ⊕ R)) (k : Unit × Unit → Option R) :
    orK (bif o.send then bif (o.req.kind == (3 : Int)) then bif !under then z else bif (o.req.part.seq != seq) then z else bif (o.req.part.producer != (9 : Int)) then z else
      bif !(ByteArray.toList o.req.part.name == ByteArray.toList now.name) then z else bif (o.req.part.offset != now.offset) then z else some (.inl ((), ()))
      else some (.inl ((), ())) else some (.inl ((), ()))) k = k ((), ()) := by
  cases hs : o.send with
  | false => rfl
  | true =>
    by_cases hk : o.req.kind = 3
    · obtain ⟨h1, h2, h3, h4, h5⟩ := h hs hk
      rw [h1, h2, h3, h4, h5]
      simp only [beqT hk, cond_true, Bool.not_true, cond_false, bneF rfl, beq_self_eq_true, orK_inl]
    · simp only [beqF hk, cond_true, cond_false, orK_inl]
theorem rule5 {R : Type} (o : Out) (seq : Int) (under : Bool) (h : o.send = true → o.req.kind = 5 → under = true ∧ o.req.adm.s = seq ∧ o.req.adm.p = 9) (z : Option (Unit × Unit ⊕ R)) (k : Unit × Unit → Option R) :
    orK (bif o.send then bif (o.req.kind == (5 : Int)) then bif !under then z else bif (o.req.adm.s != seq) then z else bif (o.req.adm.p != (9 : Int)) then z else some (.inl ((), ()))
      else some (.inl ((), ())) else some (.inl ((), ()))) k = k ((), ()) := by
  cases hs : o.send with
  | false => rfl
  | true =>
    by_cases hk : o.req.kind = 5
    · obtain ⟨h1, h2, h3⟩ := h hs hk
      rw [h1, h2, h3]
      simp only [beqT hk, cond_true, Bool.not_true, cond_false, bneF rfl, orK_inl]
    · simp only [beqF hk, cond_true, cond_false, orK_inl]
theorem done_is {R : Type} (b u : Bool) (k : (Bool × Unit) × Unit → Option R) : orK (E := (Bool × Unit) × Unit) (bif b then some (.inl ((false, ()), ())) else some (.inl ((u, ()), ()))) k = k (((bif b then false else u), ()), ()) := by
  cases b <;> rfl
set_option maxRecDepth 100000 in
set_option maxHeartbeats 1000000 in
theorem p5_is (id : Int) (sv : List Int) (l : List D_api_ClientInput) (hs : sv.length ≤ 1048576) (hl : l.length ≤ 1048576) (hx : ∀ x ∈ l, inOk x) (hf : 140737488355330 < fu) :
    p5 fu (id, sv, l, ()) = some ((), true) := by
  have hf' : 4194304 < fu := by omega
  have e10 := p10_is (fu := fu) id sv 9 hs hf'
  unfold p5
  cases hb : newB id sv 9 with
  | false =>
    rw [hb] at e10
    simp only [cond_false, Cl.fl] at e10
    simp only [p9_is hf, bind_val, e10, Bool.not_true, cond_false]
    rfl
  | true =>
    rw [hb] at e10
    have hc0 := Cl.new_ok id 9 hs (newB_pos hb)
    have hk0 : Knows (Cl.new id sv 9) 0 false Ca.zero := ⟨rfl, rfl, rfl, fun e => by cases e⟩
    generalize Cl.new id sv 9 = c0 at e10 hc0 hk0
    simp only [cond_true, Cl.fl] at e10
    simp only [p9_is hf, bind_val, e10, Bool.not_true, bneF rfl, decide_true, cond_true, cond_false]
    refine loopO_eq (I := fun s => ∃ (i : Nat) (c : Cl) (seq : Int) (under : Bool) (now : Ca), s = ((seq, under, (i : Int), ()), (c.fl (), now.fl (), ())) ∧ i ≤ l.length ∧ c.ok i ∧ now.ok ∧ Knows c seq under now) (m := fun s => l.length - s.1.2.2.1.toNat) (g := fun _ => ((), true)) ?_ fu _ ⟨0, c0, 0, false, Ca.zero, rfl, Nat.zero_le _, hc0, Ca.zero_ok, hk0⟩ (by simp; omega)
    rintro s ⟨i, c, seq, under, now, rfl, hi, hc, hn, hk⟩
    by_cases hi' : i < l.length
    · left
      have hm : l.getD i (dflt T_api_ClientInput) ∈ l := by rw [getD_lt hi']; exact List.getElem_mem _
      generalize hxx : l.getD i (dflt T_api_ClientInput) = x at hm
      obtain ⟨k1, k2, k3⟩ := hx x hm
      have e1 := p16_is (fu := fu) (n := i) (by omega) c hc x.1 (caOf x.2.1) k1 (repOf x.2.2) k2 k3 hf
      have e13 := p13_is (fu := fu) (caOf x.2.1) k1
      have hc' := Cl.step_ok hc x.1 k1 k2
      have hfs := fine_step c x.1 (caOf x.2.1) (repOf x.2.2)
      generalize c.step x.1 (caOf x.2.1) (repOf x.2.2) = st at e1 hc' hfs
      obtain ⟨⟨d, o⟩, e⟩ := st
      simp only at e1 hc' hfs
      -- what is known behind the call was taken, or not
      obtain ⟨seq', under', now', hn', hq, hkeep⟩ : ∃ (seq' : Int) (under' : Bool) (now' : Ca), now'.ok ∧
          (seq', under', now') = (if x.1 = 1 ∧ e = 0 then ((bif chB (caOf x.2.1).kind then IntKind.wrap .u64 (seq + 1) else seq), chB (caOf x.2.1).kind, caOf x.2.1) else (seq, under, now)) ∧
          (∃ c', Knows c' seq' under' now' ∧ Fine c' d o) ∧ (x.1 = 1 ∧ e = 0 → c.busy = false) := by
        rcases hfs with ⟨h1, h2, h3, h4⟩ | ⟨h1, h2⟩
        · refine ⟨_, _, _, k1, by rw [if_pos ⟨h1, h2⟩], ⟨c.calls (caOf x.2.1), ⟨?_, hk.pr, ?_, fun _ => rfl⟩, h4⟩, fun _ => h3⟩
          · show (bif chB (caOf x.2.1).kind then IntKind.wrap .u64 (c.seq + 1) else c.seq) = _
            rw [hk.sq]
          · show _ = (true && chB (caOf x.2.1).kind)
            rw [Bool.true_and]
        · exact ⟨seq, under, now, hn, by rw [if_neg h1], ⟨c, hk, h2⟩, fun h => absurd h h1⟩
      obtain ⟨⟨c', hkn, hfi⟩, hbz⟩ := hkeep
      obtain ⟨hkd, r1, r3, r5⟩ := keeps c' d o seq' under' now' hkn hfi
      refine ⟨((seq', (bif o.done then false else under'), ((i + 1 : Nat) : Int), ()), (d.fl (), now'.fl (), ())), ?_, ⟨i + 1, d, seq', _, now', rfl, hi', hc', hn', hkd⟩, by simp only [Int.toNat_natCast]; omega, rfl⟩
      have hsq : d.seq = seq' := hkd.sq
      have R1 := fun R z k => rule1 (R := R) o seq' under' now' r1 z k
      have R3 := fun R z k => rule3 (R := R) o seq' under' now' r3 z k
      have R5 := fun R z k => rule5 (R := R) o seq' under' r5 z k
      simp only [Cl.fl, inFl, Out.fl] at e1
      simp only [Ca.fl] at e13
      by_cases hq1 : x.1 = 1 ∧ e = 0
      · rw [if_pos hq1] at hq
        simp only [Prod.mk.injEq] at hq
        obtain ⟨rfl, rfl, rfl⟩ := hq
        have hcb := hbz hq1
        rw [hcb] at e1
        simp only [Cl.fl, Ca.fl, Int.ofNat_lt, hi', decide_true, cond_true, Int.natCast_nonneg, true_and, and_self, Int.toNat_natCast, hxx, e1, bind_val, beqT hq1.1, beqT hq1.2, orK_inl, hcb, cond_false, e13, chB_is]
        cases hch : chB (caOf x.2.1).kind with
        | true =>
          rw [hch] at R1 R3 R5 hsq
          simp only [cond_true] at R1 R3 R5 hsq ⊢
          simp only [orK_inl, R1, R3, R5, done_is, bneF hsq, cond_false, i64_succ hi' (show l.length ≤ 9223372036854775807 by omega)]
        | false =>
          rw [hch] at R1 R3 R5 hsq
          simp only [cond_false] at R1 R3 R5 hsq ⊢
          simp only [orK_inl, R1, R3, R5, done_is, bneF hsq, cond_false, i64_succ hi' (show l.length ≤ 9223372036854775807 by omega)]
      · rw [if_neg hq1] at hq
        simp only [Prod.mk.injEq] at hq
        obtain ⟨rfl, rfl, rfl⟩ := hq
        by_cases q1 : x.1 = 1
        · have q2 : ¬ e = 0 := fun h => hq1 ⟨q1, h⟩
          simp only [Cl.fl, Ca.fl, Int.ofNat_lt, hi', decide_true, cond_true, Int.natCast_nonneg, true_and, and_self, Int.toNat_natCast, hxx, e1, bind_val, beqT q1, beqF q2, orK_inl, cond_false, R1, R3, R5, done_is, bneF hsq, i64_succ hi' (show l.length ≤ 9223372036854775807 by omega)]
        · simp only [Cl.fl, Ca.fl, Int.ofNat_lt, hi', decide_true, cond_true, Int.natCast_nonneg, true_and, and_self, Int.toNat_natCast, hxx, e1, bind_val, beqF q1, orK_inl, cond_false, R1, R3, R5, done_is, bneF hsq, i64_succ hi' (show l.length ≤ 9223372036854775807 by omega)]
    · right
      obtain rfl : i = l.length := by omega
      simp only [Int.lt_irrefl, decide_false, cond_false, inrO_val]
end Go.Proofs.Ytiiodikdbkpjjaa
