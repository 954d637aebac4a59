/-
  Layer 7: nodes, each once, in order; maps by nodes.
-/
import Derived.Test.YtlglifgnklngfaaPt
import Derived.Test.YtlglifgnklngfaaDaP
namespace Go.Proofs.Ytlglifgnklngfaa
open Go.RowKit
section
variable {fu : Nat}

theorem maxLen_is : maxLen = 9223372036854775807 := rfl
/-- The same ones, each once. -/
def Dist (d a : List Int) : Prop := d.Nodup ∧ ∀ x, x ∈ d ↔ x ∈ a
theorem Dist.perm {d d' a : List Int} (h : Dist d a) (h' : Dist d' a) : d.Perm d' := (List.perm_ext_iff_of_nodup h.1 h'.1).2 fun x => (h.2 x).trans (h'.2 x).symm

-- of equal neighbours one is left
theorem compactUpTo_mem (d : Array Int) : ∀ m, m ≤ d.size → ∀ x, x ∈ Lib.compactUpTo d m ↔ ∃ j, j < m ∧ d[j]! = x
  | 0, _, x => by simp [Lib.compactUpTo]
  | m + 1, hm, x => by
    rw [Lib.compactUpTo_succ, List.mem_append, compactUpTo_mem d m (by omega) x]
    constructor
    · rintro (⟨j, h1, h2⟩ | h)
      · exact ⟨j, by omega, h2⟩
      · by_cases hk : Lib.keeps d m = true
        · rw [if_pos hk] at h
          exact ⟨m, by omega, (List.mem_singleton.1 h).symm⟩
        · rw [if_neg hk] at h; cases h
    · rintro ⟨j, h1, h2⟩
      rcases Nat.lt_or_ge j m with h3 | h3
      · exact .inl ⟨j, h3, h2⟩
      · obtain rfl : j = m := by omega
        by_cases hk : Lib.keeps d j = true
        · rw [if_pos hk]
          exact .inr (by rw [← h2]; exact List.mem_singleton.2 rfl)
        · have : ¬ (j = 0 ∨ d[j]! ≠ d[j - 1]!) := fun h => hk (by unfold Lib.keeps; exact decide_eq_true h)
          have h0 : j ≠ 0 := fun h => this (.inl h)
          have h4 : d[j]! = d[j - 1]! := Classical.byContradiction fun h => this (.inr h)
          exact .inl ⟨j - 1, by omega, by rw [← h4]; exact h2⟩
theorem compactUpTo_nodup (d : Array Int) (hs : ∀ i j, i ≤ j → j < d.size → d[i]! ≤ d[j]!) : ∀ m, m ≤ d.size → (Lib.compactUpTo d m).Nodup
  | 0, _ => by simp [Lib.compactUpTo]
  | m + 1, hm => by
    rw [Lib.compactUpTo_succ, List.nodup_append]
    refine ⟨compactUpTo_nodup d hs m (by omega), ?_, fun x hx y hy e => ?_⟩
    · split <;> simp
    · by_cases hk : Lib.keeps d m = true
      · rw [if_pos hk] at hy
        obtain ⟨j, h1, h2⟩ := (compactUpTo_mem d m (by omega) x).1 hx
        have hy : y = d[m]! := List.mem_singleton.1 hy
        have hk' : m = 0 ∨ d[m]! ≠ d[m - 1]! := by unfold Lib.keeps at hk; exact of_decide_eq_true hk
        have h3 := hs j (m - 1) (by omega) (by omega)
        have h4 := hs (m - 1) m (by omega) (by omega)
        rcases hk' with h5 | h5
        · omega
        · rw [e, hy] at h2; omega
      · rw [if_neg hk] at hy; cases hy
theorem getB_toArray (l : List Int) (i : Nat) (h : i < l.length) : l.toArray[i]! = l[i] := by
  rw [getElem!_pos l.toArray i (by simpa using h)]; simp
theorem compact_mem (l : List Int) (x : Int) : x ∈ Lib.compact l ↔ x ∈ l := by
  unfold Lib.compact
  rw [compactUpTo_mem l.toArray l.length (by simp) x, List.mem_iff_getElem]
  constructor
  · rintro ⟨j, h1, h2⟩; exact ⟨j, h1, by rw [← h2, getB_toArray l j h1]⟩
  · rintro ⟨j, h1, h2⟩; exact ⟨j, h1, by rw [← h2, getB_toArray l j h1]⟩
theorem sortI_mem (l : List Int) (x : Int) : x ∈ sortI l ↔ x ∈ l := (List.mergeSort_perm l _).mem_iff
theorem sortI_le (l : List Int) : ∀ i j, i ≤ j → j < (sortI l).toArray.size → (sortI l).toArray[i]! ≤ (sortI l).toArray[j]! := fun i j hij hj => by
  have hj' : j < (sortI l).length := by simpa using hj
  rw [getB_toArray _ i (by omega), getB_toArray _ j hj']
  rcases Nat.eq_or_lt_of_le hij with rfl | hlt
  · exact Int.le_refl _
  · have := List.pairwise_mergeSort (le := fun x y : Int => decide (x ≤ y)) (fun a b c h1 h2 => by simp at *; omega) (fun a b => by simp; omega) l
    have := List.pairwise_iff_getElem.1 this i j (by exact Nat.lt_trans hlt hj') hj' hlt
    exact of_decide_eq_true this
/-- The nodes in order, each once. -/
def distI (a : List Int) : List Int := Lib.compact (sortI a)
theorem distI_dist (a : List Int) : Dist (distI a) a := by
  refine ⟨?_, fun x => (compact_mem _ x).trans (sortI_mem a x)⟩
  have := compactUpTo_nodup (sortI a).toArray (sortI_le a) (sortI a).length (by simp)
  exact this
theorem distI_len (a : List Int) : (distI a).length ≤ a.length := by
  rw [← sortI_len a]
  unfold distI Lib.compact Lib.compactUpTo
  rw [List.length_map]
  exact Nat.le_trans (List.length_filter_le _ _) (by simp)
theorem p33_is (a : List Int) (h : a.length * 8 ≤ 140737488355328) : p33 fu (a, ()) = some ((), a) := by
  have hm : maxLen = 9223372036854775807 := rfl
  have h1 : a.length ≤ maxLen := by omega
  by_cases h0 : 0 < a.length
  · simp only [p33, h0, decide_true, cond_true, List.length_nil, Nat.zero_add, h1, h, and_self, List.nil_append]
  · obtain rfl : a = [] := List.length_eq_zero_iff.1 (by omega)
    rfl
theorem p19_is (a : List Int) (h : a.length * 8 ≤ 140737488355328) : p19 fu (a, ()) = some ((), distI a) := by
  have hb : a.length < 4611686018427387904 := by omega
  have hs := sortI_len a
  have hc : a.length ≤ 9223372036854775807 := by omega
  simp only [p19, p33_is a h, bind_val, decide_true, cond_true, pSort, hb, hs, pCompact, hc]
  rfl

-- maps
theorem eqK_int (a b : Int) : eqK (.int .i64) a b = (a == b) := rfl
theorem hasM_set {α : Type} : ∀ (m : List (Int × α)) (k : Int) (v : α) (q : Int), hasM (.int .i64) (setM (.int .i64) m k v) q = (q == k || hasM (.int .i64) m q)
  | [], k, v, q => by simp only [setM, hasM, eqK_int]
  | p :: m, k, v, q => by
    simp only [setM, eqK_int]
    cases hk : (k == p.1) with
    | true =>
      obtain rfl : k = p.1 := by simpa using hk
      simp only [cond_true, hasM, eqK_int]
      cases q == p.1 <;> simp
    | false =>
      simp only [cond_false, hasM, eqK_int, hasM_set m k v q]
      cases q == p.1 <;> cases q == k <;> simp
theorem lookM_set {α : Type} : ∀ (m : List (Int × α)) (k : Int) (v : α) (q : Int), lookM (.int .i64) (setM (.int .i64) m k v) q = if q = k then some v else lookM (.int .i64) m q
  | [], k, v, q => by
    simp only [setM, lookM, eqK_int]
    by_cases h : q = k
    · simp [h]
    · have hb : (q == k) = false := by simpa using h
      simp [h, hb]
  | p :: m, k, v, q => by
    simp only [setM, eqK_int]
    by_cases hk : k = p.1
    · subst hk
      simp only [beq_self_eq_true, cond_true, lookM, eqK_int]
      by_cases h : q = p.1
      · simp [h]
      · have hb : (q == p.1) = false := by simpa using h
        simp [h, hb]
    · have hb : (k == p.1) = false := by simpa using hk
      simp only [hb, cond_false, lookM, eqK_int, lookM_set m k v q]
      by_cases h : q = p.1
      · subst h; simp [Ne.symm hk]
      · have hb : (q == p.1) = false := by simpa using h
        simp [hb]
theorem hasM_look {α : Type} : ∀ (m : List (Int × α)) (q : Int), hasM (.int .i64) m q = (lookM (.int .i64) m q).isSome
  | [], q => rfl
  | p :: m, q => by
    simp only [hasM, lookM, eqK_int, hasM_look m q]
    cases q == p.1 <;> rfl
end
section
variable {fu : Nat}

def mostN (n : Nat) : Nat := if n = 0 then 0 else n / 2 + 1
theorem most_wrap {n : Nat} (h : n ≤ 9223372036854775806) : IntKind.wrap .i64 ((IntKind.wrap .i64 (Int.tdiv (n : Int) (2 : Int))) + (1 : Int)) = ((n / 2 + 1 : Nat) : Int) := by
  have e : Int.tdiv (n : Int) 2 = ((n / 2 : Nat) : Int) := by
    rw [Int.tdiv_eq_ediv_of_nonneg (by omega)]; omega
  rw [e, i64_wrap (x := ((n / 2 : Nat) : Int)) (by omega) (by omega), i64_wrap (by omega) (by omega)]; omega
theorem p13_is {n : Nat} (h : n ≤ 9223372036854775806) : p13 fu ((n : Int), ()) = some ((), ((mostN n : Nat) : Int)) := by
  unfold p13 mostN
  by_cases h0 : n = 0
  · subst h0; rfl
  · have h1 : ¬ ((n : Int) < 1) := by omega
    simp only [h1, decide_false, cond_false, most_wrap h, h0, if_false]
theorem p14_eq (x : Int × Unit) : p14 fu x = p13 fu x := rfl
theorem p14_is {n : Nat} (h : n ≤ 9223372036854775806) : p14 fu ((n : Int), ()) = some ((), ((mostN n : Nat) : Int)) := p13_is (fu := fu) h

theorem take_one {α : Type} [Inhabited α] (l : List α) (i : Nat) (d : α) (h : i < l.length) : l.take (i + 1) = l.take i ++ [l.getD i d] := by
  rw [getD_lt h]; exact List.take_succ_eq_append_getElem h
theorem take_all {α : Type} (l : List α) : l.take l.length = l := List.take_length
theorem loop_val {S R : Type} {f : S → Option (S ⊕ R)} (I : S → Prop) (m : S → Nat) {n : Nat} {s : S} {r : R} (hI : I s) (hm : m s < n) (h : ∀ s, I s → ∃ o, f s = some o ∧ LStep I m (fun q => q = r) s o) : loopO n f s = some r := by
  obtain ⟨q, e, rfl⟩ := loopO_rule I m (fun q => q = r) h n s hI hm
  exact e
theorem loop_ex {S R X : Type} {f : S → Option (S ⊕ R)} (mk : X → R) (J : X → Prop) (I : S → Prop) (m : S → Nat) {n : Nat} {s : S} (hI : I s) (hm : m s < n) (h : ∀ s, I s → ∃ o, f s = some o ∧ LStep I m (fun q => ∃ x, q = mk x ∧ J x) s o) : ∃ x, loopO n f s = some (mk x) ∧ J x := by
  obtain ⟨q, e, x, rfl, hx⟩ := loopO_rule I m (fun q => ∃ x, q = mk x ∧ J x) h n s hI hm
  exact ⟨x, e, hx⟩
/-- Is it there? -/
theorem p27_is (l : List Int) (x : Int) (hl : l.length ≤ 9223372036854775807) (hf : l.length < fu) : p27 fu (l, x, ()) = some ((), l.contains x) := by
  unfold p27
  refine loop_val (I := fun s => ∃ i : Nat, s = (((i : Int), ()), ()) ∧ i ≤ l.length ∧ (l.take i).contains x = false) (m := fun s => (l.length - Int.toNat s.1.1)) ⟨0, rfl, Nat.zero_le _, by simp⟩ (by simpa using hf) fun s hs => ?_
  · obtain ⟨i, rfl, h1, h2⟩ := hs
    by_cases h : i < l.length
    · have hi : (i : Int) < (l.length : Int) := by omega
      have h0 : (0 : Int) ≤ (i : Int) := by omega
      simp only [hi, h0, decide_true, cond_true, Int.toNat_natCast, h, and_self, i64_succ h hl]
      have ht := take_one l i (dflt (.int .i64)) h
      cases hb : (l.getD i (dflt (.int .i64)) == x) with
      | true =>
        refine ⟨_, rfl, ?_⟩
        have : x ∈ l := by
          rw [← List.take_append_drop (i + 1) l, ht]
          have hx : l.getD i (dflt (.int .i64)) = x := by simpa using hb
          rw [hx]; simp
        show ((), true) = _
        rw [List.contains_iff_mem.2 this]
      | false =>
        refine ⟨_, rfl, ⟨i + 1, rfl, h, ?_⟩, ?_⟩
        · rw [ht]
          have hx : ¬ l.getD i (dflt (.int .i64)) = x := by simpa using hb
          simp only [List.contains_eq_mem, List.mem_append, List.mem_singleton, decide_eq_false_iff_not, not_or] at h2 ⊢
          exact ⟨h2, fun e => hx e.symm⟩
        · simp only [Int.toNat_natCast]; omega
    · have hi : ¬ ((i : Int) < (l.length : Int)) := by omega
      obtain rfl : i = l.length := by omega
      simp only [hi, decide_false, cond_false]
      refine ⟨_, rfl, ?_⟩
      rw [take_all] at h2
      rw [h2]
/-- The document's nodes, each once. -/
theorem p26_is (a : List Int) (ha : a.length * 8 ≤ 140737488355328) (hf : a.length < fu) : ∃ o, p26 fu (a, ()) = some ((), o) ∧ Dist o a := by
  have hm : maxLen = 9223372036854775807 := rfl
  unfold p26
  refine loop_ex (fun o => ((), o)) (fun o => Dist o a) (I := fun s : (List Int × Int × Unit) × Unit => ∃ (i : Nat) (c : List Int), s = ((c, (i : Int), ()), ()) ∧ i ≤ a.length ∧ c.length ≤ i ∧ Dist c (a.take i)) (m := fun s => (a.length - Int.toNat s.1.2.1)) ⟨0, [], rfl, Nat.zero_le _, Nat.le_refl _, by simp, by simp⟩ (by simpa using hf) fun s hs => ?_
  · obtain ⟨i, c, rfl, h1, h2, h3⟩ := hs
    by_cases h : i < a.length
    · have hi : (i : Int) < (a.length : Int) := by omega
      have h0 : (0 : Int) ≤ (i : Int) := by omega
      have h4 : c.length + 1 ≤ maxLen ∧ (c.length + 1) * 8 ≤ 140737488355328 := by omega
      have ht := take_one a i (dflt (.int .i64)) h
      simp only [hi, h0, decide_true, cond_true, Int.toNat_natCast, h, and_self, i64_succ h (show a.length ≤ 9223372036854775807 by omega), p27_is (fu := fu) c _ (by omega) (by omega), bind_val, List.length_cons, List.length_nil, Nat.zero_add, h4]
      cases hb : c.contains (a.getD i (dflt (.int .i64))) with
      | false =>
        simp only [Bool.not_false, cond_true]
        refine ⟨_, rfl, ⟨i + 1, _, rfl, h, by simp; omega, ?_⟩, ?_⟩
        · have hn : ¬ a.getD i (dflt (.int .i64)) ∈ c := by simpa using hb
          rw [ht]
          refine ⟨List.nodup_append.2 ⟨h3.1, by simp, fun x hx y hy e => ?_⟩, fun x => ?_⟩
          · rw [List.mem_singleton.1 hy] at e; rw [e] at hx; exact hn hx
          · simp only [List.mem_append, h3.2 x]
        · simp only [Int.toNat_natCast]; omega
      | true =>
        simp only [Bool.not_true, cond_false]
        refine ⟨_, rfl, ⟨i + 1, _, rfl, h, by omega, ?_⟩, ?_⟩
        · have hn : a.getD i (dflt (.int .i64)) ∈ c := by simpa using hb
          rw [ht]
          refine ⟨h3.1, fun x => ?_⟩
          simp only [List.mem_append, List.mem_singleton, ← h3.2 x]
          constructor
          · exact .inl
          · rintro (h | rfl)
            · exact h
            · exact hn
        · simp only [Int.toNat_natCast]; omega
    · have hi : ¬ ((i : Int) < (a.length : Int)) := by omega
      obtain rfl : i = a.length := by omega
      rw [take_all] at h3
      simp only [hi, decide_false, cond_false, decide_true, cond_true]
      exact ⟨_, rfl, c, rfl, h3⟩
/-- Nodes by themselves. -/
theorem p20_is (c : List Int) (hc : c.length ≤ 9223372036854775807) (hf : c.length < fu) : ∃ m : List (Int × Int), p20 fu (c, ((), ()), ((), ()), ()) = some ((), m) ∧ ∀ k, hasM (.int .i64) m k = c.contains k := by
  unfold p20
  refine loop_ex (fun m => ((), m)) (fun m => ∀ k, hasM (.int .i64) m k = c.contains k) (I := fun s : (List (Int × Int) × Int × Unit) × Unit => ∃ (i : Nat) (m : List (Int × Int)), s = ((m, (i : Int), ()), ()) ∧ i ≤ c.length ∧ ∀ k, hasM (.int .i64) m k = (c.take i).contains k) (m := fun s => (c.length - Int.toNat s.1.2.1)) ⟨0, [], rfl, Nat.zero_le _, fun k => by simp [hasM]⟩ (by simpa using hf) fun s hs => ?_
  · obtain ⟨i, m, rfl, h1, h2⟩ := hs
    by_cases h : i < c.length
    · have hi : (i : Int) < (c.length : Int) := by omega
      have h0 : (0 : Int) ≤ (i : Int) := by omega
      have ht := take_one c i (dflt (.int .i64)) h
      have fin : ∀ v, ∀ k, hasM (.int .i64) (setM (.int .i64) m (c.getD i (dflt (.int .i64))) v) k = (c.take (i + 1)).contains k := fun v k => by
        rw [hasM_set, h2 k, ht]
        have hc : (c.take i ++ [c.getD i (dflt (.int .i64))]).contains k = ((c.take i).contains k || k == c.getD i (dflt (.int .i64))) := by
          rw [List.contains_append]; congr 1; simp only [List.contains_cons, List.contains_nil, Bool.or_false]
        rw [hc, Bool.or_comm]
      simp only [hi, h0, decide_true, cond_true, Int.toNat_natCast, h, and_self, i64_succ h hc, p21, p22, bind_val]
      cases hb : hasM (.int .i64) m (c.getD i (dflt (.int .i64))) with
      | true => exact ⟨_, rfl, ⟨i + 1, _, rfl, h, fin _⟩, by simp only [Int.toNat_natCast]; omega⟩
      | false => exact ⟨_, rfl, ⟨i + 1, _, rfl, h, fin _⟩, by simp only [Int.toNat_natCast]; omega⟩
    · have hi : ¬ ((i : Int) < (c.length : Int)) := by omega
      obtain rfl : i = c.length := by omega
      rw [take_all] at h2
      simp only [hi, decide_false, cond_false]
      exact ⟨_, rfl, m, rfl, h2⟩
/-- Are those of the nodes a majority of them? -/
def majS (d : List Int) (p : Int → Bool) : Bool := decide (0 < d.length ∧ mostN d.length ≤ d.countP p)
theorem maj_val {n k : Nat} : (decide (((n : Nat) : Int) ≥ ((k : Nat) : Int))) = decide (k ≤ n) := by
  by_cases h : k ≤ n <;> simp [h] 
theorem countP_take (d : List Int) (p : Int → Bool) (i : Nat) (h : i < d.length) : (d.take (i + 1)).countP p = (d.take i).countP p + (if p (d.getD i (dflt (.int .i64))) then 1 else 0) := by
  rw [take_one d i (dflt (.int .i64)) h, List.countP_append, List.countP_singleton]
theorem maj_end {d : List Int} {p : Int → Bool} (hd : d.length ≤ 9223372036854775806) (pp : Int × Unit → Option (Unit × Int)) (hp : pp ((d.length : Int), ()) = some ((), ((mostN d.length : Nat) : Int))) :
    (bif decide (((List.length d) : Int) > (0 : Int)) then Option.bind (pp (((List.length d) : Int), ())) fun ⟨_, k⟩ => some ((), decide (((d.countP p : Nat) : Int) ≥ k)) else some ((), false)) = some ((), majS d p) := by
  unfold majS
  by_cases h : 0 < d.length
  · have h1 : ((d.length : Nat) : Int) > 0 := by omega
    simp only [h1, decide_true, cond_true, hp, bind_val, maj_val, h, true_and]
  · have h1 : ¬ ((d.length : Nat) : Int) > 0 := by omega
    simp only [h1, decide_false, cond_false, h, false_and]
theorem cnt_step (d : List Int) (p : Int → Bool) {j : Nat} (h : j < d.length) (hl : d.length ≤ 9223372036854775806) (hb : p (d.getD j (dflt (.int .i64))) = true) : IntKind.wrap .i64 ((((d.take j).countP p : Nat) : Int) + 1) = (((d.take (j + 1)).countP p : Nat) : Int) := by
  have h1 : (d.take j).countP p ≤ (d.take j).length := List.countP_le_length
  rw [List.length_take] at h1
  rw [countP_take d p j h, hb, if_pos rfl, i64_wrap (by omega) (by omega)]; omega
theorem cnt_stay (d : List Int) (p : Int → Bool) {j : Nat} (h : j < d.length) (hb : p (d.getD j (dflt (.int .i64))) = false) : (d.take (j + 1)).countP p = (d.take j).countP p := by
  rw [countP_take d p j h, hb]; rfl
theorem p11_is (a c : List Int) (ha : a.length * 8 ≤ 140737488355328) (hc : c.length ≤ 9223372036854775807) (hf : a.length < fu) (hf2 : c.length < fu) : p11 fu (a, c, ()) = some ((), majS (distI a) c.contains) := by
  obtain ⟨m, h20, hm⟩ := p20_is (fu := fu) c hc hf2
  have hd := distI_len a
  simp only [p11, p19_is a ha, bind_val, h20]
  generalize distI a = d at *
  have hdl : d.length ≤ 9223372036854775806 := by omega
  refine loop_val (I := fun s : (Int × Int × Unit) × Unit => ∃ j : Nat, s = (((((d.take j).countP c.contains : Nat) : Int), (j : Int), ()), ()) ∧ j ≤ d.length) (m := fun s => d.length - Int.toNat s.1.2.1) ⟨0, by simp, Nat.zero_le _⟩ (by simp; omega) fun s hs => ?_
  obtain ⟨j, rfl, h1⟩ := hs
  by_cases h : j < d.length
  · have hi : (j : Int) < (d.length : Int) := by omega
    have h0 : (0 : Int) ≤ (j : Int) := by omega
    simp only [hi, h0, decide_true, cond_true, Int.toNat_natCast, h, and_self, i64_succ h (show d.length ≤ 9223372036854775807 by omega), hm]
    cases hb : c.contains (d.getD j (dflt (.int .i64))) with
    | true =>
      simp only [cond_true, cnt_step d c.contains h hdl hb]
      exact ⟨_, rfl, ⟨j + 1, rfl, h⟩, by simp only [Int.toNat_natCast]; omega⟩
    | false =>
      simp only [cond_false]
      exact ⟨_, rfl, ⟨j + 1, by rw [cnt_stay d c.contains h hb], h⟩, by simp only [Int.toNat_natCast]; omega⟩
  · have hi : ¬ ((j : Int) < (d.length : Int)) := by omega
    obtain rfl : j = d.length := by omega
    simp only [hi, decide_false, cond_false, take_all]
    rw [maj_end (p := c.contains) hdl (p13 fu) (p13_is hdl)]
    exact ⟨_, rfl, rfl⟩
theorem majS_perm {d o : List Int} (h : d.Perm o) (p : Int → Bool) : majS d p = majS o p := by
  unfold majS
  rw [h.length_eq, h.countP_eq p]
theorem Dist.len {d a : List Int} (h : Dist d a) : d.length ≤ a.length := by
  rw [(h.perm (distI_dist a)).length_eq]; exact distI_len a
theorem p15_is (a c : List Int) (ha : a.length * 8 ≤ 140737488355328) (hc : c.length ≤ 9223372036854775807) (hf : a.length < fu) (hf2 : c.length < fu) : p15 fu (a, c, ()) = some ((), majS (distI a) c.contains) := by
  obtain ⟨d, h26, hdd⟩ := p26_is (fu := fu) a ha hf
  have hd := hdd.len
  rw [majS_perm ((distI_dist a).perm hdd)]
  simp only [p15, h26, bind_val]
  have hdl : d.length ≤ 9223372036854775806 := by omega
  refine loop_val (I := fun s : (Int × Int × Unit) × Unit => ∃ j : Nat, s = (((((d.take j).countP c.contains : Nat) : Int), (j : Int), ()), ()) ∧ j ≤ d.length) (m := fun s => d.length - Int.toNat s.1.2.1) ⟨0, by simp, Nat.zero_le _⟩ (by simp; omega) fun s hs => ?_
  obtain ⟨j, rfl, h1⟩ := hs
  by_cases h : j < d.length
  · have hi : (j : Int) < (d.length : Int) := by omega
    have h0 : (0 : Int) ≤ (j : Int) := by omega
    simp only [hi, h0, decide_true, cond_true, Int.toNat_natCast, h, and_self, i64_succ h (show d.length ≤ 9223372036854775807 by omega), p27_is (fu := fu) c _ hc hf2, bind_val]
    cases hb : c.contains (d.getD j (dflt (.int .i64))) with
    | true =>
      simp only [cond_true, cnt_step d c.contains h hdl hb]
      exact ⟨_, rfl, ⟨j + 1, rfl, h⟩, by simp only [Int.toNat_natCast]; omega⟩
    | false =>
      simp only [cond_false]
      exact ⟨_, rfl, ⟨j + 1, by rw [cnt_stay d c.contains h hb], h⟩, by simp only [Int.toNat_natCast]; omega⟩
  · have hi : ¬ ((j : Int) < (d.length : Int)) := by omega
    obtain rfl : j = d.length := by omega
    simp only [hi, decide_false, cond_false, take_all]
    rw [maj_end (p := c.contains) hdl (p14 fu) (p14_is hdl)]
    exact ⟨_, rfl, rfl⟩
end
section
variable {fu : Nat}

abbrev Ba := Int × Bool
/-- A node's first ballot. -/
def ballot (l : List Ba) (k : Int) : Option Ba := l.find? fun b => b.1 == k
def yesS (l : List Ba) (k : Int) : Bool := (ballot l k).any (·.2)
def noS (l : List Ba) (k : Int) : Bool := (ballot l k).any (!·.2)
def tallyS (d : List Int) (l : List Ba) : Int := if d.length = 0 then 0 else if mostN d.length ≤ d.countP (yesS l) then 1 else if d.length - d.countP (noS l) < mostN d.length then -1 else 0
theorem tallyS_perm {d o : List Int} (h : d.Perm o) (l : List Ba) : tallyS d l = tallyS o l := by
  unfold tallyS
  rw [h.length_eq, h.countP_eq (yesS l), h.countP_eq (noS l)]

theorem p23_is (c : List Ba) (hc : c.length ≤ 9223372036854775807) (hf : c.length < fu) : ∃ m : List (Int × Ba), p23 fu (c, ((), ()), ((), ()), ()) = some ((), m) ∧ ∀ k, lookM (.int .i64) m k = ballot c k := by
  unfold p23
  refine loop_ex (fun m => ((), m)) (fun m => ∀ k, lookM (.int .i64) m k = ballot c k) (I := fun s : (List (Int × Ba) × Int × Unit) × Unit => ∃ (i : Nat) (m : List (Int × Ba)), s = ((m, (i : Int), ()), ()) ∧ i ≤ c.length ∧ ∀ k, lookM (.int .i64) m k = ballot (c.take i) k) (m := fun s => (c.length - Int.toNat s.1.2.1)) ⟨0, [], rfl, Nat.zero_le _, fun k => by simp [lookM, ballot]⟩ (by simpa using hf) fun s hs => ?_
  obtain ⟨i, m, rfl, h1, h2⟩ := hs
  by_cases h : i < c.length
  · have hi : (i : Int) < (c.length : Int) := by omega
    have h0 : (0 : Int) ≤ (i : Int) := by omega
    have ht := take_one c i (dflt T_api_Ballot) h
    simp only [hi, h0, decide_true, cond_true, Int.toNat_natCast, h, and_self, i64_succ h hc, p24, p25, bind_val]
    have hk := h2 (c.getD i (dflt T_api_Ballot)).1
    generalize hx : (c.getD i (dflt T_api_Ballot) : Ba) = x at *
    cases hb : hasM (.int .i64) m x.1 with
    | true =>
      simp only [cond_true, orK_inl]
      refine ⟨_, rfl, ⟨i + 1, _, rfl, h, fun k => ?_⟩, by simp only [Int.toNat_natCast]; omega⟩
      rw [lookM_set, h2 k, ht]
      unfold ballot at *
      rw [List.find?_append]
      by_cases e : k = x.1
      · subst e
        rw [if_pos rfl]
        rw [hasM_look, hk] at hb
        rw [hk]
        cases hq : (c.take i).find? (fun b => b.1 == x.1) with
        | none => rw [hq] at hb; cases hb
        | some y => rfl
      · have hne : (x.1 == k) = false := by simpa using Ne.symm e
        rw [if_neg e]
        simp [List.find?, hne]
    | false =>
      simp only [cond_false, orK_inl]
      refine ⟨_, rfl, ⟨i + 1, _, rfl, h, fun k => ?_⟩, by simp only [Int.toNat_natCast]; omega⟩
      rw [lookM_set, h2 k, ht]
      unfold ballot at *
      rw [List.find?_append]
      by_cases e : k = x.1
      · subst e
        rw [if_pos rfl]
        rw [hasM_look, hk] at hb
        cases hq : (c.take i).find? (fun b => b.1 == x.1) with
        | none => simp [List.find?]
        | some y => rw [hq] at hb; cases hb
      · have hne : (x.1 == k) = false := by simpa using Ne.symm e
        rw [if_neg e]
        simp [List.find?, hne]
  · have hi : ¬ ((i : Int) < (c.length : Int)) := by omega
    obtain rfl : i = c.length := by omega
    rw [take_all] at h2
    simp only [hi, decide_false, cond_false]
    exact ⟨_, rfl, m, rfl, h2⟩
theorem sub_wrap {n k : Nat} (h : k ≤ n) (hn : n ≤ 9223372036854775807) : IntKind.wrap .i64 ((n : Int) - (k : Int)) = ((n - k : Nat) : Int) := by
  rw [i64_wrap (by omega) (by omega)]; omega
theorem tally_end {d : List Int} {l : List Ba} (hd : d.length ≤ 9223372036854775806) :
    (bif (((List.length d) : Int) == (0 : Int)) then some ((), (0 : Int)) else
      bif decide (((d.countP (yesS l) : Nat) : Int) ≥ ((mostN d.length : Nat) : Int)) then some ((), (1 : Int)) else
      bif decide ((IntKind.wrap .i64 (((List.length d) : Int) - ((d.countP (noS l) : Nat) : Int))) < ((mostN d.length : Nat) : Int)) then some ((), ((-1) : Int)) else some ((), (0 : Int))) = some ((), tallyS d l) := by
  have h1 : d.countP (noS l) ≤ d.length := List.countP_le_length
  rw [sub_wrap h1 (by omega)]
  unfold tallyS
  by_cases c0 : d.length = 0
  · have : (((d.length : Nat) : Int) == 0) = true := by simp [c0]
    rw [this, if_pos c0]; rfl
  · have : (((d.length : Nat) : Int) == 0) = false := by simpa using c0
    rw [this, if_neg c0, maj_val]
    simp only [cond_false]
    by_cases c1 : mostN d.length ≤ d.countP (yesS l)
    · rw [decide_eq_true c1, if_pos c1]; rfl
    · rw [decide_eq_false c1, if_neg c1]
      simp only [cond_false]
      by_cases c2 : d.length - d.countP (noS l) < mostN d.length
      · have : (((d.length - d.countP (noS l) : Nat) : Int) < ((mostN d.length : Nat) : Int)) := by omega
        rw [decide_eq_true this, if_pos c2]; rfl
      · have : ¬ (((d.length - d.countP (noS l) : Nat) : Int) < ((mostN d.length : Nat) : Int)) := by omega
        rw [decide_eq_false this, if_neg c2]; rfl
theorem p12_is (a : List Int) (c : List Ba) (ha : a.length * 8 ≤ 140737488355328) (hc : c.length ≤ 9223372036854775807) (hf : a.length < fu) (hf2 : c.length < fu) : p12 fu (a, c, ()) = some ((), tallyS (distI a) c) := by
  obtain ⟨m, h23, hm⟩ := p23_is (fu := fu) c hc hf2
  have hd := distI_len a
  simp only [p12, p19_is a ha, bind_val, h23]
  generalize distI a = d at *
  have hdl : d.length ≤ 9223372036854775806 := by omega
  refine loop_val (I := fun s : (Int × Int × Int × Unit) × Unit => ∃ j : Nat, s = (((((d.take j).countP (yesS c) : Nat) : Int), (((d.take j).countP (noS c) : Nat) : Int), (j : Int), ()), ()) ∧ j ≤ d.length) (m := fun s => d.length - Int.toNat s.1.2.2.1) ⟨0, by simp, Nat.zero_le _⟩ (by simp; omega) fun s hs => ?_
  obtain ⟨j, rfl, h1⟩ := hs
  by_cases h : j < d.length
  · have hi : (j : Int) < (d.length : Int) := by omega
    have h0 : (0 : Int) ≤ (j : Int) := by omega
    simp only [hi, h0, decide_true, cond_true, Int.toNat_natCast, h, and_self, i64_succ h (show d.length ≤ 9223372036854775807 by omega), hasM_look, hm]
    have Y : ∀ b, yesS c (d.getD j (dflt (.int .i64))) = b → _ := fun b hb => hb
    cases hb : ballot c (d.getD j (dflt (.int .i64))) with
    | none =>
      have hy : yesS c (d.getD j (dflt (.int .i64))) = false := by unfold yesS; rw [hb]; rfl
      have hn : noS c (d.getD j (dflt (.int .i64))) = false := by unfold noS; rw [hb]; rfl
      simp only [Option.isSome_none, cond_false, orK_inl]
      exact ⟨_, rfl, ⟨j + 1, by rw [cnt_stay d _ h hy, cnt_stay d _ h hn], h⟩, by simp only [Int.toNat_natCast]; omega⟩
    | some b =>
      obtain ⟨n, v⟩ := b
      cases v with
      | true =>
        have hy : yesS c (d.getD j (dflt (.int .i64))) = true := by unfold yesS; rw [hb]; rfl
        have hn : noS c (d.getD j (dflt (.int .i64))) = false := by unfold noS; rw [hb]; rfl
        simp only [Option.isSome_some, Option.getD_some, cond_true, orK_inl, cnt_step d _ h hdl hy]
        exact ⟨_, rfl, ⟨j + 1, by rw [cnt_stay d _ h hn], h⟩, by simp only [Int.toNat_natCast]; omega⟩
      | false =>
        have hy : yesS c (d.getD j (dflt (.int .i64))) = false := by unfold yesS; rw [hb]; rfl
        have hn : noS c (d.getD j (dflt (.int .i64))) = true := by unfold noS; rw [hb]; rfl
        simp only [Option.isSome_some, Option.getD_some, cond_true, cond_false, orK_inl, cnt_step d _ h hdl hn]
        exact ⟨_, rfl, ⟨j + 1, by rw [cnt_stay d _ h hy], h⟩, by simp only [Int.toNat_natCast]; omega⟩
  · have hi : ¬ ((j : Int) < (d.length : Int)) := by omega
    obtain rfl : j = d.length := by omega
    simp only [hi, decide_false, cond_false, take_all, p13_is hdl, bind_val]
    rw [tally_end (l := c) hdl]
    exact ⟨_, rfl, rfl⟩
theorem p16_is (a : List Int) (c : List Ba) (ha : a.length * 8 ≤ 140737488355328) (hc : c.length ≤ 9223372036854775807) (hf : a.length < fu) (hf2 : c.length < fu) : p16 fu (a, c, ()) = some ((), tallyS (distI a) c) := by
  obtain ⟨d, h26, hdd⟩ := p26_is (fu := fu) a ha hf
  have hd := hdd.len
  rw [tallyS_perm ((distI_dist a).perm hdd)]
  simp only [p16, h26, bind_val]
  have hdl : d.length ≤ 9223372036854775806 := by omega
  refine loop_val (I := fun s : (Int × Int × Int × Unit) × Unit => ∃ j : Nat, s = (((((d.take j).countP (yesS c) : Nat) : Int), (((d.take j).countP (noS c) : Nat) : Int), (j : Int), ()), ()) ∧ j ≤ d.length) (m := fun s => d.length - Int.toNat s.1.2.2.1) ⟨0, by simp, Nat.zero_le _⟩ (by simp; omega) fun s hs => ?_
  obtain ⟨j, rfl, h1⟩ := hs
  by_cases h : j < d.length
  · have hi : (j : Int) < (d.length : Int) := by omega
    have h0 : (0 : Int) ≤ (j : Int) := by omega
    simp only [hi, h0, decide_true, cond_true, Int.toNat_natCast, h, and_self, i64_succ h (show d.length ≤ 9223372036854775807 by omega)]
    refine ⟨.inl (((((d.take (j + 1)).countP (yesS c) : Nat) : Int), (((d.take (j + 1)).countP (noS c) : Nat) : Int), ((j + 1 : Nat) : Int), ()), ()), ?_, ⟨j + 1, rfl, h⟩, by simp only [Int.toNat_natCast]; omega⟩
    refine loop_val (I := fun s : (Int × Int × Int × Unit) × Unit => ∃ k : Nat, s = (((((d.take j).countP (yesS c) : Nat) : Int), (((d.take j).countP (noS c) : Nat) : Int), (k : Int), ()), ()) ∧ k ≤ c.length ∧ ballot (c.take k) (d.getD j (dflt (.int .i64))) = none) (m := fun s => c.length - Int.toNat s.1.2.2.1) ⟨0, rfl, Nat.zero_le _, rfl⟩ (by simp; omega) fun s hs => ?_
    obtain ⟨k, rfl, h2, h3⟩ := hs
    by_cases hk : k < c.length
    · have hki : (k : Int) < (c.length : Int) := by omega
      have hk0 : (0 : Int) ≤ (k : Int) := by omega
      have ht := take_one c k (dflt T_api_Ballot) hk
      simp only [hki, hk0, decide_true, cond_true, Int.toNat_natCast, hk, and_self, i64_succ hk hc]
      generalize hv : d.getD j (dflt (.int .i64)) = v at *
      have hdrop : c = c.take k ++ (c.getD k (dflt T_api_Ballot) :: c.drop (k + 1)) := by
        conv => lhs; rw [← List.take_append_drop (k + 1) c, ht]
        simp
      generalize hx : (c.getD k (dflt T_api_Ballot) : Ba) = x at *
      cases hb : (x.1 != v) with
      | true =>
        have hne : (x.1 == v) = false := by simpa using hb
        refine ⟨_, rfl, ⟨k + 1, rfl, hk, ?_⟩, by simp only [Int.toNat_natCast]; omega⟩
        unfold ballot at *
        rw [ht, List.find?_append, h3]
        simp [List.find?, hne]
      | false =>
        have he : (x.1 == v) = true := by simpa using hb
        have hbal : ballot c v = some x := by
          unfold ballot at *
          rw [hdrop, List.find?_append, h3]
          simp [List.find?, he]
        cases hx2 : x.2 with
        | true =>
          have hy : yesS c v = true := by unfold yesS; rw [hbal]; exact hx2
          have hn : noS c v = false := by unfold noS; rw [hbal]; simp [hx2]
          simp only [cond_true, cond_false]
          rw [← hv] at hy hn
          rw [cnt_step d _ h hdl hy, cnt_stay d _ h hn]
          exact ⟨_, rfl, rfl⟩
        | false =>
          have hy : yesS c v = false := by unfold yesS; rw [hbal]; exact hx2
          have hn : noS c v = true := by unfold noS; rw [hbal]; simp [hx2]
          simp only [cond_false]
          rw [← hv] at hy hn
          rw [cnt_step d _ h hdl hn, cnt_stay d _ h hy]
          exact ⟨_, rfl, rfl⟩
    · have hki : ¬ ((k : Int) < (c.length : Int)) := by omega
      obtain rfl : k = c.length := by omega
      rw [take_all] at h3
      have hy : yesS c (d.getD j (dflt (.int .i64))) = false := by unfold yesS; rw [h3]; rfl
      have hn : noS c (d.getD j (dflt (.int .i64))) = false := by unfold noS; rw [h3]; rfl
      simp only [hki, decide_false, cond_false]
      rw [cnt_stay d _ h hy, cnt_stay d _ h hn]
      exact ⟨_, rfl, rfl⟩
  · have hi : ¬ ((j : Int) < (d.length : Int)) := by omega
    obtain rfl : j = d.length := by omega
    simp only [hi, decide_false, cond_false, take_all, p14_is hdl, bind_val]
    rw [tally_end (l := c) hdl]
    exact ⟨_, rfl, rfl⟩
/-- The live question. -/
theorem p10_is (hf : 10 < fu) : p10 fu () = some ((), true) := by
  have e1 : p13 fu ((4 : Int), ()) = some ((), 3) := rfl
  have e2 := p11_is (fu := fu) [1, 2, 3] [3, 1] (by decide) (by decide) (by simp; omega) (by simp; omega)
  have e3 := p12_is (fu := fu) [1, 2, 3] [(1, true), (3, true)] (by decide) (by decide) (by simp; omega) (by simp; omega)
  have hD : Dist [1, 2, 3] [1, 2, 3] := ⟨by decide, fun x => Iff.rfl⟩
  have e4 : majS (distI [1, 2, 3]) [3, 1].contains = true := by
    rw [majS_perm ((distI_dist [1, 2, 3]).perm hD)]; decide
  have e5 : tallyS (distI [1, 2, 3]) [(1, true), (3, true)] = 1 := by
    rw [tallyS_perm ((distI_dist [1, 2, 3]).perm hD)]; decide
  rw [e4] at e2
  rw [e5] at e3
  simp only [p10, e1, bind_val, beq_self_eq_true, cond_true, e2, e3]
end
section
variable {fu : Nat}

theorem p4_is (a : Int) (hf : 10 < fu) : p4 fu (a, ()) = some ((), true) := by
  simp only [p4, p10_is hf, bind_val, cond_true, p14_eq]
  unfold p13
  by_cases h : a < 1
  · simp only [h, decide_true, cond_true, bind_val, beq_self_eq_true]
  · simp only [h, decide_false, cond_false, bind_val, beq_self_eq_true]

-- a vote that is decided
theorem ballot_app (c f : List Ba) (k : Int) {b : Ba} (h : ballot c k = some b) : ballot (c ++ f) k = some b := by
  unfold ballot at *
  rw [List.find?_append, h]; rfl
theorem yes_app (c f : List Ba) (k : Int) (h : yesS c k = true) : yesS (c ++ f) k = true := by
  unfold yesS at *
  cases hb : ballot c k with
  | none => rw [hb] at h; cases h
  | some b => rw [hb] at h; rw [ballot_app c f k hb]; exact h
theorem no_app (c f : List Ba) (k : Int) (h : noS c k = true) : noS (c ++ f) k = true := by
  unfold noS at *
  cases hb : ballot c k with
  | none => rw [hb] at h; cases h
  | some b => rw [hb] at h; rw [ballot_app c f k hb]; exact h
theorem yes_no (c : List Ba) : ∀ d : List Int, d.countP (yesS c) + d.countP (noS c) ≤ d.length
  | [] => by simp
  | k :: d => by
    have := yes_no c d
    rw [List.countP_cons, List.countP_cons, List.length_cons]
    have h : (if yesS c k = true then 1 else 0) + (if noS c k = true then 1 else 0) ≤ 1 := by
      unfold yesS noS
      cases ballot c k with
      | none => decide
      | some b => obtain ⟨n, v⟩ := b; cases v <;> simp
    omega
theorem tally_stays (d : List Int) (c f : List Ba) (h : tallyS d c ≠ 0) : tallyS d (c ++ f) = tallyS d c := by
  have h1 : d.countP (yesS c) ≤ d.countP (yesS (c ++ f)) := List.countP_mono_left fun k _ => yes_app c f k
  have h2 : d.countP (noS c) ≤ d.countP (noS (c ++ f)) := List.countP_mono_left fun k _ => no_app c f k
  have h3 := yes_no (c ++ f) d
  unfold tallyS at *
  by_cases c0 : d.length = 0
  · rw [if_pos c0] at h; exact absurd rfl h
  · rw [if_neg c0] at h ⊢
    rw [if_neg c0]
    by_cases c1 : mostN d.length ≤ d.countP (yesS c)
    · rw [if_pos c1, if_pos (by omega)]
    · rw [if_neg c1] at h ⊢
      by_cases c2 : d.length - d.countP (noS c) < mostN d.length
      · rw [if_pos c2, if_neg (by omega), if_pos (by omega)]
      · rw [if_neg c2] at h; exact absurd rfl h
theorem p7_is (a : List Int) (c f : List Ba) (ha : a.length * 8 ≤ 140737488355328) (hcf : (c.length + f.length) * 16 ≤ 140737488355328) (hf1 : a.length + c.length + f.length + 10 < fu) : p7 fu (a, c, f, ()) = some ((), true) := by
  have hm : maxLen = 9223372036854775807 := rfl
  have h1 : c.length ≤ maxLen ∧ c.length * 16 ≤ 140737488355328 := by omega
  have h2 : c.length + f.length ≤ maxLen ∧ (c.length + f.length) * 16 ≤ 140737488355328 := by omega
  have h3 : (c ++ f).length ≤ 9223372036854775807 := by rw [List.length_append]; omega
  have h4 : (c ++ f).length < fu := by rw [List.length_append]; omega
  have e := p12_is (fu := fu) a c ha (by omega) (by omega) (by omega)
  have e' := p12_is (fu := fu) a (c ++ f) ha h3 (by omega) h4
  simp only [p7, p10_is (show 10 < fu by omega), bind_val, e, List.length_nil, Nat.zero_add, List.nil_append, decide_true, cond_true, h1, h2, and_self]
  by_cases h0 : tallyS (distI a) c = 0
  · rw [h0]; rfl
  · have hb : (tallyS (distI a) c == 0) = false := by simpa using h0
    simp only [hb, cond_false, e', bind_val, tally_stays (distI a) c f h0, beq_self_eq_true]

-- majorities meet
theorem both_count (p q : Int → Bool) : ∀ d : List Int, d.length < d.countP p + d.countP q → ∃ x, x ∈ d ∧ p x = true ∧ q x = true
  | [], h => by simp at h
  | k :: d, h => by
    by_cases hk : p k = true ∧ q k = true
    · exact ⟨k, List.mem_cons_self .., hk.1, hk.2⟩
    · have : (if p k = true then 1 else 0) + (if q k = true then 1 else 0) ≤ 1 := by
        by_cases h1 : p k = true <;> by_cases h2 : q k = true <;> simp_all
      rw [List.countP_cons, List.countP_cons, List.length_cons] at h
      obtain ⟨x, h1, h2, h3⟩ := both_count p q d (by omega)
      exact ⟨x, List.mem_cons_of_mem _ h1, h2, h3⟩
theorem majS_iff {d : List Int} {p : Int → Bool} : majS d p = true ↔ 0 < d.length ∧ d.length / 2 + 1 ≤ d.countP p := by
  unfold majS mostN
  rw [decide_eq_true_eq]
  constructor
  · rintro ⟨h1, h2⟩; rw [if_neg (by omega)] at h2; exact ⟨h1, h2⟩
  · rintro ⟨h1, h2⟩; rw [if_neg (by omega)]; exact ⟨h1, h2⟩
theorem maj_meet {d : List Int} {p q : Int → Bool} (h : majS d p = true) (k : majS d q = true) : ∃ x, p x = true ∧ q x = true := by
  rw [majS_iff] at h k
  obtain ⟨x, _, h1, h2⟩ := both_count p q d (by omega)
  exact ⟨x, h1, h2⟩
/-- One more node, or none. -/
theorem dist_more (a : List Int) (c : Int) : (distI (a ++ [c])).Perm (distI a) ∨ (distI (a ++ [c])).Perm (distI a ++ [c]) := by
  by_cases h : c ∈ a
  · refine .inl ((distI_dist (a ++ [c])).perm ⟨(distI_dist a).1, fun x => ?_⟩)
    rw [(distI_dist a).2 x, List.mem_append, List.mem_singleton]
    constructor
    · exact .inl
    · rintro (h1 | rfl)
      · exact h1
      · exact h
  · refine .inr ((distI_dist (a ++ [c])).perm ⟨List.nodup_append.2 ⟨(distI_dist a).1, by simp, fun x hx y hy e => ?_⟩, fun x => ?_⟩)
    · rw [List.mem_singleton.1 hy] at e
      rw [e] at hx
      exact h (((distI_dist a).2 c).1 hx)
    · rw [List.mem_append, (distI_dist a).2 x, List.mem_append]
theorem maj_meet_more {a : List Int} {c : Int} {p q : Int → Bool} (h : majS (distI a) p = true) (k : majS (distI (a ++ [c])) q = true) : ∃ x, p x = true ∧ q x = true := by
  rcases dist_more a c with hp | hp
  · rw [majS_perm hp] at k
    exact maj_meet h k
  · rw [majS_perm hp, majS_iff, List.length_append, List.countP_append, List.countP_singleton] at k
    rw [majS_iff] at h
    have h1 : (if q c = true then 1 else 0) ≤ 1 := by split <;> omega
    simp only [List.length_cons, List.length_nil] at k
    obtain ⟨x, _, h1, h2⟩ := both_count p q (distI a) (by omega)
    exact ⟨x, h1, h2⟩
/-- One of the one list stands in the other one. -/
theorem p6_find (f h : List Int) (hfl : f.length ≤ 9223372036854775807) (hhl : h.length ≤ 9223372036854775807) (hf1 : f.length < fu) (hf2 : h.length < fu) (hx : ∃ x, x ∈ f ∧ x ∈ h) :
    loopO (S := ((Int) × (Unit)) × (Unit)) fu (fun ⟨⟨m, _⟩, _⟩ =>
 bif decide (m < (List.length f : Int)) then
 loopO (S := ((Int) × (Unit)) × (Unit)) fu (fun ⟨⟨n, _⟩, _⟩ =>
 bif decide (n < (List.length h : Int)) then
 bif decide ((0 : Int) ≤ m ∧ m < (List.length f : Int)) then
 bif decide (Int.toNat m < List.length f) then
 bif decide ((0 : Int) ≤ n ∧ n < (List.length h : Int)) then
 bif decide (Int.toNat n < List.length h) then
 bif ((List.getD f (Int.toNat m) (dflt (.int .i64))) == (List.getD h (Int.toNat n) (dflt (.int .i64)))) then
 inrO (inrO (some ((), true)))
 else
 some (.inl ((IntKind.wrap .i64 (n + (1 : Int)), ()), ()))
 else none
 else none
 else none
 else none
 else
 inrO (some (.inl ((IntKind.wrap .i64 (m + (1 : Int)), ()), ()))))
 (((0 : Int), ()), ())
 else
 inrO (some ((), false)))
 (((0 : Int), ()), ()) = some ((), true) := by
  obtain ⟨x, hx1, hx2⟩ := hx
  refine loop_val (I := fun s : (Int × Unit) × Unit => ∃ i : Nat, s = (((i : Int), ()), ()) ∧ i ≤ f.length ∧ ∀ y ∈ f.take i, y ∉ h) (m := fun s => f.length - Int.toNat s.1.1) ⟨0, rfl, Nat.zero_le _, by simp⟩ (by simpa using hf1) fun s hs => ?_
  obtain ⟨i, rfl, h1, h2⟩ := hs
  by_cases hi : i < f.length
  · have hii : (i : Int) < (f.length : Int) := by omega
    have h0 : (0 : Int) ≤ (i : Int) := by omega
    have ht := take_one f i (dflt (.int .i64)) hi
    simp only [hii, h0, decide_true, cond_true, Int.toNat_natCast, hi, and_self, i64_succ hi hfl]
    generalize hv : f.getD i (dflt (.int .i64)) = v at *
    by_cases hm : v ∈ h
    · refine ⟨.inr ((), true), ?_, rfl⟩
      refine loop_val (I := fun s : (Int × Unit) × Unit => ∃ k : Nat, s = (((k : Int), ()), ()) ∧ k ≤ h.length ∧ v ∉ h.take k) (m := fun s => h.length - Int.toNat s.1.1) ⟨0, rfl, Nat.zero_le _, by simp⟩ (by simpa using hf2) fun s hs => ?_
      obtain ⟨k, rfl, g1, g2⟩ := hs
      by_cases hk : k < h.length
      · have hki : (k : Int) < (h.length : Int) := by omega
        have hk0 : (0 : Int) ≤ (k : Int) := by omega
        have ht2 := take_one h k (dflt (.int .i64)) hk
        simp only [hki, hk0, decide_true, cond_true, Int.toNat_natCast, hk, and_self, i64_succ hk hhl]
        cases hb : (v == h.getD k (dflt (.int .i64))) with
        | true => exact ⟨_, rfl, rfl⟩
        | false =>
          have hne : ¬ v = h.getD k (dflt (.int .i64)) := by simpa using hb
          refine ⟨_, rfl, ⟨k + 1, rfl, hk, ?_⟩, by simp only [Int.toNat_natCast]; omega⟩
          rw [ht2, List.mem_append, List.mem_singleton, not_or]
          exact ⟨g2, hne⟩
      · obtain rfl : k = h.length := by omega
        rw [take_all] at g2
        exact absurd hm g2
    · refine ⟨.inl ((((i + 1 : Nat) : Int), ()), ()), ?_, ⟨i + 1, rfl, hi, fun y hy => ?_⟩, by simp only [Int.toNat_natCast]; omega⟩
      · refine loop_val (I := fun s : (Int × Unit) × Unit => ∃ k : Nat, s = (((k : Int), ()), ()) ∧ k ≤ h.length) (m := fun s => h.length - Int.toNat s.1.1) ⟨0, rfl, Nat.zero_le _⟩ (by simpa using hf2) fun s hs => ?_
        obtain ⟨k, rfl, g1⟩ := hs
        by_cases hk : k < h.length
        · have hki : (k : Int) < (h.length : Int) := by omega
          have hk0 : (0 : Int) ≤ (k : Int) := by omega
          have hne : (v == h.getD k (dflt (.int .i64))) = false := by
            refine beq_eq_false_iff_ne.2 fun e => hm ?_
            rw [e, getD_lt hk]
            exact List.getElem_mem _
          simp only [hki, hk0, decide_true, cond_true, Int.toNat_natCast, hk, and_self, i64_succ hk hhl, hne, cond_false]
          exact ⟨_, rfl, ⟨k + 1, rfl, hk⟩, by simp only [Int.toNat_natCast]; omega⟩
        · have hki : ¬ ((k : Int) < (h.length : Int)) := by omega
          simp only [hki, decide_false, cond_false]
          exact ⟨_, rfl, rfl⟩
      · rw [ht, List.mem_append, List.mem_singleton] at hy
        rcases hy with hy | rfl
        · exact h2 y hy
        · exact hm
  · obtain rfl : i = f.length := by omega
    rw [take_all] at h2
    exact absurd hx2 (h2 x hx1)
theorem p6_is (a : List Int) (c : Int) (f h : List Int) (ha : (a.length + 1) * 8 ≤ 140737488355328) (hfl : f.length ≤ 9223372036854775807) (hhl : h.length ≤ 9223372036854775807) (hf0 : a.length + f.length + h.length + 12 < fu) : p6 fu (a, c, f, h, ()) = some ((), true) := by
  have hm : maxLen = 9223372036854775807 := rfl
  have h1 : a.length ≤ maxLen ∧ a.length * 8 ≤ 140737488355328 := by omega
  have h2 : a.length + 1 ≤ maxLen ∧ (a.length + 1) * 8 ≤ 140737488355328 := by omega
  have h3 : (a ++ [c]).length = a.length + 1 := by simp
  have e1 := p11_is (fu := fu) a f (by omega) hfl (by omega) (by omega)
  have e2 := p11_is (fu := fu) a h (by omega) hhl (by omega) (by omega)
  have e3 := p11_is (fu := fu) (a ++ [c]) h (by omega) hhl (by omega) (by omega)
  simp only [p6, p10_is (show 10 < fu by omega), bind_val, e1, e2, e3, List.length_nil, List.length_cons, Nat.zero_add, List.nil_append, decide_true, cond_true, h1, h2, and_self, Bool.not_true, cond_false]
  have hit : (∃ x, f.contains x = true ∧ h.contains x = true) → ∃ x, x ∈ f ∧ x ∈ h := fun ⟨x, h1, h2⟩ => ⟨x, List.contains_iff_mem.1 h1, List.contains_iff_mem.1 h2⟩
  cases hj : majS (distI a) f.contains with
  | false => rfl
  | true =>
    cases hk : majS (distI a) h.contains with
    | true =>
      simp only [Bool.not_true, cond_false, orK_inl]
      exact p6_find f h hfl hhl (by omega) (by omega) (hit (maj_meet hj hk))
    | false =>
      cases hl : majS (distI (a ++ [c])) h.contains with
      | false => rfl
      | true =>
        simp only [Bool.not_true, Bool.not_false, cond_true, cond_false, orK_inl]
        exact p6_find f h hfl hhl (by omega) (by omega) (hit (maj_meet_more hj hl))
theorem p3_is (a c : List Int) (f : List Ba) (ha : (a.length + 1) * 8 ≤ 140737488355328) (hcl : c.length ≤ 9223372036854775807) (hfl : f.length ≤ 9223372036854775807) (hf0 : a.length + c.length + f.length + 12 < fu) : p3 fu (a, c, f, ()) = some ((), true) := by
  have hm : maxLen = 9223372036854775807 := rfl
  have h1 : a.length ≤ maxLen ∧ a.length * 8 ≤ 140737488355328 := by omega
  have h2 : a.length + 1 ≤ maxLen ∧ (a.length + 1) * 8 ≤ 140737488355328 := by omega
  have h3 : (a ++ [(77 : Int)]).length = a.length + 1 := by simp
  have e1 := p11_is (fu := fu) a c (by omega) hcl (by omega) (by omega)
  have e2 := p12_is (fu := fu) a f (by omega) hfl (by omega) (by omega)
  have e3 := p15_is (fu := fu) a c (by omega) hcl (by omega) (by omega)
  have e4 := p16_is (fu := fu) a f (by omega) hfl (by omega) (by omega)
  have e5 := p13_is (fu := fu) (n := a.length) (by omega)
  have e6 := p14_is (fu := fu) (n := a.length) (by omega)
  have ht : List.take a.length (a ++ [(77 : Int)]) = a := by simp
  have h0 : (0 : Int) ≤ (a.length : Int) := by omega
  have hle : a.length ≤ a.length + 1 := by omega
  have hw : IntKind.wrap .i64 ((a.length : Int) + 1) = ((a.length + 1 : Nat) : Int) := by rw [i64_wrap (by omega) (by omega)]; omega
  have h01 : (0 : Int) ≤ ((a.length + 1 : Nat) : Int) := by omega
  have hlt : (a.length : Int) < ((a.length + 1 : Nat) : Int) := by omega
  have hlt2 : a.length < a.length + 1 := by omega
  have hlast : (a ++ [(77 : Int)]).getD a.length (dflt (.int .i64)) = 77 := by
    rw [List.getD_eq_getElem?_getD, List.getElem?_append_right (Nat.le_refl _), Nat.sub_self]; rfl
  simp only [p3, p10_is (show 10 < fu by omega), bind_val, List.length_nil, List.length_cons, Nat.zero_add, List.nil_append, decide_true, cond_true, h1, h2, and_self, h0, Int.toNat_natCast, h3, hle, Nat.zero_le, ht, e1, e2, e3, e4, e5, e6, beq_self_eq_true, hw, h01, hlt, hlt2, hlast]
  refine loop_val (I := fun s : (Int × Unit) × Unit => ∃ i : Nat, s = (((i : Int), ()), ()) ∧ i ≤ a.length) (m := fun s => a.length - Int.toNat s.1.1) ⟨0, rfl, Nat.zero_le _⟩ (by simp; omega) fun s hs => ?_
  obtain ⟨i, rfl, g1⟩ := hs
  by_cases hi : i < a.length
  · have hii : (i : Int) < (a.length : Int) := by omega
    have hi0 : (0 : Int) ≤ (i : Int) := by omega
    have hi2 : i < a.length + 1 := by omega
    have he : (a ++ [(77 : Int)]).getD i (dflt (.int .i64)) = a.getD i (dflt (.int .i64)) := by
      rw [List.getD_eq_getElem?_getD, List.getElem?_append_left hi, ← List.getD_eq_getElem?_getD]
    simp only [hii, hi0, decide_true, cond_true, Int.toNat_natCast, hi, hi2, and_self, he, bne_self_eq_false, cond_false, i64_succ hi (show a.length ≤ 9223372036854775807 by omega)]
    exact ⟨_, rfl, ⟨i + 1, rfl, hi⟩, by simp only [Int.toNat_natCast]; omega⟩
  · have hii : ¬ ((i : Int) < (a.length : Int)) := by omega
    simp only [hii, decide_false, cond_false]
    refine ⟨.inr ((), true), ?_, rfl⟩
    have hd : decide (True ∧ a.length + 1 ≤ a.length + 1) = true := decide_eq_true ⟨trivial, Nat.le_refl _⟩
    rw [hd]; rfl
end
end Go.Proofs.Ytlglifgnklngfaa
