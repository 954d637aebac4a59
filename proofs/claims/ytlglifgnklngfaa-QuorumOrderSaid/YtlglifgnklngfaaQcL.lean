/-
  Layer 7 (Commits, Grows, Order): nodes, each once, in order; maps by nodes.
-/
import Derived.Test.YtlglifgnklngfaaPtC
import Derived.Test.YtlglifgnklngfaaDaP
namespace Go.Proofs.Ytlglifgnklngfaa
open Go.RowKit
section
section
variable {fu : Nat}

theorem maxLen_is : maxLen = 9223372036854775807 := rfl
/-- The same ones, each once. -/
def Dist (d a : List Int) : Prop := d.Nodup ∧ ∀ x, x ∈ d ↔ x ∈ a
theorem Dist.perm {d d' a : List Int} (h : Dist d a) (h' : Dist d' a) : d.Perm d' := (List.perm_ext_iff_of_nodup h.1 h'.1).2 fun x => (h.2 x).trans (h'.2 x).symm

-- of equal neighbours one is left
theorem compactUpTo_mem (d : Array Int) : ∀ m, m ≤ d.size → ∀ x, x ∈ Lib.compactUpTo d m ↔ ∃ j, j < m ∧ d[j]! = x
  | 0, _, x => by simp [Lib.compactUpTo]
  | m + 1, hm, x => by
    rw [Lib.compactUpTo_succ, List.mem_append, compactUpTo_mem d m (by omega) x]
    constructor
    · rintro (⟨j, h1, h2⟩ | h)
      · exact ⟨j, by omega, h2⟩
      · by_cases hk : Lib.keeps d m = true
        · rw [if_pos hk] at h
          exact ⟨m, by omega, (List.mem_singleton.1 h).symm⟩
        · rw [if_neg hk] at h; cases h
    · rintro ⟨j, h1, h2⟩
      rcases Nat.lt_or_ge j m with h3 | h3
      · exact .inl ⟨j, h3, h2⟩
      · obtain rfl : j = m := by omega
        by_cases hk : Lib.keeps d j = true
        · rw [if_pos hk]
          exact .inr (by rw [← h2]; exact List.mem_singleton.2 rfl)
        · have : ¬ (j = 0 ∨ d[j]! ≠ d[j - 1]!) := fun h => hk (by unfold Lib.keeps; exact decide_eq_true h)
          have h0 : j ≠ 0 := fun h => this (.inl h)
          have h4 : d[j]! = d[j - 1]! := Classical.byContradiction fun h => this (.inr h)
          exact .inl ⟨j - 1, by omega, by rw [← h4]; exact h2⟩
theorem compactUpTo_nodup (d : Array Int) (hs : ∀ i j, i ≤ j → j < d.size → d[i]! ≤ d[j]!) : ∀ m, m ≤ d.size → (Lib.compactUpTo d m).Nodup
  | 0, _ => by simp [Lib.compactUpTo]
  | m + 1, hm => by
    rw [Lib.compactUpTo_succ, List.nodup_append]
    refine ⟨compactUpTo_nodup d hs m (by omega), ?_, fun x hx y hy e => ?_⟩
    · split <;> simp
    · by_cases hk : Lib.keeps d m = true
      · rw [if_pos hk] at hy
        obtain ⟨j, h1, h2⟩ := (compactUpTo_mem d m (by omega) x).1 hx
        have hy : y = d[m]! := List.mem_singleton.1 hy
        have hk' : m = 0 ∨ d[m]! ≠ d[m - 1]! := by unfold Lib.keeps at hk; exact of_decide_eq_true hk
        have h3 := hs j (m - 1) (by omega) (by omega)
        have h4 := hs (m - 1) m (by omega) (by omega)
        rcases hk' with h5 | h5
        · omega
        · rw [e, hy] at h2; omega
      · rw [if_neg hk] at hy; cases hy
theorem getB_toArray (l : List Int) (i : Nat) (h : i < l.length) : l.toArray[i]! = l[i] := by
  rw [getElem!_pos l.toArray i (by simpa using h)]; simp
theorem compact_mem (l : List Int) (x : Int) : x ∈ Lib.compact l ↔ x ∈ l := by
  unfold Lib.compact
  rw [compactUpTo_mem l.toArray l.length (by simp) x, List.mem_iff_getElem]
  constructor
  · rintro ⟨j, h1, h2⟩; exact ⟨j, h1, by rw [← h2, getB_toArray l j h1]⟩
  · rintro ⟨j, h1, h2⟩; exact ⟨j, h1, by rw [← h2, getB_toArray l j h1]⟩
theorem sortI_mem (l : List Int) (x : Int) : x ∈ sortI l ↔ x ∈ l := (List.mergeSort_perm l _).mem_iff
theorem sortI_le (l : List Int) : ∀ i j, i ≤ j → j < (sortI l).toArray.size → (sortI l).toArray[i]! ≤ (sortI l).toArray[j]! := fun i j hij hj => by
  have hj' : j < (sortI l).length := by simpa using hj
  rw [getB_toArray _ i (by omega), getB_toArray _ j hj']
  rcases Nat.eq_or_lt_of_le hij with rfl | hlt
  · exact Int.le_refl _
  · have := List.pairwise_mergeSort (le := fun x y : Int => decide (x ≤ y)) (fun a b c h1 h2 => by simp at *; omega) (fun a b => by simp; omega) l
    have := List.pairwise_iff_getElem.1 this i j (by exact Nat.lt_trans hlt hj') hj' hlt
    exact of_decide_eq_true this
/-- The nodes in order, each once. -/
def distI (a : List Int) : List Int := Lib.compact (sortI a)
theorem distI_dist (a : List Int) : Dist (distI a) a := by
  refine ⟨?_, fun x => (compact_mem _ x).trans (sortI_mem a x)⟩
  have := compactUpTo_nodup (sortI a).toArray (sortI_le a) (sortI a).length (by simp)
  exact this
theorem distI_len (a : List Int) : (distI a).length ≤ a.length := by
  rw [← sortI_len a]
  unfold distI Lib.compact Lib.compactUpTo
  rw [List.length_map]
  exact Nat.le_trans (List.length_filter_le _ _) (by simp)
theorem p33_is (a : List Int) (h : a.length * 8 ≤ 140737488355328) : p33 fu (a, ()) = some ((), a) := by
  have hm : maxLen = 9223372036854775807 := rfl
  have h1 : a.length ≤ maxLen := by omega
  by_cases h0 : 0 < a.length
  · simp only [p33, h0, decide_true, cond_true, List.length_nil, Nat.zero_add, h1, h, and_self, List.nil_append]
  · obtain rfl : a = [] := List.length_eq_zero_iff.1 (by omega)
    rfl
theorem p19_is (a : List Int) (h : a.length * 8 ≤ 140737488355328) : p19 fu (a, ()) = some ((), distI a) := by
  have hb : a.length < 4611686018427387904 := by omega
  have hs := sortI_len a
  have hc : a.length ≤ 9223372036854775807 := by omega
  simp only [p19, p33_is a h, bind_val, decide_true, cond_true, pSort, hb, hs, pCompact, hc]
  rfl

-- maps
theorem eqK_int (a b : Int) : eqK (.int .i64) a b = (a == b) := rfl
theorem hasM_set {α : Type} : ∀ (m : List (Int × α)) (k : Int) (v : α) (q : Int), hasM (.int .i64) (setM (.int .i64) m k v) q = (q == k || hasM (.int .i64) m q)
  | [], k, v, q => by simp only [setM, hasM, eqK_int]
  | p :: m, k, v, q => by
    simp only [setM, eqK_int]
    cases hk : (k == p.1) with
    | true =>
      obtain rfl : k = p.1 := by simpa using hk
      simp only [cond_true, hasM, eqK_int]
      cases q == p.1 <;> simp
    | false =>
      simp only [cond_false, hasM, eqK_int, hasM_set m k v q]
      cases q == p.1 <;> cases q == k <;> simp
theorem lookM_set {α : Type} : ∀ (m : List (Int × α)) (k : Int) (v : α) (q : Int), lookM (.int .i64) (setM (.int .i64) m k v) q = if q = k then some v else lookM (.int .i64) m q
  | [], k, v, q => by
    simp only [setM, lookM, eqK_int]
    by_cases h : q = k
    · simp [h]
    · have hb : (q == k) = false := by simpa using h
      simp [h, hb]
  | p :: m, k, v, q => by
    simp only [setM, eqK_int]
    by_cases hk : k = p.1
    · subst hk
      simp only [beq_self_eq_true, cond_true, lookM, eqK_int]
      by_cases h : q = p.1
      · simp [h]
      · have hb : (q == p.1) = false := by simpa using h
        simp [h, hb]
    · have hb : (k == p.1) = false := by simpa using hk
      simp only [hb, cond_false, lookM, eqK_int, lookM_set m k v q]
      by_cases h : q = p.1
      · subst h; simp [Ne.symm hk]
      · have hb : (q == p.1) = false := by simpa using h
        simp [hb]
theorem hasM_look {α : Type} : ∀ (m : List (Int × α)) (q : Int), hasM (.int .i64) m q = (lookM (.int .i64) m q).isSome
  | [], q => rfl
  | p :: m, q => by
    simp only [hasM, lookM, eqK_int, hasM_look m q]
    cases q == p.1 <;> rfl
end
section
variable {fu : Nat}

def mostN (n : Nat) : Nat := if n = 0 then 0 else n / 2 + 1
theorem most_wrap {n : Nat} (h : n ≤ 9223372036854775806) : IntKind.wrap .i64 ((IntKind.wrap .i64 (Int.tdiv (n : Int) (2 : Int))) + (1 : Int)) = ((n / 2 + 1 : Nat) : Int) := by
  have e : Int.tdiv (n : Int) 2 = ((n / 2 : Nat) : Int) := by
    rw [Int.tdiv_eq_ediv_of_nonneg (by omega)]; omega
  rw [e, i64_wrap (x := ((n / 2 : Nat) : Int)) (by omega) (by omega), i64_wrap (by omega) (by omega)]; omega
theorem p13_is {n : Nat} (h : n ≤ 9223372036854775806) : p13 fu ((n : Int), ()) = some ((), ((mostN n : Nat) : Int)) := by
  unfold p13 mostN
  by_cases h0 : n = 0
  · subst h0; rfl
  · have h1 : ¬ ((n : Int) < 1) := by omega
    simp only [h1, decide_false, cond_false, most_wrap h, h0, if_false]
theorem p14_eq (x : Int × Unit) : p14 fu x = p13 fu x := rfl
theorem p14_is {n : Nat} (h : n ≤ 9223372036854775806) : p14 fu ((n : Int), ()) = some ((), ((mostN n : Nat) : Int)) := p13_is (fu := fu) h

theorem take_one {α : Type} [Inhabited α] (l : List α) (i : Nat) (d : α) (h : i < l.length) : l.take (i + 1) = l.take i ++ [l.getD i d] := by
  rw [getD_lt h]; exact List.take_succ_eq_append_getElem h
theorem take_all {α : Type} (l : List α) : l.take l.length = l := List.take_length
theorem loop_val {S R : Type} {f : S → Option (S ⊕ R)} (I : S → Prop) (m : S → Nat) {n : Nat} {s : S} {r : R} (hI : I s) (hm : m s < n) (h : ∀ s, I s → ∃ o, f s = some o ∧ LStep I m (fun q => q = r) s o) : loopO n f s = some r := by
  obtain ⟨q, e, rfl⟩ := loopO_rule I m (fun q => q = r) h n s hI hm
  exact e
theorem loop_ex {S R X : Type} {f : S → Option (S ⊕ R)} (mk : X → R) (J : X → Prop) (I : S → Prop) (m : S → Nat) {n : Nat} {s : S} (hI : I s) (hm : m s < n) (h : ∀ s, I s → ∃ o, f s = some o ∧ LStep I m (fun q => ∃ x, q = mk x ∧ J x) s o) : ∃ x, loopO n f s = some (mk x) ∧ J x := by
  obtain ⟨q, e, x, rfl, hx⟩ := loopO_rule I m (fun q => ∃ x, q = mk x ∧ J x) h n s hI hm
  exact ⟨x, e, hx⟩
/-- Is it there? -/
theorem p27_is (l : List Int) (x : Int) (hl : l.length ≤ 9223372036854775807) (hf : l.length < fu) : p27 fu (l, x, ()) = some ((), l.contains x) := by
  unfold p27
  refine loop_val (I := fun s => ∃ i : Nat, s = (((i : Int), ()), ()) ∧ i ≤ l.length ∧ (l.take i).contains x = false) (m := fun s => (l.length - Int.toNat s.1.1)) ⟨0, rfl, Nat.zero_le _, by simp⟩ (by simpa using hf) fun s hs => ?_
  · obtain ⟨i, rfl, h1, h2⟩ := hs
    by_cases h : i < l.length
    · have hi : (i : Int) < (l.length : Int) := by omega
      have h0 : (0 : Int) ≤ (i : Int) := by omega
      simp only [hi, h0, decide_true, cond_true, Int.toNat_natCast, h, and_self, i64_succ h hl]
      have ht := take_one l i (dflt (.int .i64)) h
      cases hb : (l.getD i (dflt (.int .i64)) == x) with
      | true =>
        refine ⟨_, rfl, ?_⟩
        have : x ∈ l := by
          rw [← List.take_append_drop (i + 1) l, ht]
          have hx : l.getD i (dflt (.int .i64)) = x := by simpa using hb
          rw [hx]; simp
        show ((), true) = _
        rw [List.contains_iff_mem.2 this]
      | false =>
        refine ⟨_, rfl, ⟨i + 1, rfl, h, ?_⟩, ?_⟩
        · rw [ht]
          have hx : ¬ l.getD i (dflt (.int .i64)) = x := by simpa using hb
          simp only [List.contains_eq_mem, List.mem_append, List.mem_singleton, decide_eq_false_iff_not, not_or] at h2 ⊢
          exact ⟨h2, fun e => hx e.symm⟩
        · simp only [Int.toNat_natCast]; omega
    · have hi : ¬ ((i : Int) < (l.length : Int)) := by omega
      obtain rfl : i = l.length := by omega
      simp only [hi, decide_false, cond_false]
      refine ⟨_, rfl, ?_⟩
      rw [take_all] at h2
      rw [h2]
/-- The document's nodes, each once. -/
theorem p26_is (a : List Int) (ha : a.length * 8 ≤ 140737488355328) (hf : a.length < fu) : ∃ o, p26 fu (a, ()) = some ((), o) ∧ Dist o a := by
  have hm : maxLen = 9223372036854775807 := rfl
  unfold p26
  refine loop_ex (fun o => ((), o)) (fun o => Dist o a) (I := fun s : (List Int × Int × Unit) × Unit => ∃ (i : Nat) (c : List Int), s = ((c, (i : Int), ()), ()) ∧ i ≤ a.length ∧ c.length ≤ i ∧ Dist c (a.take i)) (m := fun s => (a.length - Int.toNat s.1.2.1)) ⟨0, [], rfl, Nat.zero_le _, Nat.le_refl _, by simp, by simp⟩ (by simpa using hf) fun s hs => ?_
  · obtain ⟨i, c, rfl, h1, h2, h3⟩ := hs
    by_cases h : i < a.length
    · have hi : (i : Int) < (a.length : Int) := by omega
      have h0 : (0 : Int) ≤ (i : Int) := by omega
      have h4 : c.length + 1 ≤ maxLen ∧ (c.length + 1) * 8 ≤ 140737488355328 := by omega
      have ht := take_one a i (dflt (.int .i64)) h
      simp only [hi, h0, decide_true, cond_true, Int.toNat_natCast, h, and_self, i64_succ h (show a.length ≤ 9223372036854775807 by omega), p27_is (fu := fu) c _ (by omega) (by omega), bind_val, List.length_cons, List.length_nil, Nat.zero_add, h4]
      cases hb : c.contains (a.getD i (dflt (.int .i64))) with
      | false =>
        simp only [Bool.not_false, cond_true]
        refine ⟨_, rfl, ⟨i + 1, _, rfl, h, by simp; omega, ?_⟩, ?_⟩
        · have hn : ¬ a.getD i (dflt (.int .i64)) ∈ c := by simpa using hb
          rw [ht]
          refine ⟨List.nodup_append.2 ⟨h3.1, by simp, fun x hx y hy e => ?_⟩, fun x => ?_⟩
          · rw [List.mem_singleton.1 hy] at e; rw [e] at hx; exact hn hx
          · simp only [List.mem_append, h3.2 x]
        · simp only [Int.toNat_natCast]; omega
      | true =>
        simp only [Bool.not_true, cond_false]
        refine ⟨_, rfl, ⟨i + 1, _, rfl, h, by omega, ?_⟩, ?_⟩
        · have hn : a.getD i (dflt (.int .i64)) ∈ c := by simpa using hb
          rw [ht]
          refine ⟨h3.1, fun x => ?_⟩
          simp only [List.mem_append, List.mem_singleton, ← h3.2 x]
          constructor
          · exact .inl
          · rintro (h | rfl)
            · exact h
            · exact hn
        · simp only [Int.toNat_natCast]; omega
    · have hi : ¬ ((i : Int) < (a.length : Int)) := by omega
      obtain rfl : i = a.length := by omega
      rw [take_all] at h3
      simp only [hi, decide_false, cond_false, decide_true, cond_true]
      exact ⟨_, rfl, c, rfl, h3⟩
/-- Nodes by themselves. -/
theorem p20_is (c : List Int) (hc : c.length ≤ 9223372036854775807) (hf : c.length < fu) : ∃ m : List (Int × Int), p20 fu (c, ((), ()), ((), ()), ()) = some ((), m) ∧ ∀ k, hasM (.int .i64) m k = c.contains k := by
  unfold p20
  refine loop_ex (fun m => ((), m)) (fun m => ∀ k, hasM (.int .i64) m k = c.contains k) (I := fun s : (List (Int × Int) × Int × Unit) × Unit => ∃ (i : Nat) (m : List (Int × Int)), s = ((m, (i : Int), ()), ()) ∧ i ≤ c.length ∧ ∀ k, hasM (.int .i64) m k = (c.take i).contains k) (m := fun s => (c.length - Int.toNat s.1.2.1)) ⟨0, [], rfl, Nat.zero_le _, fun k => by simp [hasM]⟩ (by simpa using hf) fun s hs => ?_
  · obtain ⟨i, m, rfl, h1, h2⟩ := hs
    by_cases h : i < c.length
    · have hi : (i : Int) < (c.length : Int) := by omega
      have h0 : (0 : Int) ≤ (i : Int) := by omega
      have ht := take_one c i (dflt (.int .i64)) h
      have fin : ∀ v, ∀ k, hasM (.int .i64) (setM (.int .i64) m (c.getD i (dflt (.int .i64))) v) k = (c.take (i + 1)).contains k := fun v k => by
        rw [hasM_set, h2 k, ht]
        have hc : (c.take i ++ [c.getD i (dflt (.int .i64))]).contains k = ((c.take i).contains k || k == c.getD i (dflt (.int .i64))) := by
          rw [List.contains_append]; congr 1; simp only [List.contains_cons, List.contains_nil, Bool.or_false]
        rw [hc, Bool.or_comm]
      simp only [hi, h0, decide_true, cond_true, Int.toNat_natCast, h, and_self, i64_succ h hc, p21, p22, bind_val]
      cases hb : hasM (.int .i64) m (c.getD i (dflt (.int .i64))) with
      | true => exact ⟨_, rfl, ⟨i + 1, _, rfl, h, fin _⟩, by simp only [Int.toNat_natCast]; omega⟩
      | false => exact ⟨_, rfl, ⟨i + 1, _, rfl, h, fin _⟩, by simp only [Int.toNat_natCast]; omega⟩
    · have hi : ¬ ((i : Int) < (c.length : Int)) := by omega
      obtain rfl : i = c.length := by omega
      rw [take_all] at h2
      simp only [hi, decide_false, cond_false]
      exact ⟨_, rfl, m, rfl, h2⟩
/-- Are those of the nodes a majority of them? -/
def majS (d : List Int) (p : Int → Bool) : Bool := decide (0 < d.length ∧ mostN d.length ≤ d.countP p)
theorem maj_val {n k : Nat} : (decide (((n : Nat) : Int) ≥ ((k : Nat) : Int))) = decide (k ≤ n) := by
  by_cases h : k ≤ n <;> simp [h] 
theorem countP_take (d : List Int) (p : Int → Bool) (i : Nat) (h : i < d.length) : (d.take (i + 1)).countP p = (d.take i).countP p + (if p (d.getD i (dflt (.int .i64))) then 1 else 0) := by
  rw [take_one d i (dflt (.int .i64)) h, List.countP_append, List.countP_singleton]
theorem maj_end {d : List Int} {p : Int → Bool} (hd : d.length ≤ 9223372036854775806) (pp : Int × Unit → Option (Unit × Int)) (hp : pp ((d.length : Int), ()) = some ((), ((mostN d.length : Nat) : Int))) :
    (bif decide (((List.length d) : Int) > (0 : Int)) then Option.bind (pp (((List.length d) : Int), ())) fun ⟨_, k⟩ => some ((), decide (((d.countP p : Nat) : Int) ≥ k)) else some ((), false)) = some ((), majS d p) := by
  unfold majS
  by_cases h : 0 < d.length
  · have h1 : ((d.length : Nat) : Int) > 0 := by omega
    simp only [h1, decide_true, cond_true, hp, bind_val, maj_val, h, true_and]
  · have h1 : ¬ ((d.length : Nat) : Int) > 0 := by omega
    simp only [h1, decide_false, cond_false, h, false_and]
theorem cnt_step (d : List Int) (p : Int → Bool) {j : Nat} (h : j < d.length) (hl : d.length ≤ 9223372036854775806) (hb : p (d.getD j (dflt (.int .i64))) = true) : IntKind.wrap .i64 ((((d.take j).countP p : Nat) : Int) + 1) = (((d.take (j + 1)).countP p : Nat) : Int) := by
  have h1 : (d.take j).countP p ≤ (d.take j).length := List.countP_le_length
  rw [List.length_take] at h1
  rw [countP_take d p j h, hb, if_pos rfl, i64_wrap (by omega) (by omega)]; omega
theorem cnt_stay (d : List Int) (p : Int → Bool) {j : Nat} (h : j < d.length) (hb : p (d.getD j (dflt (.int .i64))) = false) : (d.take (j + 1)).countP p = (d.take j).countP p := by
  rw [countP_take d p j h, hb]; rfl
theorem p11_is (a c : List Int) (ha : a.length * 8 ≤ 140737488355328) (hc : c.length ≤ 9223372036854775807) (hf : a.length < fu) (hf2 : c.length < fu) : p11 fu (a, c, ()) = some ((), majS (distI a) c.contains) := by
  obtain ⟨m, h20, hm⟩ := p20_is (fu := fu) c hc hf2
  have hd := distI_len a
  simp only [p11, p19_is a ha, bind_val, h20]
  generalize distI a = d at *
  have hdl : d.length ≤ 9223372036854775806 := by omega
  refine loop_val (I := fun s : (Int × Int × Unit) × Unit => ∃ j : Nat, s = (((((d.take j).countP c.contains : Nat) : Int), (j : Int), ()), ()) ∧ j ≤ d.length) (m := fun s => d.length - Int.toNat s.1.2.1) ⟨0, by simp, Nat.zero_le _⟩ (by simp; omega) fun s hs => ?_
  obtain ⟨j, rfl, h1⟩ := hs
  by_cases h : j < d.length
  · have hi : (j : Int) < (d.length : Int) := by omega
    have h0 : (0 : Int) ≤ (j : Int) := by omega
    simp only [hi, h0, decide_true, cond_true, Int.toNat_natCast, h, and_self, i64_succ h (show d.length ≤ 9223372036854775807 by omega), hm]
    cases hb : c.contains (d.getD j (dflt (.int .i64))) with
    | true =>
      simp only [cond_true, cnt_step d c.contains h hdl hb]
      exact ⟨_, rfl, ⟨j + 1, rfl, h⟩, by simp only [Int.toNat_natCast]; omega⟩
    | false =>
      simp only [cond_false]
      exact ⟨_, rfl, ⟨j + 1, by rw [cnt_stay d c.contains h hb], h⟩, by simp only [Int.toNat_natCast]; omega⟩
  · have hi : ¬ ((j : Int) < (d.length : Int)) := by omega
    obtain rfl : j = d.length := by omega
    simp only [hi, decide_false, cond_false, take_all]
    rw [maj_end (p := c.contains) hdl (p13 fu) (p13_is hdl)]
    exact ⟨_, rfl, rfl⟩
theorem majS_perm {d o : List Int} (h : d.Perm o) (p : Int → Bool) : majS d p = majS o p := by
  unfold majS
  rw [h.length_eq, h.countP_eq p]
theorem Dist.len {d a : List Int} (h : Dist d a) : d.length ≤ a.length := by
  rw [(h.perm (distI_dist a)).length_eq]; exact distI_len a
end
section
variable {fu : Nat}

abbrev Ba := Int × Bool
/-- A node's first ballot. -/
def ballot (l : List Ba) (k : Int) : Option Ba := l.find? fun b => b.1 == k
def yesS (l : List Ba) (k : Int) : Bool := (ballot l k).any (·.2)
def noS (l : List Ba) (k : Int) : Bool := (ballot l k).any (!·.2)
def tallyS (d : List Int) (l : List Ba) : Int := if d.length = 0 then 0 else if mostN d.length ≤ d.countP (yesS l) then 1 else if d.length - d.countP (noS l) < mostN d.length then -1 else 0
theorem tallyS_perm {d o : List Int} (h : d.Perm o) (l : List Ba) : tallyS d l = tallyS o l := by
  unfold tallyS
  rw [h.length_eq, h.countP_eq (yesS l), h.countP_eq (noS l)]

theorem p23_is (c : List Ba) (hc : c.length ≤ 9223372036854775807) (hf : c.length < fu) : ∃ m : List (Int × Ba), p23 fu (c, ((), ()), ((), ()), ()) = some ((), m) ∧ ∀ k, lookM (.int .i64) m k = ballot c k := by
  unfold p23
  refine loop_ex (fun m => ((), m)) (fun m => ∀ k, lookM (.int .i64) m k = ballot c k) (I := fun s : (List (Int × Ba) × Int × Unit) × Unit => ∃ (i : Nat) (m : List (Int × Ba)), s = ((m, (i : Int), ()), ()) ∧ i ≤ c.length ∧ ∀ k, lookM (.int .i64) m k = ballot (c.take i) k) (m := fun s => (c.length - Int.toNat s.1.2.1)) ⟨0, [], rfl, Nat.zero_le _, fun k => by simp [lookM, ballot]⟩ (by simpa using hf) fun s hs => ?_
  obtain ⟨i, m, rfl, h1, h2⟩ := hs
  by_cases h : i < c.length
  · have hi : (i : Int) < (c.length : Int) := by omega
    have h0 : (0 : Int) ≤ (i : Int) := by omega
    have ht := take_one c i (dflt T_api_Ballot) h
    simp only [hi, h0, decide_true, cond_true, Int.toNat_natCast, h, and_self, i64_succ h hc, p24, p25, bind_val]
    have hk := h2 (c.getD i (dflt T_api_Ballot)).1
    generalize hx : (c.getD i (dflt T_api_Ballot) : Ba) = x at *
    cases hb : hasM (.int .i64) m x.1 with
    | true =>
      simp only [cond_true, orK_inl]
      refine ⟨_, rfl, ⟨i + 1, _, rfl, h, fun k => ?_⟩, by simp only [Int.toNat_natCast]; omega⟩
      rw [lookM_set, h2 k, ht]
      unfold ballot at *
      rw [List.find?_append]
      by_cases e : k = x.1
      · subst e
        rw [if_pos rfl]
        rw [hasM_look, hk] at hb
        rw [hk]
        cases hq : (c.take i).find? (fun b => b.1 == x.1) with
        | none => rw [hq] at hb; cases hb
        | some y => rfl
      · have hne : (x.1 == k) = false := by simpa using Ne.symm e
        rw [if_neg e]
        simp [List.find?, hne]
    | false =>
      simp only [cond_false, orK_inl]
      refine ⟨_, rfl, ⟨i + 1, _, rfl, h, fun k => ?_⟩, by simp only [Int.toNat_natCast]; omega⟩
      rw [lookM_set, h2 k, ht]
      unfold ballot at *
      rw [List.find?_append]
      by_cases e : k = x.1
      · subst e
        rw [if_pos rfl]
        rw [hasM_look, hk] at hb
        cases hq : (c.take i).find? (fun b => b.1 == x.1) with
        | none => simp [List.find?]
        | some y => rw [hq] at hb; cases hb
      · have hne : (x.1 == k) = false := by simpa using Ne.symm e
        rw [if_neg e]
        simp [List.find?, hne]
  · have hi : ¬ ((i : Int) < (c.length : Int)) := by omega
    obtain rfl : i = c.length := by omega
    rw [take_all] at h2
    simp only [hi, decide_false, cond_false]
    exact ⟨_, rfl, m, rfl, h2⟩
theorem sub_wrap {n k : Nat} (h : k ≤ n) (hn : n ≤ 9223372036854775807) : IntKind.wrap .i64 ((n : Int) - (k : Int)) = ((n - k : Nat) : Int) := by
  rw [i64_wrap (by omega) (by omega)]; omega
theorem tally_end {d : List Int} {l : List Ba} (hd : d.length ≤ 9223372036854775806) :
    (bif (((List.length d) : Int) == (0 : Int)) then some ((), (0 : Int)) else
      bif decide (((d.countP (yesS l) : Nat) : Int) ≥ ((mostN d.length : Nat) : Int)) then some ((), (1 : Int)) else
      bif decide ((IntKind.wrap .i64 (((List.length d) : Int) - ((d.countP (noS l) : Nat) : Int))) < ((mostN d.length : Nat) : Int)) then some ((), ((-1) : Int)) else some ((), (0 : Int))) = some ((), tallyS d l) := by
  have h1 : d.countP (noS l) ≤ d.length := List.countP_le_length
  rw [sub_wrap h1 (by omega)]
  unfold tallyS
  by_cases c0 : d.length = 0
  · have : (((d.length : Nat) : Int) == 0) = true := by simp [c0]
    rw [this, if_pos c0]; rfl
  · have : (((d.length : Nat) : Int) == 0) = false := by simpa using c0
    rw [this, if_neg c0, maj_val]
    simp only [cond_false]
    by_cases c1 : mostN d.length ≤ d.countP (yesS l)
    · rw [decide_eq_true c1, if_pos c1]; rfl
    · rw [decide_eq_false c1, if_neg c1]
      simp only [cond_false]
      by_cases c2 : d.length - d.countP (noS l) < mostN d.length
      · have : (((d.length - d.countP (noS l) : Nat) : Int) < ((mostN d.length : Nat) : Int)) := by omega
        rw [decide_eq_true this, if_pos c2]; rfl
      · have : ¬ (((d.length - d.countP (noS l) : Nat) : Int) < ((mostN d.length : Nat) : Int)) := by omega
        rw [decide_eq_false this, if_neg c2]; rfl
theorem p12_is (a : List Int) (c : List Ba) (ha : a.length * 8 ≤ 140737488355328) (hc : c.length ≤ 9223372036854775807) (hf : a.length < fu) (hf2 : c.length < fu) : p12 fu (a, c, ()) = some ((), tallyS (distI a) c) := by
  obtain ⟨m, h23, hm⟩ := p23_is (fu := fu) c hc hf2
  have hd := distI_len a
  simp only [p12, p19_is a ha, bind_val, h23]
  generalize distI a = d at *
  have hdl : d.length ≤ 9223372036854775806 := by omega
  refine loop_val (I := fun s : (Int × Int × Int × Unit) × Unit => ∃ j : Nat, s = (((((d.take j).countP (yesS c) : Nat) : Int), (((d.take j).countP (noS c) : Nat) : Int), (j : Int), ()), ()) ∧ j ≤ d.length) (m := fun s => d.length - Int.toNat s.1.2.2.1) ⟨0, by simp, Nat.zero_le _⟩ (by simp; omega) fun s hs => ?_
  obtain ⟨j, rfl, h1⟩ := hs
  by_cases h : j < d.length
  · have hi : (j : Int) < (d.length : Int) := by omega
    have h0 : (0 : Int) ≤ (j : Int) := by omega
    simp only [hi, h0, decide_true, cond_true, Int.toNat_natCast, h, and_self, i64_succ h (show d.length ≤ 9223372036854775807 by omega), hasM_look, hm]
    have Y : ∀ b, yesS c (d.getD j (dflt (.int .i64))) = b → _ := fun b hb => hb
    cases hb : ballot c (d.getD j (dflt (.int .i64))) with
    | none =>
      have hy : yesS c (d.getD j (dflt (.int .i64))) = false := by unfold yesS; rw [hb]; rfl
      have hn : noS c (d.getD j (dflt (.int .i64))) = false := by unfold noS; rw [hb]; rfl
      simp only [Option.isSome_none, cond_false, orK_inl]
      exact ⟨_, rfl, ⟨j + 1, by rw [cnt_stay d _ h hy, cnt_stay d _ h hn], h⟩, by simp only [Int.toNat_natCast]; omega⟩
    | some b =>
      obtain ⟨n, v⟩ := b
      cases v with
      | true =>
        have hy : yesS c (d.getD j (dflt (.int .i64))) = true := by unfold yesS; rw [hb]; rfl
        have hn : noS c (d.getD j (dflt (.int .i64))) = false := by unfold noS; rw [hb]; rfl
        simp only [Option.isSome_some, Option.getD_some, cond_true, orK_inl, cnt_step d _ h hdl hy]
        exact ⟨_, rfl, ⟨j + 1, by rw [cnt_stay d _ h hn], h⟩, by simp only [Int.toNat_natCast]; omega⟩
      | false =>
        have hy : yesS c (d.getD j (dflt (.int .i64))) = false := by unfold yesS; rw [hb]; rfl
        have hn : noS c (d.getD j (dflt (.int .i64))) = true := by unfold noS; rw [hb]; rfl
        simp only [Option.isSome_some, Option.getD_some, cond_true, cond_false, orK_inl, cnt_step d _ h hdl hn]
        exact ⟨_, rfl, ⟨j + 1, by rw [cnt_stay d _ h hy], h⟩, by simp only [Int.toNat_natCast]; omega⟩
  · have hi : ¬ ((j : Int) < (d.length : Int)) := by omega
    obtain rfl : j = d.length := by omega
    simp only [hi, decide_false, cond_false, take_all, p13_is hdl, bind_val]
    rw [tally_end (l := c) hdl]
    exact ⟨_, rfl, rfl⟩
/-- The live question. -/
theorem p10_is (hf : 10 < fu) : p10 fu () = some ((), true) := by
  have e1 : p13 fu ((4 : Int), ()) = some ((), 3) := rfl
  have e2 := p11_is (fu := fu) [1, 2, 3] [3, 1] (by decide) (by decide) (by simp; omega) (by simp; omega)
  have e3 := p12_is (fu := fu) [1, 2, 3] [(1, true), (3, true)] (by decide) (by decide) (by simp; omega) (by simp; omega)
  have hD : Dist [1, 2, 3] [1, 2, 3] := ⟨by decide, fun x => Iff.rfl⟩
  have e4 : majS (distI [1, 2, 3]) [3, 1].contains = true := by
    rw [majS_perm ((distI_dist [1, 2, 3]).perm hD)]; decide
  have e5 : tallyS (distI [1, 2, 3]) [(1, true), (3, true)] = 1 := by
    rw [tallyS_perm ((distI_dist [1, 2, 3]).perm hD)]; decide
  rw [e4] at e2
  rw [e5] at e3
  simp only [p10, e1, bind_val, beq_self_eq_true, cond_true, e2, e3]
end
section
variable {fu : Nat}
end
end
section
section

/-- r is one of the numbers, most of them reach it, and no greater one is reached by most. -/
def Com (M : List Int) (r : Int) : Prop := (M.length = 0 → r = 0) ∧ (0 < M.length → r ∈ M ∧ mostN M.length ≤ M.countP (fun y => decide (r ≤ y)) ∧ ∀ x, mostN M.length ≤ M.countP (fun y => decide (x ≤ y)) → x ≤ r)
theorem Com.unique {M M' : List Int} {r r' : Int} (h : Com M r) (h' : Com M' r') (hp : M.Perm M') : r = r' := by
  have e := hp.length_eq
  by_cases h0 : M.length = 0
  · rw [h.1 h0, h'.1 (by omega)]
  · obtain ⟨a1, a2, a3⟩ := h.2 (by omega)
    obtain ⟨b1, b2, b3⟩ := h'.2 (by omega)
    have c1 := a3 r' (by rw [e, hp.countP_eq]; exact b2)
    have c2 := b3 r (by rw [← e, ← hp.countP_eq]; exact a2)
    omega
theorem Com.grow {M M' : List Int} {r r' : Int} (h : Com M r) (h' : Com M' r') (hl : M.length = M'.length) (hc : ∀ x, M.countP (fun y => decide (x ≤ y)) ≤ M'.countP (fun y => decide (x ≤ y))) : r ≤ r' := by
  by_cases h0 : M.length = 0
  · rw [h.1 h0, h'.1 (by omega)]; omega
  · obtain ⟨a1, a2, a3⟩ := h.2 (by omega)
    obtain ⟨b1, b2, b3⟩ := h'.2 (by omega)
    exact b3 r (by rw [← hl]; exact Nat.le_trans a2 (hc r))
theorem mostN_le {n : Nat} (h : 0 < n) : 0 < mostN n ∧ mostN n ≤ n := by
  unfold mostN
  rw [if_neg (by omega)]
  omega
theorem countP_drop_le (s : List Int) (p : Int → Bool) (k : Nat) (h : ∀ j, j < k → ∀ h : j < s.length, p s[j] = false) : s.countP p ≤ s.length - k := by
  have e : s.countP p = (s.take k).countP p + (s.drop k).countP p := by
    rw [← List.countP_append, List.take_append_drop]
  have z : (s.take k).countP p = 0 := by
    rw [List.countP_eq_zero]
    intro x hx
    obtain ⟨j, hj, rfl⟩ := List.mem_iff_getElem.1 hx
    rw [List.length_take] at hj
    rw [List.getElem_take]
    rw [h j (by omega) (by omega)]
    decide
  have l : (s.drop k).countP p ≤ (s.drop k).length := List.countP_le_length
  rw [List.length_drop] at l
  omega
theorem countP_drop_ge (s : List Int) (p : Int → Bool) (k : Nat) (h : ∀ j, k ≤ j → ∀ h : j < s.length, p s[j] = true) : s.length - k ≤ s.countP p := by
  have e : s.countP p = (s.take k).countP p + (s.drop k).countP p := by
    rw [← List.countP_append, List.take_append_drop]
  have z : (s.drop k).countP p = (s.drop k).length := by
    rw [List.countP_eq_length]
    intro x hx
    obtain ⟨j, hj, rfl⟩ := List.mem_iff_getElem.1 hx
    rw [List.length_drop] at hj
    rw [List.getElem_drop]
    exact h (k + j) (by omega) (by omega)
  rw [List.length_drop] at z
  omega
theorem com_sort (M : List Int) (h : 0 < M.length) : Com M ((sortI M).getD (M.length - mostN M.length) 0) := by
  have hp : (sortI M).Perm M := List.mergeSort_perm M _
  have hl := hp.length_eq
  have hm := mostN_le h
  have hs := sortI_le M
  generalize sortI M = s at *
  have hs' : ∀ i j, i ≤ j → (hj : j < s.length) → ∀ hi : i < s.length, s[i] ≤ s[j] := fun i j hij hj hi => by
    have := hs i j hij (by simpa using hj)
    rwa [getB_toArray s i hi, getB_toArray s j hj] at this
  have hk : M.length - mostN M.length < s.length := by omega
  refine ⟨fun e => by omega, fun _ => ?_⟩
  rw [getD_lt hk]
  refine ⟨hp.mem_iff.1 (List.getElem_mem _), ?_, fun x hx => ?_⟩
  · rw [← hp.countP_eq]
    have := countP_drop_ge s (fun y => decide (s[M.length - mostN M.length] ≤ y)) (M.length - mostN M.length) (fun j h1 h2 => decide_eq_true (hs' _ _ h1 h2 hk))
    omega
  · rw [← hp.countP_eq] at hx
    refine Decidable.byContradiction fun hn => ?_
    have := countP_drop_le s (fun y => decide (x ≤ y)) (M.length - mostN M.length + 1) (fun j h1 h2 => decide_eq_false (by
      have := hs' j _ (by omega) hk h2
      omega))
    omega

/-- A node's index: the greatest that is told of it, else 0. -/
abbrev Pe := Int × Int × Int
def matchS (l : List Pe) (k : Int) : Int := l.foldl (fun n p => if p.1 == k then (if p.2.2 > n then p.2.2 else n) else n) 0
theorem matchS_app (l : List Pe) (x : Pe) (k : Int) : matchS (l ++ [x]) k = if x.1 == k then (if x.2.2 > matchS l k then x.2.2 else matchS l k) else matchS l k := by
  unfold matchS
  rw [List.foldl_append]; rfl
/-- What a node's index is, by what it is over the others. -/
def Gr (l : List Pe) (k r : Int) : Prop := 0 ≤ r ∧ (∀ p, p ∈ l → p.1 = k → p.2.2 ≤ r) ∧ (r = 0 ∨ ∃ p, p ∈ l ∧ p.1 = k ∧ p.2.2 = r)
theorem matchS_gr (l : List Pe) (k : Int) : Gr l k (matchS l k) := by
  have key : ∀ n, n ≤ l.length → Gr (l.take n) k (matchS (l.take n) k) := by
    intro n
    induction n with
    | zero => intro _; exact ⟨by simp [matchS], fun p hp => by simp at hp, .inl (by simp [matchS])⟩
    | succ n ih =>
      intro hn
      have i := ih (by omega)
      rw [List.take_succ_eq_append_getElem (by omega), matchS_app]
      generalize l[n] = x at *
      generalize matchS (l.take n) k = r at *
      generalize l.take n = m at *
      obtain ⟨i1, i2, i3⟩ := i
      by_cases hx : x.1 = k
      · have hb : (x.1 == k) = true := by simpa using hx
        rw [hb, if_pos rfl]
        by_cases hg : x.2.2 > r
        · rw [if_pos hg]
          refine ⟨by omega, fun p hp he => ?_, .inr ⟨x, by simp, hx, rfl⟩⟩
          rcases List.mem_append.1 hp with hp | hp
          · have := i2 p hp he; omega
          · rw [List.mem_singleton.1 hp]; omega
        · rw [if_neg hg]
          refine ⟨i1, fun p hp he => ?_, i3.imp id fun ⟨p, p1, p2⟩ => ⟨p, List.mem_append_left _ p1, p2⟩⟩
          rcases List.mem_append.1 hp with hp | hp
          · exact i2 p hp he
          · rw [List.mem_singleton.1 hp]; omega
      · have hb : (x.1 == k) = false := by simpa using hx
        rw [hb, if_neg (by decide)]
        refine ⟨i1, fun p hp he => ?_, i3.imp id fun ⟨p, p1, p2⟩ => ⟨p, List.mem_append_left _ p1, p2⟩⟩
        rcases List.mem_append.1 hp with hp | hp
        · exact i2 p hp he
        · rw [List.mem_singleton.1 hp] at he; exact absurd he hx
  have := key l.length (Nat.le_refl _)
  rwa [List.take_length] at this
theorem Gr.le {l l' : List Pe} {k r r' : Int} (h : Gr l k r) (h' : Gr l' k r') (hm : ∀ p, p ∈ l → p.1 = k → ∃ q, q ∈ l' ∧ q.1 = k ∧ p.2.2 ≤ q.2.2) : r ≤ r' := by
  rcases h.2.2 with h0 | ⟨p, p1, p2, p3⟩
  · rw [h0]; exact h'.1
  · obtain ⟨q, q1, q2, q3⟩ := hm p p1 p2
    have := h'.2.1 q q1 q2
    omega
theorem matchS_le {l l' : List Pe} {k : Int} (hm : ∀ p, p ∈ l → p.1 = k → ∃ q, q ∈ l' ∧ q.1 = k ∧ p.2.2 ≤ q.2.2) : matchS l k ≤ matchS l' k := (matchS_gr l k).le (matchS_gr l' k) hm
theorem matchS_mem {l l' : List Pe} (h : ∀ p, p ∈ l ↔ p ∈ l') (k : Int) : matchS l k = matchS l' k := by
  have a := matchS_le (l := l) (l' := l') (k := k) fun p hp e => ⟨p, (h p).1 hp, e, Int.le_refl _⟩
  have b := matchS_le (l := l') (l' := l) (k := k) fun p hp e => ⟨p, (h p).2 hp, e, Int.le_refl _⟩
  omega
theorem matchS_nn (l : List Pe) (k : Int) : 0 ≤ matchS l k := (matchS_gr l k).1
/-- What most of the nodes reach. -/
def matches' (d : List Int) (c : List Pe) : List Int := d.map (matchS c)
theorem matches_perm {d o : List Int} (h : d.Perm o) {c f : List Pe} (hm : ∀ p, p ∈ c ↔ p ∈ f) : (matches' d c).Perm (matches' o f) := by
  unfold matches'
  have : matchS c = matchS f := funext fun k => matchS_mem hm k
  rw [this]
  exact h.map _
theorem countP_map_le (d : List Int) (f g : Int → Int) (h : ∀ k, f k ≤ g k) (x : Int) : (d.map f).countP (fun y => decide (x ≤ y)) ≤ (d.map g).countP (fun y => decide (x ≤ y)) := by
  rw [List.countP_map, List.countP_map]
  refine List.countP_mono_left fun k _ hk => ?_
  have := h k
  have hk' : x ≤ f k := by simpa using hk
  simpa using (by omega : x ≤ g k)
end
end
section
section
variable {fu : Nat}
theorem p28_is (c : List Pe) (hc : c.length ≤ 9223372036854775807) (hn : ∀ p, p ∈ c → 0 ≤ p.2.2) (hf : c.length < fu) : ∃ m : List (Int × Pe), p28 fu (c, ((), ()), ((), ()), ()) = some ((), m) ∧ ∀ k, (Option.getD (lookM (.int .i64) m k) ((0 : Int), (0 : Int), (0 : Int))).2.2 = matchS c k := by
  unfold p28
  refine loop_ex (fun m => ((), m)) (fun m => ∀ k, (Option.getD (lookM (.int .i64) m k) ((0 : Int), (0 : Int), (0 : Int))).2.2 = matchS c k) (I := fun s : (List (Int × Pe) × Int × Unit) × Unit => ∃ (i : Nat) (m : List (Int × Pe)), s = ((m, (i : Int), ()), ()) ∧ i ≤ c.length ∧ ∀ k, (Option.getD (lookM (.int .i64) m k) ((0 : Int), (0 : Int), (0 : Int))).2.2 = matchS (c.take i) k) (m := fun s => (c.length - Int.toNat s.1.2.1)) ⟨0, [], rfl, Nat.zero_le _, fun k => by simp [lookM, matchS]⟩ (by simpa using hf) fun s hs => ?_
  obtain ⟨i, m, rfl, h1, h2⟩ := hs
  by_cases h : i < c.length
  · have hi : (i : Int) < (c.length : Int) := by omega
    have h0 : (0 : Int) ≤ (i : Int) := by omega
    have ht := take_one c i (dflt T_api_Peer) h
    have hx0 : 0 ≤ (c.getD i (dflt T_api_Peer) : Pe).2.2 := by
      rw [getD_lt h]; exact hn _ (List.getElem_mem _)
    simp only [hi, h0, decide_true, cond_true, Int.toNat_natCast, h, and_self, i64_succ h hc, p29, bind_val]
    have hk := h2 (c.getD i (dflt T_api_Peer)).1
    generalize hx : (c.getD i (dflt T_api_Peer) : Pe) = x at *
    cases hb : hasM (.int .i64) m x.1 with
    | true =>
      generalize (Option.getD (lookM (.int .i64) m x.1) ((0 : Int), (0 : Int), (0 : Int)) : Pe) = y at *
      simp only [p30]
      by_cases hg : x.2.2 > y.2.2
      · simp only [hg, decide_true, cond_true, bind_val, orK_inl]
        refine ⟨_, rfl, ⟨i + 1, _, rfl, h, fun k => ?_⟩, by simp only [Int.toNat_natCast]; omega⟩
        rw [lookM_set, ht, matchS_app]
        by_cases e : k = x.1
        · subst e
          rw [if_pos rfl, beq_self_eq_true, if_pos rfl, ← hk, if_pos hg]; rfl
        · have hne : (x.1 == k) = false := by simpa using Ne.symm e
          rw [if_neg e, hne, if_neg (by decide)]; exact h2 k
      · simp only [hg, decide_false, cond_true, cond_false, bind_val, orK_inl]
        refine ⟨_, rfl, ⟨i + 1, _, rfl, h, fun k => ?_⟩, by simp only [Int.toNat_natCast]; omega⟩
        rw [lookM_set, ht, matchS_app]
        by_cases e : k = x.1
        · subst e
          rw [if_pos rfl, beq_self_eq_true, if_pos rfl, ← hk, if_neg hg]; rfl
        · have hne : (x.1 == k) = false := by simpa using Ne.symm e
          rw [if_neg e, hne, if_neg (by decide)]; exact h2 k
    | false =>
      simp only [cond_false, orK_inl]
      refine ⟨_, rfl, ⟨i + 1, _, rfl, h, fun k => ?_⟩, by simp only [Int.toNat_natCast]; omega⟩
      rw [lookM_set, ht, matchS_app]
      by_cases e : k = x.1
      · subst e
        rw [hasM_look] at hb
        cases hq : lookM (.int .i64) m x.1 with
        | some y => rw [hq] at hb; cases hb
        | none =>
          rw [hq] at hk
          have hk' : matchS (c.take i) x.1 = 0 := hk.symm
          rw [if_pos rfl, beq_self_eq_true, if_pos rfl, hk']
          by_cases hg : x.2.2 > 0
          · rw [if_pos hg]; rfl
          · rw [if_neg hg]; show x.2.2 = 0; omega
      · have hne : (x.1 == k) = false := by simpa using Ne.symm e
        rw [if_neg e, hne, if_neg (by decide)]; exact h2 k
  · have hi : ¬ ((i : Int) < (c.length : Int)) := by omega
    obtain rfl : i = c.length := by omega
    rw [take_all] at h2
    simp only [hi, decide_false, cond_false]
    exact ⟨_, rfl, m, rfl, h2⟩

theorem p17_is (a : List Int) (c : List Pe) (ha : a.length * 8 ≤ 140737488355328) (hc : c.length ≤ 9223372036854775807) (hn : ∀ p, p ∈ c → 0 ≤ p.2.2) (hf : a.length < fu) (hf2 : c.length < fu) : ∃ r, p17 fu (a, c, ()) = some ((), r) ∧ Com (matches' (distI a) c) r := by
  obtain ⟨m, h28, hm⟩ := p28_is (fu := fu) c hc hn hf2
  have hmx : maxLen = 9223372036854775807 := rfl
  have hd := distI_len a
  simp only [p17, p19_is a ha, bind_val, h28]
  generalize distI a = d at *
  have hdl : d.length ≤ 9223372036854775806 := by omega
  by_cases h0 : d.length = 0
  · have hz : (((d.length : Nat) : Int) == 0) = true := by simp [h0]
    simp only [hz, cond_true]
    exact ⟨0, rfl, fun _ => rfl, fun h => by simp [matches'] at h; omega⟩
  have hz : (((d.length : Nat) : Int) == 0) = false := by simpa using h0
  simp only [hz, cond_false]
  have hML : (matches' d c).length = d.length := by simp [matches']
  refine ⟨(sortI (matches' d c)).getD (d.length - mostN d.length) 0, ?_, by have := com_sort (matches' d c) (by omega); rwa [hML] at this⟩
  refine loop_val (I := fun s : (List Int × Int × Unit) × Unit => ∃ j : Nat, s = ((((d.take j).map (matchS c)), (j : Int), ()), ()) ∧ j ≤ d.length) (m := fun s => d.length - Int.toNat s.1.2.1) ⟨0, rfl, Nat.zero_le _⟩ (by simp; omega) fun s hs => ?_
  obtain ⟨j, rfl, h1⟩ := hs
  by_cases h : j < d.length
  · have hi : (j : Int) < (d.length : Int) := by omega
    have h0 : (0 : Int) ≤ (j : Int) := by omega
    have hlen : ((d.take j).map (matchS c)).length = j := by rw [List.length_map, List.length_take]; omega
    have h4 : j + 1 ≤ maxLen ∧ (j + 1) * 8 ≤ 140737488355328 := by omega
    have ht := take_one d j (dflt (.int .i64)) h
    simp only [hi, h0, decide_true, cond_true, Int.toNat_natCast, h, and_self, i64_succ h (show d.length ≤ 9223372036854775807 by omega), hlen, hm, List.length_cons, List.length_nil, Nat.zero_add, h4]
    refine ⟨_, rfl, ⟨j + 1, ?_, h⟩, by simp only [Int.toNat_natCast]; omega⟩
    rw [ht, List.map_append]; rfl
  · have hi : ¬ ((j : Int) < (d.length : Int)) := by omega
    obtain rfl : j = d.length := by omega
    have hb : decide (d.length < 2305843009213693952) = true := decide_eq_true (by omega)
    have hmo := mostN_le (n := d.length) (by omega)
    have hMM : d.map (matchS c) = matches' d c := rfl
    have hsub : IntKind.wrap .i64 (((d.length : Nat) : Int) - ((mostN d.length : Nat) : Int)) = ((d.length - mostN d.length : Nat) : Int) := sub_wrap hmo.2 (by omega)
    have hsl : (sortI (matches' d c)).length = d.length := by rw [sortI_len]; exact hML
    have g1 : (0 : Int) ≤ ((d.length - mostN d.length : Nat) : Int) ∧ ((d.length - mostN d.length : Nat) : Int) < (d.length : Int) := by omega
    have g2 : d.length - mostN d.length < d.length := by omega
    simp only [hi, decide_false, cond_false, take_all, decide_true, cond_true, hMM, pSortU, hML, hb, bind_val, p13_is hdl, hsub, g1, Int.toNat_natCast, hsl, g2, and_self]
    exact ⟨_, rfl, rfl⟩
end
section
variable {fu : Nat}
theorem p32_is (c : List Pe) (k : Int) (hc : c.length ≤ 9223372036854775807) (hf : c.length < fu) : p32 fu (c, k, ()) = some ((), matchS c k) := by
  unfold p32
  refine loop_val (I := fun s : (Int × Int × Unit) × Unit => ∃ i : Nat, s = ((matchS (c.take i) k, (i : Int), ()), ()) ∧ i ≤ c.length) (m := fun s => (c.length - Int.toNat s.1.2.1)) ⟨0, rfl, Nat.zero_le _⟩ (by simpa using hf) fun s hs => ?_
  obtain ⟨i, rfl, h1⟩ := hs
  by_cases h : i < c.length
  · have hi : (i : Int) < (c.length : Int) := by omega
    have h0 : (0 : Int) ≤ (i : Int) := by omega
    have ht := take_one c i (dflt T_api_Peer) h
    simp only [hi, h0, decide_true, cond_true, Int.toNat_natCast, h, and_self, i64_succ h hc]
    generalize (c.getD i (dflt T_api_Peer) : Pe) = x at *
    cases hb : (x.1 == k) with
    | true =>
      simp only [cond_true]
      refine ⟨_, rfl, ⟨i + 1, ?_, h⟩, by simp only [Int.toNat_natCast]; omega⟩
      rw [ht, matchS_app, hb, if_pos rfl]
    | false =>
      simp only [cond_false]
      refine ⟨_, rfl, ⟨i + 1, ?_, h⟩, by simp only [Int.toNat_natCast]; omega⟩
      rw [ht, matchS_app, hb, if_neg (by decide)]
  · have hi : ¬ ((i : Int) < (c.length : Int)) := by omega
    obtain rfl : i = c.length := by omega
    simp only [hi, decide_false, cond_false, take_all]
    exact ⟨_, rfl, rfl⟩

/-- Do most of the nodes reach x? -/
def good (d : List Int) (c : List Pe) (x : Int) : Bool := decide (mostN d.length ≤ (matches' d c).countP (fun y => decide (x ≤ y)))
/-- The document's: the greatest of those that most reach. -/
theorem p18_is (a : List Int) (c : List Pe) {q : Int} (ha : a.length * 8 ≤ 140737488355328) (hc : c.length ≤ 9223372036854775807) (hf : a.length < fu) (hf2 : c.length < fu) (hq : Com (matches' (distI a) c) q) : p18 fu (a, c, ()) = some ((), q) := by
  obtain ⟨d, h26, hdd⟩ := p26_is (fu := fu) a ha hf
  have hdl := hdd.len
  have hpm : (matches' (distI a) c).Perm (matches' d c) := matches_perm ((distI_dist a).perm hdd) (fun _ => Iff.rfl)
  have hq' : Com (matches' d c) q := by
    by_cases h0 : (matches' d c).length = 0
    · rw [hq.1 (by rw [hpm.length_eq]; exact h0)]
      exact ⟨fun _ => rfl, fun h => by omega⟩
    · have := com_sort (matches' d c) (by omega)
      rw [hq.unique this hpm]; exact this
  simp only [p18, h26, bind_val]
  have hML : (matches' d c).length = d.length := by simp [matches']
  have hd6 : d.length ≤ 9223372036854775806 := by omega
  refine loop_val (I := fun s : (Int × Int × Unit) × Unit => ∃ (i : Nat) (b : Int), s = ((b, (i : Int), ()), ()) ∧ i ≤ d.length ∧ (b = 0 ∨ b ∈ matches' d c ∧ good d c b = true) ∧ 0 ≤ b ∧ ∀ j, j < i → good d c (matchS c (d.getD j 0)) = true → matchS c (d.getD j 0) ≤ b) (m := fun s => (d.length - Int.toNat s.1.2.1)) ⟨0, 0, rfl, Nat.zero_le _, .inl rfl, Int.le_refl _, fun j hj => by omega⟩ (by simp; omega) fun s hs => ?_
  obtain ⟨i, b, rfl, h1, h2, h3, h4⟩ := hs
  by_cases h : i < d.length
  · have hi : (i : Int) < (d.length : Int) := by omega
    have h0 : (0 : Int) ≤ (i : Int) := by omega
    simp only [hi, h0, decide_true, cond_true, Int.toNat_natCast, h, and_self, p32_is (fu := fu) c _ hc hf2, bind_val]
    refine ⟨.inl (((bif good d c (matchS c (d.getD i 0)) then (if matchS c (d.getD i 0) > b then matchS c (d.getD i 0) else b) else b), ((i + 1 : Nat) : Int), ()), ()), ?_, ⟨i + 1, _, rfl, h, ?_⟩, by simp only [Int.toNat_natCast]; omega⟩
    · skip
      have hz : (dflt (.int .i64) : Int) = 0 := rfl
      rw [hz]
      generalize matchS c (d.getD i 0) = x
      refine loop_val (I := fun s : (Int × Int × Unit) × Unit => ∃ j : Nat, s = (((((d.take j).countP (fun n => decide (x ≤ matchS c n)) : Nat) : Int), (j : Int), ()), ()) ∧ j ≤ d.length) (m := fun s => d.length - Int.toNat s.1.2.1) ⟨0, by simp, Nat.zero_le _⟩ (by simp; omega) fun s hs => ?_
      obtain ⟨j, rfl, k1⟩ := hs
      by_cases k : j < d.length
      · have ki : (j : Int) < (d.length : Int) := by omega
        have k0 : (0 : Int) ≤ (j : Int) := by omega
        simp only [ki, k0, decide_true, cond_true, Int.toNat_natCast, k, and_self, i64_succ k (show d.length ≤ 9223372036854775807 by omega)]
        cases hb : decide (x ≤ matchS c (d.getD j 0)) with
        | true =>
          have hb' : decide (matchS c (d.getD j 0) ≥ x) = true := hb
          simp only [cond_true, cnt_step d (fun n => decide (x ≤ matchS c n)) k hd6 hb]
          exact ⟨_, rfl, ⟨j + 1, rfl, k⟩, by simp only [Int.toNat_natCast]; omega⟩
        | false =>
          have hb' : decide (matchS c (d.getD j 0) ≥ x) = false := hb
          simp only [cond_false]
          exact ⟨_, rfl, ⟨j + 1, by rw [cnt_stay d _ k hb], k⟩, by simp only [Int.toNat_natCast]; omega⟩
      · have ki : ¬ ((j : Int) < (d.length : Int)) := by omega
        obtain rfl : j = d.length := by omega
        have hg : d.countP (fun n => decide (x ≤ matchS c n)) = (matches' d c).countP (fun y => decide (x ≤ y)) := by
          unfold matches'; rw [List.countP_map]; rfl
        simp only [ki, decide_false, cond_false, take_all, p14_is hd6, bind_val, hg, maj_val, i64_succ h (show d.length ≤ 9223372036854775807 by omega)]
        cases gg : decide (mostN d.length ≤ (matches' d c).countP (fun y => decide (x ≤ y))) with
        | true =>
          have gg' : good d c x = true := gg
          simp only [gg', cond_true]
          exact ⟨_, rfl, rfl⟩
        | false =>
          have gg' : good d c x = false := gg
          simp only [gg', cond_false]
          exact ⟨_, rfl, rfl⟩
    have hmem : matchS c (d.getD i 0) ∈ matches' d c := by
      rw [getD_lt h]; exact List.mem_map_of_mem (List.getElem_mem _)
    have hnn := matchS_nn c (d.getD i 0)
    cases gg : good d c (matchS c (d.getD i 0)) with
    | true =>
      simp only [cond_true]
      by_cases hg : matchS c (d.getD i 0) > b
      · rw [if_pos hg]
        refine ⟨.inr ⟨hmem, gg⟩, hnn, fun j hj hgj => ?_⟩
        rcases Nat.lt_succ_iff_lt_or_eq.1 hj with hj | rfl
        · have := h4 j hj hgj; omega
        · exact Int.le_refl _
      · rw [if_neg hg]
        refine ⟨h2, h3, fun j hj hgj => ?_⟩
        rcases Nat.lt_succ_iff_lt_or_eq.1 hj with hj | rfl
        · exact h4 j hj hgj
        · omega
    | false =>
      simp only [cond_false]
      refine ⟨h2, h3, fun j hj hgj => ?_⟩
      rcases Nat.lt_succ_iff_lt_or_eq.1 hj with hj | rfl
      · exact h4 j hj hgj
      · rw [gg] at hgj; cases hgj
  · have hi : ¬ ((i : Int) < (d.length : Int)) := by omega
    obtain rfl : i = d.length := by omega
    simp only [hi, decide_false, cond_false]
    refine ⟨_, rfl, ?_⟩
    have hbq : b = q := by
      by_cases h0 : d.length = 0
      · rw [hq'.1 (by omega)]
        rcases h2 with h2 | ⟨h2, _⟩
        · exact h2
        · have : (matches' d c) = [] := List.length_eq_zero_iff.1 (by omega)
          rw [this] at h2; cases h2
      · obtain ⟨q1, q2, q3⟩ := hq'.2 (by omega)
        rw [hML] at q2 q3
        have hle : q ≤ b := by
          obtain ⟨k, hk, rfl⟩ := List.mem_map.1 q1
          obtain ⟨j, hj, rfl⟩ := List.mem_iff_getElem.1 hk
          have := h4 j hj
          rw [getD_lt hj] at this
          exact this (decide_eq_true q2)
        rcases h2 with h2 | ⟨_, h2⟩
        · have : 0 ≤ q := by
            obtain ⟨k, hk, rfl⟩ := List.mem_map.1 q1
            exact matchS_nn c k
          omega
        · have := q3 b (of_decide_eq_true h2); omega
    show ((), b) = ((), q)
    rw [hbq]
end
end
section
section
variable {fu : Nat}
theorem p5_is (a : List Int) (c : List Pe) (ha : a.length * 8 ≤ 140737488355328) (hc : c.length * 24 ≤ 140737488355328) (hn : ∀ p, p ∈ c → 0 ≤ p.2.2) (hf : a.length + c.length + 10 < fu) : p5 fu (a, c, ()) = some ((), true) := by
  obtain ⟨r, h17, hr⟩ := p17_is (fu := fu) a c ha (by omega) hn (by omega) (by omega)
  have h18 := p18_is (fu := fu) a c ha (by omega) (by omega) (by omega) hr
  have hmx : maxLen = 9223372036854775807 := rfl
  have hl : c.length ≤ maxLen ∧ c.length * 24 ≤ 140737488355328 := by omega
  simp only [p5, p10_is (fu := fu) (by omega), bind_val, List.length_nil, List.nil_append, Nat.zero_add, hl, h17, h18, decide_true, cond_true, and_self, beq_self_eq_true, Bool.and_true, Bool.not_true, cond_false]
  refine loop_val (I := fun s : (Int × Unit) × Unit => ∃ i : Nat, s = (((i : Int), ()), ()) ∧ i ≤ c.length) (m := fun s => (c.length - Int.toNat s.1.1)) ⟨0, rfl, Nat.zero_le _⟩ (by simp; omega) fun s hs => ?_
  obtain ⟨i, rfl, h1⟩ := hs
  by_cases h : i < c.length
  · have hi : (i : Int) < (c.length : Int) := by omega
    have h0 : (0 : Int) ≤ (i : Int) := by omega
    simp only [hi, h0, decide_true, cond_true, Int.toNat_natCast, h, and_self, i64_succ h (show c.length ≤ 9223372036854775807 by omega)]
    exact ⟨_, rfl, ⟨i + 1, rfl, h⟩, by simp only [Int.toNat_natCast]; omega⟩
  · have hi : ¬ ((i : Int) < (c.length : Int)) := by omega
    simp only [hi, decide_false, cond_false]
    exact ⟨_, rfl, rfl⟩

theorem p8_is (a : List Int) (c : List Pe) (f h : Int) (ha : a.length * 8 ≤ 140737488355328) (hc : c.length * 24 ≤ 140737488355328) (hn : ∀ p, p ∈ c → 0 ≤ p.2.2) (hh : 0 ≤ h) (hf : a.length + c.length + 10 < fu) : p8 fu (a, c, f, h, ()) = some ((), true) := by
  obtain ⟨r, h17, hr⟩ := p17_is (fu := fu) a c ha (by omega) hn (by omega) (by omega)
  have hmx : maxLen = 9223372036854775807 := rfl
  have hl : c.length ≤ maxLen ∧ c.length * 24 ≤ 140737488355328 := by omega
  simp only [p8, p10_is (fu := fu) (by omega), bind_val, Bool.not_true, cond_false]
  by_cases f0 : f < 0
  · simp only [f0, decide_true, cond_true]
  simp only [f0, decide_false, cond_false]
  by_cases f1 : f ≥ (c.length : Int)
  · simp only [f1, decide_true, cond_true]
  simp only [f1, decide_false, cond_false]
  obtain ⟨i, rfl⟩ : ∃ i : Nat, f = (i : Int) := ⟨f.toNat, by omega⟩
  have hi : i < c.length := by omega
  have g0 : (0 : Int) ≤ (i : Int) ∧ (i : Int) < (c.length : Int) := by omega
  simp only [g0, and_self, decide_true, cond_true, Int.toNat_natCast, hi, List.length_nil, List.nil_append, Nat.zero_add, hl, h17, bind_val]
  by_cases f2 : h < (c.getD i (dflt T_api_Peer) : Pe).2.2
  · have f2' : decide (h < (List.getD c i (dflt T_api_Peer)).2.2) = true := decide_eq_true f2
    simp only [f2', cond_true]
  have f2' : decide (h < (List.getD c i (dflt T_api_Peer)).2.2) = false := decide_eq_false f2
  simp only [f2', cond_false]
  refine (?_ : ∀ v : Pe, v.1 = (c.getD i (dflt T_api_Peer) : Pe).1 → v.2.2 = h → (bif decide (c.length = (c.set i v).length) then
      (p17 fu (a, c.set i v, ())).bind fun x => some ((), decide (x.2 ≥ r)) else none) = some ((), true)) _ rfl rfl
  intro v hv1 hv2
  have hcx : c[i] = (c.getD i (dflt T_api_Peer) : Pe) := (getD_lt hi).symm
  have hset : (c.set i v).length = c.length := List.length_set
  have hnn : ∀ p, p ∈ c.set i v → 0 ≤ p.2.2 := fun p hp => by
    rcases List.mem_or_eq_of_mem_set hp with hp | rfl
    · exact hn p hp
    · rw [hv2]; exact hh
  obtain ⟨r', h17', hr'⟩ := p17_is (fu := fu) a (c.set i v) ha (by omega) hnn (by omega) (by omega)
  have hle : r ≤ r' := by
    refine hr.grow hr' (by simp [matches']) fun y => countP_map_le _ _ _ (fun k => matchS_le fun p hp e => ?_) y
    obtain ⟨j, hj, rfl⟩ := List.mem_iff_getElem.1 hp
    by_cases hji : j = i
    · subst hji
      rw [hcx] at e ⊢
      exact ⟨v, List.mem_set hj _, hv1.trans e, by omega⟩
    · refine ⟨c[j], ?_, e, Int.le_refl _⟩
      have hj' : j < (c.set i v).length := by omega
      have : (c.set i v)[j] = c[j] := List.getElem_set_ne (Ne.symm hji) hj'
      rw [← this]
      exact List.getElem_mem _
  have hd : decide (r' ≥ r) = true := decide_eq_true hle
  simp only [hset, decide_true, cond_true, h17', bind_val, hd]
end
section
variable {fu : Nat}
theorem rev_step {α : Type} [Inhabited α] (a : List α) (j : Nat) (d : α) (h : j < a.length) : (a.drop (j + 1)).reverse ++ [a.getD j d] = (a.drop j).reverse := by
  rw [List.drop_eq_getElem_cons h, List.reverse_cons, getD_lt h]
theorem wrap_pred {j : Nat} (h : j ≤ 9223372036854775807) : IntKind.wrap .i64 ((j : Int) - 1) = (j : Int) - 1 := i64_wrap (by omega) (by omega)
theorem p9_is (a c : List Int) (f : List Pe) (ha : a.length * 8 ≤ 140737488355328) (hc : c.length * 8 ≤ 140737488355328) (hf : f.length * 24 ≤ 140737488355328) (hn : ∀ p, p ∈ f → 0 ≤ p.2.2) (hfu : a.length + c.length + f.length + 10 < fu) : p9 fu (a, c, f, ()) = some ((), true) := by
  have hmx : maxLen = 9223372036854775807 := rfl
  simp only [p9, p10_is (fu := fu) (by omega), bind_val, cond_true]
  refine loop_val (I := fun s : (List Int × Int × Unit) × Unit => ∃ i : Nat, s = (((a.drop i).reverse, (i : Int) - 1, ()), ()) ∧ i ≤ a.length) (m := fun s => Int.toNat (s.1.2.1 + 1)) ⟨a.length, by simp [wrap_pred (show a.length ≤ 9223372036854775807 by omega)], Nat.le_refl _⟩ (by simp only [wrap_pred (show a.length ≤ 9223372036854775807 by omega)]; omega) fun s hs => ?_
  obtain ⟨i, rfl, hi⟩ := hs
  cases i with
  | succ i =>
    have g0 : ((i + 1 : Nat) : Int) - 1 = (i : Int) := by omega
    have g1 : (i : Int) ≥ 0 := by omega
    have g2 : (0 : Int) ≤ (i : Int) ∧ (i : Int) < (a.length : Int) := by omega
    have g3 : i < a.length := by omega
    have hlen : (a.drop (i + 1)).reverse.length = a.length - (i + 1) := by rw [List.length_reverse, List.length_drop]
    have g4 : a.length - (i + 1) + 1 ≤ maxLen ∧ (a.length - (i + 1) + 1) * 8 ≤ 140737488355328 := by omega
    simp only [g0, g1, g2, g3, decide_true, cond_true, and_self, Int.toNat_natCast, hlen, List.length_cons, List.length_nil, Nat.zero_add, g4, wrap_pred (show i ≤ 9223372036854775807 by omega), rev_step a i (dflt (.int .i64)) g3]
    exact ⟨_, rfl, ⟨i, rfl, by omega⟩, by show Int.toNat ((i : Int) - 1 + 1) < Int.toNat ((i : Int) + 1); omega⟩
  | zero =>
    have g1 : ¬ (((0 : Nat) : Int) - 1 ≥ 0) := by omega
    simp only [g1, decide_false, cond_false, List.drop_zero]
    refine ⟨.inr ((), true), ?_, rfl⟩
    refine congrArg (Option.map Sum.inr) (a₂ := some ((), true)) ?_
    refine loop_val (I := fun s : (List Int × Int × Unit) × Unit => ∃ i : Nat, s = (((c.drop i).reverse, (i : Int) - 1, ()), ()) ∧ i ≤ c.length) (m := fun s => Int.toNat (s.1.2.1 + 1)) ⟨c.length, by simp [wrap_pred (show c.length ≤ 9223372036854775807 by omega)], Nat.le_refl _⟩ (by simp only [wrap_pred (show c.length ≤ 9223372036854775807 by omega)]; omega) fun s hs => ?_
    obtain ⟨i, rfl, hi⟩ := hs
    cases i with
    | succ i =>
      have g0 : ((i + 1 : Nat) : Int) - 1 = (i : Int) := by omega
      have g1 : (i : Int) ≥ 0 := by omega
      have g2 : (0 : Int) ≤ (i : Int) ∧ (i : Int) < (c.length : Int) := by omega
      have g3 : i < c.length := by omega
      have hlen : (c.drop (i + 1)).reverse.length = c.length - (i + 1) := by rw [List.length_reverse, List.length_drop]
      have g4 : c.length - (i + 1) + 1 ≤ maxLen ∧ (c.length - (i + 1) + 1) * 8 ≤ 140737488355328 := by omega
      simp only [g0, g1, g2, g3, decide_true, cond_true, and_self, Int.toNat_natCast, hlen, List.length_cons, List.length_nil, Nat.zero_add, g4, wrap_pred (show i ≤ 9223372036854775807 by omega), rev_step c i (dflt (.int .i64)) g3]
      exact ⟨_, rfl, ⟨i, rfl, by omega⟩, by show Int.toNat ((i : Int) - 1 + 1) < Int.toNat ((i : Int) + 1); omega⟩
    | zero =>
      have g1 : ¬ (((0 : Nat) : Int) - 1 ≥ 0) := by omega
      simp only [g1, decide_false, cond_false, List.drop_zero]
      refine ⟨.inr ((), true), ?_, rfl⟩
      refine congrArg (Option.map Sum.inr) (a₂ := some ((), true)) ?_
      refine loop_val (I := fun s : (List Pe × Int × Unit) × Unit => ∃ i : Nat, s = (((f.drop i).reverse, (i : Int) - 1, ()), ()) ∧ i ≤ f.length) (m := fun s => Int.toNat (s.1.2.1 + 1)) ⟨f.length, by simp [wrap_pred (show f.length ≤ 9223372036854775807 by omega)], Nat.le_refl _⟩ (by simp only [wrap_pred (show f.length ≤ 9223372036854775807 by omega)]; omega) fun s hs => ?_
      obtain ⟨i, rfl, hi⟩ := hs
      cases i with
      | succ i =>
        have g0 : ((i + 1 : Nat) : Int) - 1 = (i : Int) := by omega
        have g1 : (i : Int) ≥ 0 := by omega
        have g2 : (0 : Int) ≤ (i : Int) ∧ (i : Int) < (f.length : Int) := by omega
        have g3 : i < f.length := by omega
        have hlen : (f.drop (i + 1)).reverse.length = f.length - (i + 1) := by rw [List.length_reverse, List.length_drop]
        have g4 : f.length - (i + 1) + 1 ≤ maxLen ∧ (f.length - (i + 1) + 1) * 24 ≤ 140737488355328 := by omega
        simp only [g0, g1, g2, g3, decide_true, cond_true, and_self, Int.toNat_natCast, hlen, List.length_cons, List.length_nil, Nat.zero_add, g4, wrap_pred (show i ≤ 9223372036854775807 by omega)]
        exact ⟨_, rfl, ⟨i, by rw [← rev_step f i (dflt T_api_Peer) g3], by omega⟩, by show Int.toNat ((i : Int) - 1 + 1) < Int.toNat ((i : Int) + 1); omega⟩
      | zero =>
        have g1 : ¬ (((0 : Nat) : Int) - 1 ≥ 0) := by omega
        have hav : ∀ x, x ∈ a.reverse ↔ x ∈ a := fun x => List.mem_reverse
        have hD : Dist (distI a.reverse) a := ⟨(distI_dist a.reverse).1, fun x => ((distI_dist a.reverse).2 x).trans (hav x)⟩
        have hP := hD.perm (distI_dist a)
        obtain ⟨r, e1, hr⟩ := p17_is (fu := fu) a f ha (by omega) hn (by omega) (by omega)
        obtain ⟨r', e2, hr'⟩ := p17_is (fu := fu) a.reverse f.reverse (by rw [List.length_reverse]; exact ha) (by rw [List.length_reverse]; omega) (fun p hp => hn p (List.mem_reverse.1 hp)) (by rw [List.length_reverse]; omega) (by rw [List.length_reverse]; omega)
        have hrr : r' = r := hr'.unique hr (matches_perm hP fun p => List.mem_reverse)
        subst hrr
        have e3 := p11_is (fu := fu) a c ha (by omega) (by omega) (by omega)
        have e4 := p11_is (fu := fu) a.reverse c.reverse (by rw [List.length_reverse]; exact ha) (by rw [List.length_reverse]; omega) (by rw [List.length_reverse]; omega) (by rw [List.length_reverse]; omega)
        have hcc : c.reverse.contains = c.contains := funext fun x => by simp
        rw [majS_perm hP, hcc] at e4
        simp only [g1, decide_false, cond_false, List.drop_zero, decide_true, cond_true, e1, e2, e3, e4, bind_val, beq_self_eq_true]
        exact ⟨_, rfl, rfl⟩
end
end
end Go.Proofs.Ytlglifgnklngfaa
