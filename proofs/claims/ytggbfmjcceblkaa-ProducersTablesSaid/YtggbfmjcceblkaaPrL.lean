/-
  Layer 15: the document's own way of moving and joining is ours.
-/
import Derived.Test.YtggbfmjcceblkaaPrJ
namespace Go.Proofs.Ytggbfmjcceblkaa
open Go.RowKit
variable {fu : Nat}
theorem p37_is (x : Pr) (to : List Int) (h0 : 0 ≤ x.2.2.2) (hl : to.length ≤ 9223372036854775807) :
    p37 fu ((x.1, x.2.1, x.2.2.1, x.2.2.2, ()), to, ()) = some ((), ((mv to x).1, (mv to x).2.1, (mv to x).2.2.1, (mv to x).2.2.2, ())) := by
  obtain ⟨a, b, c, d⟩ := x
  simp only at h0
  simp only [p37, mv]
  cases c with
  | false => simp [orK]
  | true =>
    simp only [cond_true, true_and]
    by_cases h1 : (to.length : Int) > 0
    · have e1 : IntKind.wrap .u64 (IntKind.wrap .i64 ((to.length : Int) - 1)) = (to.length : Int) - 1 := by rw [i64_wrap (by omega) (by omega), u64_wrap (by omega) (by omega)]
      simp only [h1, decide_true, cond_true, e1]
      by_cases h2 : d < (to.length : Int) - 1
      · have e2 : IntKind.wrap .i64 d = d := i64_wrap (by omega) (by omega)
        have e3 : IntKind.wrap .i64 (d + 1) = d + 1 := i64_wrap (by omega) (by omega)
        have k1 : 0 ≤ d + 1 ∧ d + 1 < (to.length : Int) := by omega
        have k2 : (d + 1).toNat < to.length := by omega
        have k3 : 0 ≤ d ∧ d < (to.length : Int) := by omega
        have k4 : d.toNat < to.length := by omega
        have es : standsB d to = decide (to.getD d.toNat (dflt (.int .u64)) < to.getD (d + 1).toNat (dflt (.int .u64))) := by
          unfold standsB; simp [k1.2]
        simp only [h2, e2, e3, k1, k2, k3, k4, decide_true, cond_true, and_self, orK_inl, es, gt_iff_lt, decide_eq_true_eq]
        by_cases h3 : to.getD d.toNat (dflt (.int .u64)) < to.getD (d + 1).toNat (dflt (.int .u64))
        · simp only [h3, decide_true, cond_true, if_true]
        · simp only [h3, decide_false, cond_false, if_false]
      · have es : standsB d to = false := by
          unfold standsB
          have : ¬ (d + 1 < (to.length : Int)) := by omega
          simp [this]
        simp [h2, es, orK]
    · have es : standsB d to = false := by
        unfold standsB
        have : ¬ (d + 1 < (to.length : Int)) := by omega
        simp [this]
      simp only [h1, es, decide_false, cond_false, orK_inl, Bool.false_eq_true, if_false]
theorem p23_is (l : List Pr) (to : List Int) (h0 : ∀ x ∈ l, 0 ≤ x.2.2.2) (hl : l.length * 32 ≤ 140737488351232) (ht : to.length ≤ 9223372036854775807) (hf : l.length < fu) :
    p23 fu (l, to, ()) = some ((), l.map (mv to)) := by
  unfold p23
  refine loopO_eq (I := fun s => ∃ i : Nat, s = (((l.take i).map (mv to), (i : Int), ()), ()) ∧ i ≤ l.length) (m := fun s => l.length - s.1.2.1.toNat) (g := fun _ => ((), l.map (mv to))) ?_ fu _ ⟨0, by simp, Nat.zero_le _⟩ (by simpa using hf)
  rintro s ⟨i, rfl, h1⟩
  by_cases hi : i < l.length
  · left
    have hx : 0 ≤ (l.getD i (dflt T_api_Producer)).2.2.2 := by rw [getD_lt hi]; exact h0 _ (List.getElem_mem _)
    have e37 := p37_is (fu := fu) (l.getD i (dflt T_api_Producer)) to hx ht
    have hb : (((l.take i).map (mv to)).length + [mv to (l.getD i (dflt T_api_Producer))].length ≤ maxLen ∧ (((l.take i).map (mv to)).length + [mv to (l.getD i (dflt T_api_Producer))].length) * 32 ≤ 140737488355328) := by
      simp only [List.length_map, List.length_take, List.length_singleton]
      exact ⟨by show _ ≤ 9223372036854775807; omega, by omega⟩
    refine ⟨(((l.take (i + 1)).map (mv to), ((i + 1 : Nat) : Int), ()), ()), ?_, ⟨i + 1, rfl, hi⟩, by simp only [Int.toNat_natCast]; omega, rfl⟩
    rw [take_snoc' hi (dflt T_api_Producer), List.map_append]
    simp only [Int.ofNat_lt, hi, decide_true, cond_true, Int.natCast_nonneg, true_and, Int.toNat_natCast, e37, bind_val, i64_succ hi (by omega), hb, List.map_cons, List.map_nil]
  · right
    obtain rfl : i = l.length := by omega
    simp [inrO]
/-- Two tables that find the same are the same. -/
theorem sp_ext : ∀ {a b : List Pr}, SP a → SP b → (∀ id, find a id = find b id) → a = b
  | [], [], _, _, _ => rfl
  | [], y :: b, _, _, h => by have := h y.1; rw [find_cons, if_pos rfl] at this; cases this
  | x :: a, [], _, _, h => by have := h x.1; rw [find_cons, if_pos rfl] at this; cases this
  | x :: a, y :: b, ha, hb, h => by
    obtain ⟨a1, a2⟩ := sp_cons.1 ha
    obtain ⟨b1, b2⟩ := sp_cons.1 hb
    have e : x = y := by
      rcases Int.lt_trichotomy x.1 y.1 with hl | he | hg
      · have := h x.1
        rw [find_cons, if_pos rfl, find_none (l := y :: b) (fun z hz => by
          rcases List.mem_cons.1 hz with rfl | hz
          · exact hl
          · have := b1 z hz; omega)] at this
        cases this
      · have := h x.1
        rw [find_cons, if_pos rfl, find_cons, if_pos he.symm] at this
        exact Option.some.inj this
      · have := h y.1
        rw [find_cons y, if_pos rfl, find_none (l := x :: a) (fun z hz => by
          rcases List.mem_cons.1 hz with rfl | hz
          · exact hg
          · have := a1 z hz; omega)] at this
        cases this
    subst e
    have : a = b := sp_ext a2 b2 fun id => by
      by_cases hi : x.1 = id
      · rw [← hi, find_none a1, find_none b1]
      · have := h id
        rw [find_cons, find_cons, if_neg hi, if_neg hi] at this
        exact this
    rw [this]
/-- What is put ahead stands ahead. -/
theorem ins_app {x : Pr} (r : List Pr) : ∀ {l : List Pr}, (∀ z ∈ l, z.1 < x.1) → ins (l ++ r) x = l ++ ins r x
  | [], _ => rfl
  | y :: l, h => by
    rw [List.cons_append, ins_cons, if_pos (h y List.mem_cons_self), ins_app r fun z hz => h z (List.mem_cons_of_mem _ hz)]; rfl
theorem ins_more {x y : Pr} (hy : y.1 > x.1) : ∀ {l : List Pr}, SP (l ++ [y]) → (∃ z ∈ l, z.1 ≥ x.1) → ins (l ++ [y]) x = ins l x ++ [y]
  | [], _, ⟨z, hz, _⟩ => by cases hz
  | w :: l, h, ⟨z, hz, hzx⟩ => by
    rw [List.cons_append, ins_cons, ins_cons]
    by_cases c1 : w.1 < x.1
    · rw [if_pos c1, if_pos c1, ins_more hy (sp_cons.1 h).2 (by
        rcases List.mem_cons.1 hz with rfl | hz
        · omega
        · exact ⟨z, hz, hzx⟩)]; rfl
    · rw [if_neg c1, if_neg c1]
      split <;> rfl
theorem p35_is (l : List Pr) (id : Int) (hl : l.length ≤ 9223372036854775806) (hf : l.length < fu) :
    p35 fu (l, id, ()) = some ((), if findI l id < l.length then ((findI l id : Nat) : Int) else -1) := by
  unfold p35
  refine loopO_eq (I := fun s => ∃ i : Nat, s = (((i : Int), ()), ()) ∧ i ≤ l.length ∧ i ≤ findI l id) (m := fun s => l.length - s.1.1.toNat)
    (g := fun _ => ((), if findI l id < l.length then ((findI l id : Nat) : Int) else -1)) ?_ fu _ ⟨0, rfl, Nat.zero_le _, Nat.zero_le _⟩ (by simpa using hf)
  rintro s ⟨i, rfl, h1, h2⟩
  by_cases hi : i < l.length
  · cases hx : (l[i].1 == id) with
    | true =>
      right
      have e := findI_eq h2 hi hx
      simp [hi, inrO, hx, e]
    | false =>
      left
      refine ⟨((((i + 1 : Nat) : Int), ()), ()), ?_, ⟨i + 1, rfl, hi, findI_lt h2 hi hx⟩, ?_, rfl⟩
      · simp [hi, hx, i64_succ hi (by omega)]
      · simp; omega
  · right
    have e : i = l.length := by omega
    have e2 : findI l id = l.length := by have := findI_le l id; omega
    subst e
    simp [inrO, e2]
theorem p36_is (l : List Pr) (x : Pr) (hs : SP l) (hl : (l.length + 1) * 32 ≤ 140737488351232) (hf : l.length < fu) : p36 fu (l, (x.1, x.2.1, x.2.2.1, x.2.2.2, ()), ()) = some ((), ins l x) := by
  unfold p36
  refine loopO_eq (I := fun s => ∃ (i : Nat) (v : List Pr) (b : Bool), s = ((v, b, (i : Int), ()), ()) ∧ i ≤ l.length ∧ ((b = false ∧ v = l.take i ∧ ∀ z ∈ l.take i, z.1 < x.1) ∨ (b = true ∧ v = ins (l.take i) x ∧ ∃ z ∈ l.take i, z.1 ≥ x.1)))
    (m := fun s => l.length - s.1.2.2.1.toNat) (g := fun _ => ((), ins l x)) ?_ fu _ ⟨0, [], false, rfl, Nat.zero_le _, .inl ⟨rfl, by simp, by simp⟩⟩ (by simpa using hf)
  rintro s ⟨i, v, b, rfl, h1, h2⟩
  by_cases hi : i < l.length
  · left
    have ht := take_snoc' hi (dflt T_api_Producer)
    have hsp : SP (l.take i ++ [l.getD i (dflt T_api_Producer)]) := by rw [← ht]; exact List.Pairwise.sublist (List.take_sublist _ _) hs
    generalize hy : l.getD i (dflt T_api_Producer) = y at ht hsp
    have hlt : (l.take i).length = i := by rw [List.length_take]; omega
    have hc : ∀ n : Nat, n ≤ i + 1 → (n + 1 ≤ maxLen ∧ (n + 1) * 32 ≤ 140737488355328) := fun n hn => ⟨by show _ ≤ 9223372036854775807; omega, by omega⟩
    have ws := i64_succ hi (show l.length ≤ 9223372036854775807 by omega)
    rcases h2 with ⟨rfl, rfl, h3⟩ | ⟨rfl, rfl, z, hz, h3⟩
    · by_cases c1 : y.1 ≥ x.1
      · by_cases c2 : y.1 = x.1
        · have b1 : (x.1 != x.1) = false := by simp
          have b2 : (y.1 != x.1) = false := by simpa using c2
          refine ⟨((l.take i ++ [x], true, ((i + 1 : Nat) : Int), ()), ()), ?_, ⟨i + 1, _, true, rfl, hi, .inr ⟨rfl, ?_, y, by rw [ht]; simp, c1⟩⟩, by simp only [Int.toNat_natCast]; omega, rfl⟩
          · simp only [Int.ofNat_lt, hi, hy, decide_true, decide_false, cond_true, cond_false, Int.natCast_nonneg, true_and, and_self, Int.toNat_natCast, Bool.not_false, Bool.not_true, orK_inl, List.length_append, List.length_singleton, c1, b1, b2, hlt, hc i (by omega), ws]
          · rw [ht, ins_app _ h3, ins_cons, if_neg (by omega), if_neg (by omega)]
        · have b2 : (y.1 != x.1) = true := by simpa using c2
          refine ⟨((l.take i ++ [x] ++ [y], true, ((i + 1 : Nat) : Int), ()), ()), ?_, ⟨i + 1, _, true, rfl, hi, .inr ⟨rfl, ?_, y, by rw [ht]; simp, c1⟩⟩, by simp only [Int.toNat_natCast]; omega, rfl⟩
          · simp only [Int.ofNat_lt, hi, hy, decide_true, decide_false, cond_true, cond_false, Int.natCast_nonneg, true_and, and_self, Int.toNat_natCast, Bool.not_false, Bool.not_true, orK_inl, List.length_append, List.length_singleton, c1, b2, hlt, hc i (by omega), hc (i + 1) (by omega), ws]
          · rw [ht, ins_app _ h3, ins_cons, if_neg (by omega), if_pos (by omega)]; simp
      · have c2 : ¬ y.1 = x.1 := by omega
        have b2 : (y.1 != x.1) = true := by simpa using c2
        refine ⟨((l.take i ++ [y], false, ((i + 1 : Nat) : Int), ()), ()), ?_, ⟨i + 1, _, false, rfl, hi, .inl ⟨rfl, ht.symm, fun z hz => ?_⟩⟩, by simp only [Int.toNat_natCast]; omega, rfl⟩
        · simp only [Int.ofNat_lt, hi, hy, decide_true, decide_false, cond_true, cond_false, Int.natCast_nonneg, true_and, and_self, Int.toNat_natCast, Bool.not_false, Bool.not_true, orK_inl, List.length_append, List.length_singleton, c1, b2, hlt, hc i (by omega), ws]
        · rw [ht] at hz
          rcases List.mem_append.1 hz with hz | hz
          · exact h3 z hz
          · have : z = y := by simpa using hz
            subst this; omega
    · have hzy : z.1 < y.1 := (List.pairwise_append.1 hsp).2.2 z hz y (by simp)
      have c1 : y.1 ≥ x.1 := by omega
      have c2 : ¬ y.1 = x.1 := by omega
      have b2 : (y.1 != x.1) = true := by simpa using c2
      have hil := ins_len x (l.take i)
      rw [hlt] at hil
      refine ⟨((ins (l.take i) x ++ [y], true, ((i + 1 : Nat) : Int), ()), ()), ?_, ⟨i + 1, _, true, rfl, hi, .inr ⟨rfl, ?_, z, by rw [ht]; simp [hz], h3⟩⟩, by simp only [Int.toNat_natCast]; omega, rfl⟩
      · simp only [Int.ofNat_lt, hi, hy, decide_true, decide_false, cond_true, cond_false, Int.natCast_nonneg, true_and, and_self, Int.toNat_natCast, Bool.not_false, Bool.not_true, orK_inl, List.length_append, List.length_singleton, c1, b2, hc (ins (l.take i) x).length (by omega), ws]
      · rw [ht, ins_more (by omega) hsp ⟨z, hz, h3⟩]
  · right
    obtain rfl : i = l.length := by omega
    rw [List.take_length] at h2
    have hc : (l.length + 1 ≤ maxLen ∧ (l.length + 1) * 32 ≤ 140737488355328) := ⟨by show _ ≤ 9223372036854775807; omega, by omega⟩
    rcases h2 with ⟨rfl, rfl, h3⟩ | ⟨rfl, rfl, _⟩
    · have := ins_app (x := x) [] h3
      rw [List.append_nil, ins_nil] at this
      simp [inrO, hc, this]
    · simp [inrO]
end Go.Proofs.Ytggbfmjcceblkaa
