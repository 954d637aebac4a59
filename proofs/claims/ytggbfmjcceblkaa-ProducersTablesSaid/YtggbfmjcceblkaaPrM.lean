/-
  Layer 15: the document's own tables, judgements and joins are ours.
-/
import Derived.Test.YtggbfmjcceblkaaPrL
namespace Go.Proofs.Ytggbfmjcceblkaa
open Go.RowKit
variable {fu : Nat}
theorem p17_is (l : List Pr) (hl : l.length ≤ 9223372036854775806) (hf : l.length < fu) : p17 fu (l, ()) = some ((), tabI l) := by
  unfold p17
  by_cases h256 : (l.length : Int) > 256
  · have : tabI l = false := by
      unfold tabI
      have : decide (l.length ≤ 256) = false := by simpa using (show 256 < l.length by omega)
      rw [this, Bool.and_false]
    simp only [h256, decide_true, cond_true, this]
  · simp only [h256, decide_false, cond_false]
    refine loopO_eq (I := fun s => ∃ i : Nat, s = (((i : Int), ()), ()) ∧ i ≤ l.length ∧ ∀ j, j < i → rowOK l j = true) (m := fun s => l.length - s.1.1.toNat)
      (g := fun _ => ((), tabI l)) ?_ fu _ ⟨0, rfl, Nat.zero_le _, fun j hj => absurd hj (Nat.not_lt_zero _)⟩ (by simpa using hf)
    rintro s ⟨i, rfl, h1, h2⟩
    by_cases hi : i < l.length
    · have hi' : (i : Int) < (l.length : Int) := by omega
      simp only [hi', decide_true, cond_true, Int.natCast_nonneg, true_and, Int.toNat_natCast, hi, and_self]
      have hrow : rowOK l i = ((i == 0 || decide ((l.getD (i - 1) (dflt T_api_Producer)).1 < (l.getD i (dflt T_api_Producer)).1)) && okP (l.getD i (dflt T_api_Producer))) := rfl
      have bad : rowOK l i = false → ((), tabI l) = ((), false) := fun h => by rw [tabI_no hi h]
      have good : rowOK l i = true → (∃ s' : ((Int × Unit) × Unit), (some (.inl ((IntKind.wrap .i64 ((i : Int) + (1 : Int)), ()), ())) : Option (((Int × Unit) × Unit) ⊕ (Unit × Bool))) = some (.inl s') ∧
          (∃ i : Nat, s' = (((i : Int), ()), ()) ∧ i ≤ l.length ∧ ∀ j, j < i → rowOK l j = true) ∧ l.length - s'.1.1.toNat < l.length - i ∧ True) := fun h =>
        ⟨((((i + 1 : Nat) : Int), ()), ()), by rw [i64_succ hi (by omega)], ⟨i + 1, rfl, hi, fun j hj => by
          rcases Nat.lt_succ_iff_lt_or_eq.1 hj with h' | rfl
          · exact h2 j h'
          · exact h⟩, by simp; omega, trivial⟩
      -- what stands ahead of it
      have hahead : ∃ bb : Bool, (i == 0 || decide ((l.getD (i - 1) (dflt T_api_Producer)).1 < (l.getD i (dflt T_api_Producer)).1)) = bb ∧ ∀ (X Y : Option (((Int × Unit) × Unit) ⊕ (Unit × Bool))), (bif decide ((i : Int) > (0 : Int)) then
              bif decide ((0 : Int) ≤ IntKind.wrap .i64 ((i : Int) - (1 : Int)) ∧ IntKind.wrap .i64 ((i : Int) - (1 : Int)) < (List.length l : Int)) then
               bif decide (Int.toNat (IntKind.wrap .i64 ((i : Int) - (1 : Int))) < List.length l) then
                  bif decide (((List.getD l (Int.toNat (IntKind.wrap .i64 ((i : Int) - (1 : Int)))) (dflt T_api_Producer)).1) ≥ (List.getD l i (dflt T_api_Producer)).1) then X else Y
               else none
              else none
             else Y) = bif bb then Y else X := by
        by_cases h0 : i = 0
        · subst h0; exact ⟨true, rfl, fun X Y => by simp⟩
        · have hpos : (i : Int) > 0 := by omega
          have hlt : i - 1 < l.length := by omega
          have hlt' : ((i - 1 : Nat) : Int) < (l.length : Int) := by omega
          have hw : IntKind.wrap .i64 ((i : Int) - (1 : Int)) = ((i - 1 : Nat) : Int) := i64_pred (by omega) (by omega)
          have h0' : (i == 0) = false := by simpa using h0
          refine ⟨decide ((l.getD (i - 1) (dflt T_api_Producer)).1 < (l.getD i (dflt T_api_Producer)).1), by rw [h0', Bool.false_or], fun X Y => ?_⟩
          simp only [hpos, decide_true, cond_true, hw, Int.natCast_nonneg, hlt', true_and, and_self, Int.toNat_natCast, hlt]
          by_cases hlt2 : (l.getD (i - 1) (dflt T_api_Producer)).1 < (l.getD i (dflt T_api_Producer)).1
          · have hn : ¬ (l.getD (i - 1) (dflt T_api_Producer)).1 ≥ (l.getD i (dflt T_api_Producer)).1 := by omega
            simp only [hn, hlt2, decide_true, decide_false, cond_true, cond_false]
          · have hn : (l.getD (i - 1) (dflt T_api_Producer)).1 ≥ (l.getD i (dflt T_api_Producer)).1 := by omega
            simp only [hn, hlt2, decide_true, decide_false, cond_true, cond_false]
      obtain ⟨bb, hbb, hah⟩ := hahead
      rw [hbb] at hrow
      simp only [hah]
      clear hah hbb
      obtain ⟨x, hx⟩ : ∃ x, l.getD i (dflt T_api_Producer) = x := ⟨_, rfl⟩
      simp only [hx] at hrow ⊢
      clear hx
      obtain ⟨x1, x2, x3, x4⟩ := x
      simp only [okP, seqB] at hrow
      simp only
      by_cases hz : x1 = 0
      · right; rw [bad (by rw [hrow]; simp [hz])]; simp [hz, inrO]
      · have hz' : (x1 == (0 : Int)) = false := by simpa using hz
        simp only [hz', cond_false]
        by_cases hs1 : x2 < 1
        · right
          have : decide (1 ≤ x2) = false := by simpa using hs1
          rw [bad (by rw [hrow, this]; simp)]; simp [hs1, inrO]
        · have hs1' : decide (1 ≤ x2) = true := by simpa using (show 1 ≤ x2 by omega)
          simp only [hs1, decide_false, cond_false]
          by_cases hs2 : x2 > 9223372036854775807
          · right
            have : decide (x2 ≤ 9223372036854775807) = false := by simpa using hs2
            rw [bad (by rw [hrow, this]; simp)]; simp [hs2, inrO]
          · have hs2' : decide (x2 ≤ 9223372036854775807) = true := by simpa using (show x2 ≤ 9223372036854775807 by omega)
            simp only [hs2, decide_false, cond_false]
            cases bb with
            | false =>
              right; rw [bad (by rw [hrow]; rfl)]
              cases x3 with
              | true => simp [inrO]
              | false =>
                by_cases h4 : x4 = 0
                · simp [h4, inrO]
                · have h4' : (x4 != (0 : Int)) = true := by simpa using h4
                  simp [h4', inrO]
            | true =>
              cases x3 with
              | true =>
                left
                simp only [Bool.not_true, cond_false, cond_true]
                exact good (by rw [hrow]; simp [hz, hs1', hs2'])
              | false =>
                by_cases h4 : x4 = 0
                · subst h4
                  left
                  simp only [Bool.not_false, cond_true, bne_self_eq_false, cond_false]
                  exact good (by rw [hrow]; simp [hz, hs1', hs2'])
                · right; rw [bad (by rw [hrow]; simp [h4])]
                  have h4' : (x4 != (0 : Int)) = true := by simpa using h4
                  simp [h4', inrO]
    · right
      have e : i = l.length := by omega
      subst e
      have : (List.range l.length).all (rowOK l) = true := List.all_eq_true.2 fun j hj => h2 j (List.mem_range.1 hj)
      simp [inrO, tabI, this]
      omega
theorem p18_is (l : List Pr) (id seq : Int) (hl : l.length ≤ 9223372036854775806) (hf : l.length < fu) : p18 fu (l, id, seq, ()) = some ((), ((judge l id seq).1, (judge l id seq).2, ())) := by
  unfold p18 judge
  by_cases h0 : id = 0
  · simp [h0]
  · simp only [h0, if_false, show (id == (0 : Int)) = false by simpa using h0, cond_false]
    by_cases hs1 : seq < 1
    · have : seqB seq = false := by unfold seqB; simp; omega
      simp [hs1, this]
    · by_cases hs2 : seq > 9223372036854775807
      · have : seqB seq = false := by unfold seqB; simp; omega
        simp [hs1, hs2, this]
      · have hs : seqB seq = true := by unfold seqB; simp; omega
        simp only [hs1, hs2, decide_false, cond_false, hs, Bool.true_eq_false, if_false, p35_is l id hl hf, bind_val, find_is l id (dflt T_api_Producer)]
        by_cases hk : findI l id < l.length
        · have hk' : ((findI l id : Nat) : Int) < (l.length : Int) := by omega
          have hneg : ¬ ((findI l id : Nat) : Int) < 0 := by omega
          simp only [hk, if_true, hneg, decide_false, cond_false, Int.natCast_nonneg, hk', true_and, and_self, decide_true, cond_true, Int.toNat_natCast, orK_inl]
          generalize l.getD (findI l id) (dflt T_api_Producer) = x
          obtain ⟨a, b, c, d⟩ := x
          simp only
          by_cases h1 : seq > b
          · simp [h1]
          · by_cases h2 : seq = b
            · cases c <;> simp [h2, orK]
            · have h3 : (seq == b) = false := by simpa using h2
              simp [h1, h2, h3, orK]
        · simp [hk, orK]
/-- A table that has not room for one more. -/
theorem ins_full {l : List Pr} {x : Pr} (h : ∀ z ∈ l, z.1 ≠ x.1) : (ins l x).length = l.length + 1 := by
  induction l with
  | nil => rw [ins_nil]; rfl
  | cons y l ih =>
    have hy := h y List.mem_cons_self
    rw [ins_cons]
    split
    · simp only [List.length_cons, ih fun z hz => h z (List.mem_cons_of_mem _ hz)]
    · rw [if_pos (by omega)]; simp
theorem ins_same {l : List Pr} {x : Pr} (hs : SP l) (h : ∃ z ∈ l, z.1 = x.1) : (ins l x).length = l.length := by
  induction l with
  | nil => obtain ⟨z, hz, _⟩ := h; cases hz
  | cons y l ih =>
    obtain ⟨s1, s2⟩ := sp_cons.1 hs
    rw [ins_cons]
    by_cases c1 : y.1 < x.1
    · rw [if_pos c1]
      obtain ⟨z, hz, e⟩ := h
      rcases List.mem_cons.1 hz with rfl | hz
      · omega
      · simp only [List.length_cons, ih s2 ⟨z, hz, e⟩]
    · rw [if_neg c1]
      by_cases c2 : y.1 > x.1
      · obtain ⟨z, hz, e⟩ := h
        rcases List.mem_cons.1 hz with rfl | hz
        · omega
        · have := s1 z hz; omega
      · rw [if_neg c2]; rfl
theorem findI_there {l : List Pr} {id : Int} (h : findI l id < l.length) : ∃ z ∈ l, z.1 = id := by
  have : (l[findI l id].1 == id) = true := List.findIdx_getElem (p := fun x : Pr => x.1 == id) (xs := l) (w := h)
  exact ⟨l[findI l id], List.getElem_mem _, beq_iff_eq.1 this⟩
theorem findI_not {l : List Pr} {id : Int} (h : ¬ findI l id < l.length) : ∀ z ∈ l, z.1 ≠ id := fun z hz e => by
  have : findI l id < l.length := List.findIdx_lt_length_of_exists ⟨z, hz, by simpa using e⟩
  exact h this
theorem p19_is (l : List Pr) (id seq off : Int) (hl : l.length ≤ 9223372036854775806) (hf : l.length < fu) : p19 fu (l, id, seq, off, ()) = some ((), ((putS l (id, seq, true, off)).1, (putS l (id, seq, true, off)).2, ())) := by
  unfold p19 putS
  simp only [p17_is (fu := fu) l hl hf, p18_is (fu := fu) l id seq hl hf, bind_val]
  cases ht : tabI l with
  | false => simp [inrO, orK]
  | true =>
    obtain ⟨_, hsp, h256⟩ := (tab_iff l).1 ht
    simp only [Bool.not_true, cond_false, Bool.true_eq_false, if_false]
    by_cases h4 : (judge l id seq).1 = 4
    · simp [h4, inrO, orK]
    · have e4 : ((judge l id seq).1 == (4 : Int)) = false := by simpa using h4
      simp only [e4, cond_false, h4, if_false]
      by_cases h1 : (judge l id seq).1 = 1
      · have e1 : ((judge l id seq).1 != (1 : Int)) = false := by simp [h1]
        have n2 : ¬ (judge l id seq).1 = 2 := by omega
        have n3 : ¬ (judge l id seq).1 = 3 := by omega
        simp only [e1, cond_false, n2, n3, if_false]
        have h36 := p36_is (fu := fu) l (id, seq, true, off) hsp (by omega) hf
        simp only at h36
        have hdone : (ins l (id, seq, true, off)).length ≤ 256 → (orK (E := Unit × Unit) (some (.inl ((), ()))) fun _ =>
            Option.bind (p36 fu (l, (id, seq, true, off, ()), ())) fun x => some ((), (x.2, (0 : Int), ()))) =
            some ((), ((if (ins l (id, seq, true, off)).length > 256 then (([] : List Pr), (153 : Int)) else (ins l (id, seq, true, off), 0)).1, (if (ins l (id, seq, true, off)).length > 256 then (([] : List Pr), (153 : Int)) else (ins l (id, seq, true, off), 0)).2, ())) := fun h => by
          have : ¬ (ins l (id, seq, true, off)).length > 256 := by omega
          simp [orK, h36, this]
        by_cases hf2 : (l.length : Int) ≥ 256
        · simp only [hf2, decide_true, cond_true, p35_is (fu := fu) l id hl hf, bind_val]
          by_cases hk : findI l id < l.length
          · have hneg : ¬ ((findI l id : Nat) : Int) < 0 := by omega
            simp only [hk, if_true, hneg, decide_false, cond_false]
            try simp only [decide_true, cond_true]
            exact hdone (by rw [ins_same hsp (findI_there hk)]; exact h256)
          · have hlen := ins_full (x := (id, seq, true, off)) (findI_not hk)
            have : (ins l (id, seq, true, off)).length > 256 := by omega
            simp [hk, orK, inrO, this]
        · simp only [hf2, decide_false, cond_false]
          try simp only [decide_true, cond_true]
          refine hdone ?_
          have := ins_len (id, seq, true, off) l
          omega
      · have e1 : ((judge l id seq).1 != (1 : Int)) = true := by simpa using h1
        simp only [e1, cond_true]
        have : (judge l id seq).1 = 2 ∨ (judge l id seq).1 = 3 := by
          rcases judge_cases l id seq with ⟨h, _⟩ | ⟨_, _, ⟨h, _⟩ | ⟨y, _, h, _⟩ | ⟨y, _, h, _⟩ | ⟨y, _, h⟩⟩
          · rw [h] at h4; exact absurd rfl h4
          · rw [h] at h1; exact absurd rfl h1
          · rw [h] at h1; exact absurd rfl h1
          · exact .inl (by rw [h])
          · exact .inr (by rw [h])
        rcases this with h2 | h3
        · simp [h2, inrO, orK]
        · simp [h3, inrO, orK]
theorem ins_long (id : Int) (u v : Int × Bool × Int) : ∀ l : List Pr, (ins l (id, u)).length = (ins l (id, v)).length
  | [] => by rw [ins_nil, ins_nil]; rfl
  | y :: l => by
    rw [ins_cons, ins_cons]
    simp only
    split
    · simp only [List.length_cons, ins_long id u v l]
    · split <;> rfl
theorem p20_is (l : List Pr) (id seq : Int) (hl : l.length ≤ 9223372036854775806) (hf : l.length + 1 < fu) : p20 fu (l, id, seq, ()) = some ((), ((putS l (id, seq, false, 0)).1, (putS l (id, seq, false, 0)).2, ())) := by
  unfold p20
  have := p27_is (fu := fu) l (id, seq, false, 0) hl hf
  simp only at this
  simp only [this, bind_val, decide_true, cond_true]
theorem p21_is (l : List Pr) (id seq : Int) (hl : l.length ≤ 9223372036854775806) (hf : l.length + 1 < fu) : p21 fu (l, id, seq, ()) = some ((), ((putS l (id, seq, false, 0)).1, (putS l (id, seq, false, 0)).2, ())) := by
  unfold p21
  simp only [p19_is (fu := fu) l id seq 0 hl (by omega), bind_val]
  have e : putS l (id, seq, false, 0) = if (putS l (id, seq, true, 0)).2 = 0 then (ins l (id, seq, false, 0), 0) else ([], (putS l (id, seq, true, 0)).2) := by
    unfold putS
    simp only [ins_long id (seq, true, 0) (seq, false, 0) l]
    repeat' split
    all_goals first | rfl | simp_all
  by_cases h : (putS l (id, seq, true, 0)).2 = 0
  · have b : ((putS l (id, seq, true, 0)).2 != 0) = false := by simp [h]
    have hsp : SP l ∧ l.length ≤ 256 := by
      cases ht : tabI l with
      | false => unfold putS at h; simp [ht] at h
      | true => exact ((tab_iff l).1 ht).2
    have h36 := p36_is (fu := fu) l (id, seq, false, 0) hsp.1 (by omega) (by omega)
    simp only at h36
    rw [e, if_pos h]
    simp only [b, cond_false, h36, bind_val, decide_true, cond_true]
  · have b : ((putS l (id, seq, true, 0)).2 != 0) = true := by simpa using h
    rw [e, if_neg h]
    simp only [b, cond_true]
/-- One row of the other table. -/
def stepB (l : List Pr) (y : Pr) : List Pr := match find l y.1 with
  | none => ins l y
  | some x => if y.2.1 > x.2.1 ∨ (y.2.1 = x.2.1 ∧ y.2.2.1 = true ∧ x.2.2.1 = false) then ins l y else l
theorem stepB_sp {l : List Pr} {y : Pr} (h : SP l) : SP (stepB l y) := by
  unfold stepB
  split
  · exact ins_sp h
  · split
    · exact ins_sp h
    · exact h
theorem stepB_len (l : List Pr) (y : Pr) : (stepB l y).length ≤ l.length + 1 := by
  unfold stepB
  have := ins_len y l
  split
  · exact this
  · split
    · exact this
    · omega
theorem stepB_find (l : List Pr) (y : Pr) (id : Int) : find (stepB l y) id = if y.1 = id then comb laterP (find l id) (some y) else find l id := by
  unfold stepB
  by_cases hi : y.1 = id
  · subst hi
    rw [if_pos rfl]
    cases hf : find l y.1 with
    | none => simp only [ins_find, if_true, comb]
    | some x =>
      simp only [comb, laterP]
      by_cases h1 : y.2.1 > x.2.1
      · rw [if_pos (.inl h1), if_pos h1, ins_find, if_pos rfl]
      · rw [if_neg h1]
        by_cases h2 : y.2.1 = x.2.1 ∧ y.2.2.1 = true ∧ x.2.2.1 = false
        · rw [if_pos (.inr h2), if_pos h2, ins_find, if_pos rfl]
        · rw [if_neg h2, if_neg (fun h => h.elim h1 h2), hf]
  · rw [if_neg hi]
    split
    · rw [ins_find, if_neg hi]
    · split
      · rw [ins_find, if_neg hi]
      · rfl
def foldB (l b : List Pr) : List Pr := b.foldl stepB l
theorem foldB_sp : ∀ (b l : List Pr), SP l → SP (foldB l b)
  | [], _, h => h
  | _ :: b, _, h => foldB_sp b _ (stepB_sp h)
theorem foldB_len : ∀ (b l : List Pr), (foldB l b).length ≤ l.length + b.length
  | [], _ => Nat.le_refl _
  | y :: b, l => by
    have h1 := foldB_len b (stepB l y)
    have h2 := stepB_len l y
    simp only [foldB, List.foldl_cons, List.length_cons] at h1 ⊢
    omega
theorem foldB_find (id : Int) : ∀ (b l : List Pr), SP b → find (foldB l b) id = comb laterP (find l id) (find b id)
  | [], l, _ => by show find l id = comb laterP (find l id) none; cases find l id <;> rfl
  | y :: b, l, h => by
    obtain ⟨h1, h2⟩ := sp_cons.1 h
    show find (foldB (stepB l y) b) id = _
    rw [foldB_find id b _ h2, stepB_find, find_cons]
    by_cases hi : y.1 = id
    · rw [if_pos hi, if_pos hi, find_none (l := b) (by rw [← hi]; exact h1)]
      cases find l id <;> rfl
    · rw [if_neg hi, if_neg hi]
theorem foldB_merge {l b : List Pr} (hl : SP l) (hb : SP b) : foldB l b = merge laterP l b :=
  sp_ext (foldB_sp b l hl) (merge_sp later_1 l b hl hb) fun id => by rw [foldB_find id b l hb, merge_find later_1 id l b hl hb]
theorem foldB_take {l b : List Pr} {i : Nat} (h : i < b.length) : foldB l (b.take (i + 1)) = stepB (foldB l (b.take i)) (b.getD i (dflt T_api_Producer)) := by
  unfold foldB
  rw [take_snoc' h (dflt T_api_Producer), List.foldl_append]; rfl
theorem p22_is (a b : List Pr) (ta tb : List Int) (ha0 : ∀ x ∈ a, 0 ≤ x.2.2.2) (hb0 : ∀ x ∈ b, 0 ≤ x.2.2.2) (ha : a.length * 32 ≤ 140737488351232) (hb : b.length * 32 ≤ 140737488351232) (hta : ta.length ≤ 9223372036854775807) (htb : tb.length ≤ 9223372036854775807)
    (hf : a.length + b.length + 1000 < fu) : p22 fu (a, b, ta, tb, ()) = some ((), ((bothS a b ta tb).1, (bothS a b ta tb).2, ())) := by
  unfold p22
  have hS : bothS a b ta tb = if tabI a = false then ([], 1) else if tabI b = false then ([], 1) else if (foldB (a.map (mv ta)) (b.map (mv tb))).length > 256 then ([], 153) else (foldB (a.map (mv ta)) (b.map (mv tb)), 0) := by
    unfold bothS
    cases h1 : tabI a with
    | false => rfl
    | true =>
      cases h2 : tabI b with
      | false => rfl
      | true => rw [foldB_merge (map_sp ta ((tab_iff a).1 h1).2.1) (map_sp tb ((tab_iff b).1 h2).2.1)]
  rw [hS]
  simp only [p17_is (fu := fu) a (by omega) (by omega), p17_is (fu := fu) b (by omega) (by omega), bind_val]
  cases h1 : tabI a with
  | false => simp
  | true =>
    cases h2 : tabI b with
    | false => simp
    | true =>
      have l1 : a.length ≤ 256 := ((tab_iff a).1 h1).2.2
      have l2 : b.length ≤ 256 := ((tab_iff b).1 h2).2.2
      have s1 : SP (a.map (mv ta)) := map_sp ta ((tab_iff a).1 h1).2.1
      simp only [Bool.not_true, cond_false, p23_is (fu := fu) a ta ha0 ha hta (by omega), p23_is (fu := fu) b tb hb0 hb htb (by omega), bind_val, decide_true, cond_true, Bool.true_eq_false, if_false]
      have m1 : (a.map (mv ta)).length ≤ 256 := by simpa using l1
      have m2 : (b.map (mv tb)).length ≤ 256 := by simpa using l2
      obtain ⟨A, hA⟩ : ∃ A, a.map (mv ta) = A := ⟨_, rfl⟩
      obtain ⟨B, hB⟩ : ∃ B, b.map (mv tb) = B := ⟨_, rfl⟩
      simp only [hA, hB] at s1 m1 m2 ⊢
      clear hA hB hS
      refine loopO_eq (I := fun s => ∃ i : Nat, s = ((foldB A (B.take i), (i : Int), ()), ()) ∧ i ≤ B.length) (m := fun s => B.length - s.1.2.1.toNat)
        (g := fun _ => ((), ((if (foldB A B).length > 256 then (([] : List Pr), (153 : Int)) else (foldB A B, 0)).1, (if (foldB A B).length > 256 then (([] : List Pr), (153 : Int)) else (foldB A B, 0)).2, ()))) ?_ fu _ ⟨0, rfl, Nat.zero_le _⟩ (by simp; omega)
      rintro s ⟨i, rfl, h3⟩
      by_cases hi : i < B.length
      · left
        have hstep := foldB_take (l := A) hi
        have hlen := foldB_len (B.take i) A
        rw [List.length_take] at hlen
        have hsp := foldB_sp (B.take i) A s1
        obtain ⟨L, hL⟩ : ∃ L, foldB A (B.take i) = L := ⟨_, rfl⟩
        rw [hL] at hstep hlen hsp
        obtain ⟨y, hy⟩ : ∃ y, B.getD i (dflt T_api_Producer) = y := ⟨_, rfl⟩
        rw [hy] at hstep
        have e35 := p35_is (fu := fu) L y.1 (by omega) (by omega)
        have e36 := p36_is (fu := fu) L y hsp (by omega) (by omega)
        refine ⟨((stepB L y, ((i + 1 : Nat) : Int), ()), ()), ?_, ⟨i + 1, by rw [hstep], hi⟩, by simp only [Int.toNat_natCast]; omega, rfl⟩
        simp only [hL, Int.ofNat_lt, hi, decide_true, cond_true, Int.natCast_nonneg, true_and, and_self, Int.toNat_natCast, hy, e35, e36, bind_val, i64_succ hi (by omega)]
        unfold stepB
        rw [find_is L y.1 (dflt T_api_Producer)]
        by_cases hk : findI L y.1 < L.length
        · have hneg : ¬ ((findI L y.1 : Nat) : Int) < 0 := by omega
          simp only [hk, if_true, hneg, decide_false, cond_false, Int.natCast_nonneg, Int.ofNat_lt, true_and, and_self, decide_true, cond_true, Int.toNat_natCast]
          obtain ⟨x, hx⟩ : ∃ x, L.getD (findI L y.1) (dflt T_api_Producer) = x := ⟨_, rfl⟩
          simp only [hx]
          clear hx e35 e36
          by_cases g1 : y.2.1 > x.2.1
          · simp only [g1, decide_true, cond_true, orK_inl, true_or, if_true]
          · by_cases g2 : y.2.1 = x.2.1
            · have g2' : (y.2.1 == x.2.1) = true := by simpa using g2
              simp only [g1, g2', decide_false, cond_false, cond_true, false_or]
              cases g3 : y.2.2.1 with
              | true =>
                cases g4 : x.2.2.1 with
                | true => simp [orK_inl]
                | false => simp [orK_inl, g2]
              | false => simp [orK_inl]
            · have g2' : (y.2.1 == x.2.1) = false := by simpa using g2
              simp only [g1, g2, g2', decide_false, cond_false, false_or, false_and, if_false, orK_inl]
        · simp [hk, orK_inl]
      · right
        obtain rfl : i = B.length := by omega
        rw [List.take_length]
        by_cases h5 : (foldB A B).length > 256
        · have h5' : ((foldB A B).length : Int) > 256 := by omega
          simp [inrO, h5, h5']
        · have h5' : ¬ ((foldB A B).length : Int) > 256 := by omega
          simp [inrO, h5, h5']
theorem bothS_len (a b : List Pr) (ta tb : List Int) : (bothS a b ta tb).1.length ≤ 256 := by
  unfold bothS
  repeat' split
  all_goals first | (simp; done) | (simp; omega)
theorem putS_len (l : List Pr) (x : Pr) : (putS l x).1.length ≤ 256 := by
  unfold putS
  repeat' split
  all_goals first | (simp; done) | (simp; omega)
theorem p5_is (a b : List Pr) (ta tb : List Int) (ha0 : ∀ x ∈ a, 0 ≤ x.2.2.2) (hb0 : ∀ x ∈ b, 0 ≤ x.2.2.2) (ha : a.length * 32 ≤ 140737488351232) (hb : b.length * 32 ≤ 140737488351232) (hta : ta.length ≤ 9223372036854775807) (htb : tb.length ≤ 9223372036854775807)
    (hf : a.length + b.length + 1000 < fu) : p5 fu ((a, b, ta, tb, ()), ()) = some ((), true) := by
  unfold p5
  have e1 := p15_refl (fu := fu) (a.map (mv ta)) (by simp; omega) (by simp; omega)
  have hl := bothS_len a b ta tb
  have e2 := p15_refl (fu := fu) (bothS a b ta tb).1 (by omega) (by omega)
  simp only [p9_is (fu := fu) (by omega), p13_is (fu := fu) a ta ha0 (by omega) hta (by omega), p14_is (fu := fu) a b ta tb ha0 hb0 (by omega) (by omega) hta htb hf, p22_is (fu := fu) a b ta tb ha0 hb0 ha hb hta htb hf,
    p23_is (fu := fu) a ta ha0 ha hta (by omega), bind_val, decide_true, cond_true, e1, e2, beq_self_eq_true]
/-- Every sequence number one higher. -/
def bump (x : Pr) : Pr := (x.1, IntKind.wrap .u64 (x.2.1 + 1), x.2.2)
theorem bump_set {l : List Pr} {k : Nat} (h : k < l.length) : ((l.take k).map bump ++ l.drop k).set k (bump (l.getD k (dflt T_api_Producer))) = (l.take (k + 1)).map bump ++ l.drop (k + 1) := by
  have hk : ((l.take k).map bump).length = k := by simp; omega
  rw [List.set_append_right _ _ (by omega), hk, Nat.sub_self, List.drop_eq_getElem_cons h, List.set_cons_zero, take_snoc' h (dflt T_api_Producer), List.map_append, getD_lt h]
  simp
theorem bump_get {l : List Pr} {k : Nat} (h : k < l.length) : ((l.take k).map bump ++ l.drop k).getD k (dflt T_api_Producer) = l.getD k (dflt T_api_Producer) := by
  have hk : ((l.take k).map bump).length = k := by simp; omega
  rw [List.getD_eq_getElem?_getD, List.getElem?_append_right (by omega), hk, Nat.sub_self, List.drop_eq_getElem_cons h, List.getElem?_cons_zero, getD_lt h]; rfl
theorem bump_len {l : List Pr} {k : Nat} (h : k ≤ l.length) : ((l.take k).map bump ++ l.drop k).length = l.length := by simp; omega
theorem p4_is (l : List Pr) (n : List Nu) (hl : l.length * 32 ≤ 140737488351232) (hn : n.length * 24 ≤ 140737488351232) (hf : l.length + n.length + 1000 < fu) : p4 fu (l, n, ()) = some ((), true) := by
  unfold p4
  have hb : (0 + l.length ≤ maxLen ∧ (0 + l.length) * 32 ≤ 140737488355328) := ⟨by show _ ≤ 9223372036854775807; omega, by omega⟩
  have er := p15_refl (fu := fu) l (by omega) (by omega)
  simp only [p9_is (fu := fu) (by omega), bind_val, List.length_nil, hb, and_self, decide_true, cond_true, List.nil_append, p16_is (fu := fu) l (by omega) (by omega), p17_is (fu := fu) l (by omega) (by omega), beq_self_eq_true, Bool.not_true, cond_false, er]
  refine loopO_eq (I := fun s => ∃ i : Nat, s = (((i : Int), ()), ()) ∧ i ≤ n.length) (m := fun s => n.length - s.1.1.toNat) (g := fun _ => ((), true)) ?_ fu _ ⟨0, rfl, Nat.zero_le _⟩ (by simp; omega)
  rintro s ⟨i, rfl, h1⟩
  by_cases hi : i < n.length
  · left
    rcases hx : n.getD i (dflt T_gazettelaw15_Number) with ⟨id, seq, off⟩
    have e11 := p11_is (fu := fu) l id seq (by omega) (by omega)
    have e18 := p18_is (fu := fu) l id seq (by omega) (by omega)
    have e12 := p12_is (fu := fu) l id seq off (by omega) (by omega)
    have e19 := p19_is (fu := fu) l id seq off (by omega) (by omega)
    have e20 := p20_is (fu := fu) l id seq (by omega) (by omega)
    have e21 := p21_is (fu := fu) l id seq (by omega) (by omega)
    have k1 := putS_len l (id, seq, true, off)
    have k2 := putS_len l (id, seq, false, 0)
    have r1 := p15_refl (fu := fu) (putS l (id, seq, true, off)).1 (by omega) (by omega)
    have r2 := p15_refl (fu := fu) (putS l (id, seq, false, 0)).1 (by omega) (by omega)
    obtain ⟨P, hP⟩ : ∃ P, putS l (id, seq, true, off) = P := ⟨_, rfl⟩
    obtain ⟨Q, hQ⟩ : ∃ Q, putS l (id, seq, false, 0) = Q := ⟨_, rfl⟩
    rw [hP] at e12 e19 k1 r1
    rw [hQ] at e20 e21 k2 r2
    simp only [Int.ofNat_lt, hi, decide_true, cond_true, Int.natCast_nonneg, true_and, and_self, Int.toNat_natCast, hx, e11, e12, e18, e19, e20, e21, r1, r2, bind_val, Bool.not_true, cond_false, bne_self_eq_false, i64_succ hi (show n.length ≤ 9223372036854775807 by omega)]
    refine loopO_ex (sF := ((P.1.map bump, (P.1.length : Int), ()), ()))
      (I := fun s => ∃ k : Nat, k ≤ P.1.length ∧ s = (((P.1.take k).map bump ++ P.1.drop k, (k : Int), ()), ()))
      (m := fun s => P.1.length - s.1.2.1.toNat) ⟨0, Nat.zero_le _, by simp⟩ (by simp; omega) ?_ ?_
    · rintro s ⟨k, hk, rfl⟩
      by_cases hk' : k < P.1.length
      · right
        refine ⟨(((P.1.take (k + 1)).map bump ++ P.1.drop (k + 1), ((k + 1 : Nat) : Int), ()), ()), ?_, ⟨k + 1, hk', rfl⟩, by simp only [Int.toNat_natCast]; omega⟩
        have g := bump_get hk'
        have s := bump_set hk'
        simp only [bump_len hk, Int.ofNat_lt, hk', decide_true, cond_true, Int.natCast_nonneg, true_and, and_self, Int.toNat_natCast, g, List.length_set, i64_succ hk' (show P.1.length ≤ 9223372036854775807 by omega)]
        exact congrArg (fun z : List Pr => (some (.inl ((z, ((k + 1 : Nat) : Int), ()), ())) : Option (((List Pr × Int × Unit) × Unit) ⊕ ((((Int × Unit) × Unit) ⊕ (Unit × Bool)))))) s
      · left
        obtain rfl : k = P.1.length := by omega
        simp
    · refine ⟨((((i + 1 : Nat) : Int), ()), ()), ?_, ⟨i + 1, rfl, hi⟩, by simp only [Int.toNat_natCast]; omega, trivial⟩
      simp only [List.length_map, Int.lt_irrefl, decide_false, cond_false, inrO_val]
  · right
    obtain rfl : i = n.length := by omega
    simp [inrO]
end Go.Proofs.Ytggbfmjcceblkaa
