/-
  Layer 15: tables that are moved and put together.
-/
import Derived.Test.YtggbfmjcceblkaaPrD
namespace Go.Proofs.Ytggbfmjcceblkaa
open Go.RowKit
variable {fu : Nat}
def laterP (x y : Pr) : Pr := if y.2.1 > x.2.1 then y else if y.2.1 = x.2.1 ∧ y.2.2.1 = true ∧ x.2.2.1 = false then y else x
theorem p34_is (x y : Pr) : p34 fu ((x.1, x.2.1, x.2.2.1, x.2.2.2, ()), (y.1, y.2.1, y.2.2.1, y.2.2.2, ()), ()) = some ((), ((laterP x y).1, (laterP x y).2.1, (laterP x y).2.2.1, (laterP x y).2.2.2, ())) := by
  obtain ⟨a, b, c, d⟩ := x
  obtain ⟨e, f, g, h⟩ := y
  simp only [p34, laterP]
  by_cases h1 : f > b
  · simp [h1]
  · by_cases h2 : f = b
    · subst h2; cases g <;> cases c <;> simp
    · have h3 : (f == b) = false := by simpa using h2
      simp [h1, h2, h3]
theorem p32b_is (l r : List Pr) (hb : (l.length + r.length) * 32 ≤ 140737488355328) (hf : l.length + r.length < fu) :
    p32_1 fu (l, r, ((), ()), ((), ()), ()) = some ((), merge laterP l r) := by
  unfold p32_1
  refine orK_loop (I := fun s => ∃ v0 v1 v9 : List Pr, s = ((v0, v1, v9, ()), ()) ∧ v9 ++ merge laterP v0 v1 = merge laterP l r ∧ v9.length + v0.length + v1.length ≤ l.length + r.length)
      (m := fun s => s.1.1.length + s.1.2.1.length)
      (Q := fun z => ∃ v0 v1 v9 : List Pr, z = .inl ((v0, v1, v9, ()), ()) ∧ (v0 = [] ∨ v1 = []) ∧ v9 ++ merge laterP v0 v1 = merge laterP l r ∧ v9.length + v0.length + v1.length ≤ l.length + r.length)
      ⟨l, r, [], rfl, rfl, by simp⟩ (by simpa using hf) ?_ ?_
  · rintro s ⟨v0, v1, v9, rfl, h1, h2⟩
    cases v0 with
    | nil => exact ⟨.inr (.inl (([], v1, v9, ()), ())), by simp [inrO], [], v1, v9, rfl, .inl rfl, h1, h2⟩
    | cons x a =>
      cases v1 with
      | nil => exact ⟨.inr (.inl ((x :: a, [], v9, ()), ())), by simp [inrO], x :: a, [], v9, rfl, .inr rfl, h1, h2⟩
      | cons y b =>
        rw [merge_cons] at h1
        simp only [List.length_cons] at h2
        have hp := p33_is (fu := fu) x y
        have hm : v9.length + 1 ≤ maxLen ∧ (v9.length + 1) * 32 ≤ 140737488355328 := by unfold maxLen; omega
        by_cases c1 : x.1 < y.1
        · rw [if_pos c1] at h1
          have hc : cmpI x.1 y.1 = -1 := by simp [cmpI, c1]
          refine ⟨.inl ((a, y :: b, v9 ++ [x], ()), ()), ?_, ⟨a, y :: b, v9 ++ [x], rfl, by simpa using h1, by simp; omega⟩, by simp⟩
          simp [hp, hc, hm]
        · rw [if_neg c1] at h1
          by_cases c2 : x.1 > y.1
          · rw [if_pos c2] at h1
            have hc : cmpI x.1 y.1 = 1 := by simp [cmpI, c1, c2]
            refine ⟨.inl ((x :: a, b, v9 ++ [y], ()), ()), ?_, ⟨x :: a, b, v9 ++ [y], rfl, by simpa using h1, by simp; omega⟩, by simp⟩
            simp [hp, hc, hm]
          · rw [if_neg c2] at h1
            have hc : cmpI x.1 y.1 = 0 := by simp [cmpI, c1, c2]
            refine ⟨.inl ((a, b, v9 ++ [laterP x y], ()), ()), ?_, ⟨a, b, v9 ++ [laterP x y], rfl, by simpa using h1, by simp; omega⟩, by simp; omega⟩
            simp [hp, hc, hm, p34_is]
  rintro z ⟨v0, v1, v9, rfl, h1, h2, h3⟩
  simp only [orK_inl, decide_true, cond_true]
  have b1 : v9.length + v0.length ≤ maxLen ∧ (v9.length + v0.length) * 32 ≤ 140737488355328 := by unfold maxLen; omega
  have b2 : (v9 ++ v0).length + v1.length ≤ maxLen ∧ ((v9 ++ v0).length + v1.length) * 32 ≤ 140737488355328 := by unfold maxLen; simp; omega
  simp only [b1, b2, and_self, decide_true, cond_true]
  rcases h1 with rfl | rfl
  · rw [merge_nil] at h2; simp [h2]
  · rw [merge_nil'] at h2; simp [h2]
theorem u64_wrap {x : Int} (h1 : 0 ≤ x) (h2 : x ≤ 18446744073709551615) : IntKind.wrap .u64 x = x := by
  rw [wrap_u64 h1 h2]
def standsB (o : Int) (to : List Int) : Bool := decide (o + 1 < (to.length : Int)) && decide (to.getD o.toNat (dflt (.int .u64)) < to.getD (o + 1).toNat (dflt (.int .u64)))
theorem p30_is (o : Int) (to : List Int) (h0 : 0 ≤ o) (hl : to.length ≤ 9223372036854775807) : p30 fu (o, to, ()) = some ((), standsB o to) := by
  have e1 := u64_wrap (x := (to.length : Int)) (by omega) (by omega)
  simp only [p30, standsB, e1]
  by_cases h1 : o < (to.length : Int)
  · have e2 := u64_wrap (x := o + 1) (by omega) (by omega)
    simp only [e2]
    by_cases h2 : o + 1 < (to.length : Int)
    · have h3 : 0 ≤ o + 1 := by omega
      have h4 : o.toNat < to.length := by omega
      have h5 : (o + 1).toNat < to.length := by omega
      simp [h0, h1, h2, h3, h4, h5]
    · simp [h1, h2]
  · have h2 : ¬ (o + 1 < (to.length : Int)) := by omega
    simp [h1, h2]
def mv (to : List Int) (x : Pr) : Pr := if x.2.2.1 = true ∧ standsB x.2.2.2 to = true then (x.1, x.2.1, true, to.getD x.2.2.2.toNat (dflt (.int .u64))) else (x.1, x.2.1, false, 0)
theorem p29_is (x : Pr) (to : List Int) (h0 : 0 ≤ x.2.2.2) (hl : to.length ≤ 9223372036854775807) :
    p29 fu ((x.1, x.2.1, x.2.2.1, x.2.2.2, ()), (to, ()), ()) = some (((to, ()), ()), ((mv to x).1, (mv to x).2.1, (mv to x).2.2.1, (mv to x).2.2.2, ())) := by
  obtain ⟨a, b, c, d⟩ := x
  simp only [p29, mv]
  simp only at h0
  cases c with
  | false => simp [orK]
  | true =>
    simp only [cond_true, p30_is d to h0 hl, bind_val, orK_inl, true_and]
    cases hs : standsB d to with
    | false => simp
    | true =>
      have h1 : d + 1 < (to.length : Int) := by unfold standsB at hs; simp at hs; exact hs.1
      have h2 : d < (to.length : Int) := by omega
      have h3 : d.toNat < to.length := by omega
      simp [h0, h2, h3]
theorem mv_1 (to : List Int) (x : Pr) : (mv to x).1 = x.1 := by unfold mv; split <;> rfl
theorem mv_2 (to : List Int) (x : Pr) : (mv to x).2.1 = x.2.1 := by unfold mv; split <;> rfl
theorem mv_ok (to : List Int) {x : Pr} (h : okP x = true) : okP (mv to x) = true := by
  unfold okP at h ⊢
  rw [mv_1, mv_2]
  simp only [Bool.and_eq_true] at h ⊢
  refine ⟨h.1, h.2.1, ?_⟩
  unfold mv; split <;> rfl
theorem p28_is (l : List Pr) (to : List Int) (h0 : ∀ x ∈ l, 0 ≤ x.2.2.2) (hl : l.length * 32 ≤ 140737488355328) (ht : to.length ≤ 9223372036854775807) (hf : l.length < fu) :
    p28 fu (l, ((), ((to, ()), ())), ()) = some (((to, ()), ()), l.map (mv to)) := by
  unfold p28
  by_cases hz : l.length = 0
  · have : l = [] := List.eq_nil_of_length_eq_zero hz
    subst this; rfl
  · have hz' : ((l.length : Int) == 0) = false := by simpa using hz
    have hb : ((0 : Int) ≤ (l.length : Int) ∧ ((l.length : Int) : Int) ≤ (l.length : Int) ∧ ((l.length : Int) : Int) ≤ 9223372036854775807 ∧ (32 : Int) * (l.length : Int) ≤ 140737488355328) := by omega
    simp only [hz', cond_false, hb, and_self, decide_true, cond_true, Int.toNat_natCast, List.length_replicate]
    refine loopO_eq (I := fun s => ∃ (v : List Pr) (i : Nat), s = ((v, (i : Int), ()), ((to, ()), ())) ∧ i ≤ l.length ∧ v.length = l.length ∧ ∀ j, j < i → v[j]? = (l.map (mv to))[j]?) (m := fun s => l.length - s.1.2.1.toNat)
      (g := fun _ => (((to, ()), ()), l.map (mv to))) ?_ fu _ ⟨_, 0, rfl, Nat.zero_le _, by simp, fun j hj => absurd hj (Nat.not_lt_zero _)⟩ (by simpa using hf)
    rintro s ⟨v, i, rfl, h1, h2, h3⟩
    by_cases hi : i < l.length
    · left
      have hx : 0 ≤ (l.getD i (dflt T_api_Producer)).2.2.2 := by rw [getD_lt hi]; exact h0 _ (List.getElem_mem _)
      have e29 := p29_is (fu := fu) (l.getD i (dflt T_api_Producer)) to hx ht
      have hv : i < v.length := by omega
      refine ⟨((v.set i (mv to (l.getD i (dflt T_api_Producer))), ((i + 1 : Nat) : Int), ()), ((to, ()), ())), ?_, ⟨_, i + 1, rfl, hi, by simpa using h2, fun j hj => ?_⟩, by simp only [Int.toNat_natCast]; omega, rfl⟩
      · simp only [Int.ofNat_lt, hi, hv, decide_true, cond_true, Int.natCast_nonneg, true_and, and_self, Int.toNat_natCast, e29, bind_val, List.length_set, i64_succ hi (by omega)]
      · rw [List.getElem?_set]
        by_cases hj' : i = j
        · subst hj'
          rw [if_pos rfl, if_pos hv, List.getElem?_map, List.getElem?_eq_getElem hi, getD_lt hi]; rfl
        · rw [if_neg hj']
          exact h3 j (by omega)
    · right
      obtain rfl : i = l.length := by omega
      have : v = l.map (mv to) := List.ext_getElem? fun j => by
        by_cases hj : j < l.length
        · exact h3 j hj
        · rw [List.getElem?_eq_none (by omega), List.getElem?_eq_none (by simp; omega)]
      simp [inrO, this]
theorem p13_is (l : List Pr) (to : List Int) (h0 : ∀ x ∈ l, 0 ≤ x.2.2.2) (hl : l.length * 32 ≤ 140737488355328) (ht : to.length ≤ 9223372036854775807) (hf : l.length < fu) :
    p13 fu (l, to, ()) = some ((), l.map (mv to)) := by
  unfold p13
  simp only [p28_is l to h0 hl ht hf, bind_val, decide_true, cond_true]
def bothS (a b : List Pr) (ta tb : List Int) : List Pr × Int :=
  if tabI a = false then ([], 1) else if tabI b = false then ([], 1) else if (merge laterP (a.map (mv ta)) (b.map (mv tb))).length > 256 then ([], 153) else (merge laterP (a.map (mv ta)) (b.map (mv tb)), 0)
theorem p14_is (a b : List Pr) (ta tb : List Int) (ha0 : ∀ x ∈ a, 0 ≤ x.2.2.2) (hb0 : ∀ x ∈ b, 0 ≤ x.2.2.2) (ha : a.length * 32 ≤ 140737488355328) (hb : b.length * 32 ≤ 140737488355328) (hta : ta.length ≤ 9223372036854775807) (htb : tb.length ≤ 9223372036854775807)
    (hf : a.length + b.length + 1000 < fu) : p14 fu (a, b, ta, tb, ()) = some ((), ((bothS a b ta tb).1, (bothS a b ta tb).2, ())) := by
  unfold p14 bothS
  simp only [p16_is (fu := fu) a (by omega) (by omega), p16_is (fu := fu) b (by omega) (by omega), bind_val]
  cases h1 : tabI a with
  | false => simp
  | true =>
    cases h2 : tabI b with
    | false => simp
    | true =>
      have l1 : a.length ≤ 256 := ((tab_iff a).1 h1).2.2
      have l2 : b.length ≤ 256 := ((tab_iff b).1 h2).2.2
      have hm := p32b_is (fu := fu) (a.map (mv ta)) (b.map (mv tb)) (by simp; omega) (by simp; omega)
      simp only [Bool.not_true, cond_false, p13_is (fu := fu) a ta ha0 ha hta (by omega), p13_is (fu := fu) b tb hb0 hb htb (by omega), bind_val, decide_true, cond_true, hm, Bool.true_eq_false, if_false, p31_1]
      by_cases h5 : (merge laterP (a.map (mv ta)) (b.map (mv tb))).length > 256
      · have h5' : ((merge laterP (a.map (mv ta)) (b.map (mv tb))).length : Int) > 256 := by omega
        simp [h5, h5']
      · have h5' : ¬ ((merge laterP (a.map (mv ta)) (b.map (mv tb))).length : Int) > 256 := by omega
        simp [h5, h5']

/-- Along the merge. -/
theorem mrg_ind {both : Pr → Pr → Pr} {P : List Pr → List Pr → List Pr → Prop} (h1 : ∀ b, P [] b b) (h2 : ∀ a, P a [] a) (h3 : ∀ x y a b m, x.1 < y.1 → P a (y :: b) m → P (x :: a) (y :: b) (x :: m))
    (h4 : ∀ x y a b m, x.1 > y.1 → P (x :: a) b m → P (x :: a) (y :: b) (y :: m)) (h5 : ∀ x y a b m, x.1 = y.1 → P a b m → P (x :: a) (y :: b) (both x y :: m)) : ∀ (n : Nat) (a b : List Pr), a.length + b.length ≤ n → P a b (merge both a b)
  | _, [], b, _ => by rw [merge_nil]; exact h1 b
  | _, x :: a, [], _ => by rw [merge_nil']; exact h2 _
  | 0, x :: a, y :: b, h => by simp at h
  | n + 1, x :: a, y :: b, h => by
    simp only [List.length_cons] at h
    rw [merge_cons]
    by_cases c1 : x.1 < y.1
    · rw [if_pos c1]; exact h3 x y a b _ c1 (mrg_ind h1 h2 h3 h4 h5 n a (y :: b) (by simp; omega))
    · rw [if_neg c1]
      by_cases c2 : x.1 > y.1
      · rw [if_pos c2]; exact h4 x y a b _ c2 (mrg_ind h1 h2 h3 h4 h5 n (x :: a) b (by simp; omega))
      · rw [if_neg c2]; exact h5 x y a b _ (by omega) (mrg_ind h1 h2 h3 h4 h5 n a b (by omega))
theorem merge_ind {both : Pr → Pr → Pr} {P : List Pr → List Pr → List Pr → Prop} (h1 : ∀ b, P [] b b) (h2 : ∀ a, P a [] a) (h3 : ∀ x y a b m, x.1 < y.1 → P a (y :: b) m → P (x :: a) (y :: b) (x :: m))
    (h4 : ∀ x y a b m, x.1 > y.1 → P (x :: a) b m → P (x :: a) (y :: b) (y :: m)) (h5 : ∀ x y a b m, x.1 = y.1 → P a b m → P (x :: a) (y :: b) (both x y :: m)) (a b : List Pr) : P a b (merge both a b) :=
  mrg_ind h1 h2 h3 h4 h5 _ a b (Nat.le_refl _)
def comb (both : Pr → Pr → Pr) : Option Pr → Option Pr → Option Pr
  | some x, some y => some (both x y)
  | some x, none => some x
  | none, o => o
theorem find_none {l : List Pr} {id : Int} (h : ∀ z ∈ l, id < z.1) : find l id = none := by
  unfold find
  rw [List.find?_eq_none]
  intro z hz
  have := h z hz
  simp; omega
theorem sp_cons {x : Pr} {l : List Pr} : SP (x :: l) ↔ (∀ z ∈ l, x.1 < z.1) ∧ SP l := List.pairwise_cons
theorem merge_find {both : Pr → Pr → Pr} (hb : ∀ x y, x.1 = y.1 → (both x y).1 = x.1) (id : Int) (a b : List Pr) : SP a → SP b → find (merge both a b) id = comb both (find a id) (find b id) := by
  refine merge_ind (both := both) (P := fun a b m => SP a → SP b → find m id = comb both (find a id) (find b id)) ?_ ?_ ?_ ?_ ?_ a b
  · intro b _ _; rfl
  · intro a _ _; show _ = comb both (find a id) none; cases find a id <;> rfl
  · intro x y a b m h ih ha hb'
    rw [find_cons, find_cons x]
    by_cases hi : x.1 = id
    · rw [if_pos hi, if_pos hi, find_none (l := y :: b) (fun z hz => by
        rcases List.mem_cons.1 hz with rfl | hz
        · omega
        · have := (sp_cons.1 hb').1 z hz; omega)]; rfl
    · rw [if_neg hi, if_neg hi]; exact ih (sp_cons.1 ha).2 hb'
  · intro x y a b m h ih ha hb'
    rw [find_cons, find_cons y]
    by_cases hi : y.1 = id
    · rw [if_pos hi, if_pos hi, find_none (l := x :: a) (fun z hz => by
        rcases List.mem_cons.1 hz with rfl | hz
        · omega
        · have := (sp_cons.1 ha).1 z hz; omega)]; rfl
    · rw [if_neg hi, if_neg hi]; exact ih ha (sp_cons.1 hb').2
  · intro x y a b m h ih ha hb'
    rw [find_cons, find_cons x, find_cons y, hb x y h, ← h]
    by_cases hi : x.1 = id
    · rw [if_pos hi, if_pos hi, if_pos hi]; rfl
    · rw [if_neg hi, if_neg hi, if_neg hi]; exact ih (sp_cons.1 ha).2 (sp_cons.1 hb').2
theorem merge_all {both : Pr → Pr → Pr} {p : Pr → Prop} (hb : ∀ x y, p x → p y → x.1 = y.1 → p (both x y)) (a b : List Pr) : (∀ z ∈ a, p z) → (∀ z ∈ b, p z) → ∀ z ∈ merge both a b, p z := by
  refine merge_ind (both := both) (P := fun a b m => (∀ z ∈ a, p z) → (∀ z ∈ b, p z) → ∀ z ∈ m, p z) ?_ ?_ ?_ ?_ ?_ a b
  · intro b _ h; exact h
  · intro a h _; exact h
  · intro x y a b m h ih ha hb' z hz
    rcases List.mem_cons.1 hz with rfl | hz
    · exact ha _ List.mem_cons_self
    · exact ih (fun z hz => ha z (List.mem_cons_of_mem _ hz)) hb' z hz
  · intro x y a b m h ih ha hb' z hz
    rcases List.mem_cons.1 hz with rfl | hz
    · exact hb' _ List.mem_cons_self
    · exact ih ha (fun z hz => hb' z (List.mem_cons_of_mem _ hz)) z hz
  · intro x y a b m h ih ha hb' z hz
    rcases List.mem_cons.1 hz with rfl | hz
    · exact hb x y (ha _ List.mem_cons_self) (hb' _ List.mem_cons_self) h
    · exact ih (fun z hz => ha z (List.mem_cons_of_mem _ hz)) (fun z hz => hb' z (List.mem_cons_of_mem _ hz)) z hz
theorem merge_sp {both : Pr → Pr → Pr} (hb : ∀ x y, x.1 = y.1 → (both x y).1 = x.1) (a b : List Pr) : SP a → SP b → SP (merge both a b) := by
  have low : ∀ (k : Int) (a b : List Pr), (∀ z ∈ a, k < z.1) → (∀ z ∈ b, k < z.1) → ∀ z ∈ merge both a b, k < z.1 := fun k a b => merge_all (fun x y h1 _ h => by rw [hb x y h]; exact h1) a b
  suffices h : SP a → SP b → SP (merge both a b) ∧ ∀ k : Int, (∀ z ∈ a, k < z.1) → (∀ z ∈ b, k < z.1) → ∀ z ∈ merge both a b, k < z.1 from fun h1 h2 => (h h1 h2).1
  refine merge_ind (both := both) (P := fun a b m => SP a → SP b → SP m ∧ ∀ k : Int, (∀ z ∈ a, k < z.1) → (∀ z ∈ b, k < z.1) → ∀ z ∈ m, k < z.1) ?_ ?_ ?_ ?_ ?_ a b
  · intro b _ h; exact ⟨h, fun _ _ h => h⟩
  · intro a h _; exact ⟨h, fun _ h _ => h⟩
  · intro x y a b m h ih ha hb'
    obtain ⟨i1, i2⟩ := ih (sp_cons.1 ha).2 hb'
    have lw : ∀ z ∈ m, x.1 < z.1 := i2 x.1 (sp_cons.1 ha).1 fun z hz => by
      rcases List.mem_cons.1 hz with rfl | hz
      · exact h
      · have := (sp_cons.1 hb').1 z hz; omega
    refine ⟨sp_cons.2 ⟨lw, i1⟩, fun k k1 _ z hz => ?_⟩
    have := k1 x List.mem_cons_self
    rcases List.mem_cons.1 hz with rfl | hz
    · exact this
    · have := lw z hz; omega
  · intro x y a b m h ih ha hb'
    obtain ⟨i1, i2⟩ := ih ha (sp_cons.1 hb').2
    have lw : ∀ z ∈ m, y.1 < z.1 := i2 y.1 (fun z hz => by
      rcases List.mem_cons.1 hz with rfl | hz
      · exact h
      · have := (sp_cons.1 ha).1 z hz; omega) (sp_cons.1 hb').1
    refine ⟨sp_cons.2 ⟨lw, i1⟩, fun k _ k2 z hz => ?_⟩
    have := k2 y List.mem_cons_self
    rcases List.mem_cons.1 hz with rfl | hz
    · exact this
    · have := lw z hz; omega
  · intro x y a b m h ih ha hb'
    obtain ⟨i1, i2⟩ := ih (sp_cons.1 ha).2 (sp_cons.1 hb').2
    have lw : ∀ z ∈ m, x.1 < z.1 := i2 x.1 (sp_cons.1 ha).1 fun z hz => by have := (sp_cons.1 hb').1 z hz; omega
    have e := hb x y h
    refine ⟨sp_cons.2 ⟨fun z hz => by rw [e]; exact lw z hz, i1⟩, fun k k1 _ z hz => ?_⟩
    have := k1 x List.mem_cons_self
    rcases List.mem_cons.1 hz with rfl | hz
    · rw [e]; exact this
    · have := lw z hz; omega
theorem map_find (to : List Int) (id : Int) : ∀ l : List Pr, find (l.map (mv to)) id = (find l id).map (mv to)
  | [] => rfl
  | x :: l => by
    rw [List.map_cons, find_cons, find_cons, mv_1]
    by_cases hi : x.1 = id
    · rw [if_pos hi, if_pos hi]; rfl
    · rw [if_neg hi, if_neg hi]; exact map_find to id l
theorem map_sp (to : List Int) {l : List Pr} (h : SP l) : SP (l.map (mv to)) := by
  unfold SP at h ⊢
  rw [List.pairwise_map]
  exact h.imp fun h => by rw [mv_1, mv_1]; exact h
def newB (o : Option Pr) (id seq : Int) : Bool := !(id == 0) && (seqB seq && (match o with | none => true | some x => decide (seq > x.2.1)))
theorem judge_new (l : List Pr) (id seq : Int) : ((judge l id seq).1 == 1) = newB (find l id) id seq := by
  unfold judge newB
  by_cases h0 : id = 0
  · simp [h0]
  · have h0' : (id == 0) = false := by simpa using h0
    cases hs : seqB seq with
    | false => simp [h0]
    | true =>
      simp only [h0, h0', if_false, Bool.true_eq_false, Bool.not_false, Bool.true_and]
      cases find l id with
      | none => rfl
      | some y =>
        simp only
        by_cases h1 : seq > y.2.1
        · simp [h1]
        · rw [if_neg h1]
          split <;> simp [h1]
theorem later_1 (x y : Pr) (h : x.1 = y.1) : (laterP x y).1 = x.1 := by
  unfold laterP; split
  · exact h.symm
  · split
    · exact h.symm
    · rfl
theorem later_new (x y : Pr) (seq : Int) : decide (seq > (laterP x y).2.1) = (decide (seq > x.2.1) && decide (seq > y.2.1)) := by
  unfold laterP
  split
  · rename_i h
    by_cases h1 : seq > y.2.1
    · have : seq > x.2.1 := by omega
      simp [h1, this]
    · simp [h1]
  · rename_i h
    have e : decide (seq > x.2.1) = (decide (seq > x.2.1) && decide (seq > y.2.1)) := by
      by_cases h1 : seq > x.2.1
      · have : seq > y.2.1 := by omega
        simp [h1, this]
      · simp [h1]
    split
    · rename_i h2
      rw [h2.1, Bool.and_self]
    · exact e
end Go.Proofs.Ytggbfmjcceblkaa
