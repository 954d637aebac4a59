/-
  Layer 6: copies are what was copied.
-/
import Derived.Test.YtdblllnnccaccaaPtC
import Derived.Test.YtdblllnnccaccaaDaP
namespace Go.Proofs.Ytdblllnnccaccaa
open Go.RowKit
section
variable {fu : Nat}
theorem copyL_all {α : Type} (l : List α) (d : α) : copyL (List.replicate l.length d) 0 l.length l = l := by
  simp [copyL]
theorem p57_is (l : List Int) (h : l.length * 8 ≤ 140737488355328) : p57 fu (l, ()) = some ((), l) := by
  unfold p57
  cases l with
  | nil => rfl
  | cons a l =>
    have h0 : (((a :: l).length : Int) == 0) = false := by simp; omega
    have h1 : (0 : Int) ≤ ((a :: l).length : Int) ∧ ((a :: l).length : Int) ≤ ((a :: l).length : Int) ∧ ((a :: l).length : Int) ≤ 9223372036854775807 ∧ (8 : Int) * ((a :: l).length : Int) ≤ 140737488355328 := by omega
    simp only [h0, cond_false, h1, and_self, decide_true, cond_true, Int.toNat_natCast, List.length_replicate, copyL_all]
theorem p36_is (l : List Int) (h : l.length ≤ 140737488355328) : p36 fu (l, ()) = some ((), l) := by
  unfold p36
  cases l with
  | nil => rfl
  | cons a l =>
    have h0 : (((a :: l).length : Int) == 0) = false := by simp; omega
    have h1 : (0 : Int) ≤ ((a :: l).length : Int) ∧ ((a :: l).length : Int) ≤ ((a :: l).length : Int) ∧ ((a :: l).length : Int) ≤ 9223372036854775807 ∧ (1 : Int) * ((a :: l).length : Int) ≤ 140737488355328 := by omega
    simp only [h0, cond_false, h1, and_self, decide_true, cond_true, Int.toNat_natCast, List.length_replicate, copyL_all]
theorem p45_is (a b : List Int) (ha : a.length * 8 ≤ 140737488355328) (hb : b.length * 8 ≤ 140737488355328) : p45 fu ((a, b, ()), ()) = some ((), (a, b, ())) := by
  unfold p45
  simp only [p57_is a ha, p57_is b hb, bind_val, decide_true, cond_true]
theorem p53_is (a b : List Int) (h : a.length + b.length ≤ 140737488355328) : p53 fu ((a, ()), b, ()) = some (((a ++ b, ()), (), ()), b) := by
  unfold p53
  cases b with
  | nil => simp
  | cons c b =>
    have h0 : (((c :: b).length : Int) == 0) = false := by simp; omega
    have h1 : a.length + (c :: b).length ≤ maxLen ∧ (a.length + (c :: b).length) * 1 ≤ 140737488355328 := ⟨by unfold maxLen; omega, by omega⟩
    have h2 : slice' (a ++ c :: b) a.length (some (a ++ c :: b).length) = c :: b := by
      cases a with
      | nil => simp [slice']
      | cons x a => simp [slice']
    have h3 : a.length ≤ (a ++ c :: b).length ∧ (a ++ c :: b).length ≤ (a ++ c :: b).length ∧ (a ++ c :: b).length ≤ (a ++ c :: b).length ∧ 0 + (a ++ c :: b).length ≤ (a ++ c :: b).length := by simp
    simp only [h0, cond_false, h1, and_self, decide_true, cond_true, Int.natCast_nonneg, Int.toNat_natCast, h3, h2]
theorem p52_is (x : En) (r : List Int) (hd : r.length + x.2.2.2.1.length ≤ 140737488355328) (hv : x.2.2.2.2.1.length * 8 ≤ 140737488355328) (hl : x.2.2.2.2.2.length * 8 ≤ 140737488355328) :
    p52 fu ((x.1, x.2.1, x.2.2.1, x.2.2.2.1, x.2.2.2.2.1, x.2.2.2.2.2, ()), ((r, ()), ()), ()) = some ((((), ()), (r ++ x.2.2.2.1, ()), (), ()), (x.1, x.2.1, x.2.2.1, x.2.2.2.1, x.2.2.2.2.1, x.2.2.2.2.2, ())) := by
  unfold p52
  simp only [p53_is _ _ hd, p45_is _ _ hv hl, bind_val, decide_true, cond_true]
def datas (l : List En) : List Int := l.flatMap fun x => x.2.2.2.1
theorem datas_app (a b : List En) : datas (a ++ b) = datas a ++ datas b := List.flatMap_append
theorem datas_snoc (l : List En) (x : En) : datas (l ++ [x]) = datas l ++ x.2.2.2.1 := by simp [datas]
def fitsE (l : List En) : Prop := l.length * 96 ≤ 140737488355328 ∧ (datas l).length ≤ 140737488355328 ∧ ∀ x ∈ l, x.2.2.2.2.1.length * 8 ≤ 140737488355328 ∧ x.2.2.2.2.2.length * 8 ≤ 140737488355328
theorem take_snoc' {α : Type} {l : List α} {i : Nat} (h : i < l.length) (d : α) : l.take (i + 1) = l.take i ++ [l.getD i d] := by
  rw [List.take_add_one, List.getD_eq_getElem?_getD, List.getElem?_eq_getElem h]; rfl
theorem datas_take {l : List En} {i : Nat} (h : i < l.length) : (datas (l.take i)).length + (l.getD i (dflt T_api_Entry)).2.2.2.1.length ≤ (datas l).length := by
  have h1 := congrArg datas (take_snoc' h (dflt T_api_Entry))
  rw [datas_snoc] at h1
  have h2 : datas l = datas (l.take (i + 1)) ++ datas (l.drop (i + 1)) := by rw [← datas_app, List.take_append_drop]
  rw [h2, h1]
  simp only [List.length_append]
  omega
theorem p51_is (l : List En) (h : fitsE l) (hf : l.length < fu) : p51 fu (l, ((), (((([] : List Int), ()), ()), ())), ()) = some ((((), ()), (datas l, ()), (), ()), l) := by
  unfold p51
  obtain ⟨h1, h2, h3⟩ := h
  cases hl0 : l with
  | nil => rfl
  | cons a0 l0 =>
    rw [← hl0]
    have h0 : ((l.length : Int) == 0) = false := by rw [hl0]; simp; omega
    have h4 : (0 : Int) ≤ (l.length : Int) ∧ (l.length : Int) ≤ (l.length : Int) ∧ (l.length : Int) ≤ 9223372036854775807 ∧ (96 : Int) * (l.length : Int) ≤ 140737488355328 := by omega
    simp only [h0, cond_false, h4, and_self, decide_true, cond_true, Int.toNat_natCast, List.length_replicate]
    refine loopO_eq (I := fun s => ∃ i : Nat, s = ((l.take i ++ List.replicate (l.length - i) (dflt T_api_Entry), (i : Int), ()), (((), ()), (datas (l.take i), ()), ())) ∧ i ≤ l.length)
      (m := fun s => l.length - s.1.2.1.toNat) (g := fun _ => ((((), ()), (datas l, ()), (), ()), l)) ?_ fu _ ⟨0, by simp only [List.take_zero, List.nil_append, Nat.sub_zero, datas, List.flatMap_nil]; rfl, Nat.zero_le _⟩ (by simpa using hf)
    rintro s ⟨i, rfl, hi⟩
    by_cases hi' : i < l.length
    · left
      have hx := datas_take hi'
      have hm : l.getD i (dflt T_api_Entry) ∈ l := by rw [getD_lt hi']; exact List.getElem_mem _
      have e52 := p52_is (fu := fu) (l.getD i (dflt T_api_Entry)) (datas (l.take i)) (by omega) (h3 _ hm).1 (h3 _ hm).2
      have hlen : (l.take i ++ List.replicate (l.length - i) (dflt T_api_Entry)).length = l.length := by simp; omega
      refine ⟨((l.take (i + 1) ++ List.replicate (l.length - (i + 1)) (dflt T_api_Entry), ((i + 1 : Nat) : Int), ()), (((), ()), (datas (l.take (i + 1)), ()), ())), ?_, ⟨i + 1, rfl, hi'⟩, by simp only [Int.toNat_natCast]; omega, rfl⟩
      have hs : (l.take i ++ List.replicate (l.length - i) (dflt T_api_Entry)).set i (l.getD i (dflt T_api_Entry)) = l.take (i + 1) ++ List.replicate (l.length - (i + 1)) (dflt T_api_Entry) := by
        have ht : (l.take i).length = i := by simp; omega
        rw [List.set_append_right _ _ (by omega), ht, Nat.sub_self, show l.length - i = (l.length - (i + 1)) + 1 by omega, List.replicate_succ, List.set_cons_zero, take_snoc' hi' (dflt T_api_Entry)]
        simp
      rw [take_snoc' hi' (dflt T_api_Entry), datas_snoc, ← take_snoc' hi' (dflt T_api_Entry), ← hs]
      simp only [Int.ofNat_lt, hi', decide_true, cond_true, Int.natCast_nonneg, and_self, Int.toNat_natCast, e52, bind_val, hlen, List.length_set, i64_succ hi' (show l.length ≤ 9223372036854775807 by omega)]
    · right
      obtain rfl : i = l.length := by omega
      simp [inrO]
theorem p50_is (n : Nat) (h : n ≤ 140737488355328) : p50 fu ((n : Int), ()) = some ((), ([], ())) := by
  unfold p50
  have h1 : (0 : Int) ≤ 0 ∧ (0 : Int) ≤ (n : Int) ∧ (n : Int) ≤ 9223372036854775807 ∧ (1 : Int) * (n : Int) ≤ 140737488355328 := by omega
  simp only [h1, and_self, decide_true, cond_true]; rfl
theorem p30_is (l : List En) (h : fitsE l) (hf : l.length < fu) : p30 fu (l, ()) = some ((), l) := by
  unfold p30
  refine loopO_eq (I := fun s => ∃ i : Nat, s = ((((datas (l.take i)).length : Int), (i : Int), ()), ()) ∧ i ≤ l.length) (m := fun s => l.length - s.1.2.1.toNat) (g := fun _ => ((), l)) ?_ fu _ ⟨0, by simp [datas], Nat.zero_le _⟩ (by simpa using hf)
  rintro s ⟨i, rfl, hi⟩
  have h1 := h.1
  have h2 := h.2.1
  by_cases hi' : i < l.length
  · left
    have hx := datas_take hi'
    refine ⟨((((datas (l.take (i + 1))).length : Int), ((i + 1 : Nat) : Int), ()), ()), ?_, ⟨i + 1, rfl, hi'⟩, by simp only [Int.toNat_natCast]; omega, rfl⟩
    have hw : IntKind.wrap .i64 (((datas (l.take i)).length : Int) + ((l.getD i (dflt T_api_Entry)).2.2.2.1.length : Int)) = ((datas (l.take (i + 1))).length : Int) := by
      rw [take_snoc' hi' (dflt T_api_Entry), datas_snoc, i64_wrap (by omega) (by omega), List.length_append]; omega
    simp only [Int.ofNat_lt, hi', decide_true, cond_true, Int.natCast_nonneg, and_self, Int.toNat_natCast, hw, i64_succ hi' (show l.length ≤ 9223372036854775807 by omega)]
  · right
    obtain rfl : i = l.length := by omega
    rw [List.take_length]
    simp only [Int.lt_irrefl, decide_false, cond_false, p50_is (fu := fu) _ h2, bind_val, decide_true, cond_true, p51_is l h hf, inrO_val]
end
section
variable {fu : Nat}
def contig (b : Int) (l : List En) : Prop := ∀ j, j < l.length → (l.getD j (dflt T_api_Entry)).1 = b + 1 + (j : Int)
def placeI (b : Int) (l : List En) (i : Int) : Nat := min (i - b - 1).toNat l.length
theorem mid_is {lo hi : Nat} (h : lo + hi ≤ 9223372036854775807) : IntKind.wrap .i64 (Int.fdiv (IntKind.wrap .u64 (IntKind.wrap .i64 ((lo : Int) + (hi : Int)))) (2 ^ (min (Int.toNat (1 : Int)) (IntKind.bits .u64)))) = (((lo + hi) / 2 : Nat) : Int) := by
  have e1 : IntKind.wrap .i64 ((lo : Int) + (hi : Int)) = ((lo + hi : Nat) : Int) := by rw [i64_wrap (by omega) (by omega)]; omega
  have e2 : IntKind.wrap .u64 ((lo + hi : Nat) : Int) = ((lo + hi : Nat) : Int) := wrap_u64 (by omega) (by omega)
  have e3 : (2 : Int) ^ (min (Int.toNat (1 : Int)) (IntKind.bits .u64)) = 2 := rfl
  have e4 : Int.fdiv ((lo + hi : Nat) : Int) 2 = (((lo + hi) / 2 : Nat) : Int) := by
    rw [Int.fdiv_eq_ediv_of_nonneg _ (by omega)]; omega
  rw [e1, e2, e3, e4, i64_wrap (by omega) (by omega)]
theorem p48_is (a0 a1 : Int) (a2 a3 a4 : List Int) (l : List En) (b i : Int) (hc : contig b l) (hl : l.length ≤ 4611686018427387903) (hf : l.length < fu) :
    p48 fu ((l.length : Int), ((), ((a0, a1, a2, a3, a4, l, ()), (i, ()), ())), ()) = some (((a0, a1, a2, a3, a4, l, ()), (i, ()), ()), ((placeI b l i : Nat) : Int)) := by
  unfold p48
  refine loopO_eq (I := fun s => ∃ lo hi : Nat, s = (((lo : Int), (hi : Int), ()), ()) ∧ lo ≤ placeI b l i ∧ placeI b l i ≤ hi ∧ hi ≤ l.length)
    (m := fun s => (s.1.2.1 - s.1.1).toNat) (g := fun _ => (((a0, a1, a2, a3, a4, l, ()), (i, ()), ()), ((placeI b l i : Nat) : Int))) ?_ fu _ ⟨0, l.length, rfl, Nat.zero_le _, Nat.min_le_right _ _, Nat.le_refl _⟩ (by simpa using hf)
  rintro s ⟨lo, hi, rfl, h1, h2, h3⟩
  by_cases hlt : lo < hi
  · left
    have hm : (lo + hi) / 2 < l.length := by omega
    have hx := hc _ hm
    have hb : ((lo : Int) < (hi : Int)) := by omega
    simp only [hb, decide_true, cond_true, mid_is (show lo + hi ≤ 9223372036854775807 by omega), p49, Int.natCast_nonneg, Int.ofNat_lt, hm, and_self, Int.toNat_natCast, hx, bind_val]
    by_cases hge : b + 1 + (((lo + hi) / 2 : Nat) : Int) ≥ i
    · refine ⟨(((lo : Int), (((lo + hi) / 2 : Nat) : Int), ()), ()), by simp only [hge, decide_true, Bool.not_true, cond_false], ⟨lo, _, rfl, h1, ?_, by omega⟩, by simp only; omega, trivial⟩
      unfold placeI
      omega
    · refine ⟨((((((lo + hi) / 2 + 1 : Nat)) : Int), (hi : Int), ()), ()), by simp only [hge, decide_false, Bool.not_false, cond_true, i64_succ hm (show l.length ≤ 9223372036854775807 by omega)], ⟨_, hi, rfl, ?_, h2, h3⟩, by simp only; omega, trivial⟩
      unfold placeI at h2 ⊢
      omega
  · right
    have hb : ¬ ((lo : Int) < (hi : Int)) := by omega
    have : placeI b l i = lo := by omega
    simp only [hb, decide_false, cond_false, inrO_val, this]
theorem p29_is (a0 a1 : Int) (a2 a3 a4 : List Int) (l : List En) (b i : Int) (hc : contig b l) (hl : l.length ≤ 4611686018427387903) (hf : l.length < fu) :
    p29 fu ((a0, a1, a2, a3, a4, l, ()), i, ()) = some ((), ((placeI b l i : Nat) : Int)) := by
  simp only [p29, p48_is a0 a1 a2 a3 a4 l b i hc hl hf, bind_val]
theorem p22_is (a0 a1 : Int) (a2 a3 a4 : List Int) (l : List En) (hl : l.length ≤ 4611686018427387903) :
    p22 fu ((a0, a1, a2, a3, a4, l, ()), ()) = some ((), (if l = [] then (a0, a1, ()) else ((l.getD (l.length - 1) (dflt T_api_Entry)).1, (l.getD (l.length - 1) (dflt T_api_Entry)).2.1, ()))) := by
  unfold p22
  by_cases h : l = []
  · subst h; rfl
  · have h0 : 0 < l.length := List.length_pos_iff.2 h
    have hw : IntKind.wrap .i64 ((l.length : Int) - 1) = ((l.length - 1 : Nat) : Int) := i64_pred h0 (by omega)
    have h1 : (l.length : Int) > 0 := by omega
    have h2 : l.length - 1 < l.length := by omega
    simp only [h1, decide_true, cond_true, hw, Int.natCast_nonneg, Int.ofNat_lt, h2, and_self, Int.toNat_natCast, h, if_false]
end
section
variable {fu : Nat}
def termI (b t : Int) (l : List En) (i : Int) : Int × Bool :=
  if i = b then (t, true) else if placeI b l i < l.length ∧ (l.getD (placeI b l i) (dflt T_api_Entry)).1 = i then ((l.getD (placeI b l i) (dflt T_api_Entry)).2.1, true) else (0, false)
theorem p21_is (b t : Int) (a2 a3 a4 : List Int) (l : List En) (i : Int) (hc : contig b l) (hl : l.length ≤ 4611686018427387903) (hf : l.length < fu) :
    p21 fu ((b, t, a2, a3, a4, l, ()), i, ()) = some ((), ((termI b t l i).1, (termI b t l i).2, ())) := by
  unfold p21 termI
  by_cases h0 : i = b
  · subst h0
    simp only [beq_self_eq_true, cond_true, if_true]
  · have h0' : (i == b) = false := by simpa using h0
    simp only [h0', cond_false, h0, if_false, p29_is b t a2 a3 a4 l b i hc hl hf, bind_val]
    by_cases hk : placeI b l i < l.length
    · simp only [Int.ofNat_lt, hk, decide_true, cond_true, Int.natCast_nonneg, true_and, and_self, Int.toNat_natCast, orK_inl]
      by_cases he : (l.getD (placeI b l i) (dflt T_api_Entry)).1 = i
      · simp only [he, beq_self_eq_true, cond_true, if_true]
      · have he' : ((l.getD (placeI b l i) (dflt T_api_Entry)).1 == i) = false := by simpa using he
        simp only [he', cond_false, he, if_false]
    · simp only [Int.ofNat_lt, hk, decide_false, cond_false, orK_inl, false_and, if_false]
end
section
variable {fu : Nat}
def smallX (x : En) : Prop := x.2.2.2.1.length ≤ 1048576 ∧ x.2.2.2.2.1.length ≤ 1048576 ∧ x.2.2.2.2.2.length ≤ 1048576
def small (n : Nat) (l : List En) : Prop := l.length ≤ n ∧ ∀ x ∈ l, smallX x
theorem small_fits {n : Nat} {l : List En} (hn : n ≤ 4194304) (h : small n l) : fitsE l := by
  refine ⟨by have := h.1; omega, ?_, fun x hx => by have := h.2 x hx; unfold smallX at this; omega⟩
  have : ∀ l : List En, (∀ x ∈ l, smallX x) → (datas l).length ≤ l.length * 1048576 := by
    intro l
    induction l with
    | nil => intro _; simp [datas]
    | cons x l ih =>
      intro h
      have h1 := ih fun y hy => h y (List.mem_cons_of_mem _ hy)
      have h2 := (h x List.mem_cons_self).1
      simp only [datas, List.flatMap_cons, List.length_append, List.length_cons] at h1 ⊢
      omega
  have h1 := this l h.2
  have := h.1
  omega
theorem small_take {n k : Nat} {l : List En} (h : small n l) : small n (l.take k) := ⟨by have := h.1; simp; omega, fun x hx => h.2 x (List.mem_of_mem_take hx)⟩
theorem small_drop {n k : Nat} {l : List En} (h : small n l) : small n (l.drop k) := ⟨by have := h.1; simp; omega, fun x hx => h.2 x (List.mem_of_mem_drop hx)⟩
theorem small_get {n i : Nat} {l : List En} (h : small n l) (hi : i < l.length) : smallX (l.getD i (dflt T_api_Entry)) := by rw [getD_lt hi]; exact h.2 _ (List.getElem_mem _)
def isE (x : En) : Bool := if x.2.2.1 = 2 then decide (x.2.2.2.2.1.length + x.2.2.2.2.2.length = 0) else if x.2.2.1 = 1 then decide (x.2.2.2.1.length + x.2.2.2.2.1.length + x.2.2.2.2.2.length = 0) else if x.2.2.1 = 3 then decide (x.2.2.2.1.length = 0) else false
theorem p55_is (x : En) (h : smallX x) : p55 fu ((x.1, x.2.1, x.2.2.1, x.2.2.2.1, x.2.2.2.2.1, x.2.2.2.2.2, ()), ()) = some ((), isE x) := by
  obtain ⟨a, b, k, d, v, l⟩ := x
  obtain ⟨h1, h2, h3⟩ := h
  simp only at h1 h2 h3
  unfold p55 isE
  simp only
  have w1 : IntKind.wrap .i64 ((v.length : Int) + (l.length : Int)) = ((v.length + l.length : Nat) : Int) := by rw [i64_wrap (by omega) (by omega)]; try omega
  have w2 : IntKind.wrap .i64 ((IntKind.wrap .i64 ((d.length : Int) + (v.length : Int))) + (l.length : Int)) = ((d.length + v.length + l.length : Nat) : Int) := by
    rw [i64_wrap (x := (d.length : Int) + v.length) (by omega) (by omega), i64_wrap (by omega) (by omega)]; try omega
  have z : ∀ n : Nat, (((n : Nat) : Int) == (0 : Int)) = decide (n = 0) := fun n => by rw [Bool.eq_iff_iff]; simp
  rw [w1, w2, z, z, z]
  by_cases k2 : k = 2
  · subst k2; rfl
  · have : (k == (2 : Int)) = false := by simpa using k2
    simp only [this, cond_false, k2, if_false]
    by_cases k1 : k = 1
    · subst k1; rfl
    · have : (k == (1 : Int)) = false := by simpa using k1
      simp only [this, cond_false, k1, if_false]
      by_cases k3 : k = 3
      · subst k3; rfl
      · have : (k == (3 : Int)) = false := by simpa using k3
        simp only [this, cond_false, k3, if_false]
theorem loopO_bool {S : Type} {f : S → Option (S ⊕ (Unit × Bool))} {s : S} {n : Nat} (I : S → Prop) (m : S → Nat) (Q : Bool → Prop) (hs : I s) (hn : m s < n) (h : ∀ s, I s → ∃ o, f s = some o ∧ LStep I m (fun r : Unit × Bool => Q r.2) s o) : ∃ r, loopO n f s = some ((), r) ∧ Q r := by
  obtain ⟨⟨_, r⟩, h1, h2⟩ := loopO_rule I m (fun r : Unit × Bool => Q r.2) h n s hs hn
  exact ⟨r, h1, h2⟩
def termAt (t : Int) (l : List En) (i : Nat) : Int := if i = 0 then t else (l.getD (i - 1) (dflt T_api_Entry)).2.1
def okE (b t : Int) (l : List En) (i : Nat) : Prop := (l.getD i (dflt T_api_Entry)).1 = b + 1 + (i : Int) ∧ termAt t l i ≤ (l.getD i (dflt T_api_Entry)).2.1 ∧ isE (l.getD i (dflt T_api_Entry)) = true
def Fol (b t : Int) (l : List En) : Prop := b < 4611686018427387904 ∧ (l.length : Int) < 4611686018427387904 - b ∧ ∀ i, i < l.length → okE b t l i
theorem Fol.contig {b t : Int} {l : List En} (h : Fol b t l) : contig b l := fun j hj => (h.2.2 j hj).1
theorem u64_succ {b : Int} {i : Nat} (h0 : 0 ≤ b) (h : b + (i : Int) < 4611686018427387904) : IntKind.wrap .u64 (b + (i : Int) + 1) = b + ((i + 1 : Nat) : Int) := by
  rw [wrap_u64 (by omega) (by omega)]; omega
theorem p39_ex (b t : Int) (l : List En) {n : Nat} (h0 : 0 ≤ b) (hs : small n l) (hn : n ≤ 4194304) (hf : l.length < fu) : ∃ r, p39 fu (b, t, l, ()) = some ((), r) ∧ (r = true ↔ Fol b t l) := by
  have hl := hs.1
  unfold p39
  simp only
  by_cases h1 : b ≥ 4611686018427387904
  · simp only [h1, decide_true, cond_true]
    exact ⟨_, rfl, by simp [Fol]; omega⟩
  · have w1 : IntKind.wrap .u64 (l.length : Int) = (l.length : Int) := wrap_u64 (by omega) (by omega)
    have w2 : IntKind.wrap .u64 (4611686018427387904 - b) = 4611686018427387904 - b := wrap_u64 (by omega) (by omega)
    simp only [h1, decide_false, cond_false, w1, w2]
    by_cases h2 : (l.length : Int) ≥ 4611686018427387904 - b
    · simp only [h2, decide_true, cond_true]
      exact ⟨_, rfl, by simp [Fol]; omega⟩
    · simp only [h2, decide_false, cond_false]
      refine loopO_bool (I := fun s => ∃ i : Nat, s = ((b + (i : Int), termAt t l i, (i : Int), ()), ()) ∧ i ≤ l.length ∧ ∀ j, j < i → okE b t l j) (m := fun s => l.length - s.1.2.2.1.toNat)
        (Q := fun r => r = true ↔ Fol b t l) ⟨0, by simp [termAt], Nat.zero_le _, fun j hj => absurd hj (Nat.not_lt_zero _)⟩ (by simpa using hf) ?_
      rintro s ⟨i, rfl, hi, hk⟩
      by_cases hi' : i < l.length
      · have g1 : ((i : Int) < (l.length : Int)) := by omega
        simp only [g1, decide_true, cond_true, Int.natCast_nonneg, and_self, Int.toNat_natCast, hi', u64_succ h0 (show b + (i : Int) < 4611686018427387904 by omega)]
        have hx := small_get hs hi'
        have bad : ¬ okE b t l i → ¬ Fol b t l := fun h k => h (k.2.2 i hi')
        obtain ⟨x, ex⟩ : ∃ x, l.getD i (dflt T_api_Entry) = x := ⟨_, rfl⟩
        rw [ex] at hx
        have okx : okE b t l i ↔ x.1 = b + 1 + (i : Int) ∧ termAt t l i ≤ x.2.1 ∧ isE x = true := by unfold okE; rw [ex]
        rw [okx] at bad
        have tx : termAt t l (i + 1) = x.2.1 := by unfold termAt; rw [if_neg (Nat.succ_ne_zero i), Nat.add_sub_cancel, ex]
        simp only [ex, p55_is x hx, bind_val]
        by_cases e1 : x.1 = b + ((i + 1 : Nat) : Int)
        · simp only [e1, bne_self_eq_false, cond_false]
          by_cases e2 : x.2.1 < termAt t l i
          · simp only [e2, decide_true, cond_true]
            exact ⟨_, rfl, show false = true ↔ Fol b t l from ⟨fun h => (by cases h), fun h => absurd h (bad (by omega))⟩⟩
          · simp only [e2, decide_false, cond_false]
            cases e3 : isE x with
            | false =>
              refine ⟨_, rfl, ?_⟩
              show false = true ↔ Fol b t l
              rw [Bool.false_eq_true, false_iff]
              exact bad (by rw [e3]; simp)
            | true =>
              refine ⟨_, rfl, ⟨i + 1, ?_, hi', fun j hj => ?_⟩, ?_⟩
              · rw [tx, i64_succ hi' (by omega)]
              · rcases Nat.lt_succ_iff_lt_or_eq.1 hj with hj | rfl
                · exact hk j hj
                · exact okx.2 ⟨by omega, by omega, e3⟩
              · simp only [i64_succ hi' (show l.length ≤ 9223372036854775807 by omega), Int.toNat_natCast]; omega
        · have e1' : (x.1 != b + ((i + 1 : Nat) : Int)) = true := by simpa using e1
          simp only [e1', cond_true]
          exact ⟨_, rfl, show false = true ↔ Fol b t l from ⟨fun h => (by cases h), fun h => absurd h (bad (by omega))⟩⟩
      · obtain rfl : i = l.length := by omega
        simp only [Int.lt_irrefl, decide_false, cond_false]
        exact ⟨_, rfl, show true = true ↔ Fol b t l from ⟨fun _ => ⟨by omega, by omega, hk⟩, fun _ => rfl⟩⟩
theorem p20_ex (b t : Int) (a2 a3 a4 : List Int) (l : List En) {n : Nat} (h0 : 0 ≤ b) (hs : small n l) (hn : n ≤ 4194304) (hf : l.length < fu) : ∃ r, p20 fu ((b, t, a2, a3, a4, l, ()), ()) = some ((), r) ∧ (r = true ↔ Fol b t l) := by
  obtain ⟨r, h1, h2⟩ := p39_ex (fu := fu) b t l h0 hs hn hf
  exact ⟨r, by simp only [p20, h1, bind_val], h2⟩
theorem p54_ex (x : En) (i t : Int) (h : smallX x) : ∃ r, p54 fu ((x.1, x.2.1, x.2.2.1, x.2.2.2.1, x.2.2.2.2.1, x.2.2.2.2.2, ()), i, t, ()) = some ((), r) ∧ (r = true → x.1 = i ∧ t ≤ x.2.1 ∧ isE x = true) := by
  obtain ⟨a, b, k, d, v, l⟩ := x
  obtain ⟨h1, h2, h3⟩ := h
  simp only at h1 h2 h3
  unfold p54 isE
  simp only
  have z : ∀ n : Nat, (((n : Nat) : Int) == (0 : Int)) = decide (n = 0) := fun n => by rw [Bool.eq_iff_iff]; simp
  rw [z, z, z]
  by_cases e1 : a = i
  · subst e1
    simp only [bne_self_eq_false, cond_false]
    by_cases e2 : b < t
    · simp only [e2, decide_true, cond_true]; exact ⟨_, rfl, by simp⟩
    · simp only [e2, decide_false, cond_false]
      by_cases e3 : b ≥ 4611686018427387904
      · simp only [e3, decide_true, cond_true]; exact ⟨_, rfl, by simp⟩
      · simp only [e3, decide_false, cond_false]
        have hh : orK (if v.length = 0 then some (Sum.inl (((decide (l.length = 0)), ()), ())) else some (Sum.inl ((false, ()), ()))) = orK (E := (Bool × Unit) × Unit) (R := Unit × Bool) (some (.inl ((decide (v.length = 0 ∧ l.length = 0), ()), ()))) := by
          by_cases hv : v.length = 0 <;> simp [hv]
        rw [show (bif decide (v.length = 0) then some (Sum.inl (((decide (l.length = 0)), ()), ())) else some (Sum.inl ((false, ()), ()))) = (if v.length = 0 then some (Sum.inl (((decide (l.length = 0)), ()), ())) else some (Sum.inl ((false, ()), ())) : Option (((Bool × Unit) × Unit) ⊕ (Unit × Bool))) by
          by_cases hv : v.length = 0 <;> simp [hv], hh]
        simp only [orK_inl]
        by_cases k1 : k = 1
        · subst k1
          simp only [beq_self_eq_true, cond_true]
          by_cases hv : v.length = 0 ∧ l.length = 0
          · simp only [hv, and_self, decide_true, cond_true]
            exact ⟨_, rfl, by simp [-List.length_eq_zero_iff]; omega⟩
          · simp only [hv, decide_false, cond_false]
            exact ⟨_, rfl, by simp⟩
        · have : (k == (1 : Int)) = false := by simpa using k1
          simp only [this, cond_false]
          by_cases k2 : k = 2
          · subst k2
            simp only [beq_self_eq_true, cond_true]
            exact ⟨_, rfl, by simp [-List.length_eq_zero_iff]; omega⟩
          · have : (k == (2 : Int)) = false := by simpa using k2
            simp only [this, cond_false]
            by_cases k3 : k = 3
            · subst k3
              simp only [beq_self_eq_true, cond_true]
              exact ⟨_, rfl, by simp [-List.length_eq_zero_iff]; omega⟩
            · have : (k == (3 : Int)) = false := by simpa using k3
              simp only [this, cond_false]
              exact ⟨_, rfl, by simp⟩
  · have e1' : (a != i) = true := by simpa using e1
    simp only [e1', cond_true]
    exact ⟨_, rfl, by simp⟩
theorem p31_ex (b t : Int) (l : List En) {n : Nat} (h0 : 0 ≤ b) (hs : small n l) (hn : n ≤ 4194304) (hf : l.length < fu) : ∃ r, p31 fu (b, t, l, ()) = some ((), r) ∧ (r = true → Fol b t l) := by
  have hl := hs.1
  unfold p31
  simp only
  by_cases h1 : b ≥ 4611686018427387904
  · simp only [h1, decide_true, cond_true]
    exact ⟨_, rfl, by simp⟩
  · have w1 : IntKind.wrap .u64 (l.length : Int) = (l.length : Int) := wrap_u64 (by omega) (by omega)
    have w2 : IntKind.wrap .u64 (4611686018427387904 - b) = 4611686018427387904 - b := wrap_u64 (by omega) (by omega)
    simp only [h1, decide_false, cond_false, w1, w2]
    by_cases h2 : (l.length : Int) ≥ 4611686018427387904 - b
    · simp only [h2, decide_true, cond_true]
      exact ⟨_, rfl, by simp⟩
    · simp only [h2, decide_false, cond_false]
      refine loopO_bool (I := fun s => ∃ i : Nat, s = ((termAt t l i, (i : Int), ()), ()) ∧ i ≤ l.length ∧ ∀ j, j < i → okE b t l j) (m := fun s => l.length - s.1.2.1.toNat)
        (Q := fun r => r = true → Fol b t l) ⟨0, by simp [termAt], Nat.zero_le _, fun j hj => absurd hj (Nat.not_lt_zero _)⟩ (by simpa using hf) ?_
      rintro s ⟨i, rfl, hi, hk⟩
      by_cases hi' : i < l.length
      · have g1 : ((i : Int) < (l.length : Int)) := by omega
        have w3 : IntKind.wrap .u64 (i : Int) = (i : Int) := wrap_u64 (by omega) (by omega)
        have w4 : IntKind.wrap .u64 (b + (i : Int)) = b + (i : Int) := wrap_u64 (by omega) (by omega)
        simp only [g1, decide_true, cond_true, Int.natCast_nonneg, and_self, Int.toNat_natCast, hi', w3, w4, u64_succ h0 (show b + (i : Int) < 4611686018427387904 by omega)]
        have hx := small_get hs hi'
        obtain ⟨x, ex⟩ : ∃ x, l.getD i (dflt T_api_Entry) = x := ⟨_, rfl⟩
        rw [ex] at hx
        have okx : okE b t l i ↔ x.1 = b + 1 + (i : Int) ∧ termAt t l i ≤ x.2.1 ∧ isE x = true := by unfold okE; rw [ex]
        have tx : termAt t l (i + 1) = x.2.1 := by unfold termAt; rw [if_neg (Nat.succ_ne_zero i), Nat.add_sub_cancel, ex]
        obtain ⟨r, hr, hr2⟩ := p54_ex (fu := fu) x (b + ((i + 1 : Nat) : Int)) (termAt t l i) hx
        simp only [ex, hr, bind_val]
        cases r with
        | false => exact ⟨_, rfl, show false = true → Fol b t l from fun h => by cases h⟩
        | true =>
          obtain ⟨q1, q2, q3⟩ := hr2 rfl
          refine ⟨_, rfl, ⟨i + 1, ?_, hi', fun j hj => ?_⟩, ?_⟩
          · rw [tx, i64_succ hi' (by omega)]
          · rcases Nat.lt_succ_iff_lt_or_eq.1 hj with hj | rfl
            · exact hk j hj
            · exact okx.2 ⟨by omega, q2, q3⟩
          · simp only [i64_succ hi' (show l.length ≤ 9223372036854775807 by omega), Int.toNat_natCast]; omega
      · obtain rfl : i = l.length := by omega
        simp only [Int.lt_irrefl, decide_false, cond_false]
        exact ⟨_, rfl, show true = true → Fol b t l from fun _ => ⟨by omega, by omega, hk⟩⟩
theorem p12_ex (b t : Int) (a2 a3 a4 : List Int) (l : List En) {n : Nat} (h0 : 0 ≤ b) (hs : small n l) (hn : n ≤ 4194304) (hf : l.length < fu) : ∃ r, p12 fu ((b, t, a2, a3, a4, l, ()), ()) = some ((), r) ∧ (r = true → Fol b t l) := by
  obtain ⟨r, h1, h2⟩ := p31_ex (fu := fu) b t l h0 hs hn hf
  unfold p12
  by_cases h : t < 4611686018427387904
  · exact ⟨r, by simp only [h, decide_true, cond_true, h1, bind_val], h2⟩
  · exact ⟨false, by simp only [h, decide_false, cond_false], by simp⟩
end
section
variable {fu : Nat}
@[reducible] def LStepG {S R R' : Type} (g : R' → R) (I : S → Prop) (m : S → Nat) (Q : R' → Prop) (s : S) : S ⊕ R → Prop
  | .inl s' => I s' ∧ m s' < m s
  | .inr r => ∃ r', r = g r' ∧ Q r'
theorem loopO_img {S R R' : Type} {f : S → Option (S ⊕ R)} {s : S} {n : Nat} (g : R' → R) (I : S → Prop) (m : S → Nat) (Q : R' → Prop) (hs : I s) (hn : m s < n) (h : ∀ s, I s → ∃ o, f s = some o ∧ LStepG g I m Q s o) : ∃ r, loopO n f s = some (g r) ∧ Q r := by
  obtain ⟨r, h1, r', h2, h3⟩ := loopO_rule I m (fun r => ∃ r', r = g r' ∧ Q r') (fun s hs => by
    obtain ⟨o, e1, e2⟩ := h s hs
    refine ⟨o, e1, ?_⟩
    cases o with
    | inl s' => exact e2
    | inr r => exact e2) n s hs hn
  exact ⟨r', by rw [h1, h2], h3⟩
theorem p46_refl (a : List Int) (h : a.length ≤ 9223372036854775807) (hf : a.length < fu) : p46 fu (a, a, ()) = some ((), true) := by
  unfold p46
  simp only [bne_self_eq_false, cond_false]
  refine loopO_eq (I := fun s => ∃ i : Nat, s = (((i : Int), ()), ()) ∧ i ≤ a.length) (m := fun s => a.length - s.1.1.toNat) (g := fun _ => ((), true)) ?_ fu _ ⟨0, rfl, Nat.zero_le _⟩ (by simpa using hf)
  rintro s ⟨i, rfl, h1⟩
  by_cases hi : i < a.length
  · left
    refine ⟨((((i + 1 : Nat) : Int), ()), ()), ?_, ⟨i + 1, rfl, hi⟩, by simp only [Int.toNat_natCast]; omega, rfl⟩
    simp only [Int.ofNat_lt, hi, decide_true, cond_true, Int.natCast_nonneg, true_and, Int.toNat_natCast, i64_succ hi h]
  · right
    obtain rfl : i = a.length := by omega
    simp [inrO]
theorem p24_refl (a b : List Int) (h : a.length ≤ 1048576) (h' : b.length ≤ 1048576) (hf : 1048576 < fu) : p24 fu ((a, b, ()), (a, b, ()), ()) = some ((), true) := by
  simp only [p24, p46_refl a (by omega) (show a.length < fu by omega), p46_refl b (by omega) (show b.length < fu by omega), bind_val, cond_true]
theorem p34_refl (x : En) (hx : smallX x) (hf : 1048576 < fu) : p34 fu ((x.1, x.2.1, x.2.2.1, x.2.2.2.1, x.2.2.2.2.1, x.2.2.2.2.2, ()), (x.1, x.2.1, x.2.2.1, x.2.2.2.1, x.2.2.2.2.1, x.2.2.2.2.2, ()), ()) = some ((), true) := by
  simp only [p34, p24_refl _ _ hx.2.1 hx.2.2 hf, bind_val, cond_true, beq_self_eq_true]
theorem p14_refl (l : List En) {n : Nat} (hs : small n l) (hn : n ≤ 4194304) (hf : 4194304 < fu) : p14 fu (l, l, ()) = some ((), true) := by
  have hl := hs.1
  unfold p14
  simp only [bne_self_eq_false, cond_false]
  refine loopO_eq (I := fun s => ∃ i : Nat, s = (((i : Int), ()), ()) ∧ i ≤ l.length) (m := fun s => l.length - s.1.1.toNat) (g := fun _ => ((), true)) ?_ fu _ ⟨0, rfl, Nat.zero_le _⟩ (by simp; omega)
  rintro s ⟨i, rfl, h1⟩
  by_cases hi : i < l.length
  · left
    refine ⟨((((i + 1 : Nat) : Int), ()), ()), ?_, ⟨i + 1, rfl, hi⟩, by simp only [Int.toNat_natCast]; omega, rfl⟩
    simp only [Int.ofNat_lt, hi, decide_true, cond_true, Int.natCast_nonneg, Int.toNat_natCast, and_self, p34_refl _ (small_get hs hi) (show 1048576 < fu by omega), bind_val, Bool.not_true, cond_false, i64_succ hi (show l.length ≤ 9223372036854775807 by omega)]
  · right
    obtain rfl : i = l.length := by omega
    simp [inrO]
def smallB (a2 a3 a4 : List Int) : Prop := a2.length ≤ 1048576 ∧ a3.length ≤ 1048576 ∧ a4.length ≤ 1048576
theorem p16_refl (b t : Int) (a2 a3 a4 : List Int) (l : List En) {n : Nat} (hb : smallB a2 a3 a4) (hs : small n l) (hn : n ≤ 4194304) (hf : 4194304 < fu) : p16 fu ((b, t, a2, a3, a4, l, ()), (b, t, a2, a3, a4, l, ()), ()) = some ((), true) := by
  simp only [p16, p35, p24_refl a2 a3 hb.1 hb.2.1 (show 1048576 < fu by omega), p14_refl l hs hn hf, bind_val, cond_true, beq_self_eq_true]
theorem slice_drop {α : Type} (l : List α) (k : Nat) : slice' l k none = l.drop k := by cases k <;> rfl
end
section
variable {fu : Nat}
theorem termI_base (b t : Int) (l : List En) : termI b t l b = (t, true) := by simp [termI]
theorem placeI_at {b : Int} {l : List En} {k : Nat} (hk : k ≤ l.length) : placeI b l (b + 1 + (k : Int)) = k := by unfold placeI; omega
theorem termI_in {b t : Int} {l : List En} (hc : contig b l) {k : Nat} (hk : k < l.length) : termI b t l (b + 1 + (k : Int)) = ((l.getD k (dflt T_api_Entry)).2.1, true) := by
  unfold termI
  rw [if_neg (by omega), placeI_at (by omega), if_pos ⟨hk, hc k hk⟩]
theorem getD_app {α : Type} (a c : List α) (i : Nat) (d : α) : (a ++ c).getD i d = if i < a.length then a.getD i d else c.getD (i - a.length) d := by
  simp only [List.getD_eq_getElem?_getD, List.getElem?_append]
  split <;> rfl
theorem p26_is (a0 a1 : Int) (a2 a3 a4 : List Int) (l : List En) (i t : Int) (hl : l.length ≤ 4611686018427387903) : ∃ r, p26 fu ((a0, a1, a2, a3, a4, l, ()), i, t, ()) = some ((), r) ∧
    (t < (if l = [] then (a0, a1, ()) else ((l.getD (l.length - 1) (dflt T_api_Entry)).1, (l.getD (l.length - 1) (dflt T_api_Entry)).2.1, ())).2.1 → r = false) := by
  unfold p26
  simp only [p22_is a0 a1 a2 a3 a4 l hl, bind_val]
  generalize (if l = [] then (a0, a1, ()) else ((l.getD (l.length - 1) (dflt T_api_Entry)).1, (l.getD (l.length - 1) (dflt T_api_Entry)).2.1, ())) = z
  by_cases h1 : t > z.2.1
  · simp only [h1, decide_true, cond_true]; exact ⟨_, rfl, fun h => by omega⟩
  · simp only [h1, decide_false, cond_false]
    by_cases h2 : t = z.2.1
    · exact ⟨_, by rw [h2]; simp only [beq_self_eq_true, cond_true]; rfl, fun h => by omega⟩
    · have : (t == z.2.1) = false := by simpa using h2
      simp only [this, cond_false]
      exact ⟨_, rfl, fun _ => rfl⟩
theorem p9_is (hf : 4194304 < fu) : p9 fu () = some ((), true) := by
  obtain ⟨l, hl⟩ : ∃ l : List En, l = [((3 : Int), (1 : Int), (2 : Int), [], [], []), ((4 : Int), (2 : Int), (2 : Int), [], [], [])] := ⟨_, rfl⟩
  have hc : contig 2 l := fun j hj => by
    subst hl
    match j, hj with
    | 0, _ => rfl
    | 1, _ => rfl
  have hlen : l.length = 2 := by subst hl; rfl
  have hs : small 2 l := ⟨by omega, fun x hx => by
    subst hl
    simp only [List.mem_cons, List.not_mem_nil, or_false] at hx
    rcases hx with rfl | rfl <;> exact ⟨by simp, by simp, by simp⟩⟩
  have hfol : Fol 2 1 l := ⟨by decide, by rw [hlen]; decide, fun j hj => by
    subst hl
    match j, hj with
    | 0, _ => exact ⟨rfl, by decide, rfl⟩
    | 1, _ => exact ⟨rfl, by decide, rfl⟩⟩
  have e25 : p25 fu () = some ((), (2, 1, [], [], [], l, ())) := by subst hl; rfl
  have e22 := p22_is (fu := fu) 2 1 [] [] [] l (by omega)
  have hne : l ≠ [] := by subst hl; simp
  have h4 : (l.getD (l.length - 1) (dflt T_api_Entry)).1 = 4 ∧ (l.getD (l.length - 1) (dflt T_api_Entry)).2.1 = 2 := by subst hl; exact ⟨rfl, rfl⟩
  rw [if_neg hne, h4.1, h4.2] at e22
  have e21 := p21_is (fu := fu) 2 1 [] [] [] l 2 hc (by omega) (by omega)
  rw [termI_base] at e21
  obtain ⟨r, e20, h20⟩ := p20_ex (fu := fu) 2 1 [] [] [] l (by decide) hs (by decide) (by omega)
  have hr := h20.2 hfol
  subst hr
  obtain ⟨r, e26, h26⟩ := p26_is (fu := fu) 2 1 [] [] [] l 9 1 (by omega)
  rw [if_neg hne, h4.1, h4.2] at h26
  have hr := h26 (by decide)
  subst hr
  simp only [p9, e25, e22, e21, e20, e26, bind_val, decide_true, cond_true, beq_self_eq_true]
end
section
variable {fu : Nat}
theorem lastI {b t : Int} {l : List En} (hc : contig b l) : (if l = [] then (b, t, ()) else ((l.getD (l.length - 1) (dflt T_api_Entry)).1, (l.getD (l.length - 1) (dflt T_api_Entry)).2.1, ())) = (b + (l.length : Int), termAt t l l.length, ()) := by
  by_cases h : l = []
  · subst h; simp [termAt]
  · have h0 : 0 < l.length := List.length_pos_iff.2 h
    have := hc (l.length - 1) (by omega)
    rw [if_neg h, this, termAt, if_neg (by omega)]
    congr 1
    omega
theorem p22_at (b t : Int) (a2 a3 a4 : List Int) (l : List En) (hc : contig b l) (hl : l.length ≤ 4611686018427387903) : p22 fu ((b, t, a2, a3, a4, l, ()), ()) = some ((), (b + (l.length : Int), termAt t l l.length, ())) := by
  rw [p22_is b t a2 a3 a4 l hl, lastI hc]
theorem termI_at {b t : Int} {l : List En} (hc : contig b l) {q : Nat} (hq : q ≤ l.length) : termI b t l (b + (q : Int)) = (termAt t l q, true) := by
  cases q with
  | zero => rw [show b + ((0 : Nat) : Int) = b by omega, termI_base]; rfl
  | succ q => rw [show b + ((q + 1 : Nat) : Int) = b + 1 + (q : Int) by omega, termI_in hc hq, termAt, if_neg (Nat.succ_ne_zero q), Nat.add_sub_cancel]
end
section
variable {fu : Nat}
theorem p47_is (a c : List Int) (ha : a.length ≤ 1048576) (hc : c.length ≤ 1048576) : p47 fu ((a, c, ()), ()) = some ((), (a, c, ())) := by
  have h1 : a.length ≤ maxLen ∧ a.length * 8 ≤ 140737488355328 := by unfold maxLen; omega
  have h2 : c.length ≤ maxLen ∧ c.length * 8 ≤ 140737488355328 := by unfold maxLen; omega
  simp only [p47, List.nil_append, List.length_nil, Nat.zero_add, h1, h2, and_self, decide_true, cond_true]
theorem p27_is (b t : Int) (a2 a3 a4 : List Int) (hb : smallB a2 a3 a4) : p27 fu ((b, t, a2, a3, a4, ()), ()) = some ((), (b, t, a2, a3, a4, ())) := by
  obtain ⟨h1, h2, h3⟩ := hb
  have h4 : a4.length ≤ maxLen ∧ a4.length * 1 ≤ 140737488355328 := by unfold maxLen; omega
  simp only [p27, p47_is a2 a3 h1 h2, bind_val, List.nil_append, List.length_nil, Nat.zero_add, h4, and_self, decide_true, cond_true]
theorem p33_is (x : En) (hx : smallX x) : p33 fu ((x.1, x.2.1, x.2.2.1, x.2.2.2.1, x.2.2.2.2.1, x.2.2.2.2.2, ()), ()) = some ((), (x.1, x.2.1, x.2.2.1, x.2.2.2.1, x.2.2.2.2.1, x.2.2.2.2.2, ())) := by
  obtain ⟨h1, h2, h3⟩ := hx
  have h4 : x.2.2.2.1.length ≤ maxLen ∧ x.2.2.2.1.length * 1 ≤ 140737488355328 := by unfold maxLen; omega
  simp only [p33, p47_is _ _ h2 h3, bind_val, List.nil_append, List.length_nil, Nat.zero_add, h4, and_self, decide_true, cond_true]
theorem p28_is (l : List En) {n : Nat} (hs : small n l) (hn : n ≤ 4194304) (hf : 4194304 < fu) : p28 fu (l, ()) = some ((), l) := by
  have hl := hs.1
  unfold p28
  refine loopO_eq (I := fun s => ∃ i : Nat, s = ((l.take i, (i : Int), ()), ()) ∧ i ≤ l.length) (m := fun s => l.length - s.1.2.1.toNat) (g := fun _ => ((), l)) ?_ fu _ ⟨0, rfl, Nat.zero_le _⟩ (by simp; omega)
  rintro s ⟨i, rfl, hi⟩
  by_cases hi' : i < l.length
  · left
    have hx := small_get hs hi'
    have e : l.take i ++ [l.getD i (dflt T_api_Entry)] = l.take (i + 1) := (take_snoc' hi' _).symm
    have hlen : (l.take i).length = i := by simp; omega
    have h4 : i + 1 ≤ maxLen ∧ (i + 1) * 96 ≤ 140737488355328 := by unfold maxLen; omega
    refine ⟨((l.take (i + 1), ((i + 1 : Nat) : Int), ()), ()), ?_, ⟨i + 1, rfl, hi'⟩, by simp only [Int.toNat_natCast]; omega, rfl⟩
    simp only [Int.ofNat_lt, hi', decide_true, cond_true, Int.natCast_nonneg, and_self, Int.toNat_natCast, p33_is _ hx, bind_val, List.length_cons, List.length_nil, Nat.zero_add, hlen, h4, i64_succ hi' (show l.length ≤ 9223372036854775807 by omega)]
    rw [← e]
  · right
    obtain rfl : i = l.length := by omega
    simp only [Int.lt_irrefl, decide_false, cond_false, decide_true, cond_true, inrO_val, List.take_length]
theorem p10_is (b t : Int) (a2 a3 a4 : List Int) (l : List En) {n : Nat} (hb : smallB a2 a3 a4) (hs : small n l) (hn : n ≤ 4194304) (hf : 4194304 < fu) : p10 fu ((b, t, a2, a3, a4, l, ()), ()) = some ((), (b, t, a2, a3, a4, l, ())) := by
  simp only [p10, p27_is b t a2 a3 a4 hb, p28_is l hs hn hf, bind_val, decide_true, cond_true]
theorem p32_is (a0 a1 : Int) (a2 a3 a4 : List Int) (l : List En) (hl : l.length ≤ 4611686018427387903) :
    p32 fu ((a0, a1, a2, a3, a4, l, ()), ()) = some ((), (if l = [] then (a0, a1, ()) else ((l.getD (l.length - 1) (dflt T_api_Entry)).1, (l.getD (l.length - 1) (dflt T_api_Entry)).2.1, ()))) := by
  unfold p32
  by_cases h : l = []
  · subst h; rfl
  · have h0 : 0 < l.length := List.length_pos_iff.2 h
    have hw : IntKind.wrap .i64 ((l.length : Int) - 1) = ((l.length - 1 : Nat) : Int) := i64_pred h0 (by omega)
    have h1 : ((l.length : Int) == 0) = false := by simp; omega
    have h2 : l.length - 1 < l.length := by omega
    simp only [h1, decide_true, cond_true, cond_false, hw, Int.natCast_nonneg, Int.ofNat_lt, h2, and_self, Int.toNat_natCast, h, if_false]
end
section
variable {fu : Nat}
theorem p15_is (l : List En) {n : Nat} (hs : small n l) (hn : n ≤ 4194304) (hf : 4194304 < fu) : p15 fu (l, ()) = some ((), ()) := by
  have hl := hs.1
  unfold p15
  refine loopO_eq (I := fun s => ∃ i : Nat, s = (((i : Int), ()), ()) ∧ i ≤ l.length) (m := fun s => l.length - s.1.1.toNat) (g := fun _ => ((), ())) ?_ fu _ ⟨0, rfl, Nat.zero_le _⟩ (by simp; omega)
  rintro s ⟨i, rfl, hi⟩
  by_cases hi' : i < l.length
  · left
    obtain ⟨d1, d2, d3⟩ := small_get hs hi'
    refine ⟨((((i + 1 : Nat) : Int), ()), ()), ?_, ⟨i + 1, rfl, hi'⟩, by simp only [Int.toNat_natCast]; omega, rfl⟩
    simp only [Int.ofNat_lt, hi', decide_true, cond_true, Int.natCast_nonneg, and_self, Int.toNat_natCast]
    refine loopO_eq (I := fun s => ∃ k : Nat, s = (((k : Int), ()), ()) ∧ k ≤ (l.getD i (dflt T_api_Entry)).2.2.2.1.length) (m := fun s => (l.getD i (dflt T_api_Entry)).2.2.2.1.length - s.1.1.toNat) (g := fun _ => Sum.inl ((((i + 1 : Nat) : Int), ()), ())) ?_ fu _ ⟨0, rfl, Nat.zero_le _⟩ (Nat.lt_of_le_of_lt (Nat.sub_le _ _) (by omega))
    rintro s ⟨k, rfl, hk⟩
    by_cases hk' : k < (l.getD i (dflt T_api_Entry)).2.2.2.1.length
    · left
      refine ⟨((((k + 1 : Nat) : Int), ()), ()), ?_, ⟨k + 1, rfl, hk'⟩, by simp only [Int.toNat_natCast]; omega, rfl⟩
      simp only [Int.ofNat_lt, hk', decide_true, cond_true, Int.natCast_nonneg, and_self, Int.toNat_natCast, i64_succ hk' (show (l.getD i (dflt T_api_Entry)).2.2.2.1.length ≤ 9223372036854775807 by omega)]
    · right
      simp only [Int.ofNat_lt, hk', decide_false, cond_false]
      have inner : ∀ {R : Type} {o : Option R} {x : R}, o = some x → (inrO o : Option (((Int × Unit) × Unit) ⊕ R)) = some (.inr x) := fun h => by rw [h]; rfl
      refine inner ?_
      refine loopO_eq (I := fun s => ∃ k : Nat, s = (((k : Int), ()), ()) ∧ k ≤ (l.getD i (dflt T_api_Entry)).2.2.2.2.1.length) (m := fun s => (l.getD i (dflt T_api_Entry)).2.2.2.2.1.length - s.1.1.toNat) (g := fun _ => Sum.inl ((((i + 1 : Nat) : Int), ()), ())) ?_ fu _ ⟨0, rfl, Nat.zero_le _⟩ (Nat.lt_of_le_of_lt (Nat.sub_le _ _) (by omega))
      rintro s ⟨k, rfl, hk⟩
      by_cases hk' : k < (l.getD i (dflt T_api_Entry)).2.2.2.2.1.length
      · left
        refine ⟨((((k + 1 : Nat) : Int), ()), ()), ?_, ⟨k + 1, rfl, hk'⟩, by simp only [Int.toNat_natCast]; omega, rfl⟩
        simp only [Int.ofNat_lt, hk', decide_true, cond_true, Int.natCast_nonneg, and_self, i64_succ hk' (show (l.getD i (dflt T_api_Entry)).2.2.2.2.1.length ≤ 9223372036854775807 by omega)]
      · right
        simp only [Int.ofNat_lt, hk', decide_false, cond_false, i64_succ hi' (show l.length ≤ 9223372036854775807 by omega)]
        rfl
  · right
    obtain rfl : i = l.length := by omega
    simp only [Int.lt_irrefl, decide_false, cond_false, inrO_val]
theorem p48_tot (a0 a1 : Int) (a2 a3 a4 : List Int) (l : List En) (i : Int) (hl : l.length ≤ 4611686018427387903) (hf : l.length < fu) :
    ∃ k : Nat, k ≤ l.length ∧ p48 fu ((l.length : Int), ((), ((a0, a1, a2, a3, a4, l, ()), (i, ()), ())), ()) = some (((a0, a1, a2, a3, a4, l, ()), (i, ()), ()), (k : Int)) := by
  have key : ∃ r, p48 fu ((l.length : Int), ((), ((a0, a1, a2, a3, a4, l, ()), (i, ()), ())), ()) = some ((fun k : Nat => (((a0, a1, a2, a3, a4, l, ()), (i, ()), ()), (k : Int))) r) ∧ r ≤ l.length := by
    unfold p48
    refine loopO_img (g := fun k : Nat => (((a0, a1, a2, a3, a4, l, ()), (i, ()), ()), (k : Int))) (I := fun s => ∃ lo hi : Nat, s = (((lo : Int), (hi : Int), ()), ()) ∧ lo ≤ hi ∧ hi ≤ l.length)
      (m := fun s => (s.1.2.1 - s.1.1).toNat) (Q := fun k => k ≤ l.length) ⟨0, l.length, rfl, Nat.zero_le _, Nat.le_refl _⟩ (by simpa using hf) ?_
    rintro s ⟨lo, hi, rfl, h1, h3⟩
    by_cases hlt : lo < hi
    · have hm : (lo + hi) / 2 < l.length := by omega
      have hb : ((lo : Int) < (hi : Int)) := by omega
      simp only [hb, decide_true, cond_true, mid_is (show lo + hi ≤ 9223372036854775807 by omega), p49, Int.natCast_nonneg, Int.ofNat_lt, hm, and_self, Int.toNat_natCast, bind_val]
      by_cases hge : (l.getD ((lo + hi) / 2) (dflt T_api_Entry)).1 ≥ i
      · refine ⟨.inl (((lo : Int), (((lo + hi) / 2 : Nat) : Int), ()), ()), by simp only [hge, decide_true, Bool.not_true, cond_false], ⟨lo, _, rfl, by omega, by omega⟩, by simp only; omega⟩
      · refine ⟨.inl ((((((lo + hi) / 2 + 1 : Nat)) : Int), (hi : Int), ()), ()), by simp only [hge, decide_false, Bool.not_false, cond_true, i64_succ hm (show l.length ≤ 9223372036854775807 by omega)], ⟨_, hi, rfl, by omega, h3⟩, by simp only; omega⟩
    · have hb : ¬ ((lo : Int) < (hi : Int)) := by omega
      simp only [hb, decide_false, cond_false, inrO_val]
      exact ⟨_, rfl, lo, rfl, by omega⟩
  obtain ⟨k, h1, h2⟩ := key
  exact ⟨k, h2, h1⟩
theorem p29_tot (a0 a1 : Int) (a2 a3 a4 : List Int) (l : List En) (i : Int) (hl : l.length ≤ 4611686018427387903) (hf : l.length < fu) :
    ∃ k : Nat, k ≤ l.length ∧ p29 fu ((a0, a1, a2, a3, a4, l, ()), i, ()) = some ((), (k : Int)) := by
  obtain ⟨k, h1, h2⟩ := p48_tot (fu := fu) a0 a1 a2 a3 a4 l i hl hf
  exact ⟨k, h1, by simp only [p29, h2, bind_val]⟩
end
section
variable {fu : Nat}
theorem loop_any {X S R : Type} {f : S → Option (S ⊕ R)} : ∀ (l : List X) (mk : Nat → S) (q : X → Bool) (r fin : R), l.length < fu →
    (∀ i (h : i < l.length), f (mk i) = some (bif q l[i] then .inr r else .inl (mk (i + 1)))) → f (mk l.length) = some (.inr fin) → loopO fu f (mk 0) = some (bif l.any q then r else fin) := by
  intro l mk q r fin hf hs he
  have key : ∀ k i n, i + k = l.length → k < n → loopO n f (mk i) = some (bif (l.drop i).any q then r else fin) := by
    intro k
    induction k with
    | zero =>
      intro i n hi hn
      obtain ⟨m, rfl⟩ : ∃ m, n = m + 1 := ⟨n - 1, by omega⟩
      obtain rfl : i = l.length := by omega
      simp only [loopO, he, List.drop_length, List.any_nil, cond_false]
    | succ k ih =>
      intro i n hi hn
      obtain ⟨m, rfl⟩ : ∃ m, n = m + 1 := ⟨n - 1, by omega⟩
      have hlt : i < l.length := by omega
      rw [List.drop_eq_getElem_cons hlt]
      simp only [loopO, hs i hlt, List.any_cons]
      cases q l[i] with
      | true => rfl
      | false => exact ih (i + 1) m (by omega) (by omega)
  exact key l.length 0 fu (by omega) hf
theorem loop_for {X S R : Type} {f : S → Option (S ⊕ R)} {res : R} (l : List X) (mk : Nat → S) (q : X → Bool) (r fin : R) (hf : l.length < fu)
    (hs : ∀ i (h : i < l.length), f (mk i) = some (bif q l[i] then .inr r else .inl (mk (i + 1)))) (he : f (mk l.length) = some (.inr fin)) (hr : (bif l.any q then r else fin) = res) : loopO fu f (mk 0) = some res :=
  hr ▸ loop_any l mk q r fin hf hs he
theorem loop_fold {X S A R : Type} {f : S → Option (S ⊕ R)} {res : R} (l : List X) (mk : Nat → A → S) (st : A → X → A) (fin : A → R) (a : A) (P : Nat → A → Prop) (h0 : P 0 a) (hf : l.length < fu)
    (hs : ∀ i (h : i < l.length) b, P i b → f (mk i b) = some (.inl (mk (i + 1) (st b l[i]))) ∧ P (i + 1) (st b l[i])) (he : ∀ b, P l.length b → f (mk l.length b) = some (.inr (fin b))) (hr : fin (l.foldl st a) = res) : loopO fu f (mk 0 a) = some res := by
  subst hr
  have key : ∀ k i n b, i + k = l.length → k < n → P i b → loopO n f (mk i b) = some (fin ((l.drop i).foldl st b)) := by
    intro k
    induction k with
    | zero =>
      intro i n b hi hn hb
      obtain ⟨m, rfl⟩ : ∃ m, n = m + 1 := ⟨n - 1, by omega⟩
      obtain rfl : i = l.length := by omega
      simp only [loopO, he b hb, List.drop_length, List.foldl_nil]
    | succ k ih =>
      intro i n b hi hn hb
      obtain ⟨m, rfl⟩ : ∃ m, n = m + 1 := ⟨n - 1, by omega⟩
      have hlt : i < l.length := by omega
      rw [List.drop_eq_getElem_cons hlt]
      obtain ⟨e1, e2⟩ := hs i hlt b hb
      simp only [loopO, e1, List.foldl_cons]
      exact ih (i + 1) m _ (by omega) (by omega) e2
  exact key l.length 0 fu a (by omega) hf h0
theorem bq45 (a b : List Int) (ha : a.length * 8 ≤ 140737488355328) (hb : b.length * 8 ≤ 140737488355328) : Bq.p45 fu ((a, b, ()), ()) = some ((), (a, b, ())) :=
  (show Bq.p45 fu ((a, b, ()), ()) = p45 fu ((a, b, ()), ()) from rfl).trans (p45_is a b ha hb)
theorem lastC_lt {es : List En} {j : Nat} (h : lastC es = some j) : j < es.length := by
  have := List.mem_of_find?_eq_some h
  simpa using this
theorem cfOf_small {n : Nat} {v l : List Int} {es : List En} (hv : v.length ≤ 1048576) (hl : l.length ≤ 1048576) (hs : small n es) : (cfOf v l es (lastC es)).1.length ≤ 1048576 ∧ (cfOf v l es (lastC es)).2.length ≤ 1048576 := by
  cases h : lastC es with
  | none => exact ⟨hv, hl⟩
  | some j =>
    have := small_get hs (lastC_lt h)
    exact ⟨this.2.1, this.2.2⟩
theorem pRCf_is (b t : Int) (v l d : List Int) (es : List En) {n : Nat} (hv : v.length ≤ 1048576) (hl : l.length ≤ 1048576) (hs : small n es) (hn : n ≤ 1048576) :
    pRCf fu ((b, t, v, l, d, es, ()), ()) = some ((), ((cfOf v l es (lastC es)).1, (cfOf v l es (lastC es)).2, ()), ixOf es (lastC es), ()) := by
  obtain ⟨k1, k2⟩ := cfOf_small hv hl hs
  have h1 : es.all (fun e => copyOK fu (e.2.2.2.2.1, e.2.2.2.2.2)) = true := List.all_eq_true.2 fun x hx => by
    obtain ⟨_, q2, q3⟩ := hs.2 x hx
    unfold copyOK
    rw [bq45 _ _ (show x.2.2.2.2.1.length * 8 ≤ _ by omega) (show x.2.2.2.2.2.length * 8 ≤ _ by omega)]
    rfl
  unfold pRCf
  dsimp only
  rw [h1, decide_eq_true (show es.length ≤ 1048576 by have := hs.1; omega), bq45 _ _ (by omega) (by omega)]
  rfl
def upS (s : Int × (List Int × List Int)) (x : En) : Int × (List Int × List Int) := bif x.2.2.1 == 3 then (x.1, (x.2.2.2.2.1, x.2.2.2.2.2)) else s
theorem lastC_snoc (es : List En) (x : En) : lastC (es ++ [x]) = if x.2.2.1 = 3 then some es.length else lastC es := by
  by_cases h : x.2.2.1 = 3
  · rw [if_pos h]
    refine lastC_some (by simp) ?_ fun k h1 h2 => ?_
    · rw [getD_app, if_neg (by omega), Nat.sub_self]; exact h
    · simp at h2; omega
  · rw [if_neg h]
    cases hl : lastC es with
    | none =>
      refine lastC_none fun k hk => ?_
      rw [getD_app]
      by_cases hk' : k < es.length
      · rw [if_pos hk']
        unfold lastC at hl
        rw [List.find?_eq_none] at hl
        have := hl k (by simpa using hk')
        simpa using this
      · rw [if_neg hk']
        have : k - es.length = 0 := by simp at hk; omega
        rw [this]; exact h
    | some j =>
      have hj := lastC_lt hl
      unfold lastC at hl
      obtain ⟨h1, xs', bs, h2, h3⟩ := List.find?_eq_some_iff_append.1 hl
      refine lastC_some (by simp; omega) (by rw [getD_app, if_pos hj]; simpa using h1) fun k q1 q2 => ?_
      rw [getD_app]
      by_cases hk' : k < es.length
      · rw [if_pos hk']
        have hm : k ∈ xs' := by
          have e1 : (List.range es.length).reverse.Pairwise (· > ·) := by
            rw [List.pairwise_reverse]; exact List.pairwise_lt_range
          have e2 : k ∈ (List.range es.length).reverse := by simpa using hk'
          rw [h2] at e1 e2
          rcases List.mem_append.1 e2 with e | e
          · exact e
          · rcases List.mem_cons.1 e with e | e
            · omega
            · have := (List.pairwise_cons.1 (List.pairwise_append.1 e1).2.1).1 k e
              omega
        have := h3 k hm
        simpa using this
      · rw [if_neg hk']
        have : k - es.length = 0 := by simp at q2; omega
        rw [this]; exact h
theorem last_fold (v l : List Int) (es : List En) : ∀ n, n ≤ es.length → (ixOf (es.take n) (lastC (es.take n)), cfOf v l (es.take n) (lastC (es.take n))) = (es.take n).foldl upS (0, (v, l)) := by
  intro n
  induction n with
  | zero => intro _; rfl
  | succ n ih =>
    intro hn
    have ih := ih (by omega)
    rw [take_snoc' (by omega : n < es.length) dfE, List.foldl_append, ← ih, lastC_snoc]
    generalize es.getD n dfE = x
    have hlen : (es.take n).length = n := by simp; omega
    unfold upS
    simp only [List.foldl_cons, List.foldl_nil]
    by_cases h : x.2.2.1 = 3
    · rw [if_pos h, show (x.2.2.1 == 3) = true by simpa using h]
      have e : (es.take n ++ [x]).getD (es.take n).length dfE = x := by rw [getD_app, if_neg (by omega), Nat.sub_self]; rfl
      simp only [ixOf, cfOf, e, cond_true]
    · rw [if_neg h, show (x.2.2.1 == 3) = false by simpa using h, cond_false]
      cases hl : lastC (es.take n) with
      | none => rfl
      | some j =>
        have hj := lastC_lt hl
        have e : (es.take n ++ [x]).getD j dfE = (es.take n).getD j dfE := by rw [getD_app, if_pos hj]
        simp only [ixOf, cfOf, e]
theorem last_is (v l : List Int) (es : List En) : (ixOf es (lastC es), cfOf v l es (lastC es)) = es.foldl upS (0, (v, l)) := by
  have := last_fold v l es es.length (Nat.le_refl _)
  rwa [List.take_length] at this
def compS (b t : Int) (v l : List Int) (es : List En) (k : Int) (d : List Int) : (Int × Int × List Int × List Int × List Int × List En × Unit) × Int × Unit :=
  bif decide (k ≤ b) || decide (k > b + (es.length : Int)) then ((0, 0, [], [], [], [], ()), 61, ())
  else ((k, termAt t es (k - b).toNat, (cfOf v l (es.take (k - b).toNat) (lastC (es.take (k - b).toNat))).1, (cfOf v l (es.take (k - b).toNat) (lastC (es.take (k - b).toNat))).2, d, es.drop (k - b).toNat, ()), 0, ())
theorem p21_tot (b t : Int) (a2 a3 a4 : List Int) (l : List En) (i : Int) (hl : l.length ≤ 4611686018427387903) (hf : l.length < fu) : ∃ r, p21 fu ((b, t, a2, a3, a4, l, ()), i, ()) = some ((), r) := by
  obtain ⟨k, h1, h2⟩ := p29_tot (fu := fu) b t a2 a3 a4 l i hl hf
  unfold p21
  cases hc : (i == b) with
  | true => simp only [hc, cond_true]; exact ⟨_, rfl⟩
  | false =>
    simp only [hc, cond_false, h2, bind_val]
    by_cases hk : k < l.length
    · simp only [Int.ofNat_lt, hk, decide_true, cond_true, Int.natCast_nonneg, and_self, Int.toNat_natCast, orK_inl]
      cases hd : ((l.getD k (dflt T_api_Entry)).1 == i) with
      | true => simp only [cond_true]; exact ⟨_, rfl⟩
      | false => simp only [cond_false]; exact ⟨_, rfl⟩
    · simp only [Int.ofNat_lt, hk, decide_false, cond_false, orK_inl]
      exact ⟨_, rfl⟩
theorem p17_tot (b t : Int) (v l d : List Int) (es : List En) (k : Int) (own : List Int) (hb : smallB v l d) (ho : own.length ≤ 1048576) (hs : small 1048576 es) (hf : 4194304 < fu) :
    ∃ r, p17 fu ((b, t, v, l, d, es, ()), k, own, ()) = some ((), r) := by
  have hl := hs.1
  obtain ⟨⟨_, _, ⟨⟩⟩, e21⟩ := p21_tot (fu := fu) b t v l d es k (by omega) (by omega)
  obtain ⟨q, hq, e29⟩ := p29_tot (fu := fu) b t v l d es (IntKind.wrap .u64 (k + 1)) (by omega) (by omega)
  unfold p17
  simp only [p22_is b t v l d es (show es.length ≤ 4611686018427387903 by omega), bind_val]
  generalize (if es = [] then (b, t, ()) else ((es.getD (es.length - 1) (dflt T_api_Entry)).1, (es.getD (es.length - 1) (dflt T_api_Entry)).2.1, ())) = y
  have rest : ∃ r, (Option.bind (p21 fu ((b, t, v, l, d, es, ()), k, ())) fun x => Option.bind (p29 fu ((b, t, v, l, d, es, ()), IntKind.wrap .u64 (k + (1 : Int)), ())) fun q => bif decide ((0 : Int) ≤ q.2) then
      bif decide (0 ≤ Int.toNat q.2 ∧ Int.toNat q.2 ≤ List.length es) then Option.bind (pRCf fu ((b, t, v, l, d, List.take (Int.toNat q.2) es, ()), ())) fun c => Option.bind (p36 fu (own, ())) fun u => bif decide ((0 : Int) ≤ q.2) then bif decide (Int.toNat q.2 ≤ List.length es) then
      Option.bind (p30 fu (slice' es (Int.toNat q.2) none, ())) fun w => some ((), ((k, x.2.1, c.2.1.1, c.2.1.2.1, u.2, w.2, ()), (0 : Int), ())) else none else none else none else none : Option (Unit × ((Int × Int × List Int × List Int × List Int × List En × Unit) × Int × Unit))) = some ((), r) := by
    simp only [e21, e29, bind_val, Int.natCast_nonneg, decide_true, cond_true, Int.toNat_natCast, Nat.zero_le, true_and, hq, pRCf_is b t v l d (es.take q) hb.1 hb.2.1 (small_take hs) (by decide), p36_is own (show own.length ≤ 140737488355328 by omega), slice_drop, p30_is _ (small_fits (by decide) (small_drop (k := q) hs)) (show (es.drop q).length < fu by simp; omega)]
    exact ⟨_, rfl⟩
  obtain ⟨r, hr⟩ := rest
  by_cases h1 : k ≤ b
  · simp only [h1, decide_true, cond_true, orK_inl]; exact ⟨_, rfl⟩
  · simp only [h1, decide_false, cond_false, orK_inl]
    by_cases h2 : k > y.1
    · simp only [h2, decide_true, cond_true]; exact ⟨_, rfl⟩
    · simp only [h2, decide_false, cond_false, decide_true, cond_true]
      exact ⟨r, hr⟩
theorem p17_is (b t : Int) (v l d : List Int) (es : List En) (k : Int) (own : List Int) (h0 : 0 ≤ b) (hb : smallB v l d) (ho : own.length ≤ 1048576) (hs : small 1048576 es) (hfo : Fol b t es) (hf : 4194304 < fu) :
    p17 fu ((b, t, v, l, d, es, ()), k, own, ()) = some ((), compS b t v l es k own) := by
  have hl := hs.1
  obtain ⟨f1, f2, f3⟩ := hfo
  have hc : contig b es := fun j hj => (f3 j hj).1
  unfold p17 compS
  simp only [p22_at b t v l d es hc (show es.length ≤ 4611686018427387903 by omega), bind_val]
  by_cases h1 : k ≤ b
  · simp only [h1, decide_true, cond_true, orK_inl, Bool.true_or]
  · simp only [h1, decide_false, cond_false, orK_inl, Bool.false_or]
    by_cases h2 : k > b + (es.length : Int)
    · simp only [h2, decide_true, cond_true]
    · obtain ⟨q, hq⟩ : ∃ q : Nat, k = b + (q : Int) := ⟨(k - b).toNat, by omega⟩
      have hql : q ≤ es.length := by omega
      have hqn : (k - b).toNat = q := by omega
      have hw : IntKind.wrap .u64 (k + 1) = b + 1 + (q : Int) := by
        have := u64_succ (b := b) (i := q) h0 (by omega)
        rw [hq, this]; omega
      rw [hqn]
      have e29 := p29_is (fu := fu) b t v l d es b (b + 1 + (q : Int)) hc (by omega) (by omega)
      rw [placeI_at hql] at e29
      have e21 := p21_is (fu := fu) b t v l d es k hc (by omega) (by omega)
      rw [hq, termI_at hc hql] at e21
      subst hq
      simp only [h2, decide_false, cond_false, hw, e29, e21, bind_val, Int.natCast_nonneg, decide_true, cond_true, Int.toNat_natCast, Nat.zero_le, true_and, hql, pRCf_is b t v l d (es.take q) hb.1 hb.2.1 (small_take hs) (by decide), p36_is own (show own.length ≤ 140737488355328 by omega), slice_drop, p30_is _ (small_fits (by decide) (small_drop (k := q) hs)) (show (es.drop q).length < fu by simp; omega)]
end
section
variable {fu : Nat}
theorem fold_same {A X : Type} {f g : A → X → A} : ∀ (l : List X) (s : A), (∀ x ∈ l, ∀ s, f s x = g s x) → l.foldl f s = l.foldl g s
  | [], _, _ => rfl
  | x :: l, s, h => by
    rw [List.foldl_cons, List.foldl_cons, h x (List.mem_cons_self ..)]
    exact fold_same l _ fun y hy => h y (List.mem_cons_of_mem _ hy)
theorem fold_id {A X : Type} {f : A → X → A} : ∀ (l : List X) (s : A), (∀ x ∈ l, ∀ s, f s x = s) → l.foldl f s = s
  | [], _, _ => rfl
  | x :: l, s, h => by
    rw [List.foldl_cons, h x (List.mem_cons_self ..)]
    exact fold_id l _ fun y hy => h y (List.mem_cons_of_mem _ hy)
theorem take_le {b : Int} {l : List En} (hc : contig b l) {q : Nat} (hq : q ≤ l.length) {x : En} (hx : x ∈ l.take q) : x.1 ≤ b + (q : Int) := by
  obtain ⟨i, hi, rfl⟩ := List.mem_iff_getElem.1 hx
  have hi' : i < q := by simp at hi; omega
  have := hc i (by omega)
  rw [getD_lt (show i < l.length by omega)] at this
  rw [List.getElem_take, this]
  omega
theorem drop_gt {b : Int} {l : List En} (hc : contig b l) {q : Nat} {x : En} (hx : x ∈ l.drop q) : x.1 > b + (q : Int) := by
  obtain ⟨i, hi, rfl⟩ := List.mem_iff_getElem.1 hx
  have hi' : q + i < l.length := by simp at hi; omega
  have := hc (q + i) hi'
  rw [getD_lt hi'] at this
  rw [List.getElem_drop, this]
  omega
theorem p37_at (b t : Int) (a2 a3 a4 : List Int) (l : List En) (q : Nat) (hc : contig b l) (hq : q ≤ l.length) (hl : l.length ≤ 4611686018427387903) (hf : l.length < fu) :
    p37 fu ((b, t, a2, a3, a4, l, ()), b + (q : Int), ()) = some ((), (termAt t l q, true, ())) := by
  unfold p37
  by_cases h0 : q = 0
  · subst h0
    have : (b + ((0 : Nat) : Int) == b) = true := by simp
    simp only [this, cond_true, termAt, if_true]
  · have hne : (b + (q : Int) == b) = false := by simp; omega
    simp only [hne, cond_false]
    refine loopO_eq (I := fun s => ∃ i : Nat, s = (((i : Int), ()), ()) ∧ i + 1 ≤ q) (m := fun s => l.length - s.1.1.toNat) (g := fun _ => ((), (termAt t l q, true, ()))) ?_ fu _ ⟨0, rfl, by omega⟩ (by simpa using hf)
    rintro s ⟨i, rfl, h1⟩
    have hi : i < l.length := by omega
    have hci := hc i hi
    simp only [Int.ofNat_lt, hi, decide_true, cond_true, Int.natCast_nonneg, and_self, Int.toNat_natCast]
    by_cases he : i + 1 = q
    · have h2 : ((l.getD i (dflt T_api_Entry)).1 == b + (q : Int)) = true := by rw [hci]; simp; omega
      refine .inr ?_
      simp only [h2, cond_true, inrO_val, termAt, h0, if_false, show q - 1 = i by omega]
    · have h2 : ((l.getD i (dflt T_api_Entry)).1 == b + (q : Int)) = false := by rw [hci]; simp; omega
      refine .inl ⟨((((i + 1 : Nat) : Int), ()), ()), ?_, ⟨i + 1, rfl, by omega⟩, by simp; omega, trivial⟩
      simp only [h2, cond_false, i64_succ hi (show l.length ≤ 9223372036854775807 by omega)]
theorem p38_at (b t : Int) (a2 a3 a4 : List Int) (l : List En) (q : Nat) (hb : smallB a2 a3 a4) (hs : small 1048576 l) (hc : contig b l) (hq : q ≤ l.length) (hf : 4194304 < fu) :
    p38 fu ((b, t, a2, a3, a4, l, ()), b + (q : Int), ()) = some ((), ((cfOf a2 a3 (l.take q) (lastC (l.take q))).1, (cfOf a2 a3 (l.take q) (lastC (l.take q))).2, ()), ixOf (l.take q) (lastC (l.take q)), ()) := by
  have hl := hs.1
  unfold p38
  refine loop_fold l (fun (j : Nat) (s : Int × (List Int × List Int)) => ((s.1, (j : Int), ()), ((s.2.1, s.2.2, ()), ()))) (fun s x => bif (x.2.2.1 == 3) && decide (x.1 ≤ b + (q : Int)) then (x.1, (x.2.2.2.2.1, x.2.2.2.2.2)) else s) (fun s => ((), ((s.2.1, s.2.2, ()), s.1, ()))) (0, (a2, a3))
    (fun _ s => s.2.1.length ≤ 1048576 ∧ s.2.2.length ≤ 1048576) ⟨hb.1, hb.2.1⟩ (show l.length < fu by omega) (fun i hi s hS => ?_) (fun s hS => ?_) ?_
  · have hg : ∀ d, l.getD i d = l[i] := fun d => getD_lt hi
    have hx := hs.2 _ (List.getElem_mem hi)
    simp only [Int.ofNat_lt, hi, decide_true, cond_true, Int.natCast_nonneg, and_self, Int.toNat_natCast, hg, i64_succ hi (show l.length ≤ 9223372036854775807 by omega)]
    cases h3 : (l[i].2.2.1 == 3) with
    | false => simp only [cond_false, orK_inl, Bool.false_and]; exact ⟨trivial, hS⟩
    | true =>
      simp only [cond_true, orK_inl, Bool.true_and]
      by_cases h4 : l[i].1 ≤ b + (q : Int)
      · simp only [h4, decide_true, cond_true]; exact ⟨trivial, hx.2.1, hx.2.2⟩
      · simp only [h4, decide_false, cond_false]; exact ⟨trivial, hS⟩
  · simp only [Int.lt_irrefl, decide_false, cond_false, p47_is s.2.1 s.2.2 hS.1 hS.2, bind_val, decide_true, cond_true, inrO_val]
  · have e1 : l.foldl (fun s x => bif (x.2.2.1 == 3) && decide (x.1 ≤ b + (q : Int)) then (x.1, (x.2.2.2.2.1, x.2.2.2.2.2)) else s) ((0 : Int), (a2, a3)) = (l.take q).foldl upS (0, (a2, a3)) := by
      conv => lhs; rw [← List.take_append_drop q l]
      rw [List.foldl_append]
      rw [fold_id (l.drop q) _ (fun x hx s => by
        have := drop_gt hc hx
        rw [decide_eq_false (show ¬ x.1 ≤ b + (q : Int) by omega), Bool.and_false, cond_false])]
      exact fold_same _ _ fun x hx s => by
        rw [decide_eq_true (take_le hc hq hx), Bool.and_true]
        rfl
    rw [e1, ← last_is]
theorem p18_is (b t : Int) (v l d : List Int) (es : List En) (k : Int) (own : List Int) (hb : smallB v l d) (ho : own.length ≤ 1048576) (hs : small 1048576 es) (hfo : Fol b t es) (hf : 4194304 < fu) :
    p18 fu ((b, t, v, l, d, es, ()), k, own, ()) = some ((), compS b t v l es k own) := by
  have hl := hs.1
  obtain ⟨f1, f2, f3⟩ := hfo
  have hc : contig b es := fun j hj => (f3 j hj).1
  have e32 := p32_is (fu := fu) b t v l d es (show es.length ≤ 4611686018427387903 by omega)
  rw [lastI hc] at e32
  unfold p18 compS
  simp only [e32, bind_val]
  by_cases h1 : k ≤ b
  · simp only [h1, decide_true, cond_true, orK_inl, Bool.true_or]
  · simp only [h1, decide_false, cond_false, orK_inl, Bool.false_or]
    by_cases h2 : k > b + (es.length : Int)
    · simp only [h2, decide_true, cond_true]
    · obtain ⟨q, hq⟩ : ∃ q : Nat, k = b + (q : Int) := ⟨(k - b).toNat, by omega⟩
      have hql : q ≤ es.length := by omega
      have hqn : (k - b).toNat = q := by omega
      rw [hqn]
      have e37 := p37_at (fu := fu) b t v l d es q hc hql (by omega) (by omega)
      have e38 := p38_at (fu := fu) b t v l d es q hb hs hc hql hf
      obtain ⟨m1, m2⟩ := cfOf_small hb.1 hb.2.1 (small_take (k := q) hs)
      generalize cfOf v l (es.take q) (lastC (es.take q)) = cf at *
      subst hq
      have g : List.length ([] : List Int) + List.length own ≤ maxLen ∧ (List.length ([] : List Int) + List.length own) * 1 ≤ 140737488355328 := ⟨by unfold maxLen; simp only [List.length_nil]; omega, by simp only [List.length_nil]; omega⟩
      simp only [h2, decide_false, cond_false, e37, e38, bind_val, List.length_nil, decide_true, cond_true] at g ⊢
      simp only [g, and_self, decide_true, cond_true, List.nil_append]
      refine loop_fold es (fun (i : Nat) (s : List En) => (((i : Int), ()), ((b + (q : Int), termAt t es q, cf.1, cf.2, own, s, ()), ()))) (fun s x => bif decide (x.1 > b + (q : Int)) then s ++ [x] else s) (fun s => ((), ((b + (q : Int), termAt t es q, cf.1, cf.2, own, s, ()), 0, ()))) []
        (fun i s => s.length ≤ i) (Nat.le_refl _) (show es.length < fu by omega) (fun i hi s hS => ?_) (fun s hS => ?_) ?_
      · have hg : ∀ d, es.getD i d = es[i] := fun d => getD_lt hi
        have hx := hs.2 _ (List.getElem_mem hi)
        have g3 : ∀ y : En, s.length + [y].length ≤ maxLen ∧ (s.length + [y].length) * 96 ≤ 140737488355328 := fun y => ⟨by unfold maxLen; simp only [List.length_singleton]; omega, by simp only [List.length_singleton]; omega⟩
        simp only [Int.ofNat_lt, hi, decide_true, cond_true, Int.natCast_nonneg, and_self, Int.toNat_natCast, hg, i64_succ hi (show es.length ≤ 9223372036854775807 by omega), p33_is es[i] hx, bind_val, g3]
        by_cases h4 : es[i].1 > b + (q : Int)
        · simp only [h4, decide_true, cond_true]
          exact ⟨trivial, by rw [List.length_append]; simp only [List.length_singleton]; omega⟩
        · simp only [h4, decide_false, cond_false]
          exact ⟨trivial, by omega⟩
      · simp only [Int.lt_irrefl, decide_false, cond_false, inrO_val]
      · have e1 : es.foldl (fun s x => bif decide (x.1 > b + (q : Int)) then s ++ [x] else s) [] = es.drop q := by
          conv => lhs; rw [← List.take_append_drop q es]
          rw [List.foldl_append, fold_id (es.take q) _ (fun x hx s => by
            have := take_le hc hql hx
            rw [decide_eq_false (show ¬ x.1 > b + (q : Int) by omega), cond_false])]
          rw [fold_same (g := fun s x => s ++ [x]) (es.drop q) [] fun x hx s => by rw [decide_eq_true (drop_gt hc hx), cond_true]]
          have : ∀ (m : List En) (s : List En), m.foldl (fun s x => s ++ [x]) s = s ++ m := by
            intro m
            induction m with
            | nil => intro s; simp
            | cons a m ih => intro s; rw [List.foldl_cons, ih]; simp
          rw [this, List.nil_append]
        rw [e1]
theorem compS_small {b t k : Int} {v l own : List Int} {es : List En} (hv : v.length ≤ 1048576) (hl : l.length ≤ 1048576) (ho : own.length ≤ 1048576) (hs : small 1048576 es) :
    smallB (compS b t v l es k own).1.2.2.1 (compS b t v l es k own).1.2.2.2.1 (compS b t v l es k own).1.2.2.2.2.1 ∧ small 1048576 (compS b t v l es k own).1.2.2.2.2.2.1 := by
  unfold compS
  cases (decide (k ≤ b) || decide (k > b + (es.length : Int))) with
  | true => exact ⟨⟨Nat.zero_le _, Nat.zero_le _, Nat.zero_le _⟩, Nat.zero_le _, fun x hx => by cases hx⟩
  | false =>
    obtain ⟨m1, m2⟩ := cfOf_small hv hl (small_take (k := (k - b).toNat) hs)
    exact ⟨⟨m1, m2, ho⟩, small_drop hs⟩
theorem any_no {X : Type} (l : List X) : l.any (fun _ => false) = false := by
  induction l with
  | nil => rfl
  | cons a l ih => simp only [List.any_cons, ih, Bool.false_or]
theorem p4_is (b t : Int) (v l d : List Int) (es : List En) (k : Int) (data : List Int) (h0 : 0 ≤ b) (hb : smallB v l d) (hd : data.length ≤ 1048576) (hs : small 1048576 es) (hf : 4194304 < fu) :
    p4 fu ((b, t, v, l, d, es, ()), k, data, ()) = some ((), true) := by
  obtain ⟨⟨⟨x, y, z, a0, c0, f0, ⟨⟩⟩, h0', ⟨⟩⟩, e17⟩ := p17_tot (fu := fu) b t v l d es k data hb hd hs hf
  obtain ⟨r, e12, h12⟩ := p12_ex (fu := fu) b t v l d es h0 hs (by decide) (by have := hs.1; omega)
  have g : List.length ([] : List Int) + List.length data ≤ maxLen ∧ (List.length ([] : List Int) + List.length data) * 1 ≤ 140737488355328 := ⟨by unfold maxLen; simp only [List.length_nil]; omega, by simp only [List.length_nil]; omega⟩
  unfold p4
  simp only [p9_is hf, p10_is b t v l d es hb hs (by decide) hf, bind_val, List.length_nil, decide_true, cond_true] at g ⊢
  simp only [g, and_self, decide_true, cond_true, orK_inl, List.nil_append, Nat.le_refl, List.take_length, e17, e12, bind_val, Bool.not_true, cond_false]
  cases r with
  | false => rfl
  | true =>
    have hfo := h12 rfl
    have e17' := p17_is (fu := fu) b t v l d es k data h0 hb hd hs hfo hf
    rw [e17] at e17'
    have e18 := p18_is (fu := fu) b t v l d es k data hb hd hs hfo hf
    obtain ⟨q1, q2⟩ := compS_small (b := b) (t := t) (k := k) hb.1 hb.2.1 hd hs
    generalize compS b t v l es k data = S at e17' e18 q1 q2
    cases e17'
    dsimp only at q1 q2
    simp only [e18, bind_val, Bool.not_true, cond_false, p16_refl x y z a0 c0 f0 q1 q2 (by decide) hf, orK_inl]
    have hc0 : c0.length ≤ 1048576 := q1.2.2
    refine loop_for c0 (fun i : Nat => (((i : Int), ()), ())) (fun _ => false) ((), true) ((), true) (show c0.length < fu by omega) (fun i hi => ?_) ?_ (by rw [any_no]; rfl)
    · simp only [Int.ofNat_lt, Int.natCast_nonneg, hi, decide_true, cond_true, cond_false, and_self, Int.toNat_natCast, i64_succ hi (show c0.length ≤ 9223372036854775807 by omega)]
    · simp only [Int.lt_irrefl, decide_false, cond_false, p15_is f0 q2 (by decide) hf, Option.isSome_some, cond_true, beq_self_eq_true, p16_refl b t v l d es hb hs (by decide) hf, bind_val, inrO_val]
end
end Go.Proofs.Ytdblllnnccaccaa
