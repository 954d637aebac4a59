/-
  Layer 6: copies are what was copied.
-/
import Derived.Test.YtdblllnnccaccaaPtKp
import Derived.Test.YtdblllnnccaccaaDaP
namespace Go.Proofs.Ytdblllnnccaccaa
open Go.RowKit
section
variable {fu : Nat}
theorem copyL_all {α : Type} (l : List α) (d : α) : copyL (List.replicate l.length d) 0 l.length l = l := by
  simp [copyL]
theorem p57_is (l : List Int) (h : l.length * 8 ≤ 140737488355328) : p57 fu (l, ()) = some ((), l) := by
  unfold p57
  cases l with
  | nil => rfl
  | cons a l =>
    have h0 : (((a :: l).length : Int) == 0) = false := by simp; omega
    have h1 : (0 : Int) ≤ ((a :: l).length : Int) ∧ ((a :: l).length : Int) ≤ ((a :: l).length : Int) ∧ ((a :: l).length : Int) ≤ 9223372036854775807 ∧ (8 : Int) * ((a :: l).length : Int) ≤ 140737488355328 := by omega
    simp only [h0, cond_false, h1, and_self, decide_true, cond_true, Int.toNat_natCast, List.length_replicate, copyL_all]
theorem p36_is (l : List Int) (h : l.length ≤ 140737488355328) : p36 fu (l, ()) = some ((), l) := by
  unfold p36
  cases l with
  | nil => rfl
  | cons a l =>
    have h0 : (((a :: l).length : Int) == 0) = false := by simp; omega
    have h1 : (0 : Int) ≤ ((a :: l).length : Int) ∧ ((a :: l).length : Int) ≤ ((a :: l).length : Int) ∧ ((a :: l).length : Int) ≤ 9223372036854775807 ∧ (1 : Int) * ((a :: l).length : Int) ≤ 140737488355328 := by omega
    simp only [h0, cond_false, h1, and_self, decide_true, cond_true, Int.toNat_natCast, List.length_replicate, copyL_all]
theorem p45_is (a b : List Int) (ha : a.length * 8 ≤ 140737488355328) (hb : b.length * 8 ≤ 140737488355328) : p45 fu ((a, b, ()), ()) = some ((), (a, b, ())) := by
  unfold p45
  simp only [p57_is a ha, p57_is b hb, bind_val, decide_true, cond_true]
theorem p53_is (a b : List Int) (h : a.length + b.length ≤ 140737488355328) : p53 fu ((a, ()), b, ()) = some (((a ++ b, ()), (), ()), b) := by
  unfold p53
  cases b with
  | nil => simp
  | cons c b =>
    have h0 : (((c :: b).length : Int) == 0) = false := by simp; omega
    have h1 : a.length + (c :: b).length ≤ maxLen ∧ (a.length + (c :: b).length) * 1 ≤ 140737488355328 := ⟨by unfold maxLen; omega, by omega⟩
    have h2 : slice' (a ++ c :: b) a.length (some (a ++ c :: b).length) = c :: b := by
      cases a with
      | nil => simp [slice']
      | cons x a => simp [slice']
    have h3 : a.length ≤ (a ++ c :: b).length ∧ (a ++ c :: b).length ≤ (a ++ c :: b).length ∧ (a ++ c :: b).length ≤ (a ++ c :: b).length ∧ 0 + (a ++ c :: b).length ≤ (a ++ c :: b).length := by simp
    simp only [h0, cond_false, h1, and_self, decide_true, cond_true, Int.natCast_nonneg, Int.toNat_natCast, h3, h2]
theorem p52_is (x : En) (r : List Int) (hd : r.length + x.2.2.2.1.length ≤ 140737488355328) (hv : x.2.2.2.2.1.length * 8 ≤ 140737488355328) (hl : x.2.2.2.2.2.length * 8 ≤ 140737488355328) :
    p52 fu ((x.1, x.2.1, x.2.2.1, x.2.2.2.1, x.2.2.2.2.1, x.2.2.2.2.2, ()), ((r, ()), ()), ()) = some ((((), ()), (r ++ x.2.2.2.1, ()), (), ()), (x.1, x.2.1, x.2.2.1, x.2.2.2.1, x.2.2.2.2.1, x.2.2.2.2.2, ())) := by
  unfold p52
  simp only [p53_is _ _ hd, p45_is _ _ hv hl, bind_val, decide_true, cond_true]
def datas (l : List En) : List Int := l.flatMap fun x => x.2.2.2.1
theorem datas_app (a b : List En) : datas (a ++ b) = datas a ++ datas b := List.flatMap_append
theorem datas_snoc (l : List En) (x : En) : datas (l ++ [x]) = datas l ++ x.2.2.2.1 := by simp [datas]
def fitsE (l : List En) : Prop := l.length * 96 ≤ 140737488355328 ∧ (datas l).length ≤ 140737488355328 ∧ ∀ x ∈ l, x.2.2.2.2.1.length * 8 ≤ 140737488355328 ∧ x.2.2.2.2.2.length * 8 ≤ 140737488355328
theorem take_snoc' {α : Type} {l : List α} {i : Nat} (h : i < l.length) (d : α) : l.take (i + 1) = l.take i ++ [l.getD i d] := by
  rw [List.take_add_one, List.getD_eq_getElem?_getD, List.getElem?_eq_getElem h]; rfl
theorem datas_take {l : List En} {i : Nat} (h : i < l.length) : (datas (l.take i)).length + (l.getD i (dflt T_api_Entry)).2.2.2.1.length ≤ (datas l).length := by
  have h1 := congrArg datas (take_snoc' h (dflt T_api_Entry))
  rw [datas_snoc] at h1
  have h2 : datas l = datas (l.take (i + 1)) ++ datas (l.drop (i + 1)) := by rw [← datas_app, List.take_append_drop]
  rw [h2, h1]
  simp only [List.length_append]
  omega
theorem p51_is (l : List En) (h : fitsE l) (hf : l.length < fu) : p51 fu (l, ((), (((([] : List Int), ()), ()), ())), ()) = some ((((), ()), (datas l, ()), (), ()), l) := by
  unfold p51
  obtain ⟨h1, h2, h3⟩ := h
  cases hl0 : l with
  | nil => rfl
  | cons a0 l0 =>
    rw [← hl0]
    have h0 : ((l.length : Int) == 0) = false := by rw [hl0]; simp; omega
    have h4 : (0 : Int) ≤ (l.length : Int) ∧ (l.length : Int) ≤ (l.length : Int) ∧ (l.length : Int) ≤ 9223372036854775807 ∧ (96 : Int) * (l.length : Int) ≤ 140737488355328 := by omega
    simp only [h0, cond_false, h4, and_self, decide_true, cond_true, Int.toNat_natCast, List.length_replicate]
    refine loopO_eq (I := fun s => ∃ i : Nat, s = ((l.take i ++ List.replicate (l.length - i) (dflt T_api_Entry), (i : Int), ()), (((), ()), (datas (l.take i), ()), ())) ∧ i ≤ l.length)
      (m := fun s => l.length - s.1.2.1.toNat) (g := fun _ => ((((), ()), (datas l, ()), (), ()), l)) ?_ fu _ ⟨0, by simp only [List.take_zero, List.nil_append, Nat.sub_zero, datas, List.flatMap_nil]; rfl, Nat.zero_le _⟩ (by simpa using hf)
    rintro s ⟨i, rfl, hi⟩
    by_cases hi' : i < l.length
    · left
      have hx := datas_take hi'
      have hm : l.getD i (dflt T_api_Entry) ∈ l := by rw [getD_lt hi']; exact List.getElem_mem _
      have e52 := p52_is (fu := fu) (l.getD i (dflt T_api_Entry)) (datas (l.take i)) (by omega) (h3 _ hm).1 (h3 _ hm).2
      have hlen : (l.take i ++ List.replicate (l.length - i) (dflt T_api_Entry)).length = l.length := by simp; omega
      refine ⟨((l.take (i + 1) ++ List.replicate (l.length - (i + 1)) (dflt T_api_Entry), ((i + 1 : Nat) : Int), ()), (((), ()), (datas (l.take (i + 1)), ()), ())), ?_, ⟨i + 1, rfl, hi'⟩, by simp only [Int.toNat_natCast]; omega, rfl⟩
      have hs : (l.take i ++ List.replicate (l.length - i) (dflt T_api_Entry)).set i (l.getD i (dflt T_api_Entry)) = l.take (i + 1) ++ List.replicate (l.length - (i + 1)) (dflt T_api_Entry) := by
        have ht : (l.take i).length = i := by simp; omega
        rw [List.set_append_right _ _ (by omega), ht, Nat.sub_self, show l.length - i = (l.length - (i + 1)) + 1 by omega, List.replicate_succ, List.set_cons_zero, take_snoc' hi' (dflt T_api_Entry)]
        simp
      rw [take_snoc' hi' (dflt T_api_Entry), datas_snoc, ← take_snoc' hi' (dflt T_api_Entry), ← hs]
      simp only [Int.ofNat_lt, hi', decide_true, cond_true, Int.natCast_nonneg, and_self, Int.toNat_natCast, e52, bind_val, hlen, List.length_set, i64_succ hi' (show l.length ≤ 9223372036854775807 by omega)]
    · right
      obtain rfl : i = l.length := by omega
      simp [inrO]
theorem p50_is (n : Nat) (h : n ≤ 140737488355328) : p50 fu ((n : Int), ()) = some ((), ([], ())) := by
  unfold p50
  have h1 : (0 : Int) ≤ 0 ∧ (0 : Int) ≤ (n : Int) ∧ (n : Int) ≤ 9223372036854775807 ∧ (1 : Int) * (n : Int) ≤ 140737488355328 := by omega
  simp only [h1, and_self, decide_true, cond_true]; rfl
theorem p30_is (l : List En) (h : fitsE l) (hf : l.length < fu) : p30 fu (l, ()) = some ((), l) := by
  unfold p30
  refine loopO_eq (I := fun s => ∃ i : Nat, s = ((((datas (l.take i)).length : Int), (i : Int), ()), ()) ∧ i ≤ l.length) (m := fun s => l.length - s.1.2.1.toNat) (g := fun _ => ((), l)) ?_ fu _ ⟨0, by simp [datas], Nat.zero_le _⟩ (by simpa using hf)
  rintro s ⟨i, rfl, hi⟩
  have h1 := h.1
  have h2 := h.2.1
  by_cases hi' : i < l.length
  · left
    have hx := datas_take hi'
    refine ⟨((((datas (l.take (i + 1))).length : Int), ((i + 1 : Nat) : Int), ()), ()), ?_, ⟨i + 1, rfl, hi'⟩, by simp only [Int.toNat_natCast]; omega, rfl⟩
    have hw : IntKind.wrap .i64 (((datas (l.take i)).length : Int) + ((l.getD i (dflt T_api_Entry)).2.2.2.1.length : Int)) = ((datas (l.take (i + 1))).length : Int) := by
      rw [take_snoc' hi' (dflt T_api_Entry), datas_snoc, i64_wrap (by omega) (by omega), List.length_append]; omega
    simp only [Int.ofNat_lt, hi', decide_true, cond_true, Int.natCast_nonneg, and_self, Int.toNat_natCast, hw, i64_succ hi' (show l.length ≤ 9223372036854775807 by omega)]
  · right
    obtain rfl : i = l.length := by omega
    rw [List.take_length]
    simp only [Int.lt_irrefl, decide_false, cond_false, p50_is (fu := fu) _ h2, bind_val, decide_true, cond_true, p51_is l h hf, inrO_val]
end
section
variable {fu : Nat}
def contig (b : Int) (l : List En) : Prop := ∀ j, j < l.length → (l.getD j (dflt T_api_Entry)).1 = b + 1 + (j : Int)
def placeI (b : Int) (l : List En) (i : Int) : Nat := min (i - b - 1).toNat l.length
theorem mid_is {lo hi : Nat} (h : lo + hi ≤ 9223372036854775807) : IntKind.wrap .i64 (Int.fdiv (IntKind.wrap .u64 (IntKind.wrap .i64 ((lo : Int) + (hi : Int)))) (2 ^ (min (Int.toNat (1 : Int)) (IntKind.bits .u64)))) = (((lo + hi) / 2 : Nat) : Int) := by
  have e1 : IntKind.wrap .i64 ((lo : Int) + (hi : Int)) = ((lo + hi : Nat) : Int) := by rw [i64_wrap (by omega) (by omega)]; omega
  have e2 : IntKind.wrap .u64 ((lo + hi : Nat) : Int) = ((lo + hi : Nat) : Int) := wrap_u64 (by omega) (by omega)
  have e3 : (2 : Int) ^ (min (Int.toNat (1 : Int)) (IntKind.bits .u64)) = 2 := rfl
  have e4 : Int.fdiv ((lo + hi : Nat) : Int) 2 = (((lo + hi) / 2 : Nat) : Int) := by
    rw [Int.fdiv_eq_ediv_of_nonneg _ (by omega)]; omega
  rw [e1, e2, e3, e4, i64_wrap (by omega) (by omega)]
theorem p48_is (a0 a1 : Int) (a2 a3 a4 : List Int) (l : List En) (b i : Int) (hc : contig b l) (hl : l.length ≤ 4611686018427387903) (hf : l.length < fu) :
    p48 fu ((l.length : Int), ((), ((a0, a1, a2, a3, a4, l, ()), (i, ()), ())), ()) = some (((a0, a1, a2, a3, a4, l, ()), (i, ()), ()), ((placeI b l i : Nat) : Int)) := by
  unfold p48
  refine loopO_eq (I := fun s => ∃ lo hi : Nat, s = (((lo : Int), (hi : Int), ()), ()) ∧ lo ≤ placeI b l i ∧ placeI b l i ≤ hi ∧ hi ≤ l.length)
    (m := fun s => (s.1.2.1 - s.1.1).toNat) (g := fun _ => (((a0, a1, a2, a3, a4, l, ()), (i, ()), ()), ((placeI b l i : Nat) : Int))) ?_ fu _ ⟨0, l.length, rfl, Nat.zero_le _, Nat.min_le_right _ _, Nat.le_refl _⟩ (by simpa using hf)
  rintro s ⟨lo, hi, rfl, h1, h2, h3⟩
  by_cases hlt : lo < hi
  · left
    have hm : (lo + hi) / 2 < l.length := by omega
    have hx := hc _ hm
    have hb : ((lo : Int) < (hi : Int)) := by omega
    simp only [hb, decide_true, cond_true, mid_is (show lo + hi ≤ 9223372036854775807 by omega), p49, Int.natCast_nonneg, Int.ofNat_lt, hm, and_self, Int.toNat_natCast, hx, bind_val]
    by_cases hge : b + 1 + (((lo + hi) / 2 : Nat) : Int) ≥ i
    · refine ⟨(((lo : Int), (((lo + hi) / 2 : Nat) : Int), ()), ()), by simp only [hge, decide_true, Bool.not_true, cond_false], ⟨lo, _, rfl, h1, ?_, by omega⟩, by simp only; omega, trivial⟩
      unfold placeI
      omega
    · refine ⟨((((((lo + hi) / 2 + 1 : Nat)) : Int), (hi : Int), ()), ()), by simp only [hge, decide_false, Bool.not_false, cond_true, i64_succ hm (show l.length ≤ 9223372036854775807 by omega)], ⟨_, hi, rfl, ?_, h2, h3⟩, by simp only; omega, trivial⟩
      unfold placeI at h2 ⊢
      omega
  · right
    have hb : ¬ ((lo : Int) < (hi : Int)) := by omega
    have : placeI b l i = lo := by omega
    simp only [hb, decide_false, cond_false, inrO_val, this]
theorem p29_is (a0 a1 : Int) (a2 a3 a4 : List Int) (l : List En) (b i : Int) (hc : contig b l) (hl : l.length ≤ 4611686018427387903) (hf : l.length < fu) :
    p29 fu ((a0, a1, a2, a3, a4, l, ()), i, ()) = some ((), ((placeI b l i : Nat) : Int)) := by
  simp only [p29, p48_is a0 a1 a2 a3 a4 l b i hc hl hf, bind_val]
theorem p22_is (a0 a1 : Int) (a2 a3 a4 : List Int) (l : List En) (hl : l.length ≤ 4611686018427387903) :
    p22 fu ((a0, a1, a2, a3, a4, l, ()), ()) = some ((), (if l = [] then (a0, a1, ()) else ((l.getD (l.length - 1) (dflt T_api_Entry)).1, (l.getD (l.length - 1) (dflt T_api_Entry)).2.1, ()))) := by
  unfold p22
  by_cases h : l = []
  · subst h; rfl
  · have h0 : 0 < l.length := List.length_pos_iff.2 h
    have hw : IntKind.wrap .i64 ((l.length : Int) - 1) = ((l.length - 1 : Nat) : Int) := i64_pred h0 (by omega)
    have h1 : (l.length : Int) > 0 := by omega
    have h2 : l.length - 1 < l.length := by omega
    simp only [h1, decide_true, cond_true, hw, Int.natCast_nonneg, Int.ofNat_lt, h2, and_self, Int.toNat_natCast, h, if_false]
end
section
variable {fu : Nat}
def termI (b t : Int) (l : List En) (i : Int) : Int × Bool :=
  if i = b then (t, true) else if placeI b l i < l.length ∧ (l.getD (placeI b l i) (dflt T_api_Entry)).1 = i then ((l.getD (placeI b l i) (dflt T_api_Entry)).2.1, true) else (0, false)
theorem p21_is (b t : Int) (a2 a3 a4 : List Int) (l : List En) (i : Int) (hc : contig b l) (hl : l.length ≤ 4611686018427387903) (hf : l.length < fu) :
    p21 fu ((b, t, a2, a3, a4, l, ()), i, ()) = some ((), ((termI b t l i).1, (termI b t l i).2, ())) := by
  unfold p21 termI
  by_cases h0 : i = b
  · subst h0
    simp only [beq_self_eq_true, cond_true, if_true]
  · have h0' : (i == b) = false := by simpa using h0
    simp only [h0', cond_false, h0, if_false, p29_is b t a2 a3 a4 l b i hc hl hf, bind_val]
    by_cases hk : placeI b l i < l.length
    · simp only [Int.ofNat_lt, hk, decide_true, cond_true, Int.natCast_nonneg, true_and, and_self, Int.toNat_natCast, orK_inl]
      by_cases he : (l.getD (placeI b l i) (dflt T_api_Entry)).1 = i
      · simp only [he, beq_self_eq_true, cond_true, if_true]
      · have he' : ((l.getD (placeI b l i) (dflt T_api_Entry)).1 == i) = false := by simpa using he
        simp only [he', cond_false, he, if_false]
    · simp only [Int.ofNat_lt, hk, decide_false, cond_false, orK_inl, false_and, if_false]
end
section
variable {fu : Nat}
def smallX (x : En) : Prop := x.2.2.2.1.length ≤ 1048576 ∧ x.2.2.2.2.1.length ≤ 1048576 ∧ x.2.2.2.2.2.length ≤ 1048576
def small (n : Nat) (l : List En) : Prop := l.length ≤ n ∧ ∀ x ∈ l, smallX x
theorem small_fits {n : Nat} {l : List En} (hn : n ≤ 4194304) (h : small n l) : fitsE l := by
  refine ⟨by have := h.1; omega, ?_, fun x hx => by have := h.2 x hx; unfold smallX at this; omega⟩
  have : ∀ l : List En, (∀ x ∈ l, smallX x) → (datas l).length ≤ l.length * 1048576 := by
    intro l
    induction l with
    | nil => intro _; simp [datas]
    | cons x l ih =>
      intro h
      have h1 := ih fun y hy => h y (List.mem_cons_of_mem _ hy)
      have h2 := (h x List.mem_cons_self).1
      simp only [datas, List.flatMap_cons, List.length_append, List.length_cons] at h1 ⊢
      omega
  have h1 := this l h.2
  have := h.1
  omega
theorem small_take {n k : Nat} {l : List En} (h : small n l) : small n (l.take k) := ⟨by have := h.1; simp; omega, fun x hx => h.2 x (List.mem_of_mem_take hx)⟩
theorem small_drop {n k : Nat} {l : List En} (h : small n l) : small n (l.drop k) := ⟨by have := h.1; simp; omega, fun x hx => h.2 x (List.mem_of_mem_drop hx)⟩
theorem small_app {n m : Nat} {l k : List En} (h : small n l) (h' : small m k) : small (n + m) (l ++ k) := ⟨by have := h.1; have := h'.1; simp; omega, fun x hx => by
  rcases List.mem_append.1 hx with hx | hx
  · exact h.2 x hx
  · exact h'.2 x hx⟩
theorem small_get {n i : Nat} {l : List En} (h : small n l) (hi : i < l.length) : smallX (l.getD i (dflt T_api_Entry)) := by rw [getD_lt hi]; exact h.2 _ (List.getElem_mem _)
def isE (x : En) : Bool := if x.2.2.1 = 2 then decide (x.2.2.2.2.1.length + x.2.2.2.2.2.length = 0) else if x.2.2.1 = 1 then decide (x.2.2.2.1.length + x.2.2.2.2.1.length + x.2.2.2.2.2.length = 0) else if x.2.2.1 = 3 then decide (x.2.2.2.1.length = 0) else false
theorem p55_is (x : En) (h : smallX x) : p55 fu ((x.1, x.2.1, x.2.2.1, x.2.2.2.1, x.2.2.2.2.1, x.2.2.2.2.2, ()), ()) = some ((), isE x) := by
  obtain ⟨a, b, k, d, v, l⟩ := x
  obtain ⟨h1, h2, h3⟩ := h
  simp only at h1 h2 h3
  unfold p55 isE
  simp only
  have w1 : IntKind.wrap .i64 ((v.length : Int) + (l.length : Int)) = ((v.length + l.length : Nat) : Int) := by rw [i64_wrap (by omega) (by omega)]; try omega
  have w2 : IntKind.wrap .i64 ((IntKind.wrap .i64 ((d.length : Int) + (v.length : Int))) + (l.length : Int)) = ((d.length + v.length + l.length : Nat) : Int) := by
    rw [i64_wrap (x := (d.length : Int) + v.length) (by omega) (by omega), i64_wrap (by omega) (by omega)]; try omega
  have z : ∀ n : Nat, (((n : Nat) : Int) == (0 : Int)) = decide (n = 0) := fun n => by rw [Bool.eq_iff_iff]; simp
  rw [w1, w2, z, z, z]
  by_cases k2 : k = 2
  · subst k2; rfl
  · have : (k == (2 : Int)) = false := by simpa using k2
    simp only [this, cond_false, k2, if_false]
    by_cases k1 : k = 1
    · subst k1; rfl
    · have : (k == (1 : Int)) = false := by simpa using k1
      simp only [this, cond_false, k1, if_false]
      by_cases k3 : k = 3
      · subst k3; rfl
      · have : (k == (3 : Int)) = false := by simpa using k3
        simp only [this, cond_false, k3, if_false]
theorem loopO_bool {S : Type} {f : S → Option (S ⊕ (Unit × Bool))} {s : S} {n : Nat} (I : S → Prop) (m : S → Nat) (Q : Bool → Prop) (hs : I s) (hn : m s < n) (h : ∀ s, I s → ∃ o, f s = some o ∧ LStep I m (fun r : Unit × Bool => Q r.2) s o) : ∃ r, loopO n f s = some ((), r) ∧ Q r := by
  obtain ⟨⟨_, r⟩, h1, h2⟩ := loopO_rule I m (fun r : Unit × Bool => Q r.2) h n s hs hn
  exact ⟨r, h1, h2⟩
def termAt (t : Int) (l : List En) (i : Nat) : Int := if i = 0 then t else (l.getD (i - 1) (dflt T_api_Entry)).2.1
def okE (b t : Int) (l : List En) (i : Nat) : Prop := (l.getD i (dflt T_api_Entry)).1 = b + 1 + (i : Int) ∧ termAt t l i ≤ (l.getD i (dflt T_api_Entry)).2.1 ∧ isE (l.getD i (dflt T_api_Entry)) = true
def Fol (b t : Int) (l : List En) : Prop := b < 4611686018427387904 ∧ (l.length : Int) < 4611686018427387904 - b ∧ ∀ i, i < l.length → okE b t l i
theorem Fol.contig {b t : Int} {l : List En} (h : Fol b t l) : contig b l := fun j hj => (h.2.2 j hj).1
theorem u64_succ {b : Int} {i : Nat} (h0 : 0 ≤ b) (h : b + (i : Int) < 4611686018427387904) : IntKind.wrap .u64 (b + (i : Int) + 1) = b + ((i + 1 : Nat) : Int) := by
  rw [wrap_u64 (by omega) (by omega)]; omega
theorem p39_ex (b t : Int) (l : List En) {n : Nat} (h0 : 0 ≤ b) (hs : small n l) (hn : n ≤ 4194304) (hf : l.length < fu) : ∃ r, p39 fu (b, t, l, ()) = some ((), r) ∧ (r = true ↔ Fol b t l) := by
  have hl := hs.1
  unfold p39
  simp only
  by_cases h1 : b ≥ 4611686018427387904
  · simp only [h1, decide_true, cond_true]
    exact ⟨_, rfl, by simp [Fol]; omega⟩
  · have w1 : IntKind.wrap .u64 (l.length : Int) = (l.length : Int) := wrap_u64 (by omega) (by omega)
    have w2 : IntKind.wrap .u64 (4611686018427387904 - b) = 4611686018427387904 - b := wrap_u64 (by omega) (by omega)
    simp only [h1, decide_false, cond_false, w1, w2]
    by_cases h2 : (l.length : Int) ≥ 4611686018427387904 - b
    · simp only [h2, decide_true, cond_true]
      exact ⟨_, rfl, by simp [Fol]; omega⟩
    · simp only [h2, decide_false, cond_false]
      refine loopO_bool (I := fun s => ∃ i : Nat, s = ((b + (i : Int), termAt t l i, (i : Int), ()), ()) ∧ i ≤ l.length ∧ ∀ j, j < i → okE b t l j) (m := fun s => l.length - s.1.2.2.1.toNat)
        (Q := fun r => r = true ↔ Fol b t l) ⟨0, by simp [termAt], Nat.zero_le _, fun j hj => absurd hj (Nat.not_lt_zero _)⟩ (by simpa using hf) ?_
      rintro s ⟨i, rfl, hi, hk⟩
      by_cases hi' : i < l.length
      · have g1 : ((i : Int) < (l.length : Int)) := by omega
        simp only [g1, decide_true, cond_true, Int.natCast_nonneg, and_self, Int.toNat_natCast, hi', u64_succ h0 (show b + (i : Int) < 4611686018427387904 by omega)]
        have hx := small_get hs hi'
        have bad : ¬ okE b t l i → ¬ Fol b t l := fun h k => h (k.2.2 i hi')
        obtain ⟨x, ex⟩ : ∃ x, l.getD i (dflt T_api_Entry) = x := ⟨_, rfl⟩
        rw [ex] at hx
        have okx : okE b t l i ↔ x.1 = b + 1 + (i : Int) ∧ termAt t l i ≤ x.2.1 ∧ isE x = true := by unfold okE; rw [ex]
        rw [okx] at bad
        have tx : termAt t l (i + 1) = x.2.1 := by unfold termAt; rw [if_neg (Nat.succ_ne_zero i), Nat.add_sub_cancel, ex]
        simp only [ex, p55_is x hx, bind_val]
        by_cases e1 : x.1 = b + ((i + 1 : Nat) : Int)
        · simp only [e1, bne_self_eq_false, cond_false]
          by_cases e2 : x.2.1 < termAt t l i
          · simp only [e2, decide_true, cond_true]
            exact ⟨_, rfl, show false = true ↔ Fol b t l from ⟨fun h => (by cases h), fun h => absurd h (bad (by omega))⟩⟩
          · simp only [e2, decide_false, cond_false]
            cases e3 : isE x with
            | false =>
              refine ⟨_, rfl, ?_⟩
              show false = true ↔ Fol b t l
              rw [Bool.false_eq_true, false_iff]
              exact bad (by rw [e3]; simp)
            | true =>
              refine ⟨_, rfl, ⟨i + 1, ?_, hi', fun j hj => ?_⟩, ?_⟩
              · rw [tx, i64_succ hi' (by omega)]
              · rcases Nat.lt_succ_iff_lt_or_eq.1 hj with hj | rfl
                · exact hk j hj
                · exact okx.2 ⟨by omega, by omega, e3⟩
              · simp only [i64_succ hi' (show l.length ≤ 9223372036854775807 by omega), Int.toNat_natCast]; omega
        · have e1' : (x.1 != b + ((i + 1 : Nat) : Int)) = true := by simpa using e1
          simp only [e1', cond_true]
          exact ⟨_, rfl, show false = true ↔ Fol b t l from ⟨fun h => (by cases h), fun h => absurd h (bad (by omega))⟩⟩
      · obtain rfl : i = l.length := by omega
        simp only [Int.lt_irrefl, decide_false, cond_false]
        exact ⟨_, rfl, show true = true ↔ Fol b t l from ⟨fun _ => ⟨by omega, by omega, hk⟩, fun _ => rfl⟩⟩
theorem p20_ex (b t : Int) (a2 a3 a4 : List Int) (l : List En) {n : Nat} (h0 : 0 ≤ b) (hs : small n l) (hn : n ≤ 4194304) (hf : l.length < fu) : ∃ r, p20 fu ((b, t, a2, a3, a4, l, ()), ()) = some ((), r) ∧ (r = true ↔ Fol b t l) := by
  obtain ⟨r, h1, h2⟩ := p39_ex (fu := fu) b t l h0 hs hn hf
  exact ⟨r, by simp only [p20, h1, bind_val], h2⟩
theorem p54_ex (x : En) (i t : Int) (h : smallX x) : ∃ r, p54 fu ((x.1, x.2.1, x.2.2.1, x.2.2.2.1, x.2.2.2.2.1, x.2.2.2.2.2, ()), i, t, ()) = some ((), r) ∧ (r = true → x.1 = i ∧ t ≤ x.2.1 ∧ isE x = true) := by
  obtain ⟨a, b, k, d, v, l⟩ := x
  obtain ⟨h1, h2, h3⟩ := h
  simp only at h1 h2 h3
  unfold p54 isE
  simp only
  have z : ∀ n : Nat, (((n : Nat) : Int) == (0 : Int)) = decide (n = 0) := fun n => by rw [Bool.eq_iff_iff]; simp
  rw [z, z, z]
  by_cases e1 : a = i
  · subst e1
    simp only [bne_self_eq_false, cond_false]
    by_cases e2 : b < t
    · simp only [e2, decide_true, cond_true]; exact ⟨_, rfl, by simp⟩
    · simp only [e2, decide_false, cond_false]
      by_cases e3 : b ≥ 4611686018427387904
      · simp only [e3, decide_true, cond_true]; exact ⟨_, rfl, by simp⟩
      · simp only [e3, decide_false, cond_false]
        have hh : orK (if v.length = 0 then some (Sum.inl (((decide (l.length = 0)), ()), ())) else some (Sum.inl ((false, ()), ()))) = orK (E := (Bool × Unit) × Unit) (R := Unit × Bool) (some (.inl ((decide (v.length = 0 ∧ l.length = 0), ()), ()))) := by
          by_cases hv : v.length = 0 <;> simp [hv]
        rw [show (bif decide (v.length = 0) then some (Sum.inl (((decide (l.length = 0)), ()), ())) else some (Sum.inl ((false, ()), ()))) = (if v.length = 0 then some (Sum.inl (((decide (l.length = 0)), ()), ())) else some (Sum.inl ((false, ()), ())) : Option (((Bool × Unit) × Unit) ⊕ (Unit × Bool))) by
          by_cases hv : v.length = 0 <;> simp [hv], hh]
        simp only [orK_inl]
        by_cases k1 : k = 1
        · subst k1
          simp only [beq_self_eq_true, cond_true]
          by_cases hv : v.length = 0 ∧ l.length = 0
          · simp only [hv, and_self, decide_true, cond_true]
            exact ⟨_, rfl, by simp [-List.length_eq_zero_iff]; omega⟩
          · simp only [hv, decide_false, cond_false]
            exact ⟨_, rfl, by simp⟩
        · have : (k == (1 : Int)) = false := by simpa using k1
          simp only [this, cond_false]
          by_cases k2 : k = 2
          · subst k2
            simp only [beq_self_eq_true, cond_true]
            exact ⟨_, rfl, by simp [-List.length_eq_zero_iff]; omega⟩
          · have : (k == (2 : Int)) = false := by simpa using k2
            simp only [this, cond_false]
            by_cases k3 : k = 3
            · subst k3
              simp only [beq_self_eq_true, cond_true]
              exact ⟨_, rfl, by simp [-List.length_eq_zero_iff]; omega⟩
            · have : (k == (3 : Int)) = false := by simpa using k3
              simp only [this, cond_false]
              exact ⟨_, rfl, by simp⟩
  · have e1' : (a != i) = true := by simpa using e1
    simp only [e1', cond_true]
    exact ⟨_, rfl, by simp⟩
theorem p31_ex (b t : Int) (l : List En) {n : Nat} (h0 : 0 ≤ b) (hs : small n l) (hn : n ≤ 4194304) (hf : l.length < fu) : ∃ r, p31 fu (b, t, l, ()) = some ((), r) ∧ (r = true → Fol b t l) := by
  have hl := hs.1
  unfold p31
  simp only
  by_cases h1 : b ≥ 4611686018427387904
  · simp only [h1, decide_true, cond_true]
    exact ⟨_, rfl, by simp⟩
  · have w1 : IntKind.wrap .u64 (l.length : Int) = (l.length : Int) := wrap_u64 (by omega) (by omega)
    have w2 : IntKind.wrap .u64 (4611686018427387904 - b) = 4611686018427387904 - b := wrap_u64 (by omega) (by omega)
    simp only [h1, decide_false, cond_false, w1, w2]
    by_cases h2 : (l.length : Int) ≥ 4611686018427387904 - b
    · simp only [h2, decide_true, cond_true]
      exact ⟨_, rfl, by simp⟩
    · simp only [h2, decide_false, cond_false]
      refine loopO_bool (I := fun s => ∃ i : Nat, s = ((termAt t l i, (i : Int), ()), ()) ∧ i ≤ l.length ∧ ∀ j, j < i → okE b t l j) (m := fun s => l.length - s.1.2.1.toNat)
        (Q := fun r => r = true → Fol b t l) ⟨0, by simp [termAt], Nat.zero_le _, fun j hj => absurd hj (Nat.not_lt_zero _)⟩ (by simpa using hf) ?_
      rintro s ⟨i, rfl, hi, hk⟩
      by_cases hi' : i < l.length
      · have g1 : ((i : Int) < (l.length : Int)) := by omega
        have w3 : IntKind.wrap .u64 (i : Int) = (i : Int) := wrap_u64 (by omega) (by omega)
        have w4 : IntKind.wrap .u64 (b + (i : Int)) = b + (i : Int) := wrap_u64 (by omega) (by omega)
        simp only [g1, decide_true, cond_true, Int.natCast_nonneg, and_self, Int.toNat_natCast, hi', w3, w4, u64_succ h0 (show b + (i : Int) < 4611686018427387904 by omega)]
        have hx := small_get hs hi'
        obtain ⟨x, ex⟩ : ∃ x, l.getD i (dflt T_api_Entry) = x := ⟨_, rfl⟩
        rw [ex] at hx
        have okx : okE b t l i ↔ x.1 = b + 1 + (i : Int) ∧ termAt t l i ≤ x.2.1 ∧ isE x = true := by unfold okE; rw [ex]
        have tx : termAt t l (i + 1) = x.2.1 := by unfold termAt; rw [if_neg (Nat.succ_ne_zero i), Nat.add_sub_cancel, ex]
        obtain ⟨r, hr, hr2⟩ := p54_ex (fu := fu) x (b + ((i + 1 : Nat) : Int)) (termAt t l i) hx
        simp only [ex, hr, bind_val]
        cases r with
        | false => exact ⟨_, rfl, show false = true → Fol b t l from fun h => by cases h⟩
        | true =>
          obtain ⟨q1, q2, q3⟩ := hr2 rfl
          refine ⟨_, rfl, ⟨i + 1, ?_, hi', fun j hj => ?_⟩, ?_⟩
          · rw [tx, i64_succ hi' (by omega)]
          · rcases Nat.lt_succ_iff_lt_or_eq.1 hj with hj | rfl
            · exact hk j hj
            · exact okx.2 ⟨by omega, q2, q3⟩
          · simp only [i64_succ hi' (show l.length ≤ 9223372036854775807 by omega), Int.toNat_natCast]; omega
      · obtain rfl : i = l.length := by omega
        simp only [Int.lt_irrefl, decide_false, cond_false]
        exact ⟨_, rfl, show true = true → Fol b t l from fun _ => ⟨by omega, by omega, hk⟩⟩
theorem p12_ex (b t : Int) (a2 a3 a4 : List Int) (l : List En) {n : Nat} (h0 : 0 ≤ b) (hs : small n l) (hn : n ≤ 4194304) (hf : l.length < fu) : ∃ r, p12 fu ((b, t, a2, a3, a4, l, ()), ()) = some ((), r) ∧ (r = true → Fol b t l) := by
  obtain ⟨r, h1, h2⟩ := p31_ex (fu := fu) b t l h0 hs hn hf
  unfold p12
  by_cases h : t < 4611686018427387904
  · exact ⟨r, by simp only [h, decide_true, cond_true, h1, bind_val], h2⟩
  · exact ⟨false, by simp only [h, decide_false, cond_false], by simp⟩
end
section
variable {fu : Nat}
@[reducible] def LStepG {S R R' : Type} (g : R' → R) (I : S → Prop) (m : S → Nat) (Q : R' → Prop) (s : S) : S ⊕ R → Prop
  | .inl s' => I s' ∧ m s' < m s
  | .inr r => ∃ r', r = g r' ∧ Q r'
theorem loopO_img {S R R' : Type} {f : S → Option (S ⊕ R)} {s : S} {n : Nat} (g : R' → R) (I : S → Prop) (m : S → Nat) (Q : R' → Prop) (hs : I s) (hn : m s < n) (h : ∀ s, I s → ∃ o, f s = some o ∧ LStepG g I m Q s o) : ∃ r, loopO n f s = some (g r) ∧ Q r := by
  obtain ⟨r, h1, r', h2, h3⟩ := loopO_rule I m (fun r => ∃ r', r = g r' ∧ Q r') (fun s hs => by
    obtain ⟨o, e1, e2⟩ := h s hs
    refine ⟨o, e1, ?_⟩
    cases o with
    | inl s' => exact e2
    | inr r => exact e2) n s hs hn
  exact ⟨r', by rw [h1, h2], h3⟩
theorem p46_refl (a : List Int) (h : a.length ≤ 9223372036854775807) (hf : a.length < fu) : p46 fu (a, a, ()) = some ((), true) := by
  unfold p46
  simp only [bne_self_eq_false, cond_false]
  refine loopO_eq (I := fun s => ∃ i : Nat, s = (((i : Int), ()), ()) ∧ i ≤ a.length) (m := fun s => a.length - s.1.1.toNat) (g := fun _ => ((), true)) ?_ fu _ ⟨0, rfl, Nat.zero_le _⟩ (by simpa using hf)
  rintro s ⟨i, rfl, h1⟩
  by_cases hi : i < a.length
  · left
    refine ⟨((((i + 1 : Nat) : Int), ()), ()), ?_, ⟨i + 1, rfl, hi⟩, by simp only [Int.toNat_natCast]; omega, rfl⟩
    simp only [Int.ofNat_lt, hi, decide_true, cond_true, Int.natCast_nonneg, true_and, Int.toNat_natCast, i64_succ hi h]
  · right
    obtain rfl : i = a.length := by omega
    simp [inrO]
theorem p24_refl (a b : List Int) (h : a.length ≤ 1048576) (h' : b.length ≤ 1048576) (hf : 1048576 < fu) : p24 fu ((a, b, ()), (a, b, ()), ()) = some ((), true) := by
  simp only [p24, p46_refl a (by omega) (show a.length < fu by omega), p46_refl b (by omega) (show b.length < fu by omega), bind_val, cond_true]
def smallB (a2 a3 a4 : List Int) : Prop := a2.length ≤ 1048576 ∧ a3.length ≤ 1048576 ∧ a4.length ≤ 1048576
theorem p43_is (b t : Int) (a2 a3 a4 : List Int) (hb : smallB a2 a3 a4) : p43 fu ((b, t, a2, a3, a4, ()), ()) = some ((), (b, t, a2, a3, a4, ())) := by
  obtain ⟨h2, h3, h4⟩ := hb
  simp only [p43, p45_is a2 a3 (by omega) (by omega), p36_is a4 (by omega), bind_val, decide_true, cond_true]
theorem p42_is (b t : Int) (a2 a3 a4 : List Int) (l : List En) {n : Nat} (hb : smallB a2 a3 a4) (hs : small n l) (hn : n ≤ 4194304) (hf : 4194304 < fu) : p42 fu ((b, t, a2, a3, a4, l, ()), ()) = some ((), (b, t, a2, a3, a4, l, ())) := by
  have := hs.1
  simp only [p42, p43_is b t a2 a3 a4 hb, p30_is l (small_fits hn hs) (show l.length < fu by omega), bind_val, decide_true, cond_true]
theorem slice_drop {α : Type} (l : List α) (k : Nat) : slice' l k none = l.drop k := by cases k <;> rfl
theorem getD_drop {α : Type} (l : List α) (k i : Nat) (d : α) : (l.drop k).getD i d = l.getD (k + i) d := by
  simp [List.getD_eq_getElem?_getD]
end
section
variable {fu : Nat}
theorem termI_base (b t : Int) (l : List En) : termI b t l b = (t, true) := by simp [termI]
theorem placeI_at {b : Int} {l : List En} {k : Nat} (hk : k ≤ l.length) : placeI b l (b + 1 + (k : Int)) = k := by unfold placeI; omega
theorem termI_in {b t : Int} {l : List En} (hc : contig b l) {k : Nat} (hk : k < l.length) : termI b t l (b + 1 + (k : Int)) = ((l.getD k (dflt T_api_Entry)).2.1, true) := by
  unfold termI
  rw [if_neg (by omega), placeI_at (by omega), if_pos ⟨hk, hc k hk⟩]
theorem getD_app {α : Type} (a c : List α) (i : Nat) (d : α) : (a ++ c).getD i d = if i < a.length then a.getD i d else c.getD (i - a.length) d := by
  simp only [List.getD_eq_getElem?_getD, List.getElem?_append]
  split <;> rfl
theorem getD_take {α : Type} (l : List α) (k i : Nat) (d : α) (h : i < k) : (l.take k).getD i d = l.getD i d := by
  simp [List.getD_eq_getElem?_getD, h]
theorem p26_is (a0 a1 : Int) (a2 a3 a4 : List Int) (l : List En) (i t : Int) (hl : l.length ≤ 4611686018427387903) : ∃ r, p26 fu ((a0, a1, a2, a3, a4, l, ()), i, t, ()) = some ((), r) ∧
    (t < (if l = [] then (a0, a1, ()) else ((l.getD (l.length - 1) (dflt T_api_Entry)).1, (l.getD (l.length - 1) (dflt T_api_Entry)).2.1, ())).2.1 → r = false) := by
  unfold p26
  simp only [p22_is a0 a1 a2 a3 a4 l hl, bind_val]
  generalize (if l = [] then (a0, a1, ()) else ((l.getD (l.length - 1) (dflt T_api_Entry)).1, (l.getD (l.length - 1) (dflt T_api_Entry)).2.1, ())) = z
  by_cases h1 : t > z.2.1
  · simp only [h1, decide_true, cond_true]; exact ⟨_, rfl, fun h => by omega⟩
  · simp only [h1, decide_false, cond_false]
    by_cases h2 : t = z.2.1
    · exact ⟨_, by rw [h2]; simp only [beq_self_eq_true, cond_true]; rfl, fun h => by omega⟩
    · have : (t == z.2.1) = false := by simpa using h2
      simp only [this, cond_false]
      exact ⟨_, rfl, fun _ => rfl⟩
theorem p9_is (hf : 4194304 < fu) : p9 fu () = some ((), true) := by
  obtain ⟨l, hl⟩ : ∃ l : List En, l = [((3 : Int), (1 : Int), (2 : Int), [], [], []), ((4 : Int), (2 : Int), (2 : Int), [], [], [])] := ⟨_, rfl⟩
  have hc : contig 2 l := fun j hj => by
    subst hl
    match j, hj with
    | 0, _ => rfl
    | 1, _ => rfl
  have hlen : l.length = 2 := by subst hl; rfl
  have hs : small 2 l := ⟨by omega, fun x hx => by
    subst hl
    simp only [List.mem_cons, List.not_mem_nil, or_false] at hx
    rcases hx with rfl | rfl <;> exact ⟨by simp, by simp, by simp⟩⟩
  have hfol : Fol 2 1 l := ⟨by decide, by rw [hlen]; decide, fun j hj => by
    subst hl
    match j, hj with
    | 0, _ => exact ⟨rfl, by decide, rfl⟩
    | 1, _ => exact ⟨rfl, by decide, rfl⟩⟩
  have e25 : p25 fu () = some ((), (2, 1, [], [], [], l, ())) := by subst hl; rfl
  have e22 := p22_is (fu := fu) 2 1 [] [] [] l (by omega)
  have hne : l ≠ [] := by subst hl; simp
  have h4 : (l.getD (l.length - 1) (dflt T_api_Entry)).1 = 4 ∧ (l.getD (l.length - 1) (dflt T_api_Entry)).2.1 = 2 := by subst hl; exact ⟨rfl, rfl⟩
  rw [if_neg hne, h4.1, h4.2] at e22
  have e21 := p21_is (fu := fu) 2 1 [] [] [] l 2 hc (by omega) (by omega)
  rw [termI_base] at e21
  obtain ⟨r, e20, h20⟩ := p20_ex (fu := fu) 2 1 [] [] [] l (by decide) hs (by decide) (by omega)
  have hr := h20.2 hfol
  subst hr
  obtain ⟨r, e26, h26⟩ := p26_is (fu := fu) 2 1 [] [] [] l 9 1 (by omega)
  rw [if_neg hne, h4.1, h4.2] at h26
  have hr := h26 (by decide)
  subst hr
  simp only [p9, e25, e22, e21, e20, e26, bind_val, decide_true, cond_true, beq_self_eq_true]
end
section
variable {fu : Nat}
theorem lastI {b t : Int} {l : List En} (hc : contig b l) : (if l = [] then (b, t, ()) else ((l.getD (l.length - 1) (dflt T_api_Entry)).1, (l.getD (l.length - 1) (dflt T_api_Entry)).2.1, ())) = (b + (l.length : Int), termAt t l l.length, ()) := by
  by_cases h : l = []
  · subst h; simp [termAt]
  · have h0 : 0 < l.length := List.length_pos_iff.2 h
    have := hc (l.length - 1) (by omega)
    rw [if_neg h, this, termAt, if_neg (by omega)]
    congr 1
    omega
theorem p22_at (b t : Int) (a2 a3 a4 : List Int) (l : List En) (hc : contig b l) (hl : l.length ≤ 4611686018427387903) : p22 fu ((b, t, a2, a3, a4, l, ()), ()) = some ((), (b + (l.length : Int), termAt t l l.length, ())) := by
  rw [p22_is b t a2 a3 a4 l hl, lastI hc]
theorem termI_at {b t : Int} {l : List En} (hc : contig b l) {q : Nat} (hq : q ≤ l.length) : termI b t l (b + (q : Int)) = (termAt t l q, true) := by
  cases q with
  | zero => rw [show b + ((0 : Nat) : Int) = b by omega, termI_base]; rfl
  | succ q => rw [show b + ((q + 1 : Nat) : Int) = b + 1 + (q : Int) by omega, termI_in hc hq, termAt, if_neg (Nat.succ_ne_zero q), Nat.add_sub_cancel]
theorem fol_sub {b t : Int} {l : List En} (h : Fol b t l) {q c : Nat} (hq : q ≤ l.length) : Fol (b + (q : Int)) (termAt t l q) ((l.drop q).take c) := by
  obtain ⟨h1, h2, h3⟩ := h
  have hlen : ((l.drop q).take c).length ≤ l.length - q := by simp; omega
  refine ⟨by omega, by omega, fun i hi => ?_⟩
  have hi2 : i < c ∧ q + i < l.length := by simp at hi; omega
  obtain ⟨k1, k2, k3⟩ := h3 (q + i) hi2.2
  have hg : ∀ j, j < c → ((l.drop q).take c).getD j (dflt T_api_Entry) = l.getD (q + j) (dflt T_api_Entry) := fun j hj => by rw [getD_take _ _ _ _ hj, getD_drop]
  have ht : termAt (termAt t l q) ((l.drop q).take c) i = termAt t l (q + i) := by
    cases i with
    | zero => rfl
    | succ i =>
      unfold termAt
      rw [if_neg (Nat.succ_ne_zero i), if_neg (by omega), Nat.add_sub_cancel, hg i (by omega), show q + (i + 1) - 1 = q + i by omega]
  unfold okE
  rw [hg i hi2.1, ht]
  exact ⟨by omega, k2, k3⟩
end
section
variable {fu : Nat}
def known (b t : Int) (l : List En) (x : En) : Prop := termI b t l x.1 = (x.2.1, true)
theorem p41_ex (x : En) (b t : Int) (a2 a3 a4 : List Int) (l : List En) (hc : contig b l) (hl : l.length ≤ 4611686018427387903) (hf : l.length < fu) :
    ∃ r, p41 fu ((x.1, x.2.1, x.2.2.1, x.2.2.2.1, x.2.2.2.2.1, x.2.2.2.2.2, ()), (b, t, a2, a3, a4, l, ()), ()) = some ((), r) ∧ (r = false ↔ known b t l x) := by
  unfold p41 known
  simp only [p21_is b t a2 a3 a4 l x.1 hc hl hf, bind_val]
  obtain ⟨u, ok, e⟩ : ∃ u ok, termI b t l x.1 = (u, ok) := ⟨_, _, rfl⟩
  rw [e]
  cases ok with
  | false => exact ⟨_, rfl, by simp⟩
  | true => exact ⟨_, rfl, by simp⟩
theorem p40_ex (b t : Int) (a2 a3 a4 : List Int) (l m : List En) (hc : contig b l) (hl : l.length ≤ 4611686018427387903) (hf : l.length < fu) (hm : m.length ≤ 4611686018427387903) (hf' : m.length < fu) :
    ∃ r, p40 fu (m, ((), ((b, t, a2, a3, a4, l, ()), ())), ()) = some (((b, t, a2, a3, a4, l, ()), ()), r) ∧
      ((r = -1 ∧ ∀ j, j < m.length → known b t l (m.getD j (dflt T_api_Entry))) ∨ ∃ k : Nat, r = (k : Int) ∧ k < m.length ∧ (∀ j, j < k → known b t l (m.getD j (dflt T_api_Entry))) ∧ ¬ known b t l (m.getD k (dflt T_api_Entry))) := by
  unfold p40
  refine loopO_img (g := fun r => (((b, t, a2, a3, a4, l, ()), ()), r)) (I := fun s => ∃ i : Nat, s = (((i : Int), ()), ()) ∧ i ≤ m.length ∧ ∀ j, j < i → known b t l (m.getD j (dflt T_api_Entry)))
    (m := fun s => m.length - s.1.1.toNat) (Q := fun r => (r = -1 ∧ ∀ j, j < m.length → known b t l (m.getD j (dflt T_api_Entry))) ∨ ∃ k : Nat, r = (k : Int) ∧ k < m.length ∧ (∀ j, j < k → known b t l (m.getD j (dflt T_api_Entry))) ∧ ¬ known b t l (m.getD k (dflt T_api_Entry)))
    ⟨0, rfl, Nat.zero_le _, fun j hj => absurd hj (Nat.not_lt_zero _)⟩ (by simpa using hf') ?_
  rintro s ⟨i, rfl, hi, hk⟩
  by_cases hi' : i < m.length
  · obtain ⟨r, e1, e2⟩ := p41_ex (fu := fu) (m.getD i (dflt T_api_Entry)) b t a2 a3 a4 l hc hl hf
    simp only [Int.ofNat_lt, hi', decide_true, cond_true, Int.natCast_nonneg, true_and, Int.toNat_natCast, e1, bind_val]
    cases r with
    | true => exact ⟨_, rfl, _, rfl, .inr ⟨i, rfl, hi', hk, fun h => by cases e2.2 h⟩⟩
    | false =>
      refine ⟨_, rfl, ⟨i + 1, by rw [i64_succ hi' (by omega)], hi', fun j hj => ?_⟩, by simp only [i64_succ hi' (show m.length ≤ 9223372036854775807 by omega), Int.toNat_natCast]; omega⟩
      rcases Nat.lt_succ_iff_lt_or_eq.1 hj with hj | rfl
      · exact hk j hj
      · exact e2.1 rfl
  · obtain rfl : i = m.length := by omega
    simp only [Int.lt_irrefl, decide_false, cond_false]
    exact ⟨_, rfl, _, rfl, .inl ⟨rfl, hk⟩⟩
def held (b t : Int) (l : List En) (commit : Int) (x : En) : Prop := x.1 ≤ commit ∧ (termI b t l x.1).2 = true ∧ (termI b t l x.1).1 ≠ x.2.1
abbrev Lg := Int × Int × List Int × List Int × List Int × List En × Unit
abbrev zeroL : Lg := (0, 0, [], [], [], [], ())
def MergeIs (b t : Int) (a2 a3 a4 : List Int) (l : List En) (commit index term : Int) (m : List En) (r : Lg × Int × List En × Int × Unit) : Prop :=
  (¬ (Fol index term m ∧ termI b t l index = (term, true) ∧ ∀ j, j < m.length → ¬ held b t l commit (m.getD j (dflt T_api_Entry))) ∧ ∃ e, e ≠ 0 ∧ r = (zeroL, 0, [], e, ())) ∨
  ((Fol index term m ∧ termI b t l index = (term, true) ∧ ∀ j, j < m.length → ¬ held b t l commit (m.getD j (dflt T_api_Entry))) ∧
    (((∀ j, j < m.length → known b t l (m.getD j (dflt T_api_Entry))) ∧ r = ((b, t, a2, a3, a4, l, ()), 0, [], 0, ())) ∨
      ∃ k, k < m.length ∧ (∀ j, j < k → known b t l (m.getD j (dflt T_api_Entry))) ∧ ¬ known b t l (m.getD k (dflt T_api_Entry)) ∧
        r = ((b, t, a2, a3, a4, l.take (placeI b l (m.getD k (dflt T_api_Entry)).1) ++ m.drop k, ()), (if placeI b l (m.getD k (dflt T_api_Entry)).1 < l.length then (m.getD k (dflt T_api_Entry)).1 else 0), m.drop k, 0, ())))
theorem p19_ex (b t : Int) (a2 a3 a4 : List Int) (l : List En) (commit index term : Int) (m : List En) {n n' : Nat} (h0 : 0 ≤ index) (hb : smallB a2 a3 a4) (hs : small n l) (hm : small n' m) (hn : n + n' ≤ 4194304) (hc : contig b l) (hf : 4194304 < fu) :
    ∃ r, p19 fu ((b, t, a2, a3, a4, l, ()), commit, index, term, m, ()) = some ((), r) ∧ MergeIs b t a2 a3 a4 l commit index term m r := by
  have hl := hs.1
  have hml := hm.1
  unfold p19
  simp only
  obtain ⟨r, e1, e2⟩ := p39_ex (fu := fu) index term m h0 hm (by omega) (by omega)
  simp only [e1, bind_val]
  cases r with
  | false =>
    refine ⟨_, rfl, .inl ⟨fun h => ?_, 1, by decide, rfl⟩⟩
    cases e2.2 h.1
  | true =>
    have hfol := e2.1 rfl
    simp only [Bool.not_true, cond_false, p21_is b t a2 a3 a4 l index hc (by omega) (show l.length < fu by omega), bind_val]
    have ht : ∃ r, (bif !(termI b t l index).2 then some (Sum.inl ((true, ()), ())) else some (Sum.inl (((termI b t l index).1 != term, ()), ())) : Option (((Bool × Unit) × Unit) ⊕ (Unit × (Lg × Int × List En × Int × Unit)))) = some (.inl ((r, ()), ())) ∧ (r = false ↔ termI b t l index = (term, true)) := by
      obtain ⟨u, ok, e⟩ : ∃ u ok, termI b t l index = (u, ok) := ⟨_, _, rfl⟩
      rw [e]
      cases ok with
      | false => exact ⟨_, rfl, by simp⟩
      | true => exact ⟨_, rfl, by simp⟩
    obtain ⟨r, q1, q2⟩ := ht
    simp only [q1, orK_inl]
    cases r with
    | true =>
      refine ⟨_, rfl, .inl ⟨fun h => ?_, 61, by decide, rfl⟩⟩
      cases q2.2 h.2.1
    | false =>
      have hterm := q2.1 rfl
      simp only [cond_false]
      clear q1 q2 e1 e2
      refine loopO_img (g := fun r => ((), r)) (I := fun s => ∃ i : Nat, s = (((i : Int), ()), ()) ∧ i ≤ m.length ∧ ∀ j, j < i → ¬ held b t l commit (m.getD j (dflt T_api_Entry)))
        (m := fun s => m.length - s.1.1.toNat) (Q := fun r => MergeIs b t a2 a3 a4 l commit index term m r) ⟨0, rfl, Nat.zero_le _, fun j hj => absurd hj (Nat.not_lt_zero _)⟩ (by simp; omega) ?_
      rintro s ⟨i, rfl, hi, hk⟩
      by_cases hi' : i < m.length
      · obtain ⟨x, ex⟩ : ∃ x, m.getD i (dflt T_api_Entry) = x := ⟨_, rfl⟩
        simp only [Int.ofNat_lt, hi', decide_true, cond_true, Int.natCast_nonneg, Int.toNat_natCast, and_self, ex, p21_is b t a2 a3 a4 l x.1 hc (show l.length ≤ 4611686018427387903 by omega) (show l.length < fu by omega), bind_val]
        have ht : ∃ r, (bif decide (x.1 ≤ commit) then bif (termI b t l x.1).2 then some (Sum.inl (((termI b t l x.1).1 != x.2.1, ()), ())) else some (Sum.inl ((false, ()), ())) else some (Sum.inl ((false, ()), ())) : Option (((Bool × Unit) × Unit) ⊕ ((((Int × Unit) × Unit)) ⊕ (Unit × (Lg × Int × List En × Int × Unit))))) = some (.inl ((r, ()), ())) ∧ (r = true ↔ held b t l commit x) := by
          unfold held
          obtain ⟨u, ok, e⟩ : ∃ u ok, termI b t l x.1 = (u, ok) := ⟨_, _, rfl⟩
          rw [e]
          by_cases hx : x.1 ≤ commit
          · simp only [hx, decide_true, cond_true]
            cases ok with
            | false => exact ⟨_, rfl, by simp⟩
            | true => exact ⟨_, rfl, by simp⟩
          · simp only [hx, decide_false, cond_false]
            exact ⟨_, rfl, by simp⟩
        obtain ⟨r, q1, q2⟩ := ht
        simp only [q1, orK_inl]
        cases r with
        | true =>
          refine ⟨_, rfl, _, rfl, .inl ⟨fun h => h.2.2 i hi' (by rw [ex]; exact q2.1 rfl), 62, by decide, rfl⟩⟩
        | false =>
          refine ⟨_, rfl, ⟨i + 1, by rw [i64_succ hi' (by omega)], hi', fun j hj => ?_⟩, by simp only [i64_succ hi' (show m.length ≤ 9223372036854775807 by omega), Int.toNat_natCast]; omega⟩
          rcases Nat.lt_succ_iff_lt_or_eq.1 hj with hj | rfl
          · exact hk j hj
          · rw [ex]; exact fun h => by cases q2.2 h
      · obtain rfl : i = m.length := by omega
        simp only [Int.lt_irrefl, decide_false, cond_false]
        obtain ⟨r, e1, e2⟩ := p40_ex (fu := fu) b t a2 a3 a4 l m hc (by omega) (by omega) (by omega) (by omega)
        simp only [e1, bind_val]
        rcases e2 with ⟨rfl, e2⟩ | ⟨k, rfl, k1, k2, k3⟩
        · simp only [show decide ((-1 : Int) < 0) = true from rfl, cond_true, p42_is b t a2 a3 a4 l hb hs (by omega) hf, bind_val, decide_true]
          exact ⟨_, rfl, _, rfl, .inr ⟨⟨hfol, hterm, hk⟩, .inl ⟨e2, rfl⟩⟩⟩
        · have g1 : ¬ ((k : Int) < 0) := by omega
          have g2 : k ≤ m.length := by omega
          have g3 : 0 < (m.drop k).length := by simp; omega
          have g4 : (0 : Int) < ((m.drop k).length : Int) := by omega
          simp only [g1, decide_false, cond_false, Int.natCast_nonneg, decide_true, cond_true, Int.toNat_natCast, g2, slice_drop, g3, g4, Int.le_refl, true_and, getD_drop, Nat.add_zero, p29_is b t a2 a3 a4 l b (m.getD k (dflt T_api_Entry)).1 hc (show l.length ≤ 4611686018427387903 by omega) (show l.length < fu by omega), bind_val, Int.ofNat_lt]
          obtain ⟨x, ex⟩ : ∃ x, m.getD k (dflt T_api_Entry) = x := ⟨_, rfl⟩
          rw [ex]
          have g5 : placeI b l x.1 ≤ l.length := Nat.min_le_right _ _
          have ht : (bif decide (placeI b l x.1 < l.length) then some (Sum.inl ((x.1, ()), ())) else some (Sum.inl (((0 : Int), ()), ())) : Option (((Int × Unit) × Unit) ⊕ (Unit × (Lg × Int × List En × Int × Unit)))) = some (.inl (((if placeI b l x.1 < l.length then x.1 else 0), ()), ())) := by
            by_cases hx : placeI b l x.1 < l.length <;> simp [hx]
          have s1 := small_take (k := placeI b l x.1) hs
          have s2 := small_drop (k := k) hm
          have l1 := s1.1
          have l2 := s2.1
          have g6 : (l.take (placeI b l x.1)).length + (m.drop k).length ≤ maxLen ∧ ((l.take (placeI b l x.1)).length + (m.drop k).length) * 96 ≤ 140737488355328 := ⟨by show _ ≤ 9223372036854775807; omega, by omega⟩
          simp only [ht, orK_inl, decide_true, cond_true, Nat.zero_le, g5, and_self, p30_is _ (small_fits (by omega) s1) (show (l.take (placeI b l x.1)).length < fu by omega), p30_is _ (small_fits (by omega) s2) (show (m.drop k).length < fu by omega), p43_is b t a2 a3 a4 hb, bind_val, g6]
          refine ⟨_, rfl, _, rfl, .inr ⟨⟨hfol, hterm, hk⟩, .inr ⟨k, k1, k2, by rw [ex]; rw [ex] at k3; exact k3, ?_⟩⟩⟩
          rw [ex]
theorem termI_ok {b t u i : Int} {l : List En} (hc : contig b l) (h : termI b t l i = (u, true)) : (i = b ∧ u = t) ∨ ∃ k, k < l.length ∧ i = b + 1 + (k : Int) ∧ u = (l.getD k (dflt T_api_Entry)).2.1 := by
  unfold termI at h
  split at h
  · rename_i e; cases h; exact .inl ⟨e, rfl⟩
  · split at h
    · rename_i e
      refine .inr ⟨_, e.1, ?_, ?_⟩
      · rw [← hc _ e.1]; exact e.2.symm
      · exact (congrArg Prod.fst h).symm
    · cases h
structure Merged (b t : Int) (l : List En) (index term : Int) (m : List En) : Prop where
  contig : contig b l
  term : termI b t l index = (term, true)
  known : ∀ j, j < m.length → known b t l (m.getD j (dflt T_api_Entry))
theorem merged_app {b t index term : Int} {l m : List En} {k : Nat} (hc : contig b l) (hm : Fol index term m) (ht : termI b t l index = (term, true)) (hk : k < m.length) (hn : ∀ j, j < k → known b t l (m.getD j (dflt T_api_Entry))) :
    ∃ p : Nat, index = b + (p : Int) ∧ p + k ≤ l.length ∧ placeI b l (m.getD k (dflt T_api_Entry)).1 = p + k ∧ Merged b t (l.take (p + k) ++ m.drop k) index term m := by
  have hp : ∃ p : Nat, index = b + (p : Int) ∧ p ≤ l.length := by
    rcases termI_ok hc ht with ⟨e, _⟩ | ⟨q, q1, q2, _⟩
    · exact ⟨0, by omega, Nat.zero_le _⟩
    · exact ⟨q + 1, by omega, q1⟩
  obtain ⟨p, hp, hp'⟩ := hp
  have hmi := hm.contig
  have hpk : p + k ≤ l.length := by
    cases k with
    | zero => exact hp'
    | succ k =>
      have h1 := hn k (Nat.lt_succ_self k)
      have h2 := hmi k (by omega)
      unfold known at h1
      rcases termI_ok hc h1 with ⟨e, _⟩ | ⟨q, q1, q2, _⟩
      · omega
      · omega
  have hlen : (l.take (p + k) ++ m.drop k).length = p + m.length := by simp; omega
  have hlt : (l.take (p + k)).length = p + k := by simp; omega
  have hget : ∀ i, (l.take (p + k) ++ m.drop k).getD i (dflt T_api_Entry) = if i < p + k then l.getD i (dflt T_api_Entry) else m.getD (i - p) (dflt T_api_Entry) := fun i => by
    rw [getD_app, hlt]
    by_cases h : i < p + k
    · rw [if_pos h, if_pos h, getD_take _ _ _ _ h]
    · rw [if_neg h, if_neg h, getD_drop, show k + (i - (p + k)) = i - p by omega]
  have hc' : contig b (l.take (p + k) ++ m.drop k) := fun i hi => by
    rw [hlen] at hi
    rw [hget]
    by_cases h : i < p + k
    · rw [if_pos h]; exact hc i (by omega)
    · rw [if_neg h, hmi (i - p) (by omega)]; omega
  refine ⟨p, hp, hpk, ?_, hc', ?_, fun j hj => ?_⟩
  · rw [hmi k hk]
    have := placeI_at (b := b) hpk
    rw [← this]
    congr 1
    omega
  · rcases termI_ok hc ht with ⟨e, e2⟩ | ⟨q, q1, q2, q3⟩
    · rw [e, e2]; exact termI_base _ _ _
    · rw [q2, termI_in hc' (by rw [hlen]; omega), hget, if_pos (by omega), q3]
  · unfold known
    have h2 : (m.getD j (dflt T_api_Entry)).1 = b + 1 + ((p + j : Nat) : Int) := by rw [hmi j hj]; omega
    rw [h2, termI_in hc' (by rw [hlen]; omega), hget]
    by_cases h : j < k
    · rw [if_pos (by omega)]
      have h1 := hn j h
      unfold known at h1
      rw [h2, termI_in hc (by omega)] at h1
      exact h1
    · rw [if_neg (by omega), show p + j - p = j by omega]
end
section
variable {fu : Nat}
theorem bq45 (a b : List Int) (ha : a.length * 8 ≤ 140737488355328) (hb : b.length * 8 ≤ 140737488355328) : Bq.p45 fu ((a, b, ()), ()) = some ((), (a, b, ())) :=
  (show Bq.p45 fu ((a, b, ()), ()) = p45 fu ((a, b, ()), ()) from rfl).trans (p45_is a b ha hb)
theorem lastC_lt {es : List En} {j : Nat} (h : lastC es = some j) : j < es.length := by
  have := List.mem_of_find?_eq_some h
  simpa using this
theorem cfOf_small {n : Nat} {v l : List Int} {es : List En} (hv : v.length ≤ 1048576) (hl : l.length ≤ 1048576) (hs : small n es) : (cfOf v l es (lastC es)).1.length ≤ 1048576 ∧ (cfOf v l es (lastC es)).2.length ≤ 1048576 := by
  cases h : lastC es with
  | none => exact ⟨hv, hl⟩
  | some j =>
    have := small_get hs (lastC_lt h)
    exact ⟨this.2.1, this.2.2⟩
theorem pRCf_is (b t : Int) (v l d : List Int) (es : List En) {n : Nat} (hv : v.length ≤ 1048576) (hl : l.length ≤ 1048576) (hs : small n es) (hn : n ≤ 1048576) :
    pRCf fu ((b, t, v, l, d, es, ()), ()) = some ((), ((cfOf v l es (lastC es)).1, (cfOf v l es (lastC es)).2, ()), ixOf es (lastC es), ()) := by
  obtain ⟨k1, k2⟩ := cfOf_small hv hl hs
  have h1 : es.all (fun e => copyOK fu (e.2.2.2.2.1, e.2.2.2.2.2)) = true := List.all_eq_true.2 fun x hx => by
    obtain ⟨_, q2, q3⟩ := hs.2 x hx
    unfold copyOK
    rw [bq45 _ _ (show x.2.2.2.2.1.length * 8 ≤ _ by omega) (show x.2.2.2.2.2.length * 8 ≤ _ by omega)]
    rfl
  unfold pRCf
  dsimp only
  rw [h1, decide_eq_true (show es.length ≤ 1048576 by have := hs.1; omega), bq45 _ _ (by omega) (by omega)]
  rfl
def upS (s : Int × (List Int × List Int)) (x : En) : Int × (List Int × List Int) := bif x.2.2.1 == 3 then (x.1, (x.2.2.2.2.1, x.2.2.2.2.2)) else s
theorem lastC_snoc (es : List En) (x : En) : lastC (es ++ [x]) = if x.2.2.1 = 3 then some es.length else lastC es := by
  by_cases h : x.2.2.1 = 3
  · rw [if_pos h]
    refine lastC_some (by simp) ?_ fun k h1 h2 => ?_
    · rw [getD_app, if_neg (by omega), Nat.sub_self]; exact h
    · simp at h2; omega
  · rw [if_neg h]
    cases hl : lastC es with
    | none =>
      refine lastC_none fun k hk => ?_
      rw [getD_app]
      by_cases hk' : k < es.length
      · rw [if_pos hk']
        unfold lastC at hl
        rw [List.find?_eq_none] at hl
        have := hl k (by simpa using hk')
        simpa using this
      · rw [if_neg hk']
        have : k - es.length = 0 := by simp at hk; omega
        rw [this]; exact h
    | some j =>
      have hj := lastC_lt hl
      unfold lastC at hl
      obtain ⟨h1, xs', bs, h2, h3⟩ := List.find?_eq_some_iff_append.1 hl
      refine lastC_some (by simp; omega) (by rw [getD_app, if_pos hj]; simpa using h1) fun k q1 q2 => ?_
      rw [getD_app]
      by_cases hk' : k < es.length
      · rw [if_pos hk']
        have hm : k ∈ xs' := by
          have e1 : (List.range es.length).reverse.Pairwise (· > ·) := by
            rw [List.pairwise_reverse]; exact List.pairwise_lt_range
          have e2 : k ∈ (List.range es.length).reverse := by simpa using hk'
          rw [h2] at e1 e2
          rcases List.mem_append.1 e2 with e | e
          · exact e
          · rcases List.mem_cons.1 e with e | e
            · omega
            · have := (List.pairwise_cons.1 (List.pairwise_append.1 e1).2.1).1 k e
              omega
        have := h3 k hm
        simpa using this
      · rw [if_neg hk']
        have : k - es.length = 0 := by simp at q2; omega
        rw [this]; exact h
theorem last_fold (v l : List Int) (es : List En) : ∀ n, n ≤ es.length → (ixOf (es.take n) (lastC (es.take n)), cfOf v l (es.take n) (lastC (es.take n))) = (es.take n).foldl upS (0, (v, l)) := by
  intro n
  induction n with
  | zero => intro _; rfl
  | succ n ih =>
    intro hn
    have ih := ih (by omega)
    rw [take_snoc' (by omega : n < es.length) dfE, List.foldl_append, ← ih, lastC_snoc]
    generalize es.getD n dfE = x
    have hlen : (es.take n).length = n := by simp; omega
    unfold upS
    simp only [List.foldl_cons, List.foldl_nil]
    by_cases h : x.2.2.1 = 3
    · rw [if_pos h, show (x.2.2.1 == 3) = true by simpa using h]
      have e : (es.take n ++ [x]).getD (es.take n).length dfE = x := by rw [getD_app, if_neg (by omega), Nat.sub_self]; rfl
      simp only [ixOf, cfOf, e, cond_true]
    · rw [if_neg h, show (x.2.2.1 == 3) = false by simpa using h, cond_false]
      cases hl : lastC (es.take n) with
      | none => rfl
      | some j =>
        have hj := lastC_lt hl
        have e : (es.take n ++ [x]).getD j dfE = (es.take n).getD j dfE := by rw [getD_app, if_pos hj]
        simp only [ixOf, cfOf, e]
theorem last_is (v l : List Int) (es : List En) : (ixOf es (lastC es), cfOf v l es (lastC es)) = es.foldl upS (0, (v, l)) := by
  have := last_fold v l es es.length (Nat.le_refl _)
  rwa [List.take_length] at this
def compS (b t : Int) (v l : List Int) (es : List En) (k : Int) (d : List Int) : (Int × Int × List Int × List Int × List Int × List En × Unit) × Int × Unit :=
  bif decide (k ≤ b) || decide (k > b + (es.length : Int)) then ((0, 0, [], [], [], [], ()), 61, ())
  else ((k, termAt t es (k - b).toNat, (cfOf v l (es.take (k - b).toNat) (lastC (es.take (k - b).toNat))).1, (cfOf v l (es.take (k - b).toNat) (lastC (es.take (k - b).toNat))).2, d, es.drop (k - b).toNat, ()), 0, ())
theorem p17_is (b t : Int) (v l d : List Int) (es : List En) (k : Int) (own : List Int) (h0 : 0 ≤ b) (hb : smallB v l d) (ho : own.length ≤ 1048576) (hs : small 1048576 es) (hfo : Fol b t es) (hf : 4194304 < fu) :
    p17 fu ((b, t, v, l, d, es, ()), k, own, ()) = some ((), compS b t v l es k own) := by
  have hl := hs.1
  obtain ⟨f1, f2, f3⟩ := hfo
  have hc : contig b es := fun j hj => (f3 j hj).1
  unfold p17 compS
  simp only [p22_at b t v l d es hc (show es.length ≤ 4611686018427387903 by omega), bind_val]
  by_cases h1 : k ≤ b
  · simp only [h1, decide_true, cond_true, orK_inl, Bool.true_or]
  · simp only [h1, decide_false, cond_false, orK_inl, Bool.false_or]
    by_cases h2 : k > b + (es.length : Int)
    · simp only [h2, decide_true, cond_true]
    · obtain ⟨q, hq⟩ : ∃ q : Nat, k = b + (q : Int) := ⟨(k - b).toNat, by omega⟩
      have hql : q ≤ es.length := by omega
      have hqn : (k - b).toNat = q := by omega
      have hw : IntKind.wrap .u64 (k + 1) = b + 1 + (q : Int) := by
        have := u64_succ (b := b) (i := q) h0 (by omega)
        rw [hq, this]; omega
      rw [hqn]
      have e29 := p29_is (fu := fu) b t v l d es b (b + 1 + (q : Int)) hc (by omega) (by omega)
      rw [placeI_at hql] at e29
      have e21 := p21_is (fu := fu) b t v l d es k hc (by omega) (by omega)
      rw [hq, termI_at hc hql] at e21
      subst hq
      simp only [h2, decide_false, cond_false, hw, e29, e21, bind_val, Int.natCast_nonneg, decide_true, cond_true, Int.toNat_natCast, Nat.zero_le, true_and, hql, pRCf_is b t v l d (es.take q) hb.1 hb.2.1 (small_take hs) (by decide), p36_is own (show own.length ≤ 140737488355328 by omega), slice_drop, p30_is _ (small_fits (by decide) (small_drop (k := q) hs)) (show (es.drop q).length < fu by simp; omega)]
end
section
variable {fu : Nat}
abbrev dE : En := dflt T_api_Entry
theorem merged_fol {b t index term : Int} {l m : List En} {k p : Nat} (hfo : Fol b t l) (hm : Fol index term m) (ht : termI b t l index = (term, true)) (hk : k < m.length) (hn : ∀ j, j < k → known b t l (m.getD j dE))
    (hp : index = b + (p : Int)) (hpl : p + k ≤ l.length) (hM : Merged b t (l.take (p + k) ++ m.drop k) index term m) : Fol b t (l.take (p + k) ++ m.drop k) := by
  have hc := hfo.contig
  have htl : (l.take (p + k)).length = p + k := by simp; omega
  have hlen : (l.take (p + k) ++ m.drop k).length = p + m.length := by rw [List.length_append, htl, List.length_drop]; omega
  have lo : ∀ i, i < p + k → (l.take (p + k) ++ m.drop k).getD i dE = l.getD i dE := fun i hi => by
    rw [getD_app, if_pos (by omega), getD_take _ _ _ _ hi]
  have hi' : ∀ i, p + k ≤ i → (l.take (p + k) ++ m.drop k).getD i dE = m.getD (i - p) dE := fun i hi => by
    rw [getD_app, if_neg (by omega), htl, getD_drop, show k + (i - (p + k)) = i - p by omega]
  have hterm : termAt t l p = term := by
    rw [hp, termI_at hc (by omega)] at ht
    exact congrArg Prod.fst ht
  refine ⟨hfo.1, by have := hm.2.1; rw [hlen]; omega, fun i hi => ⟨hM.contig i hi, ?_⟩⟩
  rw [hlen] at hi
  rcases Nat.lt_or_ge i (p + k) with h | h
  · obtain ⟨_, q2, q3⟩ := hfo.2.2 i (by omega)
    rw [lo i h]
    refine ⟨?_, q3⟩
    unfold termAt at q2 ⊢
    by_cases h0 : i = 0
    · rw [if_pos h0] at q2 ⊢; exact q2
    · rw [if_neg h0] at q2 ⊢
      rw [lo (i - 1) (by omega)]; exact q2
  · obtain ⟨_, q2, q3⟩ := hm.2.2 (i - p) (by omega)
    rw [hi' i h]
    refine ⟨?_, q3⟩
    have e : termAt t (l.take (p + k) ++ m.drop k) i = termAt term m (i - p) := by
      by_cases h1 : i - p = 0
      · have hk0 : k = 0 := by omega
        have hip : i = p := by omega
        rw [show termAt term m (i - p) = term by unfold termAt; rw [if_pos h1], ← hterm]
        unfold termAt
        by_cases h0 : p = 0
        · rw [if_pos (by omega), if_pos h0]
        · rw [if_neg (by omega), if_neg h0, hip, lo (p - 1) (by omega)]
      · unfold termAt
        rw [if_neg (by omega), if_neg h1]
        rcases Nat.lt_or_ge (i - 1) (p + k) with h2 | h2
        · have hik : i = p + k := by omega
          have hkn := hn (k - 1) (by omega)
          unfold known at hkn
          have hidx := (hm.2.2 (k - 1) (by omega)).1
          rw [hidx, show index + 1 + ((k - 1 : Nat) : Int) = b + ((p + k : Nat) : Int) by omega, termI_at hc (by omega)] at hkn
          have := congrArg Prod.fst hkn
          unfold termAt at this
          rw [if_neg (by omega)] at this
          rw [lo (i - 1) h2, show i - 1 = p + k - 1 by omega, show i - p - 1 = k - 1 by omega]
          exact this
        · rw [hi' (i - 1) h2, show i - 1 - p = i - p - 1 by omega]
    rw [e]
    exact q2
theorem merge_keeps {b t commit index term : Int} {a2 a3 a4 : List Int} {l m : List En} {r : Lg × Int × List En × Int × Unit} {n n' : Nat} (h0b : 0 ≤ b) (hs : small n l) (hm : small n' m) (hfo : Fol b t l) (h : MergeIs b t a2 a3 a4 l commit index term m r) (he : r.2.2.2.1 = 0) :
    ∃ l' cut came, r = ((b, t, a2, a3, a4, l', ()), cut, came, 0, ()) ∧ small (n + n') l' ∧ Fol b t l' ∧ came.length ≤ m.length ∧ (cut ≠ 0 → cut > commit ∧ cut > b) ∧
      (∀ i, i < l.length → (l.getD i dE).1 ≤ commit → termI b t l' (l.getD i dE).1 = ((l.getD i dE).2.1, true)) ∧ ∀ j, j < m.length → termI b t l' (m.getD j dE).1 = ((m.getD j dE).2.1, true) := by
  have hc := hfo.contig
  rcases h with ⟨_, e, h1, rfl⟩ | ⟨⟨h1, h2, h3⟩, h4⟩
  · exact absurd he h1
  · rcases h4 with ⟨h4, rfl⟩ | ⟨k, k1, k2, k3, rfl⟩
    · exact ⟨l, 0, [], rfl, ⟨by have := hs.1; omega, hs.2⟩, hfo, Nat.zero_le _, fun h => absurd rfl h, fun i hi _ => by rw [hc i hi]; exact termI_in hc hi, h4⟩
    · obtain ⟨p, p1, p2, p3, p4⟩ := merged_app hc h1 h2 k1 k2
      have hf' := merged_fol hfo h1 h2 k1 k2 p1 p2 p4
      rw [p3]
      have hidx : (m.getD k dE).1 = b + 1 + ((p + k : Nat) : Int) := by rw [(h1.2.2 k k1).1]; omega
      have hcut : ∀ c : Int, c = (if p + k < l.length then (m.getD k dE).1 else 0) → c ≠ 0 → p + k < l.length ∧ c > commit ∧ c > b := fun c hcd hc0 => by
        by_cases hlt : p + k < l.length
        · rw [if_pos hlt] at hcd
          refine ⟨hlt, ?_, by omega⟩
          have hnk := h3 k k1
          unfold held at hnk
          have hkn := k3
          unfold known at hkn
          rw [hidx, termI_in hc hlt] at hkn hnk
          by_cases hle : (m.getD k dE).1 ≤ commit
          · refine absurd ⟨by rw [hidx] at hle; exact hle, rfl, fun e => hkn ?_⟩ hnk
            exact Prod.ext e rfl
          · omega
        · rw [if_neg hlt] at hcd; exact absurd hcd hc0
      refine ⟨_, _, _, rfl, small_app (small_take hs) (small_drop hm), hf', by rw [List.length_drop]; omega, fun h => (hcut _ rfl h).2, fun i hi hic => ?_, p4.known⟩
      have hci := hc i hi
      rw [hci]
      rcases Nat.lt_or_ge i (p + k) with hlt | hge
      · have htl : (l.take (p + k)).length = p + k := by simp; omega
        have hl' : i < (l.take (p + k) ++ m.drop k).length := by rw [List.length_append]; omega
        rw [termI_in hf'.contig hl', getD_app, if_pos (by omega), getD_take _ _ _ _ hlt]
      · have hlt : p + k < l.length := by omega
        have := (hcut (if p + k < l.length then (m.getD k dE).1 else 0) rfl (by rw [if_pos hlt, hidx]; omega)).2.1
        rw [if_pos hlt, hidx] at this
        have hic' : b + 1 + (i : Int) ≤ commit := Int.le_trans (Int.le_of_eq hci.symm) hic
        omega
end
section
variable {fu : Nat}
theorem orK_of {E R : Type} {X : Option (E ⊕ R)} {K : E → Option R} {e : E} {r : R} (h : X = some (.inl e)) (hk : K e = some r) : orK X K = some r := by rw [h]; exact hk
theorem loopO_to {S R : Type} {f : S → Option (S ⊕ R)} {r : R} {n : Nat} {s : S} (I : S → Prop) (m : S → Nat) (hs : I s) (hm : m s < n) (h : ∀ s, I s → (∃ s', f s = some (.inl s') ∧ I s' ∧ m s' < m s) ∨ f s = some (.inr r)) : loopO n f s = some r :=
  loopO_eq I m (fun _ => r) (fun s hI => (h s hI).imp (fun ⟨s', a, b, c⟩ => ⟨s', a, b, c, rfl⟩) id) n s hs hm
theorem up_snd : ∀ (l : List En) (i j : Int) (c : List Int × List Int), (l.foldl upS (i, c)).2 = (l.foldl upS (j, c)).2
  | [], _, _, _ => rfl
  | x :: l, i, j, c => by
    rw [List.foldl_cons, List.foldl_cons]
    unfold upS
    cases (x.2.2.1 == 3) with
    | true => rfl
    | false => exact up_snd l i j c
theorem cf_rest (v lr : List Int) (l : List En) (q : Nat) : cfOf (cfOf v lr (l.take q) (lastC (l.take q))).1 (cfOf v lr (l.take q) (lastC (l.take q))).2 (l.drop q) (lastC (l.drop q)) = cfOf v lr l (lastC l) := by
  have e1 := congrArg Prod.snd (last_is v lr l)
  have e2 := congrArg Prod.snd (last_is (cfOf v lr (l.take q) (lastC (l.take q))).1 (cfOf v lr (l.take q) (lastC (l.take q))).2 (l.drop q))
  have e3 := last_is v lr (l.take q)
  dsimp only at e1 e2
  rw [e1, e2]
  conv => rhs; rw [← List.take_append_drop q l]
  rw [List.foldl_append, ← e3]
  exact up_snd _ _ _ _
theorem drop_term {t : Int} {l : List En} {q j : Nat} : termAt (termAt t l q) (l.drop q) j = termAt t l (q + j) := by
  unfold termAt
  by_cases h : j = 0
  · subst h; rw [if_pos rfl]; rfl
  · rw [if_neg h, if_neg (by omega), getD_drop, show q + (j - 1) = q + j - 1 by omega]
set_option maxRecDepth 4000 in
theorem p5_is (b t : Int) (a2 a3 a4 : List Int) (l : List En) (commit index term : Int) (m : List En) (k : Int) (h0 : 0 ≤ b) (hi0 : 0 ≤ index) (hb : smallB a2 a3 a4) (hs : small 1048576 l) (hm : small 1048576 m) (hf : 4194304 < fu) :
    p5 fu ((b, t, a2, a3, a4, l, commit, index, term, m, ()), k, ()) = some ((), true) := by
  have hl := hs.1
  have hml := hm.1
  obtain ⟨r, e12, h12⟩ := p12_ex (fu := fu) b t a2 a3 a4 l h0 hs (by decide) (by omega)
  unfold p5
  simp only [p9_is hf, e12, bind_val, Bool.not_true, cond_false]
  cases r with
  | false => rfl
  | true =>
  have hfo := h12 rfl
  have hc := hfo.contig
  obtain ⟨R, e19, hM⟩ := p19_ex (fu := fu) b t a2 a3 a4 l commit index term m hi0 hb hs hm (by decide) hc hf
  obtain ⟨⟨t0, u0, w0, x0, y0, z0, ⟨⟩⟩, cut, came, err, ⟨⟩⟩ := R
  simp only [Bool.not_true, cond_false, e19, bind_val]
  refine orK_of (e := ((), ())) ?_ ?_
  · cases he : (err == 0) with
    | false => simp only [cond_false]
    | true =>
      have he0 : err = 0 := by simpa using he
      obtain ⟨l', cut', came', hR, hs', hfo', hlen, hcut, hold, hnew⟩ := merge_keeps h0 hs hm hfo hM he0
      cases hR
      have hl' : z0.length ≤ 2097152 := hs'.1
      obtain ⟨r2, e20, h20⟩ := p20_ex (fu := fu) b t a2 a3 a4 z0 h0 hs' (by decide) (by omega)
      obtain rfl : r2 = true := h20.2 hfo'
      have hlen' : ¬ ((came.length : Int) > (m.length : Int)) := by omega
      simp only [cond_true, decide_true]
      refine orK_of (e := ((), ())) ?_ ?_
      · simp only [e20, bind_val, Bool.not_true, cond_false, hlen', decide_false]
        cases hcz : (cut != 0) with
        | false => simp only [cond_false]
        | true =>
          obtain ⟨q1, q2⟩ := hcut (by simpa using hcz)
          have q1' : ¬ cut ≤ commit := by omega
          have q2' : ¬ cut ≤ b := by omega
          simp only [cond_true, q1', q2', decide_false, cond_false]
      · refine orK_of (e := ((), ())) ?_ ?_
        · refine loopO_to (I := fun s => ∃ i : Nat, s = (((i : Int), ()), ()) ∧ i ≤ l.length) (m := fun s => l.length - s.1.1.toNat) ⟨0, rfl, Nat.zero_le _⟩ (show l.length - 0 < fu by omega) ?_
          rintro s ⟨i, rfl, h1⟩
          rcases Nat.lt_or_ge i l.length with hi | hi
          · simp only [Int.ofNat_lt, hi, decide_true, cond_true, Int.natCast_nonneg, and_self, Int.toNat_natCast]
            by_cases hgt : (l.getD i (dflt T_api_Entry)).1 > commit
            · refine .inr ?_
              simp only [hgt, decide_true, cond_true, inrO_val]
            · have ho := hold i hi (show (l.getD i (dflt T_api_Entry)).1 ≤ commit by omega)
              have e21 := p21_is (fu := fu) b t a2 a3 a4 z0 (l.getD i (dflt T_api_Entry)).1 hfo'.contig (by omega) (by omega)
              rw [show termI b t z0 (l.getD i (dflt T_api_Entry)).1 = ((l.getD i (dflt T_api_Entry)).2.1, true) from ho] at e21
              refine .inl ⟨((((i + 1 : Nat) : Int), ()), ()), ?_, ⟨i + 1, rfl, hi⟩, by simp; omega⟩
              simp only [hgt, decide_false, cond_false, e21, bind_val, Bool.not_true, bne_self_eq_false, i64_succ hi (show l.length ≤ 9223372036854775807 by omega)]
          · obtain rfl : i = l.length := by omega
            refine .inr ?_
            simp only [Int.lt_irrefl, decide_false, cond_false, inrO_val]
        · refine loopO_to (I := fun s => ∃ i : Nat, s = (((i : Int), ()), ()) ∧ i ≤ m.length) (m := fun s => m.length - s.1.1.toNat) ⟨0, rfl, Nat.zero_le _⟩ (show m.length - 0 < fu by omega) ?_
          rintro s ⟨i, rfl, h1⟩
          rcases Nat.lt_or_ge i m.length with hi | hi
          · have e21 := p21_is (fu := fu) b t a2 a3 a4 z0 (m.getD i (dflt T_api_Entry)).1 hfo'.contig (by omega) (by omega)
            rw [show termI b t z0 (m.getD i (dflt T_api_Entry)).1 = ((m.getD i (dflt T_api_Entry)).2.1, true) from hnew i hi] at e21
            refine .inl ⟨((((i + 1 : Nat) : Int), ()), ()), ?_, ⟨i + 1, rfl, hi⟩, by simp; omega⟩
            simp only [Int.ofNat_lt, hi, decide_true, cond_true, Int.natCast_nonneg, and_self, Int.toNat_natCast, e21, bind_val, Bool.not_true, cond_false, bne_self_eq_false, i64_succ hi (show m.length ≤ 9223372036854775807 by omega)]
          · obtain rfl : i = m.length := by omega
            refine .inr ?_
            simp only [Int.lt_irrefl, decide_false, cond_false, inrO_val]
  · have e17 := p17_is (fu := fu) b t a2 a3 a4 l k [] h0 hb (Nat.zero_le _) hs hfo hf
    simp only [e17, bind_val]
    unfold compS
    cases hk : (decide (k ≤ b) || decide (k > b + (l.length : Int))) with
    | true => rfl
    | false =>
      have hk' : b < k ∧ k ≤ b + (l.length : Int) := by
        rw [Bool.or_eq_false_iff, decide_eq_false_iff_not, decide_eq_false_iff_not] at hk
        omega
      obtain ⟨q, hq⟩ : ∃ q : Nat, k = b + (q : Int) := ⟨(k - b).toNat, by omega⟩
      have hql : q ≤ l.length := by omega
      have hqn : (k - b).toNat = q := by omega
      rw [hqn]
      have hfd : Fol k (termAt t l q) (l.drop q) := by
        have := fol_sub hfo (c := (l.drop q).length) hql
        rw [List.take_length] at this
        rwa [hq]
      have hsd : small 1048576 (l.drop q) := small_drop hs
      have hdl : (l.drop q).length = l.length - q := by simp
      obtain ⟨m1, m2⟩ := cfOf_small hb.1 hb.2.1 (small_take (k := q) hs)
      obtain ⟨m3, m4⟩ := cfOf_small hb.1 hb.2.1 hs
      have hrest := cf_rest a2 a3 l q
      have er1 := pRCf_is (fu := fu) b t a2 a3 a4 l hb.1 hb.2.1 hs (by decide)
      have er2 := pRCf_is (fu := fu) k (termAt t l q) (cfOf a2 a3 (l.take q) (lastC (l.take q))).1 (cfOf a2 a3 (l.take q) (lastC (l.take q))).2 [] (l.drop q) m1 m2 hsd (by decide)
      rw [hrest] at er2
      have e22 := p22_at (fu := fu) b t a2 a3 a4 l hc (by omega)
      have e22' := p22_at (fu := fu) k (termAt t l q) (cfOf a2 a3 (l.take q) (lastC (l.take q))).1 (cfOf a2 a3 (l.take q) (lastC (l.take q))).2 [] (l.drop q) hfd.contig (by omega)
      rw [drop_term, hdl, show q + (l.length - q) = l.length by omega, show k + ((l.length - q : Nat) : Int) = b + (l.length : Int) by omega] at e22'
      obtain ⟨r2, e20, h20⟩ := p20_ex (fu := fu) k (termAt t l q) (cfOf a2 a3 (l.take q) (lastC (l.take q))).1 (cfOf a2 a3 (l.take q) (lastC (l.take q))).2 [] (l.drop q) (by omega) hsd (by decide) (by omega)
      obtain rfl : r2 = true := h20.2 hfd
      have e24 := p24_refl (fu := fu) _ _ m3 m4 (by omega)
      have e21a := fun i => p21_is (fu := fu) b t a2 a3 a4 l i hc (by omega) (by omega)
      have e21b := fun i => p21_is (fu := fu) k (termAt t l q) (cfOf a2 a3 (l.take q) (lastC (l.take q))).1 (cfOf a2 a3 (l.take q) (lastC (l.take q))).2 [] (l.drop q) i hfd.contig (by omega) (by omega)
      generalize (cfOf a2 a3 (l.take q) (lastC (l.take q))).1 = c1 at *
      generalize (cfOf a2 a3 (l.take q) (lastC (l.take q))).2 = c2 at *
      generalize cfOf a2 a3 l (lastC l) = cf at *
      simp only [cond_false, bne_self_eq_false, e22, e22', er1, er2, bind_val, decide_true, cond_true]
      refine loopO_to (I := fun s => ∃ i : Nat, s = (((i : Int), ()), ()) ∧ i ≤ (l.drop q).length) (m := fun s => (l.drop q).length - s.1.1.toNat) ⟨0, rfl, Nat.zero_le _⟩ (show (l.drop q).length - 0 < fu by omega) ?_
      rintro s ⟨i, rfl, h1⟩
      rcases Nat.lt_or_ge i (l.drop q).length with hi | hi
      · have hix := hfd.contig i hi
        have ha := e21a (k + 1 + (i : Int))
        have hb' := e21b (k + 1 + (i : Int))
        rw [termI_in hfd.contig hi, getD_drop] at hb'
        rw [getD_drop] at hix
        rw [hq, show b + (q : Int) + 1 + (i : Int) = b + 1 + ((q + i : Nat) : Int) by omega, termI_in hc (by omega)] at ha
        rw [show b + 1 + ((q + i : Nat) : Int) = k + 1 + (i : Int) by omega] at ha
        refine .inl ⟨((((i + 1 : Nat) : Int), ()), ()), ?_, ⟨i + 1, rfl, hi⟩, by simp; omega⟩
        simp only [Int.ofNat_lt, hi, decide_true, cond_true, Int.natCast_nonneg, and_self, Int.toNat_natCast, getD_drop, hix, ha, hb', bind_val, bne_self_eq_false, cond_false, i64_succ hi (show (l.drop q).length ≤ 9223372036854775807 by omega)]
      · obtain rfl : i = (l.drop q).length := by omega
        refine .inr ?_
        simp only [Int.lt_irrefl, decide_false, cond_false, beq_self_eq_true, cond_true, e20, bind_val, e24, inrO_val]
end
end Go.Proofs.Ytdblllnnccaccaa
