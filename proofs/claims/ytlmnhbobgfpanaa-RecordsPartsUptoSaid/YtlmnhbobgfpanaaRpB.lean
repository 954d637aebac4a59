/-
  RecordsParts: what is kept, and what is joined, is the same on both sides; the law.
-/
import Derived.Test.YtlmnhbobgfpanaaRpA
namespace Go.Proofs.Ytlmnhbobgfpanaa
open Go.RowKit
section
variable {fu : Nat}
theorem p10_self (l : List Rd) (hl : l.length ≤ 2097152) (hf : 4194304 < fu) : p10 fu (l, l, ()) = some ((), true) := by
  unfold p10
  simp only [bne_self_eq_false, cond_false]
  refine loop_for (List.range l.length) (fun i => (((i : Int), ()), ())) (fun _ => false) ((), false) ((), true) (by simp only [List.length_range]; omega) (fun i h => ?_) ?_ (by rw [List.any_eq_false.2 (by simp)]; rfl)
  · simp only [List.length_range] at h
    simp only [Int.ofNat_lt, Int.natCast_nonneg, h, decide_true, cond_true, and_self, Int.toNat_natCast, beq_self_eq_true, Bool.not_true, cond_false, i64_succ h (by omega)]
  · simp only [List.length_range, Int.ofNat_lt, Nat.lt_irrefl, decide_false, cond_false]
    rfl
theorem p18_self (l : List Int) (hl : l.length ≤ 2097152) (hf : 4194304 < fu) : p18 fu (l, l, ()) = some ((), true) := by
  unfold p18
  simp only [bne_self_eq_false, cond_false]
  refine loop_for (List.range l.length) (fun i => (((i : Int), ()), ())) (fun _ => false) ((), false) ((), true) (by simp only [List.length_range]; omega) (fun i h => ?_) ?_ (by rw [List.any_eq_false.2 (by simp)]; rfl)
  · simp only [List.length_range] at h
    simp only [Int.ofNat_lt, Int.natCast_nonneg, h, decide_true, cond_true, and_self, Int.toNat_natCast, cond_false, i64_succ h (by omega)]
  · simp only [List.length_range, Int.ofNat_lt, Nat.lt_irrefl, decide_false, cond_false]
    rfl
theorem spP_of {l : List Rd} (h : ∀ x ∈ l, x.2.2.1.length ≤ 1073741824) : spP l = true := List.all_eq_true.2 fun x hx => by simpa using h x hx
theorem spP_log {l : List Rd} (h : logOk l = true) : spP l = true := by
  refine spP_of fun y hy => ?_
  obtain ⟨i, hi, rfl⟩ := List.mem_iff_getElem.1 hy
  have := ((log_at h).2 i hi).2.2
  omega
theorem keepT_all (a c : ByteArray) (P : Rd → Prop) (hP : ∀ n x, P x → P (numR n x)) : ∀ (l : List Rd) (s : List Rd × List Int), (∀ x ∈ l, P x) → (∀ x ∈ s.1, P x) → ∀ x ∈ (l.foldl (keepT a c) s).1, P x
  | [], s, _, hs => hs
  | x :: l, s, hl, hs => by
    rw [List.foldl_cons]
    refine keepT_all a c P hP l _ (fun y hy => hl y (List.mem_cons_of_mem _ hy)) fun y hy => ?_
    unfold keepT at hy
    cases hh : hasB a c x.2.1 with
    | true =>
      rw [hh] at hy
      rcases List.mem_append.1 hy with hy | hy
      · exact hs y hy
      · simp only [List.mem_singleton] at hy
        subst hy
        exact hP _ _ (hl x (List.mem_cons_self ..))
    | false => rw [hh] at hy; exact hs y hy
theorem spP_keep (l : List Rd) (a c : ByteArray) (hv : ∀ x ∈ l, x.2.2.1.length ≤ 1048576) : spP (keepS l a c).1 = true := by
  unfold keepS
  cases logOk l with
  | false => rfl
  | true =>
    cases (chkB a c != 0) with
    | true => rfl
    | false => exact spP_of (keepT_all a c (fun x => x.2.2.1.length ≤ 1073741824) (fun _ _ h => h) l _ (fun x hx => by have := hv x hx; omega) (by simp))
theorem keep_bnd (l : List Rd) (a c : ByteArray) : (keepS l a c).1.length ≤ 4096 ∧ (keepS l a c).2.length ≤ 4097 := by
  rcases keep_len l a c with ⟨h, _⟩ | ⟨ho, _, rest, to, h, hk, hl⟩
  · rw [h]; exact ⟨Nat.zero_le _, Nat.zero_le _⟩
  · have := (log_at ho).1
    rw [h]
    have h1 := hk.1
    exact ⟨by show rest.length ≤ _; omega, by show to.length ≤ _; omega⟩
theorem join_bnd (a b : List Rd) : spP (jnE a b).1 = true ∧ (jnE a b).1.length ≤ 4096 ∧ (jnE a b).2.1.length ≤ 4097 ∧ (jnE a b).2.2.1.length ≤ 4097 := by
  rcases jn_all a b with ⟨h1, h2, h3, _⟩ | ⟨j, ta, tb, h, h1, h2, h3, h4, h5, _⟩
  · rw [h1, h2, h3]; exact ⟨rfl, Nat.zero_le _, Nat.zero_le _, Nat.zero_le _⟩
  · rw [h]
    have q1 := h3.1
    have q2 := h4.1
    exact ⟨spP_log h5, h2, by show ta.length ≤ _; omega, by show tb.length ≤ _; omega⟩
theorem foldl_app {α : Type} : ∀ (l b : List α), l.foldl (fun b x => b ++ [x]) b = b ++ l
  | [], b => by simp
  | x :: l, b => by rw [List.foldl_cons, foldl_app l]; simp
theorem p7_is (l : List Rd) (hl : l.length ≤ 2097152) (hv : ∀ x ∈ l, x.2.2.1.length ≤ 1048576) (hf : 4194304 < fu) : p7 fu (l, ()) = some ((), l) := by
  unfold p7
  have hw : IntKind.wrap .i64 ((l.length : Int) + 1) = ((l.length + 1 : Nat) : Int) := by rw [i64_wrap (by omega) (by omega)]; omega
  have h1 : (0 : Int) ≤ 0 ∧ (0 : Int) ≤ ((l.length + 1 : Nat) : Int) ∧ ((l.length + 1 : Nat) : Int) ≤ 9223372036854775807 ∧ (64 : Int) * ((l.length + 1 : Nat) : Int) ≤ 140737488355328 := by omega
  simp only [hw, h1, and_self, decide_true, cond_true, List.length_replicate]
  refine loop_fold l (fun i (b : List Rd) => ((b, (i : Int), ()), ())) (fun b x => b ++ [x]) (fun b => ((), b)) [] (fun i b => b.length = i) rfl (by omega) (fun i h b hb => ⟨?_, by simp [hb]⟩) (fun b hb => ?_) (by simp only [foldl_app, List.nil_append])
  · have hg : ∀ d, l.getD i d = l[i] := fun d => getD_lt h
    have hx := hv _ (List.getElem_mem h)
    simp only [Int.ofNat_lt, Int.natCast_nonneg, h, decide_true, cond_true, and_self, Int.toNat_natCast, hg, List.length_nil, List.nil_append, i64_succ h (by omega)]
    have g1 : 0 + l[i].2.2.1.length ≤ maxLen ∧ (0 + l[i].2.2.1.length) * 1 ≤ 140737488355328 := ⟨by unfold maxLen; omega, by omega⟩
    simp only [g1, and_self, decide_true, cond_true]
    exact guardE ⟨by unfold maxLen; simp only [List.length_singleton]; omega, by simp only [List.length_singleton]; omega⟩
  · simp only [Int.ofNat_lt, Nat.lt_irrefl, decide_false, cond_false, inrO_val]
theorem p5_is (hf : 4194304 < fu) : p5 fu () = some ((), true) := by
  obtain ⟨m, rfl⟩ : ∃ m, fu = m + 16 := ⟨fu - 16, by omega⟩
  kernel_rfl
theorem p4_is (a b : List Rd) (f h : ByteArray) (ha : a.length ≤ 1048576) (hb : b.length ≤ 1048576) (hva : ∀ x ∈ a, x.2.2.1.length ≤ 1048576) (hvb : ∀ x ∈ b, x.2.2.1.length ≤ 1048576) (hf : 4194304 < fu) :
    p4 fu (a, b, (f, h, ()), ()) = some ((), true) := by
  obtain ⟨k1, k2⟩ := keep_bnd a f h
  obtain ⟨j1, j2, j3, j4⟩ := join_bnd a b
  unfold p4
  simp only [p5_is hf, bind_val, p7_is a (by omega) hva hf, p7_is b (by omega) hvb hf, decide_true, cond_true, orK_inl, p16_is a f h ha hf, p17_is a f h ha hf, p19_is a b ha hb hva hvb hf, p20_is a b ha hb hva hvb hf]
  simp only [p10_self _ (show (keepS a f h).1.length ≤ 2097152 by omega) hf, p18_self _ (show (keepS a f h).2.length ≤ 2097152 by omega) hf, spP_keep a f h hva, bind_val, cond_true, orK_inl, p10_self _ (show (jnE a b).1.length ≤ 2097152 by omega) hf, p18_self _ (show (jnE a b).2.1.length ≤ 2097152 by omega) hf, p18_self _ (show (jnE a b).2.2.1.length ≤ 2097152 by omega) hf, j1, p10_self a (by omega) hf, p10_self b (by omega) hf, beq_self_eq_true]
end
end Go.Proofs.Ytlmnhbobgfpanaa
