/-
  RecordsLogs: what both sides append and fetch, refusals and all; what the law makes; the law.
-/
import Derived.Test.YtlmnhbobgfpanaaRlA
namespace Go.Proofs.Ytlmnhbobgfpanaa
open Go.RowKit
section
variable {fu : Nat}
def appS (l : List Rd) (x : Rd) : List Rd × Int × Int :=
  if logOk l = true then (if x.2.1.size > 32 then ([], 0, 131) else if x.2.2.1.length > 256 then ([], 0, 144) else if l.length < 4096 then (l ++ [numR l x], (l.length : Int), 0) else ([], 0, 143)) else ([], 0, 1)
def fetS (l : List Rd) (c f : Int) : List Rd × Int :=
  if logOk l = true then (if c ≤ (l.length : Int) then ((l.drop c.toNat).take (min (min f.toNat 64) (l.length - c.toNat)), 0) else ([], 141)) else ([], 1)
theorem p8_all (l : List Rd) (x : Rd) (hl : l.length ≤ 2097152) (hf : 4194304 < fu) :
    p8 fu (l, (x.1, x.2.1, x.2.2.1, x.2.2.2.1, x.2.2.2.2, ()), ()) = some ((), (appS l x).1, (appS l x).2.1, (appS l x).2.2, ()) := by
  unfold appS
  by_cases h : logOk l = true
  · rw [if_pos h]
    by_cases h1 : x.2.1.size > 32
    · rw [if_pos h1]
      unfold p8
      simp only [p14_is l hl hf, bind_val, h, Bool.not_true, cond_false, p22_is, h1, decide_true, cond_true]
      rfl
    · rw [if_neg h1]
      by_cases h2 : x.2.2.1.length > 256
      · rw [if_pos h2]
        unfold p8
        simp only [p14_is l hl hf, bind_val, h, Bool.not_true, cond_false, p22_is, h1, h2, decide_true, decide_false, cond_true]
        rfl
      · rw [if_neg h2, p8_is l x h (by omega) (by omega) hf]
        split <;> rfl
  · rw [if_neg h]
    have h' : logOk l = false := by simpa using h
    unfold p8
    simp only [p14_is l hl hf, bind_val, h', Bool.not_false, cond_true]
theorem p9_all (l : List Rd) (x : Rd) (hl : l.length ≤ 2097152) (hf : 4194304 < fu) :
    p9 fu (l, (x.1, x.2.1, x.2.2.1, x.2.2.2.1, x.2.2.2.2, ()), ()) = some ((), (appS l x).1, (appS l x).2.1, (appS l x).2.2, ()) := by
  unfold appS
  by_cases h : logOk l = true
  · rw [if_pos h]
    by_cases h1 : x.2.1.size > 32
    · rw [if_pos h1]
      unfold p9
      simp only [p15_is l hl hf, bind_val, h, Bool.not_true, cond_false, show (x.2.1.size : Int) > 32 by omega, decide_true, cond_true]
    · rw [if_neg h1]
      by_cases h2 : x.2.2.1.length > 256
      · rw [if_pos h2]
        unfold p9
        simp only [p15_is l hl hf, bind_val, h, Bool.not_true, cond_false, show ¬ (x.2.1.size : Int) > 32 by omega, show (x.2.2.1.length : Int) > 256 by omega, decide_true, decide_false, cond_true]
      · rw [if_neg h2, p9_is l x.1 x.2.1 x.2.2.1 x.2.2.2.1 x.2.2.2.2 h (by omega) (by omega) hf]
        split <;> rfl
  · rw [if_neg h]
    have h' : logOk l = false := by simpa using h
    unfold p9
    simp only [p15_is l hl hf, bind_val, h', Bool.not_false, cond_true]
theorem p12_all (l : List Rd) (c f : Int) (hl : l.length ≤ 2097152) (h0 : 0 ≤ c) (hf : 4194304 < fu) : p12 fu (l, c, f, ()) = some ((), (fetS l c f).1, (fetS l c f).2, ()) := by
  unfold fetS
  by_cases h : logOk l = true
  · rw [if_pos h, p12_is l c f h h0 hf]
    split <;> rfl
  · rw [if_neg h]
    have h' : logOk l = false := by simpa using h
    unfold p12
    simp only [p14_is l hl hf, bind_val, h', Bool.not_false, cond_true]
theorem p13_all (l : List Rd) (c f : Int) (hl : l.length ≤ 2097152) (h0 : 0 ≤ c) (hf : 4194304 < fu) : p13 fu (l, c, f, ()) = some ((), (fetS l c f).1, (fetS l c f).2, ()) := by
  unfold fetS
  by_cases h : logOk l = true
  · rw [if_pos h, p13_is l c f h h0 hf]
    split <;> rfl
  · rw [if_neg h]
    have h' : logOk l = false := by simpa using h
    unfold p13
    simp only [p15_is l hl hf, bind_val, h', Bool.not_false, cond_true]
theorem p10_self (l : List Rd) (hl : l.length ≤ 2097152) (hf : 4194304 < fu) : p10 fu (l, l, ()) = some ((), true) := by
  unfold p10
  simp only [bne_self_eq_false, cond_false]
  refine loop_for (List.range l.length) (fun i => (((i : Int), ()), ())) (fun _ => false) ((), false) ((), true) (by simp only [List.length_range]; omega) (fun i h => ?_) ?_ (by rw [List.any_eq_false.2 (by simp)]; rfl)
  · simp only [List.length_range] at h
    simp only [Int.ofNat_lt, Int.natCast_nonneg, h, decide_true, cond_true, and_self, Int.toNat_natCast, beq_self_eq_true, Bool.not_true, cond_false, i64_succ h (by omega)]
  · simp only [List.length_range, Int.ofNat_lt, Nat.lt_irrefl, decide_false, cond_false]
    rfl
theorem spP_of {l : List Rd} (h : ∀ x ∈ l, x.2.2.1.length ≤ 1073741824) : spP l = true := List.all_eq_true.2 fun x hx => by simpa using h x hx
theorem spP_app (l : List Rd) (x : Rd) : spP (appS l x).1 = true := by
  unfold appS
  split
  · rename_i h
    have hp := (logOk_parts h).2
    split
    · rfl
    · split
      · rfl
      · split
        · refine spP_of fun y hy => ?_
          rcases List.mem_append.1 hy with hy | hy
          · obtain ⟨i, hi, rfl⟩ := List.mem_iff_getElem.1 hy
            have := (hp i hi).2.2
            omega
          · simp only [List.mem_singleton] at hy
            subst hy
            show x.2.2.1.length ≤ _
            omega
        · rfl
  · rfl
theorem app_len (l : List Rd) (x : Rd) : (appS l x).1.length ≤ 4096 := by
  unfold appS
  split <;> (try split) <;> (try split) <;> (try split) <;> simp <;> omega
theorem spP_fet (l : List Rd) (c f : Int) : spP (fetS l c f).1 = true := by
  unfold fetS
  split
  · rename_i h
    have hp := (logOk_parts h).2
    split
    · refine spP_of fun y hy => ?_
      have hy := List.drop_subset _ _ (List.take_subset _ _ hy)
      obtain ⟨i, hi, rfl⟩ := List.mem_iff_getElem.1 hy
      have := (hp i hi).2.2
      omega
    · rfl
  · rfl
theorem fet_len (l : List Rd) (c f : Int) : (fetS l c f).1.length ≤ 64 := by
  unfold fetS
  split <;> (try split) <;> simp <;> omega
theorem foldl_app {α : Type} : ∀ (l b : List α), l.foldl (fun b x => b ++ [x]) b = b ++ l
  | [], b => by simp
  | x :: l, b => by rw [List.foldl_cons, foldl_app l]; simp
theorem p7_is (l : List Rd) (hl : l.length ≤ 2097152) (hv : ∀ x ∈ l, x.2.2.1.length ≤ 1048576) (hf : 4194304 < fu) : p7 fu (l, ()) = some ((), l) := by
  unfold p7
  have hw : IntKind.wrap .i64 ((l.length : Int) + 1) = ((l.length + 1 : Nat) : Int) := by rw [i64_wrap (by omega) (by omega)]; omega
  have h1 : (0 : Int) ≤ 0 ∧ (0 : Int) ≤ ((l.length + 1 : Nat) : Int) ∧ ((l.length + 1 : Nat) : Int) ≤ 9223372036854775807 ∧ (64 : Int) * ((l.length + 1 : Nat) : Int) ≤ 140737488355328 := by omega
  simp only [hw, h1, and_self, decide_true, cond_true, List.length_replicate]
  refine loop_fold l (fun i (b : List Rd) => ((b, (i : Int), ()), ())) (fun b x => b ++ [x]) (fun b => ((), b)) [] (fun i b => b.length = i) rfl (by omega) (fun i h b hb => ⟨?_, by simp [hb]⟩) (fun b hb => ?_) (by simp only [foldl_app, List.nil_append])
  · have hg : ∀ d, l.getD i d = l[i] := fun d => getD_lt h
    have hx := hv _ (List.getElem_mem h)
    simp only [Int.ofNat_lt, Int.natCast_nonneg, h, decide_true, cond_true, and_self, Int.toNat_natCast, hg, List.length_nil, List.nil_append, i64_succ h (by omega)]
    have g1 : 0 + l[i].2.2.1.length ≤ maxLen ∧ (0 + l[i].2.2.1.length) * 1 ≤ 140737488355328 := ⟨by unfold maxLen; omega, by omega⟩
    simp only [g1, and_self, decide_true, cond_true]
    exact guardE ⟨by unfold maxLen; simp only [List.length_singleton]; omega, by simp only [List.length_singleton]; omega⟩
  · simp only [Int.ofNat_lt, Nat.lt_irrefl, decide_false, cond_false, inrO_val]
theorem loop_exP {S R β : Type} {f : S → Option (S ⊕ R)} {s0 : S} {n : Nat} {g : β → R} {C : β → Prop} (I : S → Prop) (m : S → Nat) (h : ∀ s, I s → ∃ o, f s = some o ∧ LStep I m (fun r => ∃ b, r = g b ∧ C b) s o) (hI : I s0) (hm : m s0 < n) : ∃ b, loopO n f s0 = some (g b) ∧ C b := by
  obtain ⟨r, h1, b, rfl, h2⟩ := loopO_rule I m _ h n s0 hI hm
  exact ⟨b, h1, h2⟩
theorem p6_is (a : List Rd) (c : Int) (ha : a.length ≤ 1048576) (h0 : 0 ≤ c) (h1 : c < 65536) (hf : 4194304 < fu) :
    ∃ b : List Rd, p6 fu (a, c, ()) = some ((), a ++ b) ∧ b.length ≤ 4098 ∧ ∀ x ∈ b, x.2.2.1 = [] := by
  obtain ⟨q, rfl⟩ : ∃ q : Nat, c = (q : Int) := ⟨Int.toNat c, by omega⟩
  have hm : Int.tmod (IntKind.wrap .i64 (q : Int)) 4099 = ((q % 4099 : Nat) : Int) := by
    rw [i64_wrap (by omega) (by omega), Int.tmod_eq_emod_of_nonneg (by omega)]; omega
  have hq : q % 4099 ≤ 4098 := by omega
  unfold p6
  simp only [hm]
  generalize q % 4099 = k at hq
  have g0 : a.length ≤ maxLen ∧ a.length * 64 ≤ 140737488355328 := ⟨by unfold maxLen; omega, by omega⟩
  simp only [List.nil_append, List.length_nil, Nat.zero_add, g0, and_self, decide_true, cond_true]
  refine loop_exP (g := fun b : List Rd => ((), a ++ b)) (C := fun b => b.length ≤ 4098 ∧ ∀ x ∈ b, x.2.2.1 = []) (I := fun s => ∃ (i : Nat) (b : List Rd), s = ((a ++ b, (i : Int), ()), ()) ∧ i ≤ k ∧ b.length ≤ i ∧ ∀ x ∈ b, x.2.2.1 = []) (m := fun s => k - Int.toNat s.1.2.1) (fun s hs => ?_) ⟨0, [], by rw [List.append_nil]; rfl, Nat.zero_le _, Nat.le_refl _, by simp⟩ (by show k - 0 < fu; omega)
  · obtain ⟨i, b, rfl, hi, hb, hx⟩ := hs
    have hw : IntKind.wrap .u64 (i : Int) = (i : Int) := u64_wrap (by omega) (by omega)
    by_cases h : i < k
    · by_cases h2 : ((a ++ b).length : Int) < 4098
      · simp only [Int.ofNat_lt, h, h2, decide_true, cond_true, hw, i64_succ h (by omega)]
        have hab : (a ++ b).length < 4098 := by omega
        refine ⟨_, guardE ⟨by unfold maxLen; simp only [List.length_singleton]; omega, by simp only [List.length_singleton]; omega⟩, ⟨i + 1, b ++ [_], by rw [List.append_assoc], h, by simp; omega, fun x hx' => ?_⟩, by simp only [Int.toNat_natCast]; omega⟩
        rcases List.mem_append.1 hx' with q | q
        · exact hx x q
        · simp only [List.mem_singleton] at q
          subst q; rfl
      · simp only [Int.ofNat_lt, h, h2, decide_true, decide_false, cond_true, cond_false, inrO_val]
        exact ⟨_, rfl, b, rfl, by omega, hx⟩
    · simp only [Int.ofNat_lt, h, decide_false, cond_false, inrO_val]
      exact ⟨_, rfl, b, rfl, by omega, hx⟩
theorem p5_is (hf : 4194304 < fu) : p5 fu () = some ((), true) := by
  obtain ⟨m, rfl⟩ : ∃ m, fu = m + 16 := ⟨fu - 16, by omega⟩
  kernel_rfl
theorem p3_is (a : List Rd) (c : Int) (x : Rd) (l m : Int) (ha : a.length ≤ 1048576) (hv : ∀ y ∈ a, y.2.2.1.length ≤ 1048576) (h0 : 0 ≤ c) (h1 : c < 65536) (hl : 0 ≤ l) (hf : 4194304 < fu) :
    p3 fu ((a, c, x.1, x.2.1, x.2.2.1, x.2.2.2.1, x.2.2.2.2, l, m, ()), ()) = some ((), true) := by
  obtain ⟨b, e1, hb, hbv⟩ := p6_is a c ha h0 h1 hf
  have hn : (a ++ b).length ≤ 1048576 + 4098 := by simp; omega
  have hvv : ∀ y ∈ a ++ b, y.2.2.1.length ≤ 1048576 := fun y hy => by
    rcases List.mem_append.1 hy with q | q
    · exact hv y q
    · rw [hbv y q]; exact Nat.zero_le _
  unfold p3
  simp only [p5_is hf, bind_val, e1]
  generalize a ++ b = n at hn hvv
  have := app_len n x
  have := fet_len n l m
  have q1 := p8_all (fu := fu) n x (by omega) hf
  have q2 := p9_all (fu := fu) n x (by omega) hf
  have q3 := p12_all (fu := fu) n l m (by omega) hl hf
  have q4 := p13_all (fu := fu) n l m (by omega) hl hf
  simp only [p7_is n (by omega) hvv hf, bind_val, decide_true, cond_true, orK_inl, q1, q2, q3, q4, p10_self _ (show (appS n x).1.length ≤ 2097152 by omega) hf, p10_self _ (show (fetS n l m).1.length ≤ 2097152 by omega) hf, p10_self n (by omega) hf, spP_app, spP_fet, beq_self_eq_true, p14_is n (by omega) hf, p15_is n (by omega) hf]
end
end Go.Proofs.Ytlmnhbobgfpanaa
