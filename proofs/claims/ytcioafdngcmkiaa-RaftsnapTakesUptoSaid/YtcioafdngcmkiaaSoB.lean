/-
  Layer 9: a piece of another snapshot; whatever is taken.
-/
import Derived.Test.YtcioafdngcmkiaaSoA
namespace Go.Proofs.Ytcioafdngcmkiaa
open Go.RowKit
variable {fu : Nat}
theorem come_app (a0 a1 : Int) (a2 : List Int) (i t : Int) : come a0 a1 a2 i t = a2 ∨ come a0 a1 a2 i t = [] := by unfold come; split <;> simp
theorem p6_is (i t : Int) (v l d : List Int) (i' t' : Int) (v' l' d' : List Int) (many : Int) (hv : v.length * 8 ≤ 140737488355328) (hl : l.length * 8 ≤ 140737488355328) (hd : d.length ≤ 140737488351232)
    (hv' : v'.length * 8 ≤ 140737488355328) (hl' : l'.length * 8 ≤ 140737488355328) (hd' : d'.length ≤ 140737488351232) (hf : 140737488355330 < fu) :
    p6 fu ((i, t, v, l, d, ()), (i', t', v', l', d', ()), many, ()) = some ((), true) := by
  unfold p6
  simp only [p7_is, bind_val, Bool.not_true, cond_false]
  by_cases hs : i = i' ∧ t = t'
  · obtain ⟨rfl, rfl⟩ := hs
    simp only [beq_self_eq_true, cond_true, inrO_val, orK_inr]
  have h0 : (bif i == i' then bif t == t' then inrO (some ((), true)) else some (Sum.inl ((), ())) else some (Sum.inl ((), ())) : Option ((Unit × Unit) ⊕ (Unit × Bool))) = some (.inl ((), ())) := by
    by_cases h1 : i = i'
    · have h2 : (t == t') = false := by simpa using fun h => hs ⟨h1, h⟩
      rw [h1, h2]; simp
    · have : (i == i') = false := by simpa using h1
      rw [this]; rfl
  simp only [h0, orK_inl]
  obtain ⟨k, hk, hkk⟩ := p13_is (fu := fu) d.length (by omega)
  refine orK_loop (I := fun s => ∃ (n : Nat) (a0 a1 : Int) (a2 : List Int), s = (((n : Int), ()), ((a0, a1, a2, ()), ())) ∧ n ≤ k ∧ a2.length ≤ d.length ∧ (a2 = [] ∨ (a0 = i ∧ a1 = t))) (m := fun s => k - s.1.1.toNat)
    (Q := fun o => ∃ (a0 a1 : Int) (a2 : List Int), o = .inl ((), ((a0, a1, a2, ()), ())) ∧ a2.length ≤ d.length ∧ (a2 = [] ∨ (a0 = i ∧ a1 = t))) ⟨0, 0, 0, [], rfl, Nat.zero_le _, by simp, .inl rfl⟩ (by simp; omega) ?_ ?_
  · rintro s ⟨n, a0, a1, a2, rfl, hn, hle, ha⟩
    simp only
    by_cases h1 : (n : Int) < many
    · simp only [h1, decide_true, cond_true, hk, bind_val]
      by_cases h2 : n < k
      · have w : IntKind.wrap .u64 (a2.length : Int) = (a2.length : Int) := wrap_u64 (by omega) (by omega)
        have hc : come a0 a1 a2 i t = a2 := by
          unfold come
          rcases ha with rfl | ⟨rfl, rfl⟩
          · split <;> rfl
          · rw [if_pos ⟨rfl, rfl⟩]
        have hp := p15_pc (fu := fu) a0 a1 a2 i t v l d a2.length (((a2.length + min 64 (d.length - a2.length) : Nat) : Int) == (d.length : Int)) (by omega) (by rw [hc])
        rw [hc] at hp
        simp only [Int.ofNat_lt, h2, decide_true, cond_true, w, p9_is i t v l d a2.length hv hl (by omega) hle, bind_val, bne_self_eq_false, cond_false, hp]
        refine ⟨_, rfl, ⟨n + 1, i, t, a2 ++ pc d a2.length, by rw [i64_wrap (by omega) (by omega)]; rfl, h2, ?_, .inr ⟨rfl, rfl⟩⟩, ?_⟩
        · rw [List.length_append, pc_len]; omega
        · simp only [i64_succ h2 (show k ≤ 9223372036854775807 by omega), Int.toNat_natCast]; omega
      · simp only [Int.ofNat_lt, h2, decide_false, cond_false, decide_true, cond_true, inrO_val]
        exact ⟨_, rfl, a0, a1, a2, rfl, hle, ha⟩
    · simp only [h1, decide_false, cond_false, decide_true, cond_true, inrO_val]
      exact ⟨_, rfl, a0, a1, a2, rfl, hle, ha⟩
  · rintro o ⟨a0, a1, a2, rfl, hle, ha⟩
    have hc : come a0 a1 a2 i' t' = [] := by
      unfold come
      rcases ha with rfl | ⟨rfl, rfl⟩
      · split <;> rfl
      · rw [if_neg hs]
    have hp := p15_pc (fu := fu) a0 a1 a2 i' t' v' l' d' 0 (((0 + min 64 (d'.length - 0) : Nat) : Int) == (d'.length : Int)) (by omega) (by rw [hc]; rfl)
    rw [hc, List.nil_append] at hp
    have hc2 : come i' t' (pc d' 0) i t = [] := by
      unfold come
      rw [if_neg fun h => hs ⟨h.1.symm, h.2.symm⟩]
    have hp2 := p15_pc (fu := fu) i' t' (pc d' 0) i t v l d 0 (((0 + min 64 (d.length - 0) : Nat) : Int) == (d.length : Int)) (by rw [pc_len]; omega) (by rw [hc2]; rfl)
    rw [hc2, List.nil_append] at hp2
    have e1 := p9_is (fu := fu) i' t' v' l' d' 0 hv' hl' (by omega) (Nat.zero_le _)
    have e2 := p9_is (fu := fu) i t v l d 0 hv hl (by omega) (Nat.zero_le _)
    have z : ((0 : Nat) : Int) = (0 : Int) := rfl
    rw [z] at e1 e2 hp hp2
    simp only [orK_inl, e1, bind_val, decide_true, cond_true, hp, bne_self_eq_false, cond_false, beq_self_eq_true, Bool.not_true, e2, hp2]
theorem take_same (a0 a1 : Int) (a2 : List Int) (m : D_api_Msg) (h2 : a2.length + m.2.2.2.2.2.2.2.2.2.2.2.1.length ≤ 140737488355328) :
    p16 fu ((a0, a1, a2, ()), (m.1, m.2.1, m.2.2.1, m.2.2.2.1, m.2.2.2.2.1, m.2.2.2.2.2.1, m.2.2.2.2.2.2.1, m.2.2.2.2.2.2.2.1, m.2.2.2.2.2.2.2.2.1, m.2.2.2.2.2.2.2.2.2.1, m.2.2.2.2.2.2.2.2.2.2.1.1, m.2.2.2.2.2.2.2.2.2.2.1.2, m.2.2.2.2.2.2.2.2.2.2.2.1, m.2.2.2.2.2.2.2.2.2.2.2.2, ()), ()) =
      some ((), if m.2.2.2.2.2.2.2.2.2.1 = ((come a0 a1 a2 m.2.2.2.2.1 m.2.2.2.2.2.1).length : Int) then ((m.2.2.2.2.1, m.2.2.2.2.2.1, come a0 a1 a2 m.2.2.2.2.1 m.2.2.2.2.2.1 ++ m.2.2.2.2.2.2.2.2.2.2.2.1, ()), m.2.2.2.2.2.2.2.2.2.2.2.2, ()) else ((m.2.2.2.2.1, m.2.2.2.2.2.1, come a0 a1 a2 m.2.2.2.2.1 m.2.2.2.2.2.1, ()), false, ())) := by
  rw [← p15_is (fu := fu) a0 a1 a2 m h2]
  have g : 0 + a2.length ≤ maxLen ∧ (0 + a2.length) * 1 ≤ 140737488355328 := ⟨by show _ ≤ 9223372036854775807; omega, by omega⟩
  simp only [p16, p15, p21_is a2 (show a2.length ≤ 140737488355328 by omega), bind_val, g, and_self, decide_true, cond_true, List.length_nil, List.nil_append]
theorem p19_is (a b : List Int) (ha : a.length * 8 ≤ 140737488355328) (hb : b.length * 8 ≤ 140737488355328) : p19 fu ((a, b, ()), ()) = some ((), (a, b, ())) := by
  have g1 : 0 + a.length ≤ maxLen ∧ (0 + a.length) * 8 ≤ 140737488355328 := ⟨by show _ ≤ 9223372036854775807; omega, by omega⟩
  have g2 : 0 + b.length ≤ maxLen ∧ (0 + b.length) * 8 ≤ 140737488355328 := ⟨by show _ ≤ 9223372036854775807; omega, by omega⟩
  simp only [p19, g1, g2, and_self, decide_true, cond_true, List.length_nil, List.nil_append]
theorem p25_refl (a : List Int) (h : a.length ≤ 9223372036854775807) (hf : a.length < fu) : p25 fu (a, a, ()) = some ((), true) := by
  unfold p25
  simp only [bne_self_eq_false, cond_false]
  refine loopO_eq (I := fun s => ∃ i : Nat, s = (((i : Int), ()), ()) ∧ i ≤ a.length) (m := fun s => a.length - s.1.1.toNat) (g := fun _ => ((), true)) ?_ fu _ ⟨0, rfl, Nat.zero_le _⟩ (by simpa using hf)
  rintro s ⟨i, rfl, h1⟩
  by_cases hi : i < a.length
  · left
    refine ⟨((((i + 1 : Nat) : Int), ()), ()), ?_, ⟨i + 1, rfl, hi⟩, by simp only [Int.toNat_natCast]; omega, rfl⟩
    simp only [Int.ofNat_lt, hi, decide_true, cond_true, Int.natCast_nonneg, true_and, Int.toNat_natCast, bne_self_eq_false, cond_false, i64_succ hi h]
  · right
    obtain rfl : i = a.length := by omega
    simp [inrO]
theorem p4_is (i t : Int) (d : List Int) (l : List D_api_Msg) (v w : List Int) (hd : d.length ≤ 1048576) (hl : l.length ≤ 1048576) (hm : ∀ m ∈ l, m.2.2.2.2.2.2.2.2.2.2.2.1.length ≤ 1048576) (hv : v.length ≤ 1048576) (hw : w.length ≤ 1048576) (hf : 1048577 < fu) :
    p4 fu ((i, t, d, ()), l, (v, w, ()), ()) = some ((), true) := by
  have g : 0 + d.length ≤ maxLen ∧ (0 + d.length) * 1 ≤ 140737488355328 := ⟨by show _ ≤ 9223372036854775807; omega, by omega⟩
  unfold p4
  simp only [p7_is, bind_val, List.length_nil, decide_true, cond_true, g, and_self, List.nil_append]
  refine loopO_eq (I := fun s => ∃ (n : Nat) (a0 a1 : Int) (a2 : List Int), s = (((n : Int), ()), ((a0, a1, a2, ()), (a0, a1, a2, ()), ())) ∧ n ≤ l.length ∧ a2.length ≤ (n + 1) * 1048576) (m := fun s => l.length - s.1.1.toNat) (g := fun _ => ((), true)) ?_ fu _ ⟨0, i, t, d, rfl, Nat.zero_le _, by omega⟩ (by simp; omega)
  rintro s ⟨n, a0, a1, a2, rfl, hn, ha⟩
  have hn2 : (n + 1) * 1048576 ≤ 1048577 * 1048576 := Nat.mul_le_mul_right _ (by omega)
  by_cases hi : n < l.length
  · left
    obtain ⟨m, em⟩ : ∃ m, l.getD n (dflt T_api_Msg) = m := ⟨_, rfl⟩
    have hmm : m ∈ l := by rw [← em, getD_lt hi]; exact List.getElem_mem _
    have hm1 := hm m hmm
    have e1 := p15_is (fu := fu) a0 a1 a2 m (by omega)
    have e2 := take_same (fu := fu) a0 a1 a2 m (by omega)
    obtain ⟨r, er⟩ : ∃ r : (Int × Int × List Int × Unit) × Bool × Unit, (if m.2.2.2.2.2.2.2.2.2.1 = ((come a0 a1 a2 m.2.2.2.2.1 m.2.2.2.2.2.1).length : Int) then ((m.2.2.2.2.1, m.2.2.2.2.2.1, come a0 a1 a2 m.2.2.2.2.1 m.2.2.2.2.2.1 ++ m.2.2.2.2.2.2.2.2.2.2.2.1, ()), m.2.2.2.2.2.2.2.2.2.2.2.2, ()) else ((m.2.2.2.2.1, m.2.2.2.2.2.1, come a0 a1 a2 m.2.2.2.2.1 m.2.2.2.2.2.1, ()), false, ())) = r := ⟨_, rfl⟩
    have hr : r.1.2.2.1.length ≤ (n + 1 + 1) * 1048576 := by
      rw [← er]
      have : (come a0 a1 a2 m.2.2.2.2.1 m.2.2.2.2.2.1).length ≤ (n + 1) * 1048576 := by 
        rcases come_app a0 a1 a2 m.2.2.2.2.1 m.2.2.2.2.2.1 with h | h
        · rw [h]; exact ha
        · rw [h]; simp
      split
      · simp only [List.length_append]; omega
      · exact Nat.le_trans this (Nat.mul_le_mul_right _ (by omega))
    rw [er] at e1 e2
    refine ⟨((((n + 1 : Nat) : Int), ()), ((r.1.1, r.1.2.1, r.1.2.2.1, ()), (r.1.1, r.1.2.1, r.1.2.2.1, ()), ())), ?_, ⟨n + 1, _, _, _, rfl, hi, hr⟩, by simp only [Int.toNat_natCast]; omega, rfl⟩
    simp only [Int.ofNat_lt, hi, decide_true, cond_true, Int.natCast_nonneg, true_and, Int.toNat_natCast, em, e1, e2, bind_val, beq_self_eq_true, Bool.not_true, cond_false, bne_self_eq_false, i64_succ hi (show l.length ≤ 9223372036854775807 by omega)]
  · right
    obtain rfl : n = l.length := by omega
    have x1 := p21_is (fu := fu) a2 (by omega)
    have g3 : 0 + a2.length ≤ maxLen ∧ (0 + a2.length) * 1 ≤ 140737488355328 := ⟨by show _ ≤ 9223372036854775807; omega, by omega⟩
    simp only [Int.lt_irrefl, decide_false, cond_false, p17, p18, p12, p22, p20_is v w (show v.length * 8 ≤ 140737488355328 by omega) (show w.length * 8 ≤ 140737488355328 by omega), p19_is v w (show v.length * 8 ≤ 140737488355328 by omega) (show w.length * 8 ≤ 140737488355328 by omega), x1, bind_val, decide_true, cond_true, g3, and_self, List.length_nil, List.nil_append, p25_refl v (show v.length ≤ 9223372036854775807 by omega) (show v.length < fu by omega), p25_refl w (show w.length ≤ 9223372036854775807 by omega) (show w.length < fu by omega), beq_self_eq_true, inrO_val]
end Go.Proofs.Ytcioafdngcmkiaa
