/-
  Regions (3): the theorem.
-/
import Derived.Test.YtlmnhbobgfpanaaTrO
namespace Go.Proofs.Ytlmnhbobgfpanaa
open Go.RowKit

section
variable {P : Program} {E : Env} {ρ ρ' ρc : Pl} {O O' Oc : Ow} {σ σ' : St} {a : Act} {w w' : World} {o : Oper} {fr : Nat} {K : Act → World → Prop} {Q : Exit → Act → World → Prop} {b b' : Sees} {r : Nat → Nat}
variable {N : Nat} {ops : Array Oper} {ros : List RO} {deps : List (List Nat)} {base : Nat}

theorem one_ok (hR : Reg P N ops ros deps) {i : Nat} {ro : RO} (hr : ros[i]? = some ro) (h : Rel E ρ σ a w) (hN : σ.N = N) (hf : ∀ j, j < 16 → σ.O (fr + j) = none ∧ fr + j < σ.next) {rd v ups}
    (k : (gsem σ fr ro).wp P σ.O fr fun a b c => a = rd ∧ b = v ∧ c = ups) (hK : ∀ ρ' a' w', Rel E ρ' (σ.upd ro.dst v ups) a' w' → K a' w') : wpOp P ops Q i K a w := by
  obtain ⟨o, ho, hd, hc, hdn, hg⟩ := hR.op i ro hr
  have hd' : ∀ t, o.dst = some t → t < σ.N := fun t ht => by rw [hN]; exact hdn t (by rw [← hd]; exact ht)
  have run : (asem σ fr ro.op).wp P σ.O fr (fun a b c => a = rd ∧ b = v ∧ c = ups) → o.wp P a w K Q := fun k => op_ok1 hc h hf hd' k (fun ρ' a' w' hr => hK ρ' a' w' (by rw [← hd]; exact hr))
  have skip : (v = .im (.val undef) ∧ ups = []) → K (a.put o.dst undef) w := by
    rintro ⟨rfl, rfl⟩
    refine hK ρ _ w ?_
    rw [← hd]
    exact h.putO (d := o.dst) hd' (v := .im (.val undef)) rfl
  unfold wpOp
  simp only [ho]
  unfold gsem at k
  cases hgo : o.guard with
  | none =>
    rw [hgo] at hg
    cases hgr : ro.guard with
    | some p => rw [hgr] at hg; exact hg.elim
    | none =>
      rw [hgr] at k
      have hw : Region.wanted o (yielded ops a.tmps) = true := by simp [Region.wanted, hgo]
      rw [if_pos hw]
      exact .inl (run k)
  | some g =>
    obtain ⟨j, want⟩ := g
    rw [hgo] at hg
    cases hgr : ro.guard with
    | none => rw [hgr] at hg; exact hg.elim
    | some p =>
      obtain ⟨t, want'⟩ := p
      rw [hgr] at hg k
      obtain ⟨rfl, hj⟩ := hg
      simp only at k
      have ht := h.tm t
      split at k
      · rename_i b e
        rw [e] at ht
        have ht' : a.tmps.getD t undef = .bool b := ht
        have hy : yielded ops a.tmps j = some b := by
          have : a.tmps[t]? = some (.bool b) := by
            rw [Array.getD_eq_getD_getElem?] at ht'
            cases hq : a.tmps[t]? with
            | none => rw [hq] at ht'; cases ht'
            | some q => rw [hq] at ht'; simp only [Option.getD_some] at ht'; rw [ht']
          simp [yielded, hj, this]
        obtain ⟨k1, k2⟩ := k
        by_cases hb : (b == want) = true
        · have hw : Region.wanted o (yielded ops a.tmps) = true := by simp only [Region.wanted, hgo, hy]; simpa using hb
          rw [if_pos hw]
          exact .inl (run (k1 hb))
        · have hb' : (b == want) = false := by simpa using hb
          have hw : ¬ Region.wanted o (yielded ops a.tmps) = true := by
            simp only [Region.wanted, hgo, hy]
            intro e
            exact hb (by simpa using e)
          rw [if_neg hw]
          obtain ⟨-, h1, h2⟩ := k2 hb'
          exact skip ⟨h1.symm, h2.symm⟩
      · rename_i vs e
        rw [e] at ht
        have ht' : a.tmps.getD t undef = .tuple vs := ht
        have hy : yielded ops a.tmps j = none := by
          unfold yielded
          rw [hj]
          simp only [Option.bind_some]
          rw [Array.getD_eq_getD_getElem?] at ht'
          cases hq : a.tmps[t]? with
          | none => rfl
          | some q => rw [hq] at ht'; simp only [Option.getD_some] at ht'; subst ht'; rfl
        have hw : ¬ Region.wanted o (yielded ops a.tmps) = true := by
          simp only [Region.wanted, hgo, hy]
          simp
        rw [if_neg hw]
        obtain ⟨-, h1, h2⟩ := k
        exact skip ⟨h1.symm, h2.symm⟩
      · exact k.1.elim

theorem gsem_ups {ro : RO} {rd : List Nat} {v : V} {ups : List (Nat × Ob)} (k : (gsem σ fr ro).wp P σ.O fr fun a b c => a = rd ∧ b = v ∧ c = ups) : ∀ p ∈ ups, σ.O p.1 ≠ none ∨ (fr ≤ p.1 ∧ p.1 < fr + 16) := by
  unfold gsem at k
  cases hg : ro.guard with
  | none => rw [hg] at k; exact ups_ok k
  | some q =>
    obtain ⟨t, want⟩ := q
    rw [hg] at k
    simp only at k
    split at k
    · rename_i b _
      obtain ⟨k1, k2⟩ := k
      by_cases hb : (b == want) = true
      · exact ups_ok (k1 hb)
      · obtain ⟨-, -, rfl⟩ := k2 (by simpa using hb)
        intro p hp
        cases hp
    · obtain ⟨-, -, rfl⟩ := k
      intro p hp
      cases hp
    · exact k.1.elim

theorem gsem_congr {ro : RO} (h : ∀ l ∈ ro.rdT, σ'.at' l = σ.at' l) : gsem σ' fr ro = gsem σ fr ro := by
  have ht : ∀ t, 2 * t ∈ ro.rdT → σ'.get t = σ.get t := fun t ht => by
    have := h _ ht
    rw [at_tmp, at_tmp] at this
    exact congrArg Prod.fst this
  have hop : asem σ' fr ro.op = asem σ fr ro.op := asem_congr fun x hx => aev_congr fun t e => by
    subst e
    refine ht t (List.mem_append_left _ (List.mem_map_of_mem (List.mem_filterMap.2 ⟨.tmp t, hx, rfl⟩)))
  unfold gsem
  cases hg : ro.guard with
  | none => exact hop
  | some p =>
    obtain ⟨t, want⟩ := p
    have := ht t (List.mem_append_right _ (by simp [hg]))
    simp only [this, hop]

theorem reach_done {S : Nat → Prop} (hS : ∀ j, S j → ∀ d ∈ deps.getD j [], S d) : ∀ (n i j : Nat), reach deps n i j = true → (∀ d ∈ deps.getD j [], S d) → S i
  | 0, _, _, h, _ => by simp [reach] at h
  | n + 1, i, j, h, hj => by
    simp only [reach, List.any_eq_true, Bool.or_eq_true, beq_iff_eq] at h
    obtain ⟨d, hd, h⟩ := h
    rcases h with rfl | h
    · exact hj d hd
    · exact reach_done hS n i d h (hS d (hj d hd))
end
end Go.Proofs.Ytlmnhbobgfpanaa
