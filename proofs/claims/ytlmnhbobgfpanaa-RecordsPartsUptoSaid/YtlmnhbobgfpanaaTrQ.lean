/-
  Regions (4): in every order.
-/
import Derived.Test.YtlmnhbobgfpanaaTrP
namespace Go.Proofs.Ytlmnhbobgfpanaa
open Go.RowKit

abbrev zl (es : List Ef) (s : Nat) : List (Nat × Ef) := es.zipIdx s |>.map fun p => (p.2, p.1)

theorem zl_mem {es : List Ef} {s : Nat} {p : Nat × Ef} (h : p ∈ zl es s) : s ≤ p.1 ∧ es[p.1 - s]? = some p.2 := by
  obtain ⟨q, hq, rfl⟩ := List.mem_map.1 h
  obtain ⟨k, hk, rfl⟩ := List.getElem_of_mem hq
  simp only [List.length_zipIdx] at hk
  simp [hk]

section
variable {P : Program} {E : Env} {ρ ρ' ρc : Pl} {O O' Oc : Ow} {σ σ' : St} {a : Act} {w w' : World} {o : Oper} {fr : Nat} {K : Act → World → Prop} {Q : Exit → Act → World → Prop} {b b' : Sees} {r : Nat → Nat}
variable {N : Nat} {ops : Array Oper} {ros : List RO} {deps : List (List Nat)} {base : Nat} {efs : List Ef}

theorem part_last : ∀ {es : List Ef} {s : Nat} {σ τ : St} {S : Nat → Bool} {i : Nat} {e : Ef} {l : Nat}, s ≤ i → es[i - s]? = some e → S i = true → l ∈ e.wr → (∀ k x, i < k → s ≤ k → es[k - s]? = some x → S k = true → l ∉ x.wr) → (part' σ (zl es s) S).at' l = (τ.upd e.dst e.v e.ups).at' l
  | [], _, _, _, _, _, _, _, _, h, _, _, _ => by simp at h
  | e0 :: es, s, σ, τ, S, i, e, l, hs, he, hi, hl, hn => by
    simp only [zl, List.zipIdx_cons, List.map_cons, part']
    by_cases hc : i = s
    · subst hc
      simp only [Nat.sub_self, List.getElem?_cons_zero, Option.some.injEq] at he
      subst he
      rw [if_pos hi]
      have : (part' (σ.upd e0.dst e0.v e0.ups) (zl es (i + 1)) S).at' l = (part' (σ.upd e0.dst e0.v e0.ups) (zl es (i + 1)) fun _ => false).at' l := by
        refine part_congr rfl fun p hp hw => ?_
        obtain ⟨h1, h2⟩ := zl_mem hp
        cases hS : S p.1 with
        | false => rfl
        | true =>
          exact absurd hw (hn p.1 p.2 (by omega) (by omega) (by
            rw [show p.1 - i = (p.1 - (i + 1)) + 1 by omega]
            simpa using h2) hS)
      rw [this]
      have nop : ∀ (es : List Ef) (s : Nat) (τ : St), part' τ (zl es s) (fun _ => false) = τ := fun es => by
        induction es with
        | nil => intros; rfl
        | cons e es ih =>
          intro s τ
          simp only [zl, List.zipIdx_cons, List.map_cons, part']
          exact ih (s + 1) τ
      rw [nop]
      exact upd_in hl
    · refine part_last (es := es) (s := s + 1) (by omega) (by
        rw [← he, show i - s = (i - (s + 1)) + 1 by omega]
        simp) hi hl fun k x hk hks hx hS => hn k x hk (by omega) (by
          rw [show k - s = (k - (s + 1)) + 1 by omega]
          simpa using hx) hS

def Clear (efs : List Ef) (S : Nat → Bool) (i : Nat) : Prop :=
  ∀ k x e, efs[k]? = some x → efs[i]? = some e → ((k < i ∧ S k = false) ∨ (i < k ∧ S k = true)) → x.hits e = false ∧ e.hits x = false

theorem mem_hits {x e : Ef} {l : Nat} (hx : x.hits e = false) (hl : l ∈ x.wr) : l ∉ e.rd ∧ l ∉ e.wr ∧ ¬ (2 * e.fr + 1 ≤ l ∧ l < 2 * e.fr + 32 ∧ l % 2 = 1) := by
  have := List.any_eq_false.1 hx l hl
  simp only [Bool.or_eq_true, not_or, List.contains_iff_mem, Bool.and_eq_true, decide_eq_true_eq, beq_iff_eq] at this
  exact ⟨this.1.1, this.1.2, fun ⟨h1, h2, h3⟩ => this.2 ⟨⟨h1, h2⟩, h3⟩⟩

theorem part_S {es : List (Nat × Ef)} {S S' : Nat → Bool} (h : ∀ p ∈ es, S' p.1 = S p.1) : ∀ {σ : St}, part' σ es S' = part' σ es S := by
  induction es with
  | nil => intro σ; rfl
  | cons p es ih =>
    intro σ
    obtain ⟨i, e⟩ := p
    simp only [part']
    have h1 : S' i = S i := h (i, e) (by simp)
    rw [h1]
    exact ih fun q hq => h q (by simp [hq])

def cnt (L : Array Bool) : Nat → Nat
  | 0 => 0
  | k + 1 => cnt L k + if L.getD k true then 0 else 1
theorem cnt_set (L : Array Bool) (i : Nat) (hi : i < L.size) (hf : L.getD i true = false) : ∀ k, cnt (L.setIfInBounds i true) k + (if i < k then 1 else 0) = cnt L k
  | 0 => rfl
  | k + 1 => by
    have ih := cnt_set L i hi hf k
    simp only [cnt]
    by_cases hk : k = i
    · subst hk
      have e1 : (L.setIfInBounds k true).getD k true = true := by simp [Array.getD_eq_getD_getElem?, hi]
      rw [e1, hf]
      simp only [Nat.lt_irrefl, if_false, Nat.add_zero] at ih
      simp [ih]
    · have e1 : (L.setIfInBounds i true).getD k true = L.getD k true := by simp [Array.getD_eq_getD_getElem?, Ne.symm hk]
      rw [e1, ← ih]
      by_cases h : i < k
      · have h' : i < k + 1 := by omega
        simp only [if_pos h, if_pos h']; omega
      · have h' : ¬ i < k + 1 := by omega
        simp only [if_neg h, if_neg h']; omega
theorem cnt_zero (L : Array Bool) : ∀ k, cnt L k = 0 → ∀ i, i < k → L.getD i true = true
  | 0, _, i, h => by omega
  | k + 1, h, i, hi => by
    simp only [cnt] at h
    by_cases hk : i = k
    · subst hk
      cases hb : L.getD i true with
      | true => rfl
      | false => rw [hb] at h; simp at h
    · exact cnt_zero L k (by omega) i (by omega)

end
end Go.Proofs.Ytlmnhbobgfpanaa
