/-
  Functions that write over what is new. General; nothing of this program.
-/
import Derived.Test.YtlmnhbobgfpanaaDaL
namespace Go.Proofs.Ytlmnhbobgfpanaa
open Go.RowKit

def Tp.chainS : Tp → Sh → Sh
  | .pair a b, r => a.chainS (b.chainS r)
  | .unit, r => r
  | .bool, r => .cons (.hole .bool) r
  | .str, r => .cons (.hole .str) r
  | .int k, r => .cons (.hole (.int k)) r
  | .hv κ, r => .cons (.hole (.hv κ)) r
  | .op e, r => .cons (.hole (.op e)) r
  | .sl q e, r => .cons (.hole (.sl q e)) r
def Tp.chainD : (τ : Tp) → den τ → (r : Sh) → den r.ty → den (τ.chainS r).ty
  | .pair a b, x, r, y => a.chainD x.1 (b.chainS r) (b.chainD x.2 r y)
  | .unit, _, _, y => y
  | .bool, x, _, y => (x, y)
  | .str, x, _, y => (x, y)
  | .int _, x, _, y => (x, y)
  | .hv _, x, _, y => (x, y)
  | .op _, x, _, y => (x, y)
  | .sl _ _, x, _, y => (x, y)
theorem chain_mk : ∀ (τ : Tp) (x : den τ) (r : Sh) (y : den r.ty) (k : Nat), ((τ.chainS r).mk (τ.chainD x r y) k).2 = (r.mk y k).2 ∧
    ∀ j, dl ((τ.chainS r).mk (τ.chainD x r y) k).1 j = if j < τ.size then rowC τ x j else dl (r.mk y k).1 (j - τ.size) := by
  intro τ
  have one : ∀ {τ : Tp} {x : den τ} {r : Sh} {y : den r.ty} {k : Nat}, τ.size = 1 → rowC τ x 0 = .im τ x → ((Sh.cons (.hole τ) r).mk (x, y) k).2 = (r.mk y k).2 ∧
      ∀ j, dl ((Sh.cons (.hole τ) r).mk (x, y) k).1 j = if j < τ.size then rowC τ x j else dl (r.mk y k).1 (j - τ.size) := by
    intro τ x r y k h1 h2
    refine ⟨rfl, fun j => ?_⟩
    rw [h1]
    cases j with
    | zero => simp only [Sh.mk, dl_cons_zero, Nat.zero_lt_one, if_true, h2]
    | succ j => simp only [Sh.mk, dl_cons_succ]; rw [if_neg (by omega)]; rfl
  induction τ with
  | pair a b ih1 ih2 =>
    intro x r y k
    obtain ⟨h1, h2⟩ := ih1 x.1 (b.chainS r) (b.chainD x.2 r y) k
    obtain ⟨h3, h4⟩ := ih2 x.2 r y k
    refine ⟨h1.trans h3, fun j => ?_⟩
    simp only [Tp.chainS, Tp.chainD, Tp.size, rowC, nblt_iff]
    rw [h2, h4]
    by_cases hja : j < a.size
    · rw [if_pos hja, if_pos (by omega)]; simp [hja]
    · rw [if_neg hja]
      by_cases hjb : j - a.size < b.size
      · rw [if_pos hjb, if_pos (by omega)]; simp [hja]
      · rw [if_neg hjb, if_neg (by omega), Nat.sub_sub]
  | unit => intro x r y k; exact ⟨rfl, fun j => by simp [Tp.size, Tp.chainS, Tp.chainD]⟩
  | bool => intro x r y k; exact one rfl rfl
  | str => intro x r y k; exact one rfl rfl
  | int q => intro x r y k; exact one rfl rfl
  | hv κ => intro x r y k; exact one rfl rfl
  | op e => intro x r y k; exact one rfl rfl
  | sl q e => intro x r y k; exact one rfl rfl

end Go.Proofs.Ytlmnhbobgfpanaa
