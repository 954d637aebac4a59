/-
  The rules of the walk in bundles.
-/
import Derived.Test.YtlmnhbobgfpanaaTrU
namespace Go.Proofs.Ytlmnhbobgfpanaa
open Go.RowKit
section
end
section

section
variable {P : Program} {m base : Nat} {post : AX → St → Prop} {ks : List Kf} {σ : St} {rdl : List Nat} {r : RO} {rs : List RO} {i : Nat} {d : Bool} {deps : List (List Nat)} {efs : List Ef}

end

theorem T.le_nil {q : Qc} {size : Nat} {f : Nat → Nat → T} : T.le (.val (.slice none 0 0)) (.sl q size 0 f) = True :=
  eq_true fun _ _ _ _ h => ⟨none, 0, h, Nat.le_refl _, fun _ _ hi => absurd hi (Nat.not_lt_zero _)⟩
end
end Go.Proofs.Ytlmnhbobgfpanaa
