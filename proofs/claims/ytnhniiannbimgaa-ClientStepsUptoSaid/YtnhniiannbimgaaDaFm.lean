/-
  Operations on maps, typed, do what the states say. General; nothing of this program.
-/
import Derived.Test.YtnhniiannbimgaaDaF
namespace Go.Proofs.Ytnhniiannbimgaa
open Go.RowKit

section
variable {R:Type} {P:Program} {σ:DSt} {fr:Nat} {r:R} {K:List Nat→DV→List (Nat×DOb)→Option R}
end
end Go.Proofs.Ytnhniiannbimgaa
