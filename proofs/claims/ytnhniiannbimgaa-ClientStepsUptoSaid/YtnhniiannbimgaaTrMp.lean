/-
  That the program's operations do what the states say: maps whose keys are numbers, texts or Bools. General; nothing of this program.
-/
import Derived.Test.YtnhniiannbimgaaTrJb
namespace Go.Proofs.Ytnhniiannbimgaa
open Go.RowKit

section
variable {P:Program} {E:Env} {ρ:Pl} {σ:St} {a:Act} {w w':World} {o:Oper} {fr:Nat} {K:Act→World→Prop} {Q:Exit→Act→World→Prop}

end
end Go.Proofs.Ytnhniiannbimgaa
