/-
  Two texts compared (strings.Compare comes to it), as an entry: the order of their bytes.
-/
import Derived.Lib.Bytealg
import Derived.Test.YtmjmhobeiamgiaaChecked
import Derived.Test.YtmjmhobeiamgiaaDaL
namespace Go.Proofs.Ytmjmhobeiamgiaa
open Go.RowKit
end Go.Proofs.Ytmjmhobeiamgiaa
