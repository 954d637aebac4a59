/-
  slices.Insert into a row of flat structs that is handed over, as an entry: what stood in it, with others between.
-/
import Derived.Shelf.Spec.SlicesInsertGrow
import Derived.Test.YtmjmhobeiamgiaaChecked
import Derived.Test.YtmjmhobeiamgiaaDaL
namespace Go.Proofs.Ytmjmhobeiamgiaa
open Go.RowKit
section
open Go.Shelf Go.RowKit Go.Lib
end
section
open Go.RowKit Go.Shelf
end
end Go.Proofs.Ytmjmhobeiamgiaa
