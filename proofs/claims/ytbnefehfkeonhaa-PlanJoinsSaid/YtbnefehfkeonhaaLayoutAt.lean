/- The document's own answers for layer 7: row, column, at, Index. Conditions: where a layout is asked of, that it is one, of 1 to 400 rows. -/
import Derived.Test.YtbnefehfkeonhaaLayoutRef
namespace Go.Proofs
open Go.RowKit Go.Shelf Go.Layout
attribute [local go_sem] Oper.semAt_some



end Go.Proofs
