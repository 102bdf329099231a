/-
  fits, at concrete letters and entries.
-/
import Derived.Test.YtekgojokhjihfaaDoorLtC
namespace Go.Proofs.YtekgojokhjihfaaDoor
open Go Go.RowKit
open Sha

end Go.Proofs.YtekgojokhjihfaaDoor
