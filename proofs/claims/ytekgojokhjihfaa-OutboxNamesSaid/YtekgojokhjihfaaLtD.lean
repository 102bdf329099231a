/-
  fits, at concrete letters and entries.
-/
import Derived.Test.YtekgojokhjihfaaLtC
namespace Go.Proofs.Ytekgojokhjihfaa
open Go Go.RowKit
open Sha

end Go.Proofs.Ytekgojokhjihfaa
