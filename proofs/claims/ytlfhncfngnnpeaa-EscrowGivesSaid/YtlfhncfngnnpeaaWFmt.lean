/-
  strconv.FormatUint at base 10.
-/
import Derived.Shelf.Strconv.Itoa1
import Derived.Shelf.LaysM
import Derived.Shelf.Strconv.Itoa2
import Derived.Test.YtlfhncfngnnpeaaProg
import Derived.Test.YtlfhncfngnnpeaaMem
import Derived.Lib.ItoaMem
import Derived.Lib.AppendIntMem
import Derived.Lib.Hide
import Derived.BigCall
import Derived.BigGuard

namespace Go.Proofs.Ytlfhncfngnnpeaa
open Go Go.Shelf Go.RowKit Go.Sort Go.Lib
end Go.Proofs.Ytlfhncfngnnpeaa

namespace Go.Proofs.Ytlfhncfngnnpeaa
open Go Go.RowKit Go.Sort Go.Lib

end Go.Proofs.Ytlfhncfngnnpeaa
