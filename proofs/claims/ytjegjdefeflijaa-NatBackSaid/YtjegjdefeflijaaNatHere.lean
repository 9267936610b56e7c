/- All contracts of package nat. -/
import Derived.Test.YtjegjdefeflijaaNatEuclid
import Derived.Test.YtjegjdefeflijaaNatTextD
import Derived.Test.YtjegjdefeflijaaNatParseD
set_option linter.unusedVariables false
set_option linter.unusedSimpArgs false
namespace Go.Proofs.Ytjegjdefeflijaa
end Go.Proofs.Ytjegjdefeflijaa
