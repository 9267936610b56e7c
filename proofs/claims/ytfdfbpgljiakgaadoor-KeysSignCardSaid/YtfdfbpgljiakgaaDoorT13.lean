/- Texts of one proof, laid together: SignMore. -/
import Derived.Test.YtfdfbpgljiakgaaDoorT11
set_option linter.unusedVariables false
set_option linter.unusedSimpArgs false
set_option maxRecDepth 10000
/- Package sign's contracts where more is known to come in. -/
namespace Go.Proofs.YtfdfbpgljiakgaaDoor
open Go.RowKit Go.FieldMath Go.PointMath Go.HashMath

theorem sign_of {R Q : World → Prop} (h : SignC R) (k : ∀ w, Q w → R w) : SignC Q where
  csign := fun a m w ha hm r => h.csign a m w ha hm (k w r)
  cverify := fun p m a b w hp hm ha hb r => h.cverify p m a b w hp hm ha hb (k w r)
end Go.Proofs.YtfdfbpgljiakgaaDoor
