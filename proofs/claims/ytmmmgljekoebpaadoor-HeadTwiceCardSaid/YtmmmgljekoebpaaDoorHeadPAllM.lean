/- What package head is to answer, shown of the landed package. Conditions: none besides those of HeadC. -/
import Derived.Test.YtmmmgljekoebpaaDoorG09
import Derived.Test.YtmmmgljekoebpaaDoorG11
import Derived.Test.YtmmmgljekoebpaaDoorHeadLaidM
namespace Go.Proofs
open Go.RowKit Go.Hdr
theorem Tryd.headC : Tryd.HeadC Go.Proofs.YtmmmgljekoebpaaDoor.HeadT where
  keep := fun _ _ h hb => h.below hb
  may := fun h W hs hT => Tryd.hmay_calls h W (by omega) hT.keyTab hT.layTab
  print := fun h W hs hT => Tryd.hprint_calls h W hs hT.keyTab hT.layTab hT.fxTab
  parse := fun s W hs hT => Tryd.hparse_calls s W hs hT.keyTab hT.layTab
#print axioms Tryd.headC
end Go.Proofs
