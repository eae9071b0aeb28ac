/- What package head is to answer, shown of the landed package. Conditions: none besides those of HeadC. -/
import Derived.Test.YtmmmgljekoebpaaGreatDoorG11
import Derived.Test.YtmmmgljekoebpaaGreatDoorG12
import Derived.Test.YtmmmgljekoebpaaGreatDoorHeadLaidM
namespace Go.Proofs
open Go.RowKit Go.Hdr
theorem Tryz.headC : Tryz.HeadC Go.Proofs.YtmmmgljekoebpaaGreatDoor.HeadT where
  keep := fun _ _ h hb => h.below hb
  may := fun h W hs hT => Tryz.hmay_calls h W (by omega) hT.keyTab hT.layTab
  print := fun h W hs hT => Tryz.hprint_calls h W hs hT.keyTab hT.layTab hT.fxTab
  parse := fun s W hs hT => Tryz.hparse_calls s W (by omega) hT.keyTab hT.layTab
#print axioms Tryz.headC
end Go.Proofs
