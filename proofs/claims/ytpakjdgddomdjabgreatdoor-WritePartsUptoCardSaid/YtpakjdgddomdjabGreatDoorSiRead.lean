import Derived.Test.YtpakjdgddomdjabGreatDoorPkD
import Derived.Test.YtpakjdgddomdjabGreatDoorPkF
set_option linter.unusedVariables false
namespace Go.Proofs.YtpakjdgddomdjabGreatDoor
namespace Sp
open Go.RowKit
def parseB (s:ByteArray):List Sp:=(Rdr false false s.data.toList).1
end Sp
end Go.Proofs.YtpakjdgddomdjabGreatDoor
