/- A number's three answers as an ending. -/
import Derived.Test.YtcedfonkahffcaaNumM
namespace Go.Proofs.Ytcedfonkahffcaa.Sc
def Nm.end (r : Nm) : Ending := .returned (.tuple #[.int .i64 r.k, .int .i64 r.e, .bool r.b])
end Go.Proofs.Ytcedfonkahffcaa.Sc
