/- A number's three answers as an ending. -/
import Derived.Test.YtjfhcgolgabkkaaDoorNumM
namespace Go.Proofs.YtjfhcgolgabkkaaDoor.Sc
def Nm.end (r : Nm) : Ending := .returned (.tuple #[.int .i64 r.k, .int .i64 r.e, .bool r.b])
end Go.Proofs.YtjfhcgolgabkkaaDoor.Sc
