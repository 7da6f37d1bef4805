/- An int as a value. -/
import Derived.Test.YtmknjhmfgapejaaBel
namespace Go.Proofs.Ytmknjhmfgapejaa
def iv (x : Int) : Value := .int .i64 x
end Go.Proofs.Ytmknjhmfgapejaa
