/- An int as a value. -/
import Derived.Test.YtfcjihfnimefhaaBel
namespace Go.Proofs.Ytfcjihfnimefhaa
def iv (x : Int) : Value := .int .i64 x
end Go.Proofs.Ytfcjihfnimefhaa
