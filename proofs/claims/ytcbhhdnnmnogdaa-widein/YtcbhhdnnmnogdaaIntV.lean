/- An int as a value. -/
import Derived.Test.YtcbhhdnnmnogdaaBel
namespace Go.Proofs.Ytcbhhdnnmnogdaa
def iv (x : Int) : Value := .int .i64 x
end Go.Proofs.Ytcbhhdnnmnogdaa
