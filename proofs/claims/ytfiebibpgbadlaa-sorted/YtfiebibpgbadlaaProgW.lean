import Derived.Test.YtfiebibpgbadlaaProgV
namespace Go.Proofs.Ytfiebibpgbadlaa
open Go.RowKit
set_option linter.unusedVariables false
set_option linter.unusedSimpArgs false

def opV (kd k a b : Int) (s t : ByteArray) : Array Value := #[.int .i64 kd, .int .i64 k, .int .i64 a, .int .i64 b, .string s, .string t]
end Go.Proofs.Ytfiebibpgbadlaa
