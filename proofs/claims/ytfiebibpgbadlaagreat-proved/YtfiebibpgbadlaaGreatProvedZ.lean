import Derived.Test.YtfiebibpgbadlaaGreatProvedR
import Derived.Test.YtfiebibpgbadlaaGreatWy
namespace Go.Proofs.YtfiebibpgbadlaaGreat.proved_
theorem proved : Rows.ProvedSaid := over rulesC countC whyC
end Go.Proofs.YtfiebibpgbadlaaGreat.proved_
#print axioms Go.Proofs.YtfiebibpgbadlaaGreat.proved_.proved
