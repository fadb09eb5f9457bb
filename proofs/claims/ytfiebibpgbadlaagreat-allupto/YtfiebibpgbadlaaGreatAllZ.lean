import Derived.Test.YtfiebibpgbadlaaGreatAllR
import Derived.Test.YtfiebibpgbadlaaGreatWy
namespace Go.Proofs.YtfiebibpgbadlaaGreat.all
theorem proved : Rows.AllUptoSaid := over rulesC countC whyC
end Go.Proofs.YtfiebibpgbadlaaGreat.all
#print axioms Go.Proofs.YtfiebibpgbadlaaGreat.all.proved
