import Derived.Test.YtfiebibpgbadlaaGreatPlaysR
import Derived.Test.YtfiebibpgbadlaaGreatWy
namespace Go.Proofs.YtfiebibpgbadlaaGreat.plays
theorem proved : Rows.PlaysSaid := over rulesC countC whyC
end Go.Proofs.YtfiebibpgbadlaaGreat.plays
#print axioms Go.Proofs.YtfiebibpgbadlaaGreat.plays.proved
