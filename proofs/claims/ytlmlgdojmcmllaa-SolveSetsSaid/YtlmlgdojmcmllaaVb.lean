/- SolveSets: the program gives the document's least solutions along and against the arrows of every graph and any sets, and what is handed in stays. Conditions: none. -/
import Derived.Test.YtlmlgdojmcmllaaUr
import Derived.Test.YtlmlgdojmcmllaaSc
namespace Go.Proofs.Ytlmlgdojmcmllaa
theorem provedSolveSets : Rows.SolveSetsSaid := solveSets.over fixC_any backP_any fwdP_any
end Go.Proofs.Ytlmlgdojmcmllaa
