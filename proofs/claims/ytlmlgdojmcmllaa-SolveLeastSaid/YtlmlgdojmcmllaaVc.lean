/- SolveLeast: what the program answers against the arrows solves the equations, and each number in a set is there for a reason. Conditions: none. -/
import Derived.Test.YtlmlgdojmcmllaaUr
import Derived.Test.YtlmlgdojmcmllaaSd
namespace Go.Proofs.Ytlmlgdojmcmllaa
theorem provedSolveLeast : Rows.SolveLeastSaid := solveLeast.over fixC_any backP_any
end Go.Proofs.Ytlmlgdojmcmllaa
