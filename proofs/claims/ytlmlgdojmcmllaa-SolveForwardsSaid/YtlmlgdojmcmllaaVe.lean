/- SolveForwards: what the program answers along the arrows solves the equations, and each number in a set is there for a reason. Conditions: none. -/
import Derived.Test.YtlmlgdojmcmllaaUr
import Derived.Test.YtlmlgdojmcmllaaSf
namespace Go.Proofs.Ytlmlgdojmcmllaa
theorem provedSolveForwards : Rows.SolveForwardsSaid := solveForwards.over fixC_any fwdP_any reachP_any
end Go.Proofs.Ytlmlgdojmcmllaa
