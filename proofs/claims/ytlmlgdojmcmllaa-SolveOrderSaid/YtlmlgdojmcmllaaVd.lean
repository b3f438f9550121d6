/- SolveOrder: in the program's order a node stands ahead of those that follow it, unless they lead back to it, the entry is first, and just the reached nodes are there. Conditions: none. -/
import Derived.Test.YtlmlgdojmcmllaaUr
import Derived.Test.YtlmlgdojmcmllaaSe
namespace Go.Proofs.Ytlmlgdojmcmllaa
theorem provedSolveOrder : Rows.SolveOrderSaid := solveOrder.over fixC_any orderP_any reachP_any
end Go.Proofs.Ytlmlgdojmcmllaa
