/- SolveGraphs: the program gives the document's reached nodes, order and turned graph of every graph, and the graph stays. Conditions: none. -/
import Derived.Test.YtlmlgdojmcmllaaUr
import Derived.Test.YtlmlgdojmcmllaaSb
namespace Go.Proofs.Ytlmlgdojmcmllaa
theorem provedSolveGraphs : Rows.SolveGraphsSaid := solveGraphs.over fixC_any reachP_any orderP_any beforeP_any
end Go.Proofs.Ytlmlgdojmcmllaa
