/- TraceOrder's function, walked whole, with no hypothesis left. -/
import Derived.Test.YtjbflmpnmobngaaDoorDf
import Derived.Test.YtjbflmpnmobngaaDoorDm
namespace Go.Proofs.YtjbflmpnmobngaaDoor
open Go.RowKit

theorem order_any (a b c : Oc) (w : World) (ha : a.okAt w) (hb : b.okAt w) (hc : c.okAt w) :
    Calls Tryd.prog 5 #[.agg #[.slice a.p a.n a.cap, .int .i64 a.st, .int .i32 a.code, .int .i64 a.steps], .agg #[.slice b.p b.n b.cap, .int .i64 b.st, .int .i32 b.code, .int .i64 b.steps], .agg #[.slice c.p c.n c.cap, .int .i64 c.st, .int .i32 c.code, .int .i64 c.steps]] w
      fun e w' => e = .returned (.bool true) ∧ Below w.heap.size w w' :=
  traceOrder.walk fixed_any a b c w ha hb hc
end Go.Proofs.YtjbflmpnmobngaaDoor
