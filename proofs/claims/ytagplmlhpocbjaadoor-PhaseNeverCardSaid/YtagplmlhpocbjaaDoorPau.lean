/- A goal set aside: the walk stands still at it. -/
import Derived.Test.YtagplmlhpocbjaaDoorBase
namespace Go.Proofs.YtagplmlhpocbjaaDoor
/-- A walk rests here. -/
def Paused (p : Prop) : Prop := p
theorem pause {p : Prop} (h : Paused p) : p := h
end Go.Proofs.YtagplmlhpocbjaaDoor
