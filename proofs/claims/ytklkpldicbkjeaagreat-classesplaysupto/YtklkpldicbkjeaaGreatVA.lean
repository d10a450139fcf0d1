/- A fact laid aside. -/
import Derived.Below
namespace Go.Proofs.YtklkpldicbkjeaaGreat
def ag (p:Prop):Prop:=p
theorem ag.o {p:Prop} (h:ag p):p:=h
end Go.Proofs.YtklkpldicbkjeaaGreat
