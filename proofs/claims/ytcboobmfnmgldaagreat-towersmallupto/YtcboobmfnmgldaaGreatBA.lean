/- A fact laid aside. -/
import Derived.Below
namespace Go.Proofs.YtcboobmfnmgldaaGreat
def ag (p:Prop):Prop:=p
theorem ag.o {p:Prop} (h:ag p):p:=h
abbrev AI (x:Int):Value:=.int .i64 x
abbrev By (x:Int):Value:=.int .u64 x
abbrev BY (x:Nat):Value:=.pointer (some ⟨x,0,none⟩)
end Go.Proofs.YtcboobmfnmgldaaGreat
