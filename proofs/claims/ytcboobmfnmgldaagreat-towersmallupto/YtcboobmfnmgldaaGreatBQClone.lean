/- The document's layer 14: Clone. -/
import Derived.Test.YtcboobmfnmgldaaGreatBPEl
import Derived.Test.YtcboobmfnmgldaaGreatBQMem
set_option linter.unusedVariables false
namespace Go.Proofs.YtcboobmfnmgldaaGreat
open Go.RowKit
theorem ac' {P:Program} (w:World) {ops:Array Oper} {o:Oper} {a:Act} {K:Act->World->Prop} {Q:Exit->Act->World->Prop} {E:Prop} (kT:o.guard=none) (s x:Operand) (t:TypeId)
  (ho:o.op=.call { callee:=.builtin .append,args:=#[s,x],argTypes:=#[t,t] })
  (base:Nat) (e:TypeId) (i:TypeInfo) (z:Value) (size bytes:Nat) (ht:P.underlying t=some (.slice e)) (hi:P.info? e=some i) (hz:i.zero=some z)
  (qz:i.size=size) (aR:i.bytes=bytes) (qA:z.cells.size=size) (cU:0<size)
  (v:Value) (n:Nat) (xs:List Value) (hs:a.eval s=v) (iM:w.ownsRow base e size v n xs)
  (ao:Option Addr) (m c:Nat) (news:List Value) (hx:a.eval x=.slice ao m c) (CP:ao=none->m=0/\c=0) (hl:news.length=m*size) (kU:∀ ad,ao=some ad->∀ j u,news[j]?=some u->w.cell? (ad.add j)=some u) (h1:∀ u∈news,u.oneCell'=true)
  (qB:n+m<=maxLen) (qC:(n+m)*bytes<=140737488355328) (qD:base<=w.heap.size)
  (h:∀ v' w',w'.ownsRow base e size v' (n+m) (xs++news)->w.grownBy w' v.ownBlock->K (a.put o.dst v') w') :
  if Region.wanted o (yielded ops a.tmps)=true then Oper.wp P o a w K Q else E:=by
 cases ao with
 | some ad=>exact Fi w kT s x t ho base e i z size bytes ht hi hz qz aR qA cU v n xs hs iM ad m c news hx hl (kU ad rfl) h1 qB qC qD (fun v' w' a1 a2 _ _=>h v' w' a1 a2)
 | none =>
  obtain ⟨rfl,rfl⟩:=CP rfl;have hn:news=[]:=List.eq_nil_of_length_eq_zero (by simpa using hl)
  subst hn;have hw:Region.wanted o (yielded ops a.tmps)=true:=by simp [Region.wanted,kT]
  rw [if_pos hw];have oG:=run_append_owned_none (P:=P) w base t o.type e i size ht hi v n xs iM;unfold Oper.wp execOp;simp only [ho,resolve,invoke,builtin,Sem.run_bind,Sem.run_pure,Result.andThen_ok,List.map_toArray,List.map_cons,List.map_nil,hs,hx,oG];exact h v w (by simpa using iM) (World.grownBy.refl _ _)
end Go.Proofs.YtcboobmfnmgldaaGreat
