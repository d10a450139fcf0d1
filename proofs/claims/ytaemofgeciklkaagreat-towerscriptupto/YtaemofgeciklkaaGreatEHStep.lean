import Derived.Deep.AppendLies
import Derived.Deep.RegionLaw
import Derived.Test.YtaemofgeciklkaaGreatEPBs
set_option linter.unusedVariables false
namespace Go.Proofs.YtaemofgeciklkaaGreat
open Go.RowKit
theorem acY {P:Program} (w:World) (t ty:TypeId) (base:Nat) (e:TypeId) (i:TypeInfo) (z:Value) (size bytes:Nat) (ht:P.underlying t=some (.slice e)) (hi:P.info? e=some i) (hz:i.zero=some z)
  (mL:i.size=size) (aJ:i.bytes=bytes) (mM:z.cells.size=size) (cF:0<size)
  (k n bO:Nat) (xs:List Value) (fM:w.ownsRow base e size (ψ k 0 n bO) n xs)
  (ao:Option Addr) (m c:Nat) (news:List Value) (sK:ao=none->m=0/\c=0) (hl:news.length=m*size) (jA:∀ ad,ao=some ad->∀ j u,news[j]?=some u->w.cell? (ad.add j)=some u) (h1:∀ u∈news,u.oneCell'=true)
  (mO:n+m<=maxLen) (mP:(n+m)*bytes<=140737488355328) (mQ:base<=w.heap.size) :
  ∃ g cap w',(Builtin.append_ #[t,t] ty #[ψ k 0 n bO,.slice ao m c]).run P w=.ok (ψ g 0 (n+m) cap) w' /\
   w'.ownsRow base e size (ψ g 0 (n+m) cap) (n+m) (xs++news)/\w.grownBy w' (some k)/\(g=k\/g=w.heap.size)/\g<w'.heap.size:=by
 cases ao with
 | some ad =>
  obtain ⟨v',w',hr,h2,h3,h4,h5⟩:=run_append_own_at (P:=P) w base t ty e i z size bytes ht hi hz mL aJ mM cF (ψ k 0 n bO) n xs fM ad m c news hl (jA ad rfl) h1 mO mP mQ;obtain ⟨g,cap,rfl,_,_,ar⟩:=cJ h2 (fun q=>by have:=(h4.1 q).1;cases this)
  refine ⟨g,cap,w',hr,h2,h3,?_,ar⟩;rcases h5 with h5 | h5
  ·left;cases h5;rfl
  ·right;cases h5;rfl
 | none =>
  obtain ⟨rfl,rfl⟩:=sK rfl;have hn:news=[]:=qbd (by simpa using hl)
  subst hn;exact ⟨k,bO,w,run_append_owned_none (P:=P) w base t ty e i size ht hi _ n xs fM,by simpa using fM,World.grownBy.refl _ _,.inl rfl,(fM.lt k rfl).2⟩
theorem QY {P:Program} (w:World) {ops:Array Oper} {o:Oper} {a:Act} {K:Act->World->Prop} {Q:Exit->Act->World->Prop} {E:Prop} (kT:o.guard=none) (s x:Operand) (t:TypeId)
  (ho:o.op=.call { callee:=.builtin .append,args:=#[s,x],argTypes:=#[t,t] })
  (base:Nat) (e:TypeId) (i:TypeInfo) (z:Value) (size bytes:Nat) (ht:P.underlying t=some (.slice e)) (hi:P.info? e=some i) (hz:i.zero=some z)
  (mL:i.size=size) (aJ:i.bytes=bytes) (mM:z.cells.size=size) (cF:0<size)
  (k n bO:Nat) (xs:List Value) (hs:a.eval s=ψ k 0 n bO) (fM:w.ownsRow base e size (ψ k 0 n bO) n xs)
  (ao:Option Addr) (m c:Nat) (news:List Value) (hx:a.eval x=.slice ao m c) (sK:ao=none->m=0/\c=0) (hl:news.length=m*size) (jA:∀ ad,ao=some ad->∀ j u,news[j]?=some u->w.cell? (ad.add j)=some u) (h1:∀ u∈news,u.oneCell'=true)
  (mO:n+m<=maxLen) (mP:(n+m)*bytes<=140737488355328) (mQ:base<=w.heap.size)
  (h:∀ g cap w',w'.ownsRow base e size (ψ g 0 (n+m) cap) (n+m) (xs++news)->w.grownBy w' (some k)->(g=k\/g=w.heap.size)->g<w'.heap.size->K (a.put o.dst (ψ g 0 (n+m) cap)) w') :
  if Region.wanted o (yielded ops a.tmps)=true then Oper.wp P o a w K Q else E:=by
 have hw:Region.wanted o (yielded ops a.tmps)=true:=by simp [Region.wanted,kT]
 rw [Ym hw];obtain ⟨g,cap,w',hr,h2,h3,h4,h5⟩:=acY (P:=P) w t o.type base e i z size bytes ht hi hz mL aJ mM cF k n bO xs fM ao m c news sK hl jA h1 mO mP mQ;unfold Oper.wp execOp;simp only [ho,resolve,invoke,builtin,Sem.run_bind,Sem.run_pure,Result.andThen_ok,List.map_toArray,qaw,List.map_nil,hs,hx,hr];exact h g cap w' h2 h3 h4 h5
