/- Lists of things in memory, and what a function that tells a thing's key does. -/
import Derived.Deep.RegionLaw
import Derived.Maps.AppendAt
import Derived.Test.YtemijdhemdhclaaGreatAGMem
import Derived.Test.YtemijdhemdhclaaGreatAPMem
set_option linter.unusedVariables false
open Go.Proofs.Tryz
namespace Go.Proofs.YtemijdhemdhclaaGreat
open Go.RowKit
theorem step_app {P:Program} (w:World) {ops:Array Oper} {o:Oper} {a:Act} {K:Act->World->Prop} {Q:Exit->Act->World->Prop} {E:Prop} (hgd:o.guard=none) (s x:Operand) (t:TypeId)
  (ho:o.op=.call { callee:=.builtin .append,args:=#[s,x],argTypes:=#[t,t] })
  (base:Nat) (e:TypeId) (i:TypeInfo) (z:Value) (size bytes:Nat) (ht:P.underlying t=some (.slice e)) (hi:P.info? e=some i) (hz:i.zero=some z)
  (hsize:i.size=size) (hby:i.bytes=bytes) (hzs:z.cells.size=size) (hsz:0<size)
  (v:Value) (n:Nat) (xs:List Value) (hs:a.eval s=v) (hown:w.ownsRow base e size v n xs)
  (ad:Addr) (m c:Nat) (news:List Value) (hx:a.eval x=.slice (some ad) m c) (hl:news.length=m*size) (hnews:∀ j u,news[j]?=some u->w.cell? (ad.add j)=some u) (h1:∀ u∈news,u.oneCell'=true)
  (h63:n+m<=maxLen) (hbytes:(n+m)*bytes<=140737488355328) (hbase:base<=w.heap.size)
  (h:∀ v' w',w'.ownsRow base e size v' (n+m) (xs++news)->w.grownBy w' v.ownBlock->(v'=.slice none 0 0↔v=.slice none 0 0/\m=0)->(v'.ownBlock=v.ownBlock\/v'.ownBlock=some w.heap.size)->K (a.put o.dst v') w') :
  if Region.wanted o (yielded ops a.tmps)=true then Oper.wp P o a w K Q else E:=by
 have hw:Region.wanted o (yielded ops a.tmps)=true:=by simp [Region.wanted,hgd]
 rw [if_pos hw];obtain ⟨v',w',hr,h2,h3,h4,h5⟩:=run_append_own_at (P:=P) w base t o.type e i z size bytes ht hi hz hsize hby hzs hsz v n xs hown ad m c news hl hnews h1 h63 hbytes hbase;unfold Oper.wp execOp;simp only [ho,resolve,invoke,builtin,Sem.run_bind,Sem.run_pure,Result.andThen_ok,List.map_toArray,List.map_cons,List.map_nil,hs,hx,hr];exact h v' w' h2 h3 h4 h5
structure FnK {α:Type} (enc:α->Value) (key:α->Int) (ok:α->Prop) (K:FuncId):Prop where
 enter:∀ (args:Array Value) (W:World),(callFunc K args).run prog W=.ok (.enter K args) W
 tells:∀ (W:World) (x:α),ok x->Calls prog K #[enc x] W fun e w'=>e=.returned (.int .u64 (key x))/\Gw W w'
def encE (e:Ent):Value:=.agg #[.int .u64 e.k,.int .u64 e.v,.bool e.g]
def ElE (w:World) (s:Lst Ent):Prop:=∀ i x,s.l[i]?=some x->w.cell? ⟨s.b,s.off+i*3,none⟩=some (.int .u64 x.k)/\w.cell? ⟨s.b,s.off+i*3+1,none⟩=some (.int .u64 x.v)/\w.cell? ⟨s.b,s.off+i*3+2,none⟩=some (.bool x.g)
theorem ElE.keep {w w':World} {s:Lst Ent} (h:ElE w s) (k:w'.heap[s.b]?=w.heap[s.b]?):ElE w' s:=fun i x hx=>by
 have c:∀ o,w'.cell? ⟨s.b,o,none⟩=w.cell? ⟨s.b,o,none⟩:=fun o=>World.cell?_of_block (a:=⟨s.b,o,none⟩) k
 obtain ⟨h1,h2,h3⟩:=h i x hx;exact ⟨(c _).trans h1,(c _).trans h2,(c _).trans h3⟩
theorem ElE.adv {w:World} {s:Lst Ent} (h:ElE w s):ElE w (adv 3 s):=fun i x hx=>by
 have e:s.l[i+1]?=some x:=by
  obtain ⟨b,off,c,l⟩:=s;cases l with
  | nil=>simp [Go.Proofs.YtemijdhemdhclaaGreat.adv] at hx
  | cons y t=>simpa [Go.Proofs.YtemijdhemdhclaaGreat.adv] using hx
 have:=h (i+1) x e
 show w.cell? ⟨s.b,s.off+3+i*3,none⟩=_/\w.cell? ⟨s.b,s.off+3+i*3+1,none⟩=_/\w.cell? ⟨s.b,s.off+3+i*3+2,none⟩=_;rw [show s.off+3+i*3=s.off+(i+1)*3 by omega]
 exact this
end Go.Proofs.YtemijdhemdhclaaGreat
