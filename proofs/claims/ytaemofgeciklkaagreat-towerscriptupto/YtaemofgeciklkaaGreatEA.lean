import Derived.WalkKit
import Derived.ProofKit
import Derived.Deep.Heap
namespace Go.Proofs.YtaemofgeciklkaaGreat
open Go.RowKit
def ag (p:Prop):Prop:=p
theorem ag.o {p:Prop} (h:ag p):p:=h
abbrev By (x:Int):Value:=.int .i64 x
abbrev BY (x:Int):Value:=.int .u64 x
abbrev IS (x:Nat):Value:=.pointer (some ⟨x,0,none⟩)
theorem Yk:∀ (n:Nat),n<=n:=@Nat.le_refl
theorem Yl:∀ {c:Prop} {_:Decidable c},¬c->∀ {α:Sort _} {t e:α},(if c then t else e)=e:=@if_neg
theorem Ym:∀ {c:Prop} {_:Decidable c},c->∀ {α:Sort _} {t e:α},(if c then t else e)=t:=@if_pos
theorem Γ:∀ (n:Nat),0<=n:=@Nat.zero_le
theorem Δ:∀ (n:Int),Go.IntKind.i64.wrap n=(n+9223372036854775808) % 18446744073709551616 - 9223372036854775808:=@IntKind.wrap_i64
theorem Θ:∀ {n m k:Nat},n<m->m<=k->n<k:=@Nat.lt_of_lt_of_le
theorem Ξ:∀ {a b:Prop},a/\b->a:=@And.left
theorem Φ:∀ {n m k:Nat},n<=m->m<=k->n<=k:=@Nat.le_trans
theorem Ψ:∀ {α:Type _} {x1 bs:List α},(x1++bs).length=x1.length+bs.length:=@List.length_append
theorem Ω:∀ (w:Go.World) (o:Go.Obj),(w.alloc o).heap[w.heap.size]?=Option.some o:=@heap_alloc_new
theorem qaa:∀ (a b:Int),a*b=b*a:=@Int.mul_comm
theorem qab:∀ {α:Type _} {i:Nat} {b:α} {xs:Array α},xs[i]?=Option.some b ↔ ∃ h,xs[i]=b:=@Array.getElem?_eq_some_iff
theorem qac:∀ (w:Go.World) (a:Go.Addr) (u:Go.Value) (k:Nat),k ≠ a.block->(w.setCell a u).heap[k]?=w.heap[k]?:=@Go.Deep.blk_setCell_other
theorem qad:∀ {n m:Nat},n=m->n<=m:=@Nat.le_of_eq
theorem qae:∀ {a b c:Int},a<=b->0<=c->a*c<=b*c:=@Int.mul_le_mul_of_nonneg_right
theorem qaf:∀ {α:Type _} {b:α} {l:List α} {a:α},a ∈ b::l ↔ a=b\/a ∈ l:=@List.mem_cons
theorem qag:∀ {α:Type _} {l:List α} {i:Nat} {a:α},l.getD i a=l[i]?.getD a:=@List.getD_eq_getElem?_getD
theorem qah:∀ {α:Type _} {l:List α} {i:Nat} (h:i<l.length),l[i]?=Option.some l[i]:=@List.getElem?_eq_getElem
theorem qai:∀ (n:Nat),0+n=n:=@Nat.zero_add
theorem qaj:∀ (n m k:Nat),n*m*k=n*(m*k):=@Nat.mul_assoc
theorem qak:∀ {α:Type _} {a:α} {x1:List α},(a::x1).length=x1.length+1:=@List.length_cons
theorem qal:∀ (a b c:Int),a*b*c=a*c*b:=@Int.mul_right_comm
theorem qam:∀ {n m:Nat} (k:Nat),n<=m->n*k<=m*k:=@Nat.mul_le_mul_right
theorem qan:∀ {p:Prop} [Decidable p],¬p->Decidable.decide p=Bool.false:=@decide_eq_false
theorem qao:∀ (n:Int),Go.IntKind.u64.wrap n=n % 18446744073709551616:=@IntKind.wrap_u64
theorem qap:∀ (w:Go.World) (o:Go.Obj) {r:Nat},r<w.heap.size->(w.alloc o).heap[r]?=w.heap[r]?:=@heap_alloc_old
theorem qaq:∀ {α:Type _} {a:α} {s t:List α},a ∈ s++t ↔ a ∈ s\/a ∈ t:=@List.mem_append
theorem qar:∀ (n m:Nat),n*m=m*n:=@Nat.mul_comm
theorem qas:∀ {a b:Int},0<=a->0<=b->0<=a*b:=@Int.mul_nonneg
theorem qat:∀ {α:Type _} {a:α} {l:List α},a ∈ a::l:=@List.mem_cons_self
theorem qau:∀ {α:Type _} {l₁ l₂:List α} {i:Nat},i<l₁.length->(l₁++l₂)[i]?=l₁[i]?:=@List.getElem?_append_left
theorem qav:∀ {α:Type _} {i:Nat} {l:List α},(List.take i l).length=Min.min i l.length:=@List.length_take
theorem qaw:∀ {α:Type _} {β:Type _} {f:α->β} {a:α} {l:List α},List.map f (a::l)=f a::List.map f l:=@List.map_cons
theorem qax:∀ {α:Type _} {i:Nat} {l:List α},(List.drop i l).length=l.length - i:=@List.length_drop
theorem qay:∀ {α:Type _} (y:α) {a:α} {l:List α},a ∈ l->a ∈ y::l:=@List.mem_cons_of_mem
theorem qaz:∀ {α:Type _} {l:List α} {n:Nat} (h:n<l.length),l[n] ∈ l:=@List.getElem_mem
theorem qaA:∀ {α:Type _} {β:Type _} {b:β} {f:α->β} {l:List α},b ∈ List.map f l ↔ ∃ a,a ∈ l/\f a=b:=@List.mem_map
theorem qaB:∀ (n m:Nat),n<m\/n>=m:=@Nat.lt_or_ge
theorem qaC:∀ (a b c:Int),(a+b)*c=a*c+b*c:=@Int.add_mul
theorem qaD:∀ (n m k:Nat),(n+m)*k=n*k+m*k:=@Nat.add_mul
theorem qaE:∀ (n:Nat),n*1=n:=@Nat.mul_one
theorem qaF:∀ {p:Prop} [Decidable p],p->Decidable.decide p=Bool.true:=@decide_eq_true
theorem qaG:∀ (a b c:Int),a*b*c=a*(b*c):=@Int.mul_assoc
theorem qaH:∀ (a:Int),a<=a:=@Int.le_refl
theorem qaI:∀ {α:Type _} (x1 bs cs:List α),x1++bs++cs=x1++(bs++cs):=@List.append_assoc
theorem qaJ:∀ {α:Type _} (x1:List α),x1++[]=x1:=@List.append_nil
theorem qaK:∀ {α:Type _} {β:Type _} {x:α} {xs:List α} {f:α->List β},List.flatMap f (x::xs)=f x++List.flatMap f xs:=@List.flatMap_cons
theorem qaL:∀ (w:Go.World) (base:Nat) (e:Go.TypeId) (size:Nat),w.ownsRow base e size (Go.Value.slice Option.none 0 0) 0 []:=@World.ownsRow_nil
theorem qaM:∀ (w:Nat),0<2 ^ w:=@Nat.two_pow_pos
theorem qaN:∀ (a:Int) {b:Int},b ≠ 0->0<=a % b:=@Int.emod_nonneg
theorem qaO:∀ (a:Int) {b:Int},0<b->a % b<b:=@Int.emod_lt_of_pos
theorem qaP:∀ (a b:Int),b*(a / b)+a % b=a:=@Int.mul_ediv_add_emod
theorem qaQ:∀ {α:Type _} {i:Nat} {l:List α},l.length<=i->List.take i l=l:=@List.take_of_length_le
theorem qaR:∀ (n:Nat),0*n=0:=@Nat.zero_mul
theorem qaS:∀ {α:Type _} {β:Type _} {x1:List α} (f:α->β),(List.map f x1).length=x1.length:=@List.length_map
theorem qaT:∀ {α:Type _} {i:Nat} {a:α} {l:List α},l[i]?=Option.some a ↔ ∃ h,l[i]=a:=@List.getElem?_eq_some_iff
theorem qaU:∀ {a b:Nat},a<=b->Min.min a b=a:=@Nat.min_eq_left
theorem qaV:∀ {α:Type _} {β:Type _} {f:α->β} {l₁ l₂:List α},List.map f (l₁++l₂)=List.map f l₁++List.map f l₂:=@List.map_append
theorem qaW:∀ {α:Type _} {l:List α} {i:Nat},List.take (i+1) l=List.take i l++l[i]?.toList:=@List.take_add_one
theorem qaX:∀ {a b c:Int},b*a<=c*a->0<a->b<=c:=@Int.le_of_mul_le_mul_right
theorem qaY:∀ {a b:Int},0<=a->0<=b->0<=a / b:=@Int.ediv_nonneg
theorem qaZ:∀ {α:Type _} {l₁ l₂:List α} {i:Nat},l₁.length<=i->(l₁++l₂)[i]?=l₂[i - l₁.length]?:=@List.getElem?_append_right
theorem qba:∀ {w w':Go.World} {a:Go.Addr},w'.heap[a.block]?=w.heap[a.block]?->w'.cell? a=w.cell? a:=@World.cell?_of_block
theorem qbb:∀ {α:Type _} {l:List α} {i:Nat},l.length<=i->l[i]?=Option.none:=@List.getElem?_eq_none
theorem qbc:∀ {α:Type _} {n:Nat} {a:α},(List.replicate n a).length=n:=@List.length_replicate
theorem qbd:∀ {α:Type _} {l:List α},l.length=0->l=[]:=@List.eq_nil_of_length_eq_zero
theorem qbe:∀ {n:Nat},n>0->∀ {i j:Nat},i<=j->n ^ i<=n ^ j:=@Nat.pow_le_pow_right
theorem qbf:∀ (a b:Int) {c:Int},c ≠ 0->(a+b*c) / c=a / c+b:=@Int.add_mul_ediv_right
theorem qbg:∀ {α:Type _} {a b:α},a ∈ [b] ↔ a=b:=@List.mem_singleton
theorem qbh:∀ {α:Type _} {l:List α},l.length=0 ↔ l=[]:=@List.length_eq_zero_iff
theorem qbi:∀ {α:Type _} {l:List α},0<l.length ↔ l ≠ []:=@List.length_pos_iff
theorem qbj:∀ {α:Type _} {a:α} {x1:List α} {i:Nat},List.take (i+1) (a::x1)=a::List.take i x1:=@List.take_succ_cons
theorem qbk:∀ {n:Nat} {α:Type _} {a:α} {i:Nat},(List.replicate n a)[i]?=if i<n then Option.some a else Option.none:=@List.getElem?_replicate
theorem qbl:∀ {a b:Int},0<=a->a<b->a / b=0:=@Int.ediv_eq_zero_of_lt
theorem qbm:∀ {n m k:Nat},0<m->n*m=k*m->n=k:=@Nat.eq_of_mul_eq_mul_right
theorem qbn:∀ {α:Type _} {a:α} {i:Nat} {l:List α},a ∈ List.drop i l->a ∈ l:=@List.mem_of_mem_drop
theorem qbo:∀ {α:Type _} {i:Nat} {l:List α},l.length<=i->List.drop i l=[]:=@List.drop_of_length_le
theorem qbp:∀ {α:Type _} {x1:List α} {i:Nat},x1.length<=i->List.drop i x1=[]:=@List.drop_eq_nil_of_le
theorem qbq:∀ {n m k:Nat},n<m->k>0->n*k<m*k:=@Nat.mul_lt_mul_of_pos_right
theorem qbr {α:Type _} (a:α):∃ b,a=b:=⟨a,rfl⟩
theorem qbs {α:Type _} (a:α):∃ b,b=a:=⟨a,rfl⟩
theorem ω {p:Prop} (h:p:=by omega):p:=h
theorem γ {p:Prop} (h:p:=by decide):p:=h
theorem δ {p:Prop} (h:p:=by assumption):p:=h
theorem ε {p:Prop} (h:p:=by simp):p:=h
theorem η {p:Prop} (h:p:=by kernel_rfl):p:=h
theorem ζ {p:Prop} (h:p:=by simp;omega):p:=h
theorem θ {p:Prop} (h:p:=by simp only [maxLen];omega):p:=h
theorem ι {p:Prop} (h:p:=by simp [go_sem]):p:=h
theorem κ {p:Prop} (h:p:=by simp [Act.eval]):p:=h
theorem ρ {p:Prop} (h:p:=by first | rfl | kernel_rfl | simp [Act.eval,go_sem]):p:=h
abbrev φ (b o:Nat):Addr:=⟨b,o,none⟩
abbrev ψ (b o l c:Nat):Value:=.slice (some ⟨b,o,none⟩) l c
abbrev χ (v:Value):Ending:=.returned v
abbrev π (v:Array Value):Ending:=.returned (.tuple v)
end Go.Proofs.YtaemofgeciklkaaGreat
