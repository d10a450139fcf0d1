/- Lists of entries, and lists of them, in memory. -/
import Derived.Deep.AppendLies
import Derived.Deep.RegionLaw
import Derived.Laws.StructEq
import Derived.Test.YtklkpldicbkjeaaGreatVGPlain
set_option linter.unusedVariables false
set_option maxHeartbeats 2000000
open Go.Proofs.Tryz
namespace Go.Proofs.YtklkpldicbkjeaaGreat
open Go.RowKit
structure ah where
 k:Int
 v:Int
 g:Bool
def aF:ah:=⟨0,0,false⟩
def ah.ok (e:ah):Prop:=(0<=e.k/\e.k<18446744073709551616)/\(0<=e.v/\e.v<18446744073709551616)
def bB (e:ah):List Value:=[.int .u64 e.k,.int .u64 e.v,.bool e.g]
def EL (w:World) (ao:Option Addr) (l:List ah):Prop:=ES w ao l.length (fun i=>(l.getD i aF).k) (fun i=>(l.getD i aF).v) (fun i=>(l.getD i aF).g)
theorem EL.gw {w w':World} {ao:Option Addr} {l:List ah} (h:EL w ao l) (g:Gw w w'):EL w' ao l:=ES.gw h g
theorem EL.ok {w:World} {ao:Option Addr} {l:List ah} (h:EL w ao l) {i:Nat} (hi:i<l.length):(l.getD i aF).ok:=h.bd i hi
theorem EL.all {w:World} {ao:Option Addr} {l:List ah} (h:EL w ao l):∀ e∈l,e.ok:=by
 intro e he;obtain ⟨i,hi,rfl⟩:=List.mem_iff_getElem.1 he;have:=h.ok hi;rwa [show l.getD i aF=l[i] by simp [List.getD,hi]] at this
theorem qU (e:ah):∀ u∈bB e,u.oneCell'=true:=by
 intro u hu;simp only [bB,List.mem_cons,List.not_mem_nil,or_false] at hu;rcases hu with rfl | rfl | rfl<;>rfl
def EO (w:World) (base:Nat) (v:Value) (l:List ah):Prop:=w.ownsRow base 40 3 v l.length (l.flatMap bB)
theorem DK {w w':World} {base:Nat} {v:Value} {l:List ah} (h:EO w base v l) (k:∀ q,v.ownBlock=some q->w'.heap[q]?=w.heap[q]?):EO w' base v l:=by
 refine ⟨h.1,?_⟩;rcases h.2 with q | ⟨b,cap,cur,rfl,hb,hh,r⟩
 ·exact .inl q
 ·exact .inr ⟨b,cap,cur,rfl,hb,(k b rfl).trans hh,r⟩
theorem vI {w w':World} {base:Nat} {v:Value} {l:List ah} (h:EO w base v l) (g:Gw w w'):EO w' base v l:=DK h fun q hq=>g.below.block q (World.ownsRow.lt h q hq).2
theorem Nn {w:World} {base ph:Nat} {v:Value} {l:List ah} (h:EO w base v l) (hb:ph<=base):EO w ph v l:=by
 refine ⟨h.1,?_⟩;rcases h.2 with q | ⟨b,cap,cur,rfl,hg,r⟩
 ·exact .inl q
 ·exact .inr ⟨b,cap,cur,rfl,Nat.le_trans hb hg,r⟩
theorem zE:∀ (l:List ah) (i:Nat),i<l.length->∀ j,j<3->(l.flatMap bB)[i*3+j]?=(bB (l.getD i aF))[j]?:=by
 intro l;induction l with
 | nil=>intro i hi;simp at hi
 | cons s l ih =>
  intro i hi j hj;rw [List.flatMap_cons];cases i with
  | zero =>
   rw [Nat.zero_mul,Nat.zero_add,List.getElem?_append_left (by show j<3;exact hj)]
   rfl
  | succ i =>
   have e:(i+1)*3+j=i*3+j+3:=by omega
   rw [e,List.getElem?_append_right (by show 3<=_;omega),show i*3+j+3-(bB s).length=i*3+j by show i*3+j+3-3=_;omega]
   exact ih i (by simpa using hi) j hj
theorem vJ {w:World} {base:Nat} {ao:Option Addr} {c:Nat} {l:List ah} (h:EO w base (.slice ao l.length c) l) (ok:∀ e∈l,e.ok):EL w ao l:=by
 refine ⟨fun h0=>?_,fun i hi=>?_⟩
 ·rcases h.2 with ⟨_,z⟩ | ⟨b,cap,cur,e,hb,hh,r⟩
  ·omega
  ·injection e with e1 e2 e3
   subst e1 e3;have c':∀ i,i<l.length->∀ j,j<3->w.cell? ⟨b,i*3+j,none⟩=(bB (l.getD i aF))[j]?:=fun i hi j hj=>by
    have:=World.ownsRow.cellAt h (i*3+j) (by omega)
    rw [this];exact zE l i hi j hj
   refine ⟨b,0,rfl,(Array.getElem?_eq_some_iff.1 hh).1,fun i hi=>?_⟩
   rw [Nat.zero_add];exact ⟨c' i hi 0 (by decide),c' i hi 1 (by decide),c' i hi 2 (by decide)⟩
 ·have:l.getD i aF=l[i]:=by simp [List.getD,hi]
  show (l.getD i aF).ok;rw [this];exact ok _ (List.getElem_mem hi)
theorem tI (w:World) (e:ah):∀ j u,(bB e)[j]?=some u->(w.alloc (.cells #[.int .u64 e.k,.int .u64 e.v,.bool e.g] 40)).cell? ((⟨w.heap.size,0,none⟩:Addr).add j)=some u:=by
 intro j u hu
 match j,hu with
 | 0,hu=>simp [bB] at hu;subst hu;simp [Addr.add,go_sem]
 | 1,hu=>simp [bB] at hu;subst hu;simp [Addr.add,go_sem]
 | 2,hu=>simp [bB] at hu;subst hu;simp [Addr.add,go_sem]
 | j+3,hu=>simp [bB] at hu
theorem Np (w:World) (base:Nat) (hb:base<=w.heap.size):EO (w.alloc (.cells #[] 40)) base (.slice (some ⟨w.heap.size,0,none⟩) 0 0) []:=World.ownsRow_made w #[] 0 hb (Nat.zero_le _) rfl
theorem zF {w:World} {base:Nat} {v:Value} {l:List ah} {e:ah} (h:w.ownsRow base 40 3 v (l.length+1) (l.flatMap bB++bB e)):EO w base v (l++[e]):=by
 show World.ownsRow _ _ _ _ _ _ _;rw [List.length_append,List.flatMap_append];simpa using h
structure EV (w:World) (ao:Option Addr) (L:List (List ah)):Prop where
 cells:0<L.length->∃ b off,ao=some ⟨b,off,none⟩/\b<w.heap.size/\∀ i,i<L.length->∃ bo c,w.cell? ⟨b,off+i,none⟩=some (.slice bo (L.getD i []).length c)/\(L.getD i []).length<=c/\EL w bo (L.getD i [])/\(bo=none->(L.getD i []).length=0/\c=0)
theorem EV.gw {w w':World} {ao:Option Addr} {L:List (List ah)} (h:EV w ao L) (g:Gw w w'):EV w' ao L :=
 ⟨fun h0=>by
  obtain ⟨b,off,e,hb,hc⟩:=h.cells h0;refine ⟨b,off,e,Nat.lt_of_lt_of_le hb g.size,fun i hi=>?_⟩
  obtain ⟨bo,c,h1,h2,h3,h4⟩:=hc i hi;exact ⟨bo,c,(g.cell _ _ hb).trans h1,h2,h3.gw g,h4⟩⟩
def mB (n:Nat) (f:Nat->Int) (k:Int):Bool:=(List.range n).any fun i=>f i == k
def dK (n:Nat) (f:Nat->Int) (e:ah):Bool:=!e.g||mB n f e.k
theorem aaP (ao:Option Addr) (n c:Nat) (f:Nat->Int) (q:Int) (hn:n<=4000000) (w:World) (h:KS w ao n f) :
  Calls prog 69 #[.slice ao n c,.int .u64 q] w fun e w'=>e=.returned (.bool (mB n f q))/\w'=w:=by
 have HK:ag _:=h;clear h;go_enter func69,ntmps69;go_wp2_with fail;go_loopg [5] n (fun gg s wr=>∃ i:Nat,s=.int .i64 (i:Int)/\i<=n/\n-i<=gg/\ag (∀ j,j<i->f j≠q)/\wr=w)
 case atStart=>exact ⟨0,rfl,Nat.zero_le _,by omega,(show ag _ from fun j hj=>by omega),rfl⟩
 case round =>
  obtain ⟨i,rfl,a1,a2,NO,rfl⟩:=hrel;by_cases ak:i<n
  ·have dG:(i:Int)<(n:Int):=by omega
   obtain ⟨lb,ku,rfl,fs,bP⟩:=HK.o.cells (by omega)
   have kc:=bP i ak;clear bP;by_cases e:f i=q
   ·have nQ:ag (mB n f q=true):=by
     show _=_;unfold mB;rw [List.any_eq_true];exact ⟨i,List.mem_range.2 ak,by simpa using e⟩
    have e':(f i == q)=true:=by simpa using e
    generalize f i=fi at kc e';clear e;go_wp2_with fail;go_ret;exact ⟨by rw [nQ.o];rfl,rfl⟩
   ·have NO':ag (∀ j,j<i+1->f j≠q):=fun j hj=>by
     by_cases x:j=i
     ·rw [x];exact e
     ·exact NO.o j (by omega)
    have e':(f i == q)=false:=by simpa using e
    generalize f i=fi at kc e';clear e NO;go_wp2_with fail;go_roundg (n-(i+1))
    case measure=>omega
    case rel=>exact ⟨i+1,by go_num,by omega,Nat.le_refl _,NO',rfl⟩
  ·have ei:i=n:=by omega
   subst ei;have NOT:ag (mB i f q=false):=by
    show _=_;unfold mB;rw [List.any_eq_false];intro j hj;have:=NO.o j (List.mem_range.1 hj);simpa using this
   go_wp2_with fail;go_ret
   exact ⟨by rw [NOT.o];rfl,rfl⟩
theorem aaQ (ao:Option Addr) (c:Nat) (l:List ah) (qo:Option Addr) (qn qc:Nat) (qf:Nat->Int) (hn:l.length<=4000000) (hqn:qn<=4000000) (w:World) (h:EL w ao l) (hq:KS w qo qn qf) :
  Calls prog 37 #[.slice ao l.length c,.slice qo qn qc] w fun e w'=>(∃ ob oc,e=.returned (.slice (some ⟨ob,0,none⟩) (l.filter (dK qn qf)).length oc)/\EO w' w.heap.size (.slice (some ⟨ob,0,none⟩) (l.filter (dK qn qf)).length oc) (l.filter (dK qn qf)))/\Gw w w':=by
 have HE:ag _:=h;have LV:ag (∀ W,Gw w W->∀ q:Int,Calls prog 69 #[.slice qo qn qc,.int .u64 q] W fun e w'=>e=.returned (.bool (mB qn qf q))/\w'=W):=fun W gg q=>aaP qo qn qc qf q hqn W (hq.gw gg)
 obtain ⟨n,aA⟩:∃ n,l.length=n:=⟨_,rfl⟩;have LN:ag _:=aA;rw [aA] at hn ⊢;clear h hq aA;obtain ⟨ii,aM,hz,hs,aL⟩:=info_parts qN;have E1:ag (EO (w.alloc (.cells #[] 40)) w.heap.size (.slice (some ⟨w.heap.size,0,none⟩) 0 0) []):=Np w _ (Nat.le_refl _);have G1:ag (Gw w (w.alloc (.cells #[] 40))):=(Gw.refl w).alloc _ _;go_enter func37,ntmps37;go_wp2_with fail;generalize w.alloc (.cells #[] 40)=w1 at E1 G1 ⊢;go_loopg [5,6] n (fun gg s5 s6 wr=>∃ (i m ob oc:Nat),s5=.slice (some ⟨ob,0,none⟩) m oc/\s6=.int .i64 (i:Int)/\i<=n/\n-i<=gg/\m<=i/\ag (((l.take i).filter (dK qn qf)).length=m)/\ag (EO wr w.heap.size (.slice (some ⟨ob,0,none⟩) m oc) ((l.take i).filter (dK qn qf)))/\ag (Gw w wr))
 case atStart=>exact ⟨0,0,w.heap.size,0,rfl,rfl,Nat.zero_le _,by omega,Nat.le_refl _,(by show _=_;simp),(by show EO _ _ _ _;simpa using E1.o),G1⟩
 case round =>
  clear E1 G1;obtain ⟨i,m,ob,oc,rfl,rfl,a1,a2,a3,ML,E,G⟩:=hrel;by_cases ak:i<n
  ·have dG:(i:Int)<(n:Int):=by omega
   obtain ⟨lb,ku,rfl,fs,bP⟩:=(ES.gw HE.o G.o).cells (by rw [LN.o];omega)
   obtain ⟨c0,c1,c2⟩:=bP i (by rw [LN.o];exact ak)
   have TK:ag ((l.take (i+1)).filter (dK qn qf)=(l.take i).filter (dK qn qf)++(if dK qn qf (l.getD i aF)=true then [l.getD i aF] else [])):=by
    show _=_;have e:l.take (i+1)=l.take i++[l.getD i aF]:=by
     rw [List.take_add_one,List.getElem?_eq_getElem (by rw [LN.o];exact ak),List.getD_eq_getElem?_getD,List.getElem?_eq_getElem (by rw [LN.o];exact ak)];rfl
    rw [e,List.filter_append,List.filter_cons];split<;>rfl
   obtain ⟨x,hx⟩:∃ x,l.getD i aF=x:=⟨_,rfl⟩;rw [hx] at c0 c1 c2 TK;obtain ⟨xk,xv,xg⟩:=x;have d0:wr.cell? ⟨lb,ku+i*3,none⟩=some (.int .u64 xk):=c0;have d1:wr.cell? ⟨lb,ku+i*3+1,none⟩=some (.int .u64 xv):=c1;have d2:wr.cell? ⟨lb,ku+i*3+2,none⟩=some (.bool xg):=c2;have py:ag (wr.ownsRow w.heap.size 40 3 (.slice (some ⟨ob,0,none⟩) m oc) m (((l.take i).filter (dK qn qf)).flatMap bB)):=by
    have:=E.o
    unfold EO at this;rw [ML.o] at this;exact this
   have wz:=G.o.size;clear bP c0 c1 c2 hx;have fJ:ag (dK qn qf ⟨xk,xv,xg⟩=false->((l.take (i+1)).filter (dK qn qf))=(l.take i).filter (dK qn qf)):=fun q=>by
    rw [TK.o,if_neg (by rw [q];decide),List.append_nil]
   have nW:ag (dK qn qf ⟨xk,xv,xg⟩=true->((l.take (i+1)).filter (dK qn qf))=(l.take i).filter (dK qn qf)++[⟨xk,xv,xg⟩]):=fun q=>by
    rw [TK.o,if_pos q]
   clear TK;obtain ⟨kp,qV⟩:∃ kp,mB qn qf xk=kp:=⟨_,rfl⟩;have KP:ag (dK qn qf ⟨xk,xv,xg⟩=(!xg||kp)):=by show _=_;rw [<-qV];rfl
   have qW:=fun W gg=>LV.o W gg xk
   rw [qV] at qW;have nX:ag _:=qW;clear qW qV;have aJ:ag (∀ (v':Value) (w5:World),dK qn qf ⟨xk,xv,xg⟩=true->w5.ownsRow w.heap.size 40 3 v' (m+1) (((l.take i).filter (dK qn qf)).flatMap bB++bB ⟨xk,xv,xg⟩)->EO w5 w.heap.size v' ((l.take (i+1)).filter (dK qn qf))/\((l.take (i+1)).filter (dK qn qf)).length=m+1):=fun v' w5 q r=>by
    rw [nW.o q];refine ⟨zF ?_,?_⟩
    ·rw [ML.o];exact r
    ·rw [List.length_append,ML.o];rfl
   cases xg with
   | false =>
    go_wp2_with (at_builtin;refine wpList_append_own _ rfl _ _ 35 rfl w.heap.size 40 ii (.agg #[.int .u64 0,.int .u64 0,.bool false]) 3 24 underlying35 aM hz hs aL rfl (by decide) _ m _ rfl (py.o.alloc _) ⟨wr.heap.size,0,none⟩ 1 1 (bB ⟨xk,xv,false⟩) rfl rfl (tI wr ⟨xk,xv,false⟩) (qU _) (by simp only [maxLen];omega) (by omega) (by simp;omega) ?_)
    intro v' w5 r1 r2 r3;obtain ⟨b5,dw,rfl,dH,_,_⟩:=cS r1 (by simpa using r3)
    obtain ⟨f1,f2⟩:=aJ.o _ w5 (by rw [KP.o];rfl) r1
    have E5:ag _:=f1;have M5:ag _:=f2;have G5:ag (Gw w w5):=(G.o.alloc _ _).grown r2 (fun q hq=>(World.ownsRow.lt py.o q hq).1)
    clear r1 r2 r3 f1 f2 E py aJ nW fJ nX d0 d1 d2;go_wp2_with fail;go_roundg (n-(i+1))
    case measure=>omega
    case rel=>exact ⟨i+1,m+1,b5,dw,rfl,by go_num,by omega,Nat.le_refl _,by omega,M5,E5,G5⟩
   | true =>
    go_wp2_with fail;refine Calls.mono (nX.o _ G.o) ?_
    rintro e w3 ⟨rfl,e3⟩;have e4:=e3.symm;subst e4;clear e3;cases kp with
    | true =>
     go_wp2_with (at_builtin;refine wpList_append_own _ rfl _ _ 35 rfl w.heap.size 40 ii (.agg #[.int .u64 0,.int .u64 0,.bool false]) 3 24 underlying35 aM hz hs aL rfl (by decide) _ m _ rfl (py.o.alloc _) ⟨wr.heap.size,0,none⟩ 1 1 (bB ⟨xk,xv,true⟩) rfl rfl (tI wr ⟨xk,xv,true⟩) (qU _) (by simp only [maxLen];omega) (by omega) (by simp;omega) ?_)
     intro v' w5 r1 r2 r3;obtain ⟨b5,dw,rfl,dH,_,_⟩:=cS r1 (by simpa using r3)
     obtain ⟨f1,f2⟩:=aJ.o _ w5 (by rw [KP.o];rfl) r1
     have E5:ag _:=f1;have M5:ag _:=f2;have G5:ag (Gw w w5):=(G.o.alloc _ _).grown r2 (fun q hq=>(World.ownsRow.lt py.o q hq).1)
     clear r1 r2 r3 f1 f2 E py aJ nW fJ nX d0 d1 d2;go_wp2_with fail;go_roundg (n-(i+1))
     case measure=>omega
     case rel=>exact ⟨i+1,m+1,b5,dw,rfl,by go_num,by omega,Nat.le_refl _,by omega,M5,E5,G5⟩
    | false =>
     have ST:=fJ.o (by rw [KP.o];rfl)
     have E5:ag (EO wr w.heap.size (.slice (some ⟨ob,0,none⟩) m oc) ((l.take (i+1)).filter (dK qn qf))):=by rw [ST];exact E.o
     have M5:ag (((l.take (i+1)).filter (dK qn qf)).length=m):=by rw [ST];exact ML.o
     clear ST aJ nW fJ nX;go_wp2_with fail;go_roundg (n-(i+1))
     case measure=>omega
     case rel=>exact ⟨i+1,m,ob,oc,rfl,by go_num,by omega,Nat.le_refl _,by omega,M5,E5,G⟩
  ·have ei:i=n:=by omega
   subst ei;have TT:l.take i=l:=List.take_of_length_le (by rw [LN.o];exact Nat.le_refl _)
   rw [TT] at ML E;have vK:ag _:=ML;have E2:ag (EO wr w.heap.size (.slice (some ⟨ob,0,none⟩) (l.filter (dK qn qf)).length oc) (l.filter (dK qn qf))):=by
    rw [vK.o];exact E.o
   clear ML E TT;go_wp2_with fail;refine bodyPost_ret (v:=.slice (some ⟨ob,0,none⟩) m oc) (by simp [results,results37,go_sem]) rfl ⟨⟨ob,oc,by rw [vK.o],E2.o⟩,G.o⟩
theorem aaR {P:Program} (w:World) (t ty:TypeId) (base:Nat) (e:TypeId) (i:TypeInfo) (z:Value) (size bytes:Nat) (ht:P.underlying t=some (.slice e)) (hi:P.info? e=some i) (hz:i.zero=some z)
  (nj:i.size=size) (aL:i.bytes=bytes) (nk:z.cells.size=size) (bZ:0<size)
  (k n bH:Nat) (xs:List Value) (iP:w.ownsRow base e size (.slice (some ⟨k,0,none⟩) n bH) n xs)
  (ao:Option Addr) (m c:Nat) (news:List Value) (uz:ao=none->m=0/\c=0) (hl:news.length=m*size) (nu:∀ ad,ao=some ad->∀ j u,news[j]?=some u->w.cell? (ad.add j)=some u) (h1:∀ u∈news,u.oneCell'=true)
  (nA:n+m<=maxLen) (nB:(n+m)*bytes<=140737488355328) (nC:base<=w.heap.size) :
  ∃ g cap w',(Builtin.append_ #[t,t] ty #[.slice (some ⟨k,0,none⟩) n bH,.slice ao m c]).run P w=.ok (.slice (some ⟨g,0,none⟩) (n+m) cap) w' /\
   w'.ownsRow base e size (.slice (some ⟨g,0,none⟩) (n+m) cap) (n+m) (xs++news)/\w.grownBy w' (some k)/\(g=k\/g=w.heap.size)/\g<w'.heap.size:=by
 cases ao with
 | some ad =>
  obtain ⟨v',w',hr,h2,h3,h4,h5⟩:=run_append_own_at (P:=P) w base t ty e i z size bytes ht hi hz nj aL nk bZ (.slice (some ⟨k,0,none⟩) n bH) n xs iP ad m c news hl (nu ad rfl) h1 nA nB nC;obtain ⟨g,cap,rfl,_,_,ak⟩:=cS h2 (fun q=>by have:=(h4.1 q).1;cases this)
  refine ⟨g,cap,w',hr,h2,h3,?_,ak⟩;rcases h5 with h5 | h5
  ·left;cases h5;rfl
  ·right;cases h5;rfl
 | none =>
  obtain ⟨rfl,rfl⟩:=uz rfl;have hn:news=[]:=List.eq_nil_of_length_eq_zero (by simpa using hl)
  subst hn;exact ⟨k,bH,w,run_append_owned_none (P:=P) w base t ty e i size ht hi _ n xs iP,by simpa using iP,World.grownBy.refl _ _,.inl rfl,(iP.lt k rfl).2⟩
theorem Nq {P:Program} (w:World) {ops:Array Oper} {o:Oper} {a:Act} {K:Act->World->Prop} {Q:Exit->Act->World->Prop} {E:Prop} (oG:o.guard=none) (s x:Operand) (t:TypeId)
  (ho:o.op=.call { callee:=.builtin .append,args:=#[s,x],argTypes:=#[t,t] })
  (base:Nat) (e:TypeId) (i:TypeInfo) (z:Value) (size bytes:Nat) (ht:P.underlying t=some (.slice e)) (hi:P.info? e=some i) (hz:i.zero=some z)
  (nj:i.size=size) (aL:i.bytes=bytes) (nk:z.cells.size=size) (bZ:0<size)
  (k n bH:Nat) (xs:List Value) (hs:a.eval s=.slice (some ⟨k,0,none⟩) n bH) (iP:w.ownsRow base e size (.slice (some ⟨k,0,none⟩) n bH) n xs)
  (ao:Option Addr) (m c:Nat) (news:List Value) (hx:a.eval x=.slice ao m c) (uz:ao=none->m=0/\c=0) (hl:news.length=m*size) (nu:∀ ad,ao=some ad->∀ j u,news[j]?=some u->w.cell? (ad.add j)=some u) (h1:∀ u∈news,u.oneCell'=true)
  (nA:n+m<=maxLen) (nB:(n+m)*bytes<=140737488355328) (nC:base<=w.heap.size)
  (h:∀ g cap w',w'.ownsRow base e size (.slice (some ⟨g,0,none⟩) (n+m) cap) (n+m) (xs++news)->w.grownBy w' (some k)->(g=k\/g=w.heap.size)->g<w'.heap.size->K (a.put o.dst (.slice (some ⟨g,0,none⟩) (n+m) cap)) w') :
  if Region.wanted o (yielded ops a.tmps)=true then Oper.wp P o a w K Q else E:=by
 have hw:Region.wanted o (yielded ops a.tmps)=true:=by simp [Region.wanted,oG]
 rw [if_pos hw];obtain ⟨g,cap,w',hr,h2,h3,h4,h5⟩:=aaR (P:=P) w t o.type base e i z size bytes ht hi hz nj aL nk bZ k n bH xs iP ao m c news uz hl nu h1 nA nB nC;unfold Oper.wp execOp;simp only [ho,resolve,invoke,builtin,Sem.run_bind,Sem.run_pure,Result.andThen_ok,List.map_toArray,List.map_cons,List.map_nil,hs,hx,hr];exact h g cap w' h2 h3 h4 h5
theorem DL {l:List ah}:dA ah.k l↔Up (fun i=>(l.getD i aF).k) l.length:=by
 constructor
 ·intro h i hi
  have:=(List.pairwise_iff_getElem.1 h) i (i+1) (by omega) hi (by omega)
  have e1:l.getD i aF=l[i]:=by simp [List.getD,show i<l.length by omega]
  have e2:l.getD (i+1) aF=l[i+1]:=by simp [List.getD,hi]
  show (l.getD i aF).k<(l.getD (i+1) aF).k;rw [e1,e2];exact this
 ·intro u
  refine List.pairwise_iff_getElem.2 fun i j hi hj jI=>?_
  have this:(l.getD i aF).k<(l.getD j aF).k:=u.lt jI hj;have e1:l.getD i aF=l[i]:=by simp [List.getD,hi]
  have e2:l.getD j aF=l[j]:=by simp [List.getD,hj]
  rw [e1,e2] at this;exact this
def e77:ah:=⟨77,77,false⟩
theorem Ns:∀ l:List ah,(l.flatMap bB).length=l.length*3:=by
 intro l;induction l with
 | nil=>rfl
 | cons s l ih=>rw [List.flatMap_cons,List.length_append,ih,List.length_cons];show 3+l.length*3=_;omega
theorem aaS (l:List ah):∀ u∈l.flatMap bB,u.oneCell'=true:=by
 intro u hu;obtain ⟨e,_,h⟩:=List.mem_flatMap.1 hu;exact qU e u h
theorem aaT {w:World} {ao:Option Addr} {l:List ah} (h:EL w ao l):∀ ad,ao=some ad->∀ j u,(l.flatMap bB)[j]?=some u->w.cell? (ad.add j)=some u:=by
 intro ad e j u hu;have hj:j<l.length*3:=by
  have:=(List.getElem?_eq_some_iff.1 hu).1
  rwa [Ns] at this
 obtain ⟨b,off,e',_,hc⟩:=h.cells (by omega)
 rw [e] at e';cases e';rw [Addr.add_lit];have hi:j/3<l.length:=by omega
 obtain ⟨c0,c1,c2⟩:=hc (j/3) hi;have fe:=zE l (j/3) hi (j%3) (by omega)
 rw [show j/3*3+j%3=j by omega,hu] at fe
 have hr:j%3=0\/j%3=1\/j%3=2:=by omega
 rcases hr with r | r | r
 ·rw [r] at fe
  rw [show off+j=off+j/3*3 by omega]
  exact c0.trans fe.symm
 ·rw [r] at fe
  rw [show off+j=off+j/3*3+1 by omega]
  exact c1.trans fe.symm
 ·rw [r] at fe
  rw [show off+j=off+j/3*3+2 by omega]
  exact c2.trans fe.symm
theorem Nt {l:List ah} {e:ah} {i:Nat} (hi:i<l.length):(l++[e]).getD i aF=l.getD i aF:=by
 rw [List.getD_eq_getElem?_getD,List.getElem?_append_left hi,<-List.getD_eq_getElem?_getD]
theorem EL.front {w:World} {ao:Option Addr} {l:List ah} {e:ah} (h:EL w ao (l++[e])):EL w ao l:=by
 have hl:(l++[e]).length=l.length+1:=by simp
 refine ⟨fun h0=>?_,fun i hi=>?_⟩
 ·obtain ⟨b,off,q,hb,hc⟩:=h.cells (by omega)
  refine ⟨b,off,q,hb,fun i hi=>?_⟩
  have:=hc i (by omega)
  rw [Nt hi] at this;exact this
 ·have:=h.bd i (by omega)
  rw [Nt hi] at this;exact this
theorem EL.keep {w w':World} {rb:Nat} {l:List ah} (h:EL w (some ⟨rb,0,none⟩) l) (hb:rb<w'.heap.size) (k:w'.heap[rb]?=w.heap[rb]?):EL w' (some ⟨rb,0,none⟩) l :=
 ⟨fun h0=>by
  obtain ⟨b,off,e,_,hc⟩:=h.cells h0;cases e;refine ⟨rb,0,rfl,hb,fun i hi=>?_⟩
  have:=hc i hi
  simp only [World.cell?] at this ⊢;rw [k];exact this,h.bd⟩
structure EX (w:World) (ao:Option Addr) (L:List (List ah)):Prop where
 cells:0<L.length->∃ b off,ao=some ⟨b,off,none⟩/\b<w.heap.size/\∀ i,i<L.length->∃ bo c,w.cell? ⟨b,off+i,none⟩=some (.slice bo (L.getD i []).length c)/\(L.getD i []).length+1<=c/\EL w bo (L.getD i []++[e77])
theorem Nu:(prog.info? 35).map (fun i=>(i.zero,i.size,i.bytes))=some (some (.slice none 0 0),1,24):=by kernel_rfl
theorem Nv {w w':World} {base e size n:Nat} {v:Value} {xs:List Value} (h:w.ownsRow base e size v n xs) (g:Gw w w'):w'.ownsRow base e size v n xs:=by
 refine ⟨h.1,?_⟩;rcases h.2 with q | ⟨b,cap,cur,rfl,hb,hh,r⟩
 ·exact .inl q
 ·exact .inr ⟨b,cap,cur,rfl,hb,(g.below.block b (Array.getElem?_eq_some_iff.1 hh).1).trans hh,r⟩
theorem zG (w:World) (x:Value) (t:TypeId):∀ j u,[x][j]?=some u->(w.alloc (.cells #[x] t)).cell? ((⟨w.heap.size,0,none⟩:Addr).add j)=some u:=by
 intro j u hu;cases j with
 | zero =>
  simp only [List.getElem?_cons_zero,Option.some.injEq] at hu;subst hu;simp [Addr.add,go_sem]
 | succ j=>simp at hu
end Go.Proofs.YtklkpldicbkjeaaGreat
