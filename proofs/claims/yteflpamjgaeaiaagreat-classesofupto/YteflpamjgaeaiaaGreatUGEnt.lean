/- Lists of entries, and lists of them, in memory. -/
import Derived.Deep.AppendLies
import Derived.Deep.RegionLaw
import Derived.Laws.StructEq
import Derived.Lib.SmallJoins
import Derived.OpenShut
import Derived.Test.YteflpamjgaeaiaaGreatUGPlain
set_option linter.unusedVariables false
set_option maxHeartbeats 2000000
set_option maxRecDepth 10000
open Go.Proofs.Tryz
namespace Go.Proofs.YteflpamjgaeaiaaGreat
open Go.RowKit
structure Ent where
 k:Int
 v:Int
 g:Bool
def ent0:Ent:=⟨0,0,false⟩
def Ent.ok (e:Ent):Prop:=(0<=e.k/\e.k<18446744073709551616)/\(0<=e.v/\e.v<18446744073709551616)
def ent3 (e:Ent):List Value:=[.int .u64 e.k,.int .u64 e.v,.bool e.g]
def EL (w:World) (ao:Option Addr) (l:List Ent):Prop:=ES w ao l.length (fun i=>(l.getD i ent0).k) (fun i=>(l.getD i ent0).v) (fun i=>(l.getD i ent0).g)
theorem EL.gw {w w':World} {ao:Option Addr} {l:List Ent} (h:EL w ao l) (g:Gw w w'):EL w' ao l:=ES.gw h g
theorem EL.ok {w:World} {ao:Option Addr} {l:List Ent} (h:EL w ao l) {i:Nat} (hi:i<l.length):(l.getD i ent0).ok:=h.bd i hi
theorem EL.all {w:World} {ao:Option Addr} {l:List Ent} (h:EL w ao l):∀ e∈l,e.ok:=by
 intro e he;obtain ⟨i,hi,rfl⟩:=List.mem_iff_getElem.1 he;have:=h.ok hi;rwa [show l.getD i ent0=l[i] by simp [List.getD,hi]] at this
theorem ent3_one (e:Ent):∀ u∈ent3 e,u.oneCell'=true:=by
 intro u hu;simp only [ent3,List.mem_cons,List.not_mem_nil,or_false] at hu;rcases hu with rfl | rfl | rfl<;>rfl
def EO (w:World) (base:Nat) (v:Value) (l:List Ent):Prop:=w.ownsRow base 40 3 v l.length (l.flatMap ent3)
theorem eo_keep {w w':World} {base:Nat} {v:Value} {l:List Ent} (h:EO w base v l) (k:∀ q,v.ownBlock=some q->w'.heap[q]?=w.heap[q]?):EO w' base v l:=by
 refine ⟨h.1,?_⟩;rcases h.2 with q | ⟨b,cap,cur,rfl,hb,hh,r⟩
 ·exact .inl q
 ·exact .inr ⟨b,cap,cur,rfl,hb,(k b rfl).trans hh,r⟩
theorem eo_gw {w w':World} {base:Nat} {v:Value} {l:List Ent} (h:EO w base v l) (g:Gw w w'):EO w' base v l:=eo_keep h fun q hq=>g.below.block q (World.ownsRow.lt h q hq).2
theorem eo_base {w:World} {base base':Nat} {v:Value} {l:List Ent} (h:EO w base v l) (hb:base'<=base):EO w base' v l:=by
 refine ⟨h.1,?_⟩;rcases h.2 with q | ⟨b,cap,cur,rfl,hg,r⟩
 ·exact .inl q
 ·exact .inr ⟨b,cap,cur,rfl,Nat.le_trans hb hg,r⟩
theorem flat_e:∀ (l:List Ent) (i:Nat),i<l.length->∀ j,j<3->(l.flatMap ent3)[i*3+j]?=(ent3 (l.getD i ent0))[j]?:=by
 intro l;induction l with
 | nil=>intro i hi;simp at hi
 | cons s l ih =>
  intro i hi j hj;rw [List.flatMap_cons];cases i with
  | zero =>
   rw [Nat.zero_mul,Nat.zero_add,List.getElem?_append_left (by show j<3;exact hj)]
   rfl
  | succ i =>
   have e:(i+1)*3+j=i*3+j+3:=by omega
   rw [e,List.getElem?_append_right (by show 3<=_;omega),show i*3+j+3-(ent3 s).length=i*3+j by show i*3+j+3-3=_;omega]
   exact ih i (by simpa using hi) j hj
theorem eo_el {w:World} {base:Nat} {ao:Option Addr} {c:Nat} {l:List Ent} (h:EO w base (.slice ao l.length c) l) (ok:∀ e∈l,e.ok):EL w ao l:=by
 refine ⟨fun h0=>?_,fun i hi=>?_⟩
 ·rcases h.2 with ⟨_,z⟩ | ⟨b,cap,cur,e,hb,hh,r⟩
  ·omega
  ·injection e with e1 e2 e3
   subst e1 e3;have c':∀ i,i<l.length->∀ j,j<3->w.cell? ⟨b,i*3+j,none⟩=(ent3 (l.getD i ent0))[j]?:=fun i hi j hj=>by
    have:=World.ownsRow.cellAt h (i*3+j) (by omega)
    rw [this];exact flat_e l i hi j hj
   refine ⟨b,0,rfl,(Array.getElem?_eq_some_iff.1 hh).1,fun i hi=>?_⟩
   rw [Nat.zero_add];exact ⟨c' i hi 0 (by decide),c' i hi 1 (by decide),c' i hi 2 (by decide)⟩
 ·have:l.getD i ent0=l[i]:=by simp [List.getD,hi]
  show (l.getD i ent0).ok;rw [this];exact ok _ (List.getElem_mem hi)
theorem new_ent (w:World) (e:Ent):∀ j u,(ent3 e)[j]?=some u->(w.alloc (.cells #[.int .u64 e.k,.int .u64 e.v,.bool e.g] 40)).cell? ((⟨w.heap.size,0,none⟩:Addr).add j)=some u:=by
 intro j u hu
 match j,hu with
 | 0,hu=>simp [ent3] at hu;subst hu;simp [Addr.add,go_sem]
 | 1,hu=>simp [ent3] at hu;subst hu;simp [Addr.add,go_sem]
 | 2,hu=>simp [ent3] at hu;subst hu;simp [Addr.add,go_sem]
 | j+3,hu=>simp [ent3] at hu
theorem eo_new (w:World) (base:Nat) (hb:base<=w.heap.size):EO (w.alloc (.cells #[] 40)) base (.slice (some ⟨w.heap.size,0,none⟩) 0 0) []:=World.ownsRow_made w #[] 0 hb (Nat.zero_le _) rfl
theorem eo_more {w:World} {base:Nat} {v:Value} {l:List Ent} {e:Ent} (h:w.ownsRow base 40 3 v (l.length+1) (l.flatMap ent3++ent3 e)):EO w base v (l++[e]):=by
 show World.ownsRow _ _ _ _ _ _ _;rw [List.length_append,List.flatMap_append];simpa using h
structure EV (w:World) (ao:Option Addr) (L:List (List Ent)):Prop where
 cells:0<L.length->∃ b off,ao=some ⟨b,off,none⟩/\b<w.heap.size/\∀ i,i<L.length->∃ bo c,w.cell? ⟨b,off+i,none⟩=some (.slice bo (L.getD i []).length c)/\(L.getD i []).length<=c/\EL w bo (L.getD i [])/\(bo=none->(L.getD i []).length=0/\c=0)
theorem EV.gw {w w':World} {ao:Option Addr} {L:List (List Ent)} (h:EV w ao L) (g:Gw w w'):EV w' ao L :=
 ⟨fun h0=>by
  obtain ⟨b,off,e,hb,hc⟩:=h.cells h0;refine ⟨b,off,e,Nat.lt_of_lt_of_le hb g.size,fun i hi=>?_⟩
  obtain ⟨bo,c,h1,h2,h3,h4⟩:=hc i hi;exact ⟨bo,c,(g.cell _ _ hb).trans h1,h2,h3.gw g,h4⟩⟩
def liveB (n:Nat) (f:Nat->Int) (k:Int):Bool:=(List.range n).any fun i=>f i == k
def keep13 (n:Nat) (f:Nat->Int) (e:Ent):Bool:=!e.g||liveB n f e.k
theorem rlive13 (ao:Option Addr) (n c:Nat) (f:Nat->Int) (q:Int) (hn:n<=4000000) (w:World) (h:KS w ao n f) :
  Calls prog 106 #[.slice ao n c,.int .u64 q] w fun e w'=>e=.returned (.bool (liveB n f q))/\w'=w:=by
 have HK:Aside _:=h;clear h;go_enter func106,ntmps106;go_wp2_with fail;go_loopg [5] n (fun gg s wr=>∃ i:Nat,s=.int .i64 (i:Int)/\i<=n/\n-i<=gg/\Aside (∀ j,j<i->f j≠q)/\wr=w)
 case atStart=>exact ⟨0,rfl,Nat.zero_le _,by omega,(show Aside _ from fun j hj=>by omega),rfl⟩
 case round =>
  obtain ⟨i,rfl,a1,a2,NO,rfl⟩:=hrel;by_cases hlt:i<n
  ·have hlt':(i:Int)<(n:Int):=by omega
   obtain ⟨lb,loff,rfl,hlb,hlc⟩:=HK.out.cells (by omega)
   have kc:=hlc i hlt;clear hlc;by_cases e:f i=q
   ·have YES:Aside (liveB n f q=true):=by
     show _=_;unfold liveB;rw [List.any_eq_true];exact ⟨i,List.mem_range.2 hlt,by simpa using e⟩
    have e':(f i == q)=true:=by simpa using e
    generalize f i=fi at kc e';clear e;go_wp2_with fail;go_ret;exact ⟨by rw [YES.out];rfl,rfl⟩
   ·have NO':Aside (∀ j,j<i+1->f j≠q):=fun j hj=>by
     by_cases x:j=i
     ·rw [x];exact e
     ·exact NO.out j (by omega)
    have e':(f i == q)=false:=by simpa using e
    generalize f i=fi at kc e';clear e NO;go_wp2_with fail;go_roundg (n-(i+1))
    case measure=>omega
    case rel=>exact ⟨i+1,by go_num,by omega,Nat.le_refl _,NO',rfl⟩
  ·have ei:i=n:=by omega
   subst ei;have NOT:Aside (liveB i f q=false):=by
    show _=_;unfold liveB;rw [List.any_eq_false];intro j hj;have:=NO.out j (List.mem_range.1 hj);simpa using this
   go_wp2_with fail;go_ret
   exact ⟨by rw [NOT.out];rfl,rfl⟩
theorem rsift13 (ao:Option Addr) (c:Nat) (l:List Ent) (qo:Option Addr) (qn qc:Nat) (qf:Nat->Int) (hn:l.length<=4000000) (hqn:qn<=4000000) (w:World) (h:EL w ao l) (hq:KS w qo qn qf) :
  Calls prog 56 #[.slice ao l.length c,.slice qo qn qc] w fun e w'=>(∃ ob oc,e=.returned (.slice (some ⟨ob,0,none⟩) (l.filter (keep13 qn qf)).length oc)/\EO w' w.heap.size (.slice (some ⟨ob,0,none⟩) (l.filter (keep13 qn qf)).length oc) (l.filter (keep13 qn qf)))/\Gw w w':=by
 have HE:Aside _:=h;have LV:Hid (∀ W,Gw w W->∀ q:Int,Calls prog 106 #[.slice qo qn qc,.int .u64 q] W fun e w'=>e=.returned (.bool (liveB qn qf q))/\w'=W):=fun W gg q=>rlive13 qo qn qc qf q hqn W (hq.gw gg)
 obtain ⟨n,hln⟩:∃ n,l.length=n:=⟨_,rfl⟩;have LN:Aside _:=hln;rw [hln] at hn ⊢;clear h hq hln;obtain ⟨ii,hii,hz,hs,hby⟩:=info_parts info_e;have E1:Aside (EO (w.alloc (.cells #[] 40)) w.heap.size (.slice (some ⟨w.heap.size,0,none⟩) 0 0) []):=eo_new w _ (Nat.le_refl _);have G1:Aside (Gw w (w.alloc (.cells #[] 40))):=(Gw.refl w).alloc _ _;go_enter func56,ntmps56;go_wp2_with fail;generalize w.alloc (.cells #[] 40)=w1 at E1 G1 ⊢;go_loopg [5,6] n (fun gg s5 s6 wr=>∃ (i m ob oc:Nat),s5=.slice (some ⟨ob,0,none⟩) m oc/\s6=.int .i64 (i:Int)/\i<=n/\n-i<=gg/\m<=i/\Aside (((l.take i).filter (keep13 qn qf)).length=m)/\Aside (EO wr w.heap.size (.slice (some ⟨ob,0,none⟩) m oc) ((l.take i).filter (keep13 qn qf)))/\Aside (Gw w wr))
 case atStart=>exact ⟨0,0,w.heap.size,0,rfl,rfl,Nat.zero_le _,by omega,Nat.le_refl _,(by show _=_;simp),(by show EO _ _ _ _;simpa using E1.out),G1⟩
 case round =>
  clear E1 G1;obtain ⟨i,m,ob,oc,rfl,rfl,a1,a2,a3,ML,E,G⟩:=hrel;by_cases hlt:i<n
  ·have hlt':(i:Int)<(n:Int):=by omega
   obtain ⟨lb,loff,rfl,hlb,hlc⟩:=(ES.gw HE.out G.out).cells (by rw [LN.out];omega)
   obtain ⟨c0,c1,c2⟩:=hlc i (by rw [LN.out];exact hlt)
   have TK:Aside ((l.take (i+1)).filter (keep13 qn qf)=(l.take i).filter (keep13 qn qf)++(if keep13 qn qf (l.getD i ent0)=true then [l.getD i ent0] else [])):=by
    show _=_;have e:l.take (i+1)=l.take i++[l.getD i ent0]:=by
     rw [List.take_add_one,List.getElem?_eq_getElem (by rw [LN.out];exact hlt),List.getD_eq_getElem?_getD,List.getElem?_eq_getElem (by rw [LN.out];exact hlt)];rfl
    rw [e,List.filter_append,List.filter_cons];split<;>rfl
   obtain ⟨x,hx⟩:∃ x,l.getD i ent0=x:=⟨_,rfl⟩;rw [hx] at c0 c1 c2 TK;obtain ⟨xk,xv,xg⟩:=x;have d0:wr.cell? ⟨lb,loff+i*3,none⟩=some (.int .u64 xk):=c0;have d1:wr.cell? ⟨lb,loff+i*3+1,none⟩=some (.int .u64 xv):=c1;have d2:wr.cell? ⟨lb,loff+i*3+2,none⟩=some (.bool xg):=c2;have EOW:Aside (wr.ownsRow w.heap.size 40 3 (.slice (some ⟨ob,0,none⟩) m oc) m (((l.take i).filter (keep13 qn qf)).flatMap ent3)):=by
    have:=E.out
    unfold EO at this;rw [ML.out] at this;exact this
   have wz:=G.out.size;clear hlc c0 c1 c2 hx;have STAY:Aside (keep13 qn qf ⟨xk,xv,xg⟩=false->((l.take (i+1)).filter (keep13 qn qf))=(l.take i).filter (keep13 qn qf)):=fun q=>by
    rw [TK.out,if_neg (by rw [q];decide),List.append_nil]
   have MORE:Aside (keep13 qn qf ⟨xk,xv,xg⟩=true->((l.take (i+1)).filter (keep13 qn qf))=(l.take i).filter (keep13 qn qf)++[⟨xk,xv,xg⟩]):=fun q=>by
    rw [TK.out,if_pos q]
   clear TK;obtain ⟨kp,hkp⟩:∃ kp,liveB qn qf xk=kp:=⟨_,rfl⟩;have KP:Aside (keep13 qn qf ⟨xk,xv,xg⟩=(!xg||kp)):=by show _=_;rw [<-hkp];rfl
   have LVi:=fun W gg=>LV.out W gg xk
   rw [hkp] at LVi;have LVH:Hid _:=LVi;clear LVi hkp;have FIN:Hid (∀ (v':Value) (w5:World),keep13 qn qf ⟨xk,xv,xg⟩=true->w5.ownsRow w.heap.size 40 3 v' (m+1) (((l.take i).filter (keep13 qn qf)).flatMap ent3++ent3 ⟨xk,xv,xg⟩)->EO w5 w.heap.size v' ((l.take (i+1)).filter (keep13 qn qf))/\((l.take (i+1)).filter (keep13 qn qf)).length=m+1):=fun v' w5 q r=>by
    rw [MORE.out q];refine ⟨eo_more ?_,?_⟩
    ·rw [ML.out];exact r
    ·rw [List.length_append,ML.out];rfl
   cases xg with
   | false =>
    go_wp2_with (at_builtin;refine wpList_append_own _ rfl _ _ 35 rfl w.heap.size 40 ii (.agg #[.int .u64 0,.int .u64 0,.bool false]) 3 24 underlying35 hii hz hs hby rfl (by decide) _ m _ rfl (EOW.out.alloc _) ⟨wr.heap.size,0,none⟩ 1 1 (ent3 ⟨xk,xv,false⟩) rfl rfl (new_ent wr ⟨xk,xv,false⟩) (ent3_one _) (by simp only [maxLen];omega) (by omega) (by simp;omega) ?_)
    intro v' w5 r1 r2 r3;obtain ⟨b5,cap5,rfl,hb5,_,_⟩:=own_slice r1 (by simpa using r3)
    obtain ⟨f1,f2⟩:=FIN.out _ w5 (by rw [KP.out];rfl) r1
    have E5:Aside _:=f1;have M5:Aside _:=f2;have G5:Aside (Gw w w5):=(G.out.alloc _ _).grown r2 (fun q hq=>(World.ownsRow.lt EOW.out q hq).1)
    clear r1 r2 r3 f1 f2 E EOW FIN MORE STAY LVH d0 d1 d2;go_wp2_with fail;go_roundg (n-(i+1))
    case measure=>omega
    case rel=>exact ⟨i+1,m+1,b5,cap5,rfl,by go_num,by omega,Nat.le_refl _,by omega,M5,E5,G5⟩
   | true =>
    go_wp2_with fail;refine Calls.mono (LVH.out _ G.out) ?_
    rintro e w3 ⟨rfl,e3⟩;have e4:=e3.symm;subst e4;clear e3;cases kp with
    | true =>
     go_wp2_with (at_builtin;refine wpList_append_own _ rfl _ _ 35 rfl w.heap.size 40 ii (.agg #[.int .u64 0,.int .u64 0,.bool false]) 3 24 underlying35 hii hz hs hby rfl (by decide) _ m _ rfl (EOW.out.alloc _) ⟨wr.heap.size,0,none⟩ 1 1 (ent3 ⟨xk,xv,true⟩) rfl rfl (new_ent wr ⟨xk,xv,true⟩) (ent3_one _) (by simp only [maxLen];omega) (by omega) (by simp;omega) ?_)
     intro v' w5 r1 r2 r3;obtain ⟨b5,cap5,rfl,hb5,_,_⟩:=own_slice r1 (by simpa using r3)
     obtain ⟨f1,f2⟩:=FIN.out _ w5 (by rw [KP.out];rfl) r1
     have E5:Aside _:=f1;have M5:Aside _:=f2;have G5:Aside (Gw w w5):=(G.out.alloc _ _).grown r2 (fun q hq=>(World.ownsRow.lt EOW.out q hq).1)
     clear r1 r2 r3 f1 f2 E EOW FIN MORE STAY LVH d0 d1 d2;go_wp2_with fail;go_roundg (n-(i+1))
     case measure=>omega
     case rel=>exact ⟨i+1,m+1,b5,cap5,rfl,by go_num,by omega,Nat.le_refl _,by omega,M5,E5,G5⟩
    | false =>
     have ST:=STAY.out (by rw [KP.out];rfl)
     have E5:Aside (EO wr w.heap.size (.slice (some ⟨ob,0,none⟩) m oc) ((l.take (i+1)).filter (keep13 qn qf))):=by rw [ST];exact E.out
     have M5:Aside (((l.take (i+1)).filter (keep13 qn qf)).length=m):=by rw [ST];exact ML.out
     clear ST FIN MORE STAY LVH;go_wp2_with fail;go_roundg (n-(i+1))
     case measure=>omega
     case rel=>exact ⟨i+1,m,ob,oc,rfl,by go_num,by omega,Nat.le_refl _,by omega,M5,E5,G⟩
  ·have ei:i=n:=by omega
   subst ei;have TT:l.take i=l:=List.take_of_length_le (by rw [LN.out];exact Nat.le_refl _)
   rw [TT] at ML E;have ML2:Aside _:=ML;have E2:Aside (EO wr w.heap.size (.slice (some ⟨ob,0,none⟩) (l.filter (keep13 qn qf)).length oc) (l.filter (keep13 qn qf))):=by
    rw [ML2.out];exact E.out
   clear ML E TT;go_wp2_with fail;refine bodyPost_ret (v:=.slice (some ⟨ob,0,none⟩) m oc) (by simp [results,results56,go_sem]) rfl ⟨⟨ob,oc,by rw [ML2.out],E2.out⟩,G.out⟩
open Go.ChangeShapes Go.WideShapes Go.ChangeAt Go.RowKit Go.Joins
theorem heft_one {H:Type} (d:DataW H):1<=Rows.uptoBulk d:=by
 cases d with
 | lit l=>cases l<;>simp [Rows.uptoBulk]
 | nil=>simp [Rows.uptoBulk]
 | ptr d=>simp [Rows.uptoBulk]
 | slice elems spare=>simp [Rows.uptoBulk]
 | agg parts=>simp [Rows.uptoBulk]
 | iface t d=>simp [Rows.uptoBulk]
 | map entries=>simp [Rows.uptoBulk]
 | held h=>simp [Rows.uptoBulk]
theorem heft_many {H:Type} (l:List (DataW H)):l.length<=Rows.uptoBulkAll l:=by
 induction l with
 | nil=>simp [Rows.uptoBulkAll]
 | cons x r ih=>have:=heft_one x;simp only [Rows.uptoBulkAll,List.length_cons];omega
theorem heft_aggs {H:Type} (c:Nat):∀ l:List (DataW H),(∀ x∈l,∃ ps,x=.agg ps/\ps.length=c)->(c+1)*l.length<=Rows.uptoBulkAll l
 | [],_=>by simp [Rows.uptoBulkAll]
 | x::r,h=>by
  have ih:=heft_aggs c r fun y hy=>h y (List.mem_cons_of_mem _ hy)
  obtain ⟨ps,rfl,e⟩:=h x (List.mem_cons_self ..);have:=heft_many ps;simp only [Rows.uptoBulkAll,Rows.uptoBulk,List.length_cons,Nat.mul_add,Nat.mul_one];omega
theorem cells_e13:prog.cellsOf 40=3:=by kernel_rfl
theorem cells_u13:prog.cellsOf 34=1:=by kernel_rfl
theorem cells_b13:prog.cellsOf 4=1:=by kernel_rfl
theorem cells_es13:prog.cellsOf 35=1:=by kernel_rfl
theorem u64_in13 {x:Int} (h:(Lit.int .u64 x).wf=true):0<=x/\x<18446744073709551616:=by
 simp [Lit.wf,IntKind.min,IntKind.max,IntKind.signed,IntKind.bits] at h
 exact ⟨by omega,by omega⟩
theorem spot_none13 {w:World} {a:Addr} {v:Value} (h:w.cell? a=some v):a=⟨a.block,a.off,none⟩:=by
 obtain ⟨b,o,s⟩:=a;cases s with
 | none=>rfl
 | some s=>unfold World.cell? at h;split at h<;>simp at h
theorem open_elist {H:Type} {enc:TypeId×Value->H} {W:World} {fuel:Nat} {cs:List Value} {y:DataW H×List MemPlace} (hf:DataW.trod enc prog W 0 (fun _=>true) true fuel 35 cs=some y) :
  ∃ (ao:Option Addr) (c:Nat) (l:List Ent),cs=[.slice ao l.length c]/\EL W ao l/\l.length<=c/\(ao=none->l.length=0/\c=0)/\1+4*l.length<=Rows.uptoBulk y.1:=by
 rcases Go.Deep.open_slice underlying35 hf with ⟨rfl,rfl⟩ | ⟨a,n,c,m,fu,D,Pl,rfl,_,hl,hmx,hm,rfl,hel⟩
 ·exact ⟨none,0,[],rfl,⟨fun h0=>by simp at h0,fun i hi=>by simp at hi⟩,Nat.le_refl _,fun _=>⟨rfl,rfl⟩,by simp [Rows.uptoBulk]⟩
 ·simp only [if_true] at hm
  subst hm;have each:∀ i,i<n->∃ e:Ent,(W.cell? (a.add (i*3))=some (.int .u64 e.k)/\W.cell? (a.add (i*3+1))=some (.int .u64 e.v)/\W.cell? (a.add (i*3+2))=some (.bool e.g))/\e.ok:=by
   intro i hi;obtain ⟨cs',h1,h2⟩:=hel i (by omega)
   rw [cells_e13] at h1;obtain ⟨_,hlen,hcc⟩:=World.cells?_some h1;obtain ⟨y0,y1,y2,fu',_,_,q0,q1,q2⟩:=Go.Deep.trod_struct3 underlying40 h2
   match cs',hlen with
   | [u0,u1,u2],_ =>
    simp [cells_u13,cells_b13] at q0 q1 q2
    obtain ⟨x0,e0,_,w0⟩:=DataW.trod_int underlying34 q0;obtain ⟨x1,e1,_,w1⟩:=DataW.trod_int underlying34 q1;obtain ⟨x2,e2,_⟩:=DataW.trod_bool underlying4 q2;simp at e0 e1 e2;subst e0 e1 e2;have c0:=hcc 0 (by omega)
    have c1:=hcc 1 (by omega)
    have c2:=hcc 2 (by omega)
    rw [Go.Deep.add_add] at c0 c1 c2;exact ⟨⟨x0,x1,x2⟩,⟨by simpa using c0,by simpa using c1,by simpa using c2⟩,u64_in13 w0,u64_in13 w1⟩
  have inh:Inhabited Ent:=⟨ent0⟩;obtain ⟨q,hq⟩:=Go.Deep.choose_lt each;have ln:((List.range n).map q).length=n:=by simp
  have gt:∀ i,i<n->((List.range n).map q).getD i ent0=q i:=fun i hi=>by simp [List.getD,hi]
  refine ⟨some a,_,(List.range n).map q,by rw [ln],⟨fun h0=>?_,fun i hi=>?_⟩,by rw [ln];exact hl,(fun e=>by cases e),?_⟩
  ·rw [ln] at h0
   have c0:=(hq 0 h0).1.1;have e0:a.add (0*3)=a:=by simp [Addr.add]
   rw [e0] at c0;have ea:=spot_none13 c0;refine ⟨a.block,a.off,by rw [<-ea],World.block_lt_of_cell? _ _ c0,fun i hi=>?_⟩
   rw [ln] at hi;rw [gt i hi];obtain ⟨⟨a1,a2,a3⟩,_⟩:=hq i hi;rw [ea,Addr.add_lit] at a1 a2 a3;exact ⟨a1,by rw [Nat.add_assoc];exact a2,by rw [Nat.add_assoc];exact a3⟩
  ·rw [ln] at hi
   show (((List.range n).map q).getD i ent0).ok;rw [gt i hi];exact (hq i hi).2
  ·have:=heft_aggs 3 ((List.range n).map D) fun x hx=>by
    obtain ⟨i,hi,rfl⟩:=List.mem_map.1 hx;have hi':i<n:=List.mem_range.1 hi;obtain ⟨cs',h1,h2⟩:=hel i (by omega)
    obtain ⟨y0,y1,y2,fu',hx,_⟩:=Go.Deep.trod_struct3 underlying40 h2;simp only [Prod.mk.injEq] at hx;exact ⟨_,hx.1,rfl⟩
   rw [ln];simp only [Rows.uptoBulk];simp at this;omega
theorem open_elist1 {H:Type} {enc:TypeId×Value->H} {W:World} {ao:Option Addr} {n c:Nat} {d:DataW H} {p:List MemPlace} (h:DataW.Trod enc prog W 0 (fun _=>true) true 35 (.slice ao n c) d p) :
  ∃ l:List Ent,l.length=n/\EL W ao l/\(ao=none->n=0/\c=0)/\n<=c/\1+4*n<=Rows.uptoBulk d:=by
 obtain ⟨fuel,hf⟩:=h;obtain ⟨ao',c',l,e,k1,k2,k3,k4⟩:=open_elist hf;simp [Value.cells] at e;obtain ⟨rfl,rfl,rfl⟩:=e;exact ⟨l,rfl,k1,k3,k2,k4⟩
theorem run_append_any {P:Program} (w:World) (t ty:TypeId) (base:Nat) (e:TypeId) (i:TypeInfo) (z:Value) (size bytes:Nat) (ht:P.underlying t=some (.slice e)) (hi:P.info? e=some i) (hz:i.zero=some z)
  (hsize:i.size=size) (hby:i.bytes=bytes) (hzs:z.cells.size=size) (hsz:0<size)
  (k n cap0:Nat) (xs:List Value) (hown:w.ownsRow base e size (.slice (some ⟨k,0,none⟩) n cap0) n xs)
  (ao:Option Addr) (m c:Nat) (news:List Value) (hnone:ao=none->m=0/\c=0) (hl:news.length=m*size) (hnews:∀ ad,ao=some ad->∀ j u,news[j]?=some u->w.cell? (ad.add j)=some u) (h1:∀ u∈news,u.oneCell'=true)
  (h63:n+m<=maxLen) (hbytes:(n+m)*bytes<=140737488355328) (hbase:base<=w.heap.size) :
  ∃ g cap w',(Builtin.append_ #[t,t] ty #[.slice (some ⟨k,0,none⟩) n cap0,.slice ao m c]).run P w=.ok (.slice (some ⟨g,0,none⟩) (n+m) cap) w' /\
   w'.ownsRow base e size (.slice (some ⟨g,0,none⟩) (n+m) cap) (n+m) (xs++news)/\w.grownBy w' (some k)/\(g=k\/g=w.heap.size)/\g<w'.heap.size:=by
 cases ao with
 | some ad =>
  obtain ⟨v',w',hr,h2,h3,h4,h5⟩:=run_append_own_at (P:=P) w base t ty e i z size bytes ht hi hz hsize hby hzs hsz (.slice (some ⟨k,0,none⟩) n cap0) n xs hown ad m c news hl (hnews ad rfl) h1 h63 hbytes hbase;obtain ⟨g,cap,rfl,_,_,hlt⟩:=own_slice h2 (fun q=>by have:=(h4.1 q).1;cases this)
  refine ⟨g,cap,w',hr,h2,h3,?_,hlt⟩;rcases h5 with h5 | h5
  ·left;cases h5;rfl
  ·right;cases h5;rfl
 | none =>
  obtain ⟨rfl,rfl⟩:=hnone rfl;have hn:news=[]:=List.eq_nil_of_length_eq_zero (by simpa using hl)
  subst hn;exact ⟨k,cap0,w,run_append_owned_none (P:=P) w base t ty e i size ht hi _ n xs hown,by simpa using hown,World.grownBy.refl _ _,.inl rfl,(hown.lt k rfl).2⟩
theorem step_append_any {P:Program} (w:World) {ops:Array Oper} {o:Oper} {a:Act} {K:Act->World->Prop} {Q:Exit->Act->World->Prop} {E:Prop} (hgd:o.guard=none) (s x:Operand) (t:TypeId)
  (ho:o.op=.call { callee:=.builtin .append,args:=#[s,x],argTypes:=#[t,t] })
  (base:Nat) (e:TypeId) (i:TypeInfo) (z:Value) (size bytes:Nat) (ht:P.underlying t=some (.slice e)) (hi:P.info? e=some i) (hz:i.zero=some z)
  (hsize:i.size=size) (hby:i.bytes=bytes) (hzs:z.cells.size=size) (hsz:0<size)
  (k n cap0:Nat) (xs:List Value) (hs:a.eval s=.slice (some ⟨k,0,none⟩) n cap0) (hown:w.ownsRow base e size (.slice (some ⟨k,0,none⟩) n cap0) n xs)
  (ao:Option Addr) (m c:Nat) (news:List Value) (hx:a.eval x=.slice ao m c) (hnone:ao=none->m=0/\c=0) (hl:news.length=m*size) (hnews:∀ ad,ao=some ad->∀ j u,news[j]?=some u->w.cell? (ad.add j)=some u) (h1:∀ u∈news,u.oneCell'=true)
  (h63:n+m<=maxLen) (hbytes:(n+m)*bytes<=140737488355328) (hbase:base<=w.heap.size)
  (h:∀ g cap w',w'.ownsRow base e size (.slice (some ⟨g,0,none⟩) (n+m) cap) (n+m) (xs++news)->w.grownBy w' (some k)->(g=k\/g=w.heap.size)->g<w'.heap.size->K (a.put o.dst (.slice (some ⟨g,0,none⟩) (n+m) cap)) w') :
  if Region.wanted o (yielded ops a.tmps)=true then Oper.wp P o a w K Q else E:=by
 have hw:Region.wanted o (yielded ops a.tmps)=true:=by simp [Region.wanted,hgd]
 rw [if_pos hw];obtain ⟨g,cap,w',hr,h2,h3,h4,h5⟩:=run_append_any (P:=P) w t o.type base e i z size bytes ht hi hz hsize hby hzs hsz k n cap0 xs hown ao m c news hnone hl hnews h1 h63 hbytes hbase;unfold Oper.wp execOp;simp only [ho,resolve,invoke,builtin,Sem.run_bind,Sem.run_pure,Result.andThen_ok,List.map_toArray,List.map_cons,List.map_nil,hs,hx,hr];exact h g cap w' h2 h3 h4 h5
theorem rise_up {l:List Ent}:Rise Ent.k l↔Up (fun i=>(l.getD i ent0).k) l.length:=by
 constructor
 ·intro h i hi
  have:=(List.pairwise_iff_getElem.1 h) i (i+1) (by omega) hi (by omega)
  have e1:l.getD i ent0=l[i]:=by simp [List.getD,show i<l.length by omega]
  have e2:l.getD (i+1) ent0=l[i+1]:=by simp [List.getD,hi]
  show (l.getD i ent0).k<(l.getD (i+1) ent0).k;rw [e1,e2];exact this
 ·intro u
  refine List.pairwise_iff_getElem.2 fun i j hi hj hij=>?_
  have this:(l.getD i ent0).k<(l.getD j ent0).k:=u.lt hij hj;have e1:l.getD i ent0=l[i]:=by simp [List.getD,hi]
  have e2:l.getD j ent0=l[j]:=by simp [List.getD,hj]
  rw [e1,e2] at this;exact this
def e77:Ent:=⟨77,77,false⟩
structure EX (w:World) (ao:Option Addr) (L:List (List Ent)):Prop where
 cells:0<L.length->∃ b off,ao=some ⟨b,off,none⟩/\b<w.heap.size/\∀ i,i<L.length->∃ bo c,w.cell? ⟨b,off+i,none⟩=some (.slice bo (L.getD i []).length c)/\(L.getD i []).length+1<=c/\EL w bo (L.getD i []++[e77])
theorem info_es13:(prog.info? 35).map (fun i=>(i.zero,i.size,i.bytes))=some (some (.slice none 0 0),1,24):=by kernel_rfl
theorem orow13' {w w':World} {base e size n:Nat} {v:Value} {xs:List Value} (h:w.ownsRow base e size v n xs) (g:Gw w w'):w'.ownsRow base e size v n xs:=by
 refine ⟨h.1,?_⟩;rcases h.2 with q | ⟨b,cap,cur,rfl,hb,hh,r⟩
 ·exact .inl q
 ·exact .inr ⟨b,cap,cur,rfl,hb,(g.below.block b (Array.getElem?_eq_some_iff.1 hh).1).trans hh,r⟩
theorem new_v13' (w:World) (x:Value) (t:TypeId):∀ j u,[x][j]?=some u->(w.alloc (.cells #[x] t)).cell? ((⟨w.heap.size,0,none⟩:Addr).add j)=some u:=by
 intro j u hu;cases j with
 | zero =>
  simp only [List.getElem?_cons_zero,Option.some.injEq] at hu;subst hu;simp [Addr.add,go_sem]
 | succ j=>simp at hu
end Go.Proofs.YteflpamjgaeaiaaGreat
