/- The document's layer 15: Take. -/
import Derived.Test.YtklkpldicbkjeaaGreatVUDoc
set_option linter.unusedVariables false
set_option maxHeartbeats 16000000
set_option maxRecDepth 20000
open Go.Proofs.Tryz
namespace Go.Proofs.YtklkpldicbkjeaaGreat
open Go.RowKit
theorem acd {rs:List (Option Rn)} (l:rs.length=40) (h:∀ i,i<39->∃ r,rs.getD i none=some r):freeC rs=39:=by
 have:39<=free rs:=Nat.le_of_not_lt fun q=>by
  have e:=abb (rs:=rs) (by omega)
  obtain ⟨r,hr⟩:=h _ q;rw [List.getD_eq_getElem?_getD,e] at hr;cases hr
 unfold freeC;omega
theorem ace {rs:List (Option Rn)} {j:Nat} (l:rs.length=40) (hj:j<39) (h:∀ i,i<j->∃ r,rs.getD i none=some r) (n:rs.getD j none=none):freeC rs=j:=by
 have e:free rs=j:=D6 (fun i hi=>by
  obtain ⟨r,hr⟩:=h i hi;have hl:i<rs.length:=by omega
  exact ⟨r,by rw [List.getElem?_eq_getElem hl,<-dL hl,hr]⟩) (.inl (by
  have hl:j<rs.length:=by omega
  rw [List.getElem?_eq_getElem hl,<-dL hl,n]))
 unfold freeC;omega
def NB (rb:Nat) (aj:List Value) (L:List (List ah)):Prop:=∀ i,i<L.length->∀ bo c,aj[i]?=some (.slice bo (L.getD i []).length c)->∀ a,bo=some a->0<(L.getD i []).length->a.block≠rb
theorem NB.more {rb:Nat} {aj:List Value} {L:List (List ah)} {l:List ah} {bo:Option Addr} {c:Nat} (h:NB rb aj L) (hl:aj.length=L.length) (ha:∀ a,bo=some a->0<l.length->a.block≠rb):NB rb (aj++[.slice bo l.length c]) (L++[l]):=by
 intro i hi;by_cases e:i<L.length
 ·rw [show (L++[l]).getD i []=L.getD i [] by rw [List.getD_eq_getElem?_getD,List.getElem?_append_left e,<-List.getD_eq_getElem?_getD],List.getElem?_append_left (by rw [hl];exact e)]
  exact h i e
 ·have ei:i=L.length:=by rw [List.length_append] at hi;simp at hi;omega
  subst ei;rw [show (L++[l]).getD L.length []=l by simp [List.getD]]
  intro Ag c' hv;rw [<-hl] at hv;simp at hv;obtain ⟨rfl,_⟩:=hv;exact ha
theorem TL.set {w:World} {ob rb o:Nat} {v:Value} {aj:List Value} {L:List (List ah)} (h:TL w ob aj L) (nb:NB rb aj L):TL (w.setCell ⟨rb,o,none⟩ v) ob aj L :=
 ⟨h.len,fun i hi=>by
  obtain ⟨bo,c,h1,h2,h3,h4,h5⟩:=h.row i hi;exact ⟨bo,c,h1,h2,h3.keep15 (fun a e z=>Go.Deep.blk_setCell_other _ _ _ _ (nb i hi bo c h1 a e z)),h4,fun a e z=>⟨(h5 a e z).1,by simpa [World.setCell] using (h5 a e z).2⟩⟩⟩
theorem aR.openS {w:World} {p:Nat} {S:Nat->Prop} {eps:Int} {k v:Nat->Int} {g:Nat->Bool} {n:Nat} {L:List (List Sg)} (h:aR w p S eps k v g n L):∃ eo ec lo lc,w.heap[p]?=some (.cells #[.slice eo n ec,.int .i64 eps,.slice lo L.length lc] 87 (0,0))/\ES w eo n k v g/\S p/\(n<=ec/\(eo=none->n=0/\ec=0))/\∀ a,eo=some a->0<n->S a.block:=by
 obtain ⟨u,base,ko,kc,lo,lc,h1,h2,h3,h4,h5,h6,h7,h8,h9⟩:=h.lies;have pu:p<u.heap.size:=(Array.getElem?_eq_some_iff.1 h4).1;refine ⟨ko,kc,lo,lc,(h3 p h5 pu).trans h4,h6.kept h7 h2 h3,(h1 p).2 ⟨h5,pu⟩,h9,fun a e z=>?_⟩
 obtain ⟨b,off,e',hb,_⟩:=h6.cells z;have:=h7 a e;rw [e] at e';cases e';exact (h1 b).2 ⟨this,hb⟩
section
variable {w:World} {p b:Nat} {rs:List (Option Rn)} {eps buf B W:Int}
theorem aG.put (h:aG w p b rs eps buf B W) {i:Nat} (hi:i<40) (o:Option Rn) (ho:∀ r,o=some r->RA aR w r/\¬ r.S p/\¬ r.S b):aG (w.setCell ⟨b,i,none⟩ (ptr o)) p b (rs.set i o) eps buf B W:=by
 have gx:Gx (fun q=>q=b) w (w.setCell ⟨b,i,none⟩ (ptr o)):=(Gx.refl (fun q=>q=b) w).set (.inl rfl) i _
 have mv:∀ r,RA aR w r/\¬ r.S p/\¬ r.S b->RA aR (w.setCell ⟨b,i,none⟩ (ptr o)) r/\¬ r.S p/\¬ r.S b:=fun r ⟨q1,q2,q3⟩=>⟨q1.gx aR.kp gx (fun q hq=>by rw [hq];exact q3),q2,q3⟩
 obtain ⟨y,x⟩:=h.row;refine ⟨h.blk.elim fun c x=>⟨c,x.1,(gx.block p (aE x.2) (fun e=>h.ne e.symm)).trans x.2⟩,⟨y,?_⟩,by rw [List.length_set];exact h.len,fun r hr=>?_,h.ne,h.e0,h.e1,h.b0,h.b1⟩
 ·rw [jP x,List.setIfInBounds_toArray,List.set_append_left _ _ (by rw [List.length_map,h.len];exact hi),<-List.map_set]
 ·rcases List.mem_or_eq_of_mem_set hr with q | q
  ·exact mv r (h.runs r q)
  ·exact mv r (ho r q.symm)
theorem aG.put3 (h:aG w p b rs eps buf B W) (B':Int):aG (w.setCell ⟨p,3,none⟩ (.int .i64 B')) p b rs eps buf B' W:=by
 have gx:Gx (fun q=>q=p) w (w.setCell ⟨p,3,none⟩ (.int .i64 B')):=(Gx.refl (fun q=>q=p) w).set (.inl rfl) 3 _
 refine ⟨h.blk.elim fun c x=>⟨c,x.1,by rw [jP x.2];rfl⟩,h.row.elim fun y x=>⟨y,(gx.block b (aE x) (fun e=>h.ne e)).trans x⟩,h.len,fun r hr=>?_,h.ne,h.e0,h.e1,h.b0,h.b1⟩
 obtain ⟨q1,q2,q3⟩:=h.runs r hr;exact ⟨q1.gx aR.kp gx (fun q hq=>by rw [hq];exact q2),q2,q3⟩
theorem aG.put4 (h:aG w p b rs eps buf B W) (W':Int):aG (w.setCell ⟨p,4,none⟩ (.int .i64 W')) p b rs eps buf B W':=by
 have gx:Gx (fun q=>q=p) w (w.setCell ⟨p,4,none⟩ (.int .i64 W')):=(Gx.refl (fun q=>q=p) w).set (.inl rfl) 4 _
 refine ⟨h.blk.elim fun c x=>⟨c,x.1,by rw [jP x.2];rfl⟩,h.row.elim fun y x=>⟨y,(gx.block b (aE x) (fun e=>h.ne e)).trans x⟩,h.len,fun r hr=>?_,h.ne,h.e0,h.e1,h.b0,h.b1⟩
 obtain ⟨q1,q2,q3⟩:=h.runs r hr;exact ⟨q1.gx aR.kp gx (fun q hq=>by rw [hq];exact q2),q2,q3⟩
end
theorem acf {rs:List (Option Rn)} {i:Nat} (hi:i<rs.length):(List.replicate i (none:Option Rn)++rs.drop i).set i none=List.replicate (i+1) none++rs.drop (i+1):=by
 rw [List.set_append_right _ _ (by simp),List.length_replicate,Nat.sub_self,List.drop_eq_getElem_cons hi,List.set_cons_zero,List.replicate_succ',List.append_assoc]
 rfl
theorem acg {w:World} {p rb:Nat} {rs:List (Option Rn)} {eps buf B W:Int} (h:aG w p rb rs eps buf B W) :
  Calls prog 15 #[.pointer (some ⟨p,0,none⟩)] w fun e w'=>(∃ p' b',e=.returned (.pointer (some ⟨p',0,none⟩))/\w.heap.size<=p'/\w.heap.size<=b'/\aG w' p' b' rs eps buf B W)/\Gw w w':=by
 have HC:ag (aG w p rb rs eps buf B W):=h;obtain ⟨ii,aM,hz,hs,aL⟩:=info_parts QD;obtain ⟨cc,_,c2⟩:=h.c2;have c0:=h.c0;have c1:=h.c1;have c3:=h.c3;have c4:=h.c4;have pl:=h.plt;have KP:ag (∀ V,Gw w V->Gw w V/\V.cell? ⟨p,0,none⟩=some (.int .i64 eps)/\V.cell? ⟨p,1,none⟩=some (.int .i64 buf)/\V.cell? ⟨p,2,none⟩=some (.slice (some ⟨rb,0,none⟩) 40 cc)/\V.cell? ⟨p,3,none⟩=some (.int .i64 B)/\V.cell? ⟨p,4,none⟩=some (.int .i64 W)/\p<V.heap.size):=fun V g=>⟨g,(h.gw g).c0,(h.gw g).c1,(g.cell _ _ pl).trans c2,(h.gw g).c3,(h.gw g).c4,(h.gw g).plt⟩
 have aJ:ag (∀ (V:World) (b c:Nat),V.ownsRow w.heap.size 65 1 (.slice (some ⟨b,0,none⟩) 40 c) 40 (rs.map ptr)->Gw w V->(∃ p' b',Ending.returned (.pointer (some ⟨V.heap.size,0,none⟩))=.returned (.pointer (some ⟨p',0,none⟩))/\w.heap.size<=p'/\w.heap.size<=b'/\aG (V.alloc (.cells #[.int .i64 eps,.int .i64 buf,.slice (some ⟨b,0,none⟩) 40 c,.int .i64 B,.int .i64 W] 56)) p' b' rs eps buf B W)/\Gw w (V.alloc (.cells #[.int .i64 eps,.int .i64 buf,.slice (some ⟨b,0,none⟩) 40 c,.int .i64 B,.int .i64 W] 56))):=fun V b c o g=>by
  rcases o.2 with ⟨x,_⟩ | ⟨b',c',cur,x,hb,hh,hc,_,_,ht⟩
  ·cases x
  injection x with x1 x2 x3;injection x1 with x1;injection x1 with x1;subst x1 x3;have bl:=aE hh;refine ⟨⟨_,b,rfl,g.size,hb,⟨⟨c,hc,heap_alloc_new _ _⟩,⟨cur.toList.drop 40,?_⟩,HC.o.len,fun r hr=>⟨((HC.o.runs r hr).1.gw aR.kp g).gw aR.kp ((Gw.refl _).alloc _ _),fun x=>?_,fun x=>?_⟩,by omega,HC.o.e0,HC.o.e1,HC.o.b0,HC.o.b1⟩⟩,g.alloc _ _⟩
  ·rw [heap_alloc_old _ _ bl,hh,<-ht,Nat.mul_one,List.take_append_drop]
  ·have:=aR.lt (HC.o.runs r hr).1.h _ x;have:=g.size;omega
  ·have:=aR.lt (HC.o.runs r hr).1.h _ x;omega
 have NW:ag (∀ V,Gw w V->∀ j u,(rs.map ptr)[j]?=some u->V.cell? ((⟨rb,0,none⟩:Addr).add j)=some u):=fun V g j u hu=>by
  have hj:j<rs.length:=by have:=(List.getElem?_eq_some_iff.1 hu).1;simpa using this
  rw [Addr.add_lit,Nat.zero_add,(h.gw g).cell (by rw [<-h.len];exact hj),<-hu,List.getElem?_map,List.getElem?_eq_getElem hj,dL hj]
  rfl
 have LE:ag ((rs.map ptr).length=40*1):=by show _=_;rw [List.length_map,h.len]
 have O0:ag ((w.alloc (.cells #[] 65)).drew.ownsRow w.heap.size 65 1 (.slice (some ⟨w.heap.size,0,none⟩) 0 0) 0 []):=World.ownsRow_made w #[] 0 (Nat.le_refl _) (Nat.zero_le _) rfl;have G0:ag (Gw w (w.alloc (.cells #[] 65)).drew):=((Gw.refl w).alloc _ _).drew;have PO:ag (∀ u∈rs.map ptr,u.oneCell'=true):=zT rs;clear h c0 c1 c2 c3 c4;go_enter func15,ntmps15;go_wp2_with fail;go_region_held3 (fun w'=>Gw w w'/\w'.cell? ⟨p,0,none⟩=some (.int .i64 eps)/\w'.cell? ⟨p,1,none⟩=some (.int .i64 buf)/\w'.cell? ⟨p,2,none⟩=some (.slice (some ⟨rb,0,none⟩) 40 cc)/\w'.cell? ⟨p,3,none⟩=some (.int .i64 B)/\w'.cell? ⟨p,4,none⟩=some (.int .i64 W)/\p<w'.heap.size)
  ((refine KP.o _ ?_;(repeat (first | exact Gw.refl _ | exact And.left (by assumption) | exact ag.o (by assumption) | refine Gw.drew ?_ | refine Gw.alloc ?_ _ _));done))
  (first | (refine Nq _ rfl (.tmp 11) (.tmp 15) 54 rfl w.heap.size 65 ii _ 1 8 underlying54 aM hz hs aL rfl (by decide) w.heap.size 0 0 [] (by simp [Act.eval]) O0.o (some ⟨rb,0,none⟩) 40 cc (rs.map ptr) (by simp [Act.eval]) (fun q=>by cases q) LE.o (fun ad e'=>(by cases e';exact NW.o _ G0.o)) PO.o (by simp only [maxLen];omega) (by omega) G0.o.size ?_;intro b7 cp7 w7 r1 r2 r3 r4;have G7:ag (Gw w w7):=(G0.o.grown r2 (fun q hq=>by cases hq;exact Nat.le_refl _));have F7:ag _:=aJ.o w7 b7 cp7 (by simpa using r1) G7.o;clear r1 r2 r3 r4))
 all_goals go_wp2_with fail
 all_goals go_ret
 all_goals exact F7.o
theorem ach {rs:List (Option Rn)} {i t:Nat} (hi:i<rs.length) (h:dq (rs.take i) t) (e:rs.getD i none=none):dq (rs.take (i+1)) t:=by
 have g:∀ k,(rs.take (i+1)).getD k none=(rs.take i).getD k none:=fun k=>by
  rw [tO hi,e,List.getD_eq_getElem?_getD,List.getD_eq_getElem?_getD];by_cases q:k<(rs.take i).length
  ·rw [List.getElem?_append_left q]
  ·rw [List.getElem?_append_right (by omega),List.getElem?_eq_none (l:=rs.take i) (by omega)]
   match k-(rs.take i).length with
   | 0=>rfl
   | _+1=>rfl
 have l1:(rs.take i).length<=(rs.take (i+1)).length:=by rw [List.length_take,List.length_take];omega
 refine ⟨Nat.le_trans h.le l1,fun k hk=>by rw [g];exact h.no k hk,?_⟩
 rcases h.is with x | ⟨r,x⟩
 ·exact .inl x
 ·exact .inr ⟨r,by rw [g];exact x⟩
theorem aci {rs:List (Option Rn)} {i:Nat} {r:Rn} (hi:i<rs.length) (e:rs.getD i none=some r):dq (rs.take (i+1)) (i+1):=by
 refine ⟨by rw [List.length_take];omega,fun k hk=>?_,.inr ⟨r,?_⟩⟩
 ·rw [List.getD_eq_getElem?_getD,List.getElem?_eq_none (by rw [List.length_take];omega)]
  rfl
 ·rw [Nat.add_sub_cancel,List.getD_eq_getElem?_getD,List.getElem?_take,if_pos (by omega),<-List.getD_eq_getElem?_getD,e]
def mQ (rs:List (Option Rn)):List Value:=rs.map fun o=>.int .i64 (eM o:Int)
theorem acj {w:World} {p rb:Nat} {rs:List (Option Rn)} {eps buf B W:Int} (h:aG w p rb rs eps buf B W) :
  Calls prog 48 #[.pointer (some ⟨p,0,none⟩)] w fun e w'=>(∃ t b c,e=.returned (.slice (some ⟨b,0,none⟩) t c)/\dq rs t/\(∀ i,i<t->w'.cell? ⟨b,i,none⟩=some (.int .i64 (eM (rs.getD i none):Int)))/\b<w'.heap.size)/\Gw w w':=by
 have HC:ag _:=h;obtain ⟨ii,aM,mA,dT,aL⟩:=info_parts Dd;have O1:ag ((w.alloc (.cells #[] 3)).ownsRow w.heap.size 3 1 (.slice (some ⟨w.heap.size,0,none⟩) 0 0) 0 (mQ (rs.take 0))):=World.ownsRow_made w #[] 0 (Nat.le_refl _) (Nat.zero_le _) rfl;have G1:ag (Gw w (w.alloc (.cells #[] 3))):=(Gw.refl w).alloc _ _;clear h;go_enter func48,ntmps48;go_wp2_with fail;generalize w.alloc (.cells #[] 3)=w1 at O1 G1 ⊢;go_loopg [3,4,5] 40 (fun gg s3 s4 s5 wr=>∃ (i t ob oc:Nat),s3=.slice (some ⟨ob,0,none⟩) i oc/\s4=.int .i64 (t:Int)/\s5=.int .i64 (i:Int)/\i<=40/\40-i<=gg/\ag (dq (rs.take i) t)/\ag (wr.ownsRow w.heap.size 3 1 (.slice (some ⟨ob,0,none⟩) i oc) i (mQ (rs.take i)))/\ag (Gw w wr))
 case atStart=>exact ⟨0,0,w.heap.size,0,rfl,rfl,rfl,Nat.zero_le _,by omega,(show ag _ from ⟨Nat.zero_le _,fun i _=>by simp,.inl rfl⟩),O1,G1⟩
 case round =>
  clear O1 G1;obtain ⟨i,t,ob,oc,rfl,rfl,rfl,a1,a2,TP,O,G⟩:=hrel;obtain ⟨wS,aZ⟩:∃ wx,wx=wr:=⟨_,rfl⟩;subst aZ;by_cases ak:i<40
  ·have dG:(i:Int)<40:=by omega
   have hi:i<rs.length:=by rw [HC.o.len];exact ak
   have HD:=HC.o.gw G.o;obtain ⟨cc,_,c2⟩:=HD.c2;have pl:=HD.plt;have bl:=HD.blt;have ci:=HD.cell ak;have TK:=tO hi;have wz:=G.o.size;have jU:ag (∀ (t' n:Nat),eM (rs.getD i none)=n->dq (rs.take (i+1)) t'->∀ (v':Value) (w8:World),w8.ownsRow w.heap.size 3 1 v' (i+1) (mQ (rs.take i)++[.int .i64 (n:Int)])->w8.ownsRow w.heap.size 3 1 v' (i+1) (mQ (rs.take (i+1)))):=fun t' n e _ v' w8 r1=>by
    have:mQ (rs.take (i+1))=mQ (rs.take i)++[.int .i64 (n:Int)]:=by unfold mQ;rw [TK,List.map_append,<-e];rfl
    rw [this];exact r1
   rcases iJ rs i with e | ⟨r,e⟩
   ·rw [e] at ci jU
    have cu:wS.cell? ⟨rb,i,none⟩=some (.pointer none):=ci;have T':ag _:=ach hi TP.o e;clear ci e TK HD TP hi;go_wp2_with (at_builtin;refine wpList_append_own _ rfl _ _ 69 rfl w.heap.size 3 ii (.int .i64 0) 1 8 underlying69 aM mA dT aL rfl (by decide) _ i _ rfl (O.o.alloc _) ⟨wS.heap.size,0,none⟩ 1 1 [.int .i64 0] rfl rfl (zG wS (.int .i64 0) 3) (fun u hu=>by simp at hu;subst hu;rfl) (by simp only [maxLen];omega) (by omega) (by simp;omega) ?_)
    intro v' w8 r1 r2 r3;obtain ⟨b8,c8,rfl,_,_,_⟩:=cS r1 (by simpa using r3)
    have G8:ag (Gw w w8):=(G.o.alloc _ _).grown r2 (fun q hq=>(World.ownsRow.lt O.o q hq).1)
    have O8:ag (w8.ownsRow w.heap.size 3 1 (.slice (some ⟨b8,0,none⟩) (i+1) c8) (i+1) (mQ (rs.take (i+1)))):=jU.o t 0 rfl T'.o _ _ r1;clear r1 r2 r3 O jU;go_wp2_with fail;go_roundg (40-(i+1))
    case measure=>omega
    case rel=>exact ⟨i+1,t,b8,c8,rfl,rfl,by go_num,by omega,Nat.le_refl _,T',O8,G8⟩
   ·have RR:=(HD.runs r (jN hi e)).1
    obtain ⟨eo,ec,lo,lc,hb,_⟩:=RR.h.openS;obtain ⟨f0,f1,f2⟩:=qP hb;have rl:=(Array.getElem?_eq_some_iff.1 hb).1;rw [e] at ci jU;have cu:wS.cell? ⟨rb,i,none⟩=some (.pointer (some ⟨r.p,0,none⟩)):=ci;have T':ag _:=aci hi e;have SZ:ag (eM (some r)=r.l.length):=rfl;generalize r.p=rp at cu f0 rl;generalize r.l.length=rn at f0 SZ;clear ci e TK HD TP hi RR hb f1 f2;go_wp2_with (at_builtin;refine wpList_append_own _ rfl _ _ 69 rfl w.heap.size 3 ii (.int .i64 0) 1 8 underlying69 aM mA dT aL rfl (by decide) _ i _ rfl (O.o.alloc _) ⟨wS.heap.size,0,none⟩ 1 1 [.int .i64 (rn:Int)] rfl rfl (zG wS (.int .i64 (rn:Int)) 3) (fun u hu=>by simp at hu;subst hu;rfl) (by simp only [maxLen];omega) (by omega) (by simp;omega) ?_)
    intro v' w8 r1 r2 r3;obtain ⟨b8,c8,rfl,_,_,_⟩:=cS r1 (by simpa using r3)
    have G8:ag (Gw w w8):=(G.o.alloc _ _).grown r2 (fun q hq=>(World.ownsRow.lt O.o q hq).1)
    have O8:ag (w8.ownsRow w.heap.size 3 1 (.slice (some ⟨b8,0,none⟩) (i+1) c8) (i+1) (mQ (rs.take (i+1)))):=jU.o (i+1) rn SZ.o T'.o _ _ r1;clear r1 r2 r3 O jU;go_wp2_with fail;go_roundg (40-(i+1))
    case measure=>omega
    case rel=>exact ⟨i+1,i+1,b8,c8,rfl,by go_num,by go_num,by omega,Nat.le_refl _,T',O8,G8⟩
  ·have ei:i=40:=by omega
   subst ei;have TT:rs.take 40=rs:=List.take_of_length_le (by rw [HC.o.len];exact Nat.le_refl _)
   rw [TT] at TP O;have tle:t<=40:=by have:=TP.o.le;rw [HC.o.len] at this;exact this
   have wO:40<=oc:=(cS O.o (by simp)).elim fun _ ⟨_,ev,_,h,_⟩=>by cases ev;exact h
   have kA:=(O.o.lt ob rfl).2;have CE:ag (∀ i,i<t->wS.cell? ⟨ob,i,none⟩=some (.int .i64 (eM (rs.getD i none):Int))):=fun i hi=>by
    have bV:i<rs.length:=by rw [HC.o.len];omega
    rw [World.ownsRow.cellAt O.o i (by omega)]
    unfold mQ;rw [List.getElem?_map,List.getElem?_eq_getElem bV,dL bV];rfl
   have h1:(t:Int)<=(oc:Int):=by omega
   clear TT O;go_wp2_with fail;go_ret;exact ⟨⟨t,ob,oc,rfl,TP.o,CE.o,kA⟩,G.o⟩
theorem ack {HR:aV} (H:cV HR) {w:World} {p px rb:Nat} {rs aI:List (Option Rn)} {eps buf B W:Int} (h:au HR w p rs eps buf B W) (hd:aG w px rb aI eps buf B W) (al:Al rs aI) :
  Calls prog 19 #[.pointer (some ⟨p,0,none⟩),.pointer (some ⟨px,0,none⟩)] w fun e w'=>e=.returned (.bool true)/\Gw w w':=by
 have HH:ag (cV HR):=H;have HC:ag (au HR w p rs eps buf B W):=h;have HD:ag (aG w px rb aI eps buf B W):=hd;have AL:ag (Al rs aI):=al;have RU:ag (Calls prog 16 #[.pointer (some ⟨p,0,none⟩)] w fun e w'=>(∃ (t b c:Nat),e=.returned (.slice (some ⟨b,0,none⟩) t c)/\dq rs t/\RO w' w.heap.size (.slice (some ⟨b,0,none⟩) t c) (rs.take t))/\Gw w w'):=OT h
 have SI:ag (∀ W,Gw w W->Calls prog 22 #[.pointer (some ⟨p,0,none⟩)] W fun e w'=>(∃ (t b:Nat),e=.returned (.slice (some ⟨b,0,none⟩) t t)/\dq rs t/\w'.rowIs b 3 t (fun i=>.int .i64 (eM (rs.getD i none):Int))/\W.heap.size<=b)/\Gw W w'):=fun W g=>OY H (h.gw H.kp g)
 have SD:ag (∀ W,Gw w W->Calls prog 48 #[.pointer (some ⟨px,0,none⟩)] W fun e w'=>(∃ t b c,e=.returned (.slice (some ⟨b,0,none⟩) t c)/\dq aI t/\(∀ i,i<t->w'.cell? ⟨b,i,none⟩=some (.int .i64 (eM (aI.getD i none):Int)))/\b<w'.heap.size)/\Gw W w'):=fun W g=>acj (hd.gw g)
 clear h hd al H;go_enter func19,ntmps19;go_wp2_with fail;refine Calls.mono RU.o ?_;rintro e w1 ⟨⟨t,lb,lc,rfl,tp,ro⟩,g1⟩;have G1:ag (Gw w w1):=g1;have TP:ag (dq rs t):=tp;have QU:ag (RO w1 w.heap.size (.slice (some ⟨lb,0,none⟩) t lc) (rs.take t)):=ro;clear g1 tp ro RU;go_wp2_with fail;refine Calls.mono (SI.o w1 G1.o) ?_;rintro e w2 ⟨⟨t2,sb,rfl,tp,mR,_⟩,g2⟩;obtain rfl:t2=t:=tp.one TP.o;have G2:ag (Gw w w2):=G1.o.trans g2;have QV:ag (RO w2 w.heap.size (.slice (some ⟨lb,0,none⟩) t2 lc) (rs.take t2)):=QU.o.gw g2;have Am:ag (w2.rowIs sb 3 t2 (fun i=>.int .i64 (eM (rs.getD i none):Int))):=mR
 clear g2 tp mR SI QU G1;go_wp2_with fail;refine Calls.mono (SD.o w2 G2.o) ?_;rintro e w3 ⟨⟨t,wb,wc,rfl,tp,cw,Fv⟩,g3⟩;obtain rfl:t=t2:=tp.one (AL.o.top TP.o);have G3:ag (Gw w w3):=G2.o.trans g3;have PRL:ag (∀ W,Gw w3 W->∀ i,i<t->W.cell? ⟨lb,i,none⟩=some (ptr (rs.getD i none))/\lb<W.heap.size/\W.cell? ⟨sb,i,none⟩=some (.int .i64 (eM (rs.getD i none):Int))/\sb<W.heap.size/\W.cell? ⟨wb,i,none⟩=some (.int .i64 (eM (rs.getD i none):Int))/\wb<W.heap.size):=fun W g i hi=>by
  have t40:t<=rs.length:=TP.o.le;have lt:(rs.take t).length=t:=by rw [List.length_take];omega
  have r3:W.ownsRow w.heap.size 57 1 (.slice (some ⟨lb,0,none⟩) t lc) t ((rs.take t).map ptr):=by
   have:=QV.o.gw (g3.trans g)
   unfold RO at this;rw [lt] at this;exact this
  have e1:(rs.take t).getD i none=rs.getD i none:=by rw [List.getD_eq_getElem?_getD,List.getElem?_take,if_pos hi,<-List.getD_eq_getElem?_getD]
  have bV:i<(rs.take t).length:=by omega
  refine ⟨?_,?_,?_,?_,?_,Nat.lt_of_lt_of_le Fv g.size⟩
  ·have:=World.ownsRow.cellAt r3 i (by omega)
   rw [this,List.getElem?_map,List.getElem?_eq_getElem bV,<-dL bV,e1];rfl
  ·exact (World.ownsRow.lt r3 lb rfl).2
  ·exact ((g3.trans g).cell _ _ Am.o.lt).trans (Am.o.cell hi)
  ·exact Nat.lt_of_lt_of_le Am.o.lt (g3.trans g).size
  ·rw [AL.o.size]
   exact (g.cell _ _ Fv).trans (cw i hi)
 clear g3 tp cw Fv SD QV Am G2;have Fw:=HC.o.gw HH.o.kp G3.o;have xw:=HD.o.gw G3.o;have x3:=GX.cell xw.c3 xw.plt;have x4:=GX.cell xw.c4 xw.plt;have BU:ag (∀ g:GX w3,Calls prog 23 #[.pointer (some ⟨p,0,none⟩)] g.1 fun e w'=>e=.returned (.int .i64 B)/\Gw g.1 w'):=fun g=>(OZ (Fw.gw HH.o.kp g.gw)).mono fun e w' ⟨a,b⟩=>⟨a,by rw [b];exact Gw.refl _⟩
 have WR:ag (∀ g:GX w3,Calls prog 24 #[.pointer (some ⟨p,0,none⟩)] g.1 fun e w'=>e=.returned (.int .i64 W)/\Gw g.1 w'):=fun g=>(O4 (Fw.gw HH.o.kp g.gw)).mono fun e w' ⟨a,b⟩=>⟨a,by rw [b];exact Gw.refl _⟩
 have ne:=GX.some w3;have t40:t<=40:=by have:=TP.o.le;rw [HC.o.len] at this;exact this
 clear Fw xw;go_upto_region 4 with fail;refine fO (by kernel_rfl) (by kernel_rfl) ?_
 repeat (go_big_quiet_step (fail))
 go_big_quiet_want;go_big_quiet_op
 go_big_quiet_call (exact dQ (BU.o _))
 repeat (go_big_quiet_step (fail))
 go_big_quiet_want;go_big_quiet_op
 go_big_quiet_call (exact dQ (WR.o _))
 repeat (go_big_quiet_step (fail))
 refine wpQuiet_nil ?_;rintro _ ⟨gu,rfl⟩;obtain ⟨w4,wE⟩:∃ w4,gu.1=w4:=⟨_,rfl⟩;have QW:ag (Gw w3 w4):=by rw [<-wE];exact gu.gw
 rw [wE];clear x3 x4 BU WR ne wE;go_wp2_with fail;go_loopg [8] t (fun gg s8 wr=>∃ i:Nat,s8=.int .i64 (i:Int)/\i<=t/\t-i<=gg/\ag (Gw w3 wr))
 case atStart=>exact ⟨0,rfl,Nat.zero_le _,by omega,QW⟩
 case round =>
  clear QW;obtain ⟨i,rfl,a1,a2,G⟩:=hrel;obtain ⟨wS,aZ⟩:∃ wx,wx=wr:=⟨_,rfl⟩;subst aZ;by_cases ak:i<t
  ·have dG:(i:Int)<(t:Int):=by omega
   have i40:i<40:=by omega
   have acm:(i:Int)<40:=by omega
   obtain ⟨k1,l1,k2,l2,k3,l3⟩:=PRL.o wS G.o i ak;have pI:=HD.o.gw (G3.o.trans G.o);obtain ⟨cc,_,c2⟩:=pI.c2;have pl:=pI.plt;have bl:=pI.blt;have ci:=pI.cell i40;rcases iJ rs i with e | ⟨r,e⟩
   ·rw [AL.o.no e] at ci
    rw [e] at k1 k2 k3;have cu:wS.cell? ⟨rb,i,none⟩=some (.pointer none):=ci;have An:wS.cell? ⟨lb,i,none⟩=some (.pointer none):=k1;generalize eM none=sz at k2 k3;clear ci e k1 pI;go_upto_region 10 with fail;go_quiet (fail);go_upto_region 12 with fail;have ne:=GX.some (wS.drewN nq);refine fO (by kernel_rfl) (by kernel_rfl) ?_
    repeat (go_big_quiet_step (fail))
    refine wpQuiet_nil ?_;rintro _ ⟨gv,rfl⟩;have G2:ag (Gw w3 gv.1):=(G.o.drewN _).trans gv.gw;go_wp2_with fail;go_roundg (t-(i+1))
    case measure=>omega
    case rel=>exact ⟨i+1,by go_num,by omega,Nat.le_refl _,G2⟩
   ·obtain ⟨r',e',y1,y2,y3⟩:=AL.o.is e
    rw [e'] at ci;rw [e] at k1 k2 k3;have cu:wS.cell? ⟨rb,i,none⟩=some (.pointer (some ⟨r'.p,0,none⟩)):=ci;have An:wS.cell? ⟨lb,i,none⟩=some (.pointer (some ⟨r.p,0,none⟩)):=k1;have RR:=(HC.o.runs r (jN (by rw [HC.o.len];exact i40) e)).1.gw HH.o.kp (G3.o.trans G.o)
    have RD:=(pI.runs r' (jN (by rw [pI.len];exact i40) e')).1
    have few:=RR.few;obtain ⟨pp,Sp,Fx,wv,wC⟩:=HH.o.pile RR.h;have rl:=HH.o.lt RR.h r.p (HH.o.own RR.h);obtain ⟨eo,ec,lo,xx,x1,xe,xv⟩:=RD.h.opened;obtain ⟨d0,d1,d2⟩:=qP x1;have xl:r'.p<wS.heap.size:=(Array.getElem?_eq_some_iff.1 x1).1;have Fy:=RD.h.sh;rw [y2] at d0;have QX:EL wS eo r.l:=by have:=xe;rw [y2] at this;exact this
    rw [y1] at d1;rw [y3] at d2 xv Fy;have XE:ag (EL wS eo r.l/\VS wS lo r.L/\kT r.L):=⟨QX,xv,Fy⟩;have EP:ag (∀ W,Gw wS W->Calls prog 49 #[.pointer (some ⟨pp,0,none⟩)] W fun e w'=>e=.returned (.int .i64 r.eps)/\w'=W):=fun W gg=>Dz (wv.keep fun q hq=>gg.below.block q (HH.o.lt RR.h q (wC q hq)))
    have LT:ag (∀ W,Gw wS W->Calls prog 50 #[.pointer (some ⟨r.p,0,none⟩)] W fun e w'=>(∃ bo c,e=.returned (.slice bo r.l.length c)/\EL w' bo r.l)/\Gw W w'):=fun W gg=>(HH.o.told (RR.gw HH.o.kp gg)).mono fun e w' ⟨⟨bo,c,a,b,_⟩,g⟩=>⟨⟨bo,c,a,b⟩,g⟩
    have LV:ag (∀ W,Gw wS W->Calls prog 52 #[.pointer (some ⟨r.p,0,none⟩)] W fun e w'=>(∃ mo mc,e=.returned (.slice mo r.L.length mc)/\VS w' mo r.L)/\Gw W w'):=fun W gg=>(HH.o.levels (RR.gw HH.o.kp gg).h).mono fun e w' ⟨⟨mo,mc,aj,a,ow,Ao,hl⟩,b⟩=>⟨⟨mo,mc,a,(ow.vsf Ao).vs⟩,b⟩
    have SL:ag (∀ (W:World) (xo:Option Addr) (xc:Nat),Gw wS W->EL W xo r.l->Calls prog 11 #[.slice xo r.l.length xc,.slice eo r.l.length ec] W fun e w'=>e=.returned (.bool true)/\Gw W w'):=fun W xo xc gg hx=>OM xo eo xc ec r.l (by omega) W hx (XE.o.1.gw gg)
    have ML:ag (∀ (W:World) (mo:Option Addr) (mc:Nat),Gw wS W->VS W mo r.L->Calls prog 51 #[.slice mo r.L.length mc,.slice lo r.L.length xx] W fun e w'=>e=.returned (.bool true)/\Gw W w'):=fun W mo mc gg hv=>abZ mo lo mc xx r.L (by have:=XE.o.2.2.1;omega) (fun i hi=>by have:=XE.o.2.2.2 i hi;omega) W hv (XE.o.2.1.gw gg)
    obtain ⟨QY,Q6⟩:∃ x,r.l=x:=⟨_,rfl⟩;obtain ⟨rL,Q9⟩:∃ x,r.L=x:=⟨_,rfl⟩;rw [Q6] at d0 LT SL few;rw [Q9] at d2 LV ML;obtain ⟨rn,mG⟩:∃ x,QY.length=x:=⟨_,rfl⟩;obtain ⟨rh,Ra⟩:∃ x,rL.length=x:=⟨_,rfl⟩;rw [mG] at d0 LT SL few;rw [Ra] at d2 LV ML;generalize r.eps=re at d1 EP;generalize r.p=rp at An Fx rl LT LV;generalize r'.p=rx at cu d0 d1 d2 xl;have HW:ag (∀ w',Gw wS w'->Gw wS w'/\w'.cell? ⟨lb,i,none⟩=some (.pointer (some ⟨rp,0,none⟩))/\w'.cell? ⟨rp,0,none⟩=some (.pointer (some ⟨pp,0,none⟩))/\w'.cell? ⟨rx,0,none⟩=some (.slice eo rn ec)/\w'.cell? ⟨rx,1,none⟩=some (.int .i64 re)/\w'.cell? ⟨rx,2,none⟩=some (.slice lo rh xx)):=fun w' gg=>⟨gg,(gg.cell _ _ l1).trans An,(gg.cell _ _ rl).trans Fx,(gg.cell _ _ xl).trans d0,(gg.cell _ _ xl).trans d1,(gg.cell _ _ xl).trans d2⟩
    generalize eM (some r)=sz at k2 k3;clear ci e e' y1 y2 y3 k1 pI RR RD wv wC x1 xe QX xv Fy Q6 Q9 mG Ra d0 d1 d2 Fx xl rl;go_upto_region 10 with fail;go_quiet (fail);go_upto_region 12 with fail;have G0:ag (Gw wS (wS.drewN nq)):=(Gw.refl wS).drewN _;generalize wS.drewN nq=wD at G0 ⊢;clear c2 pl bl cu An l1 k2 l2 k3 l3;go_region_held3 (fun w'=>Gw wS w'/\w'.cell? ⟨lb,i,none⟩=some (.pointer (some ⟨rp,0,none⟩))/\w'.cell? ⟨rp,0,none⟩=some (.pointer (some ⟨pp,0,none⟩))/\w'.cell? ⟨rx,0,none⟩=some (.slice eo rn ec)/\w'.cell? ⟨rx,1,none⟩=some (.int .i64 re)/\w'.cell? ⟨rx,2,none⟩=some (.slice lo rh xx))
     ((refine HW.o _ ?_;(repeat (first | exact Gw.refl _ | exact And.left (by assumption) | exact ag.o (by assumption) | refine Gw.drew ?_ | refine Gw.trans ?_ (by assumption)));done))
     ((
      first
      | (go_at_call 49;refine (EP.o _ (by repeat (first | exact Gw.refl _ | exact And.left (by assumption) | exact ag.o (by assumption) | refine Gw.drew ?_ | refine Gw.drewN ?_ _))).mono ?_;rintro ex w5 ⟨rfl,rfl⟩)
      | (go_at_call 50;refine (LT.o _ (by repeat (first | exact Gw.refl _ | exact And.left (by assumption) | exact ag.o (by assumption) | refine Gw.drew ?_ | refine Gw.drewN ?_ _))).mono ?_;rintro ex w7 ⟨⟨bo,bc,rfl,Rb⟩,g7⟩;have E7:ag (EL w7 bo QY):=Rb;have G7:ag (Gw wS w7):=(Gw.trans (by repeat (first | exact Gw.refl _ | exact And.left (by assumption) | exact ag.o (by assumption) | refine Gw.drew ?_ | refine Gw.drewN ?_ _)) g7);clear g7 Rb)
      | (go_at_call 11;refine (SL.o w7 bo bc G7.o E7.o).mono ?_;rintro ex w8 ⟨rfl,g8⟩;have G8:ag (Gw wS w8):=G7.o.trans g8;clear g8)
      | (go_at_call 52;refine (LV.o w8 G8.o).mono ?_;rintro ex w9 ⟨⟨mo,mc,rfl,Rc⟩,g9⟩;have V9:ag (VS w9 mo rL):=Rc;have G9:ag (Gw wS w9):=G8.o.trans g9;clear g9 Rc)
      | (go_at_call 51;refine (ML.o w9 mo mc G9.o V9.o).mono ?_;rintro ex wZ ⟨rfl,gZ⟩;have GZ:ag (Gw wS wZ):=G9.o.trans gZ;clear gZ)))
    all_goals
     have G2:ag (Gw w3 wZ):=G.o.trans GZ.o;go_wp2_with fail;go_roundg (t-(i+1))
     case measure=>omega
     case rel=>exact ⟨i+1,by go_num,by omega,Nat.le_refl _,G2⟩
  ·have ei:i=t:=by omega
   subst ei;go_wp2_with fail;go_ret;exact ⟨rfl,G3.o.trans G.o⟩
end Go.Proofs.YtklkpldicbkjeaaGreat
