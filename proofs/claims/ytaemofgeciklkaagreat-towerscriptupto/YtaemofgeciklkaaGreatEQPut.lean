import Derived.Test.YtaemofgeciklkaaGreatEQMem
set_option linter.unusedVariables false
set_option maxHeartbeats 4000000
set_option maxRecDepth 20000
open Go.Proofs.Tryz
namespace Go.Proofs.YtaemofgeciklkaaGreat
open Go.RowKit
def wJ (w w':World) (p:Nat) (S:Nat->Prop) (most:Int) (l:List ah) (k:Nat):Prop:=∃ b cap,w'.heap[p]?=some (.cells #[By most,ψ b 0 (l.length+1) cap] 114 (0,0))/\EO w' 0 (ψ b 0 (l.length+1) cap) (mq (l++[aq]) l.length k)/\b≠p/\Gx S w w'/\(S b\/w.heap.size<=b)
theorem aej (p:Nat) (S:Nat->Prop) (most:Int) (l:List ah) (k:Nat) (hk:k<=l.length) (hn:l.length<=4000000) (w:World) (h:HB 114 w p S most l) :
  Calls prog 81 #[IS p,By (k:Int)] w fun e w'=>e=π #[]/\wJ w w' p S most l k:=by
 obtain ⟨v,h1,h2,h3,h4⟩:=h.lies;obtain ⟨ii,aK,hz,hs,aJ⟩:=info_parts kZ;have c1:w.cell? (φ p 1)=some v:=aj h1 rfl;have pl:=ak h1;obtain ⟨n,ax⟩:=qbr l.length;have LN:ag (l.length=n):=ax;have OW:ag (w.ownsRow 0 71 3 v n (l.flatMap aI)):=by have:=h2;unfold EO at this;rw [ax] at this;exact this
 rw [ax] at hk hn;have oP:ag (∀ (b cap:Nat) (w5:World),w5.ownsRow 0 71 3 (ψ b 0 (n+1) cap) (n+1) (l.flatMap aI++aI aq)->(w.alloc (.cells #[BY 0,BY 0,.bool false] 71)).grownBy w5 v.ownBlock->(v.ownBlock=some b\/b=w.heap.size+1)->w5.heap[p]?=some (.cells #[By most,v] 114 (0,0))/\b≠p/\(S b\/w.heap.size<=b)/\(w5.setCell (φ p 1) (ψ b 0 (n+1) cap)).heap[p]?=some (.cells #[By most,ψ b 0 (n+1) cap] 114 (0,0))/\EO (w5.setCell (φ p 1) (ψ b 0 (n+1) cap)) 0 (ψ b 0 (n+1) cap) (l++[aq])/\Gx S w (w5.setCell (φ p 1) (ψ b 0 (n+1) cap))):=fun b cap w5 r1 r2 r4=>by
  have bp:b≠p:=by
   rcases r4 with q | q
   ·exact h3 b q
   ·omega
  have B5:w5.heap[p]?=some (.cells #[By most,v] 114 (0,0)):=((r2.block p ζ (fun e=>h3 p e.symm rfl)).trans (qap w _ pl)).trans h1
  have E5:EO w5 0 (ψ b 0 (n+1) cap) (l++[aq]):=pQ (by rw [LN.o];exact r1)
  refine ⟨B5,bp,?_,by rw [uj B5];rfl,lU E5 (fun q hq=>qac _ _ _ _ (by cases hq;exact bp)),((((Gx.refl S w).alloc _ _).grown r2 (fun q hq=>.inl ((h4 q).2 (.inr hq)))).set (.inl h.own) _ _)⟩
  rcases r4 with q | q
  ·exact .inl ((h4 b).2 (.inr q))
  ·exact .inr ω
 have Uo:ag (∀ (b cap:Nat) (w6 w7:World),b≠p->(S b\/w.heap.size<=b)->w6.heap[p]?=some (.cells #[By most,ψ b 0 (n+1) cap] 114 (0,0))->Gx S w w6->EO w7 0 (ψ b 0 (n+1) cap) (mq (l++[aq]) n k)->Gx (fun q=>q=b) w6 w7->wJ w w7 p S most l k):=fun b cap w6 w7 bp sb b6 g6 e7 g7=>by
  refine ⟨b,cap,?_,?_,bp,g6.trans g7 (fun q hq=>by rw [show q=b from hq];exact sb),sb⟩
  ·rw [LN.o]
   exact (g7.block p (ak b6) (fun e=>bp e.symm)).trans b6
  ·rw [LN.o];exact e7
 obtain ⟨bo,vc,rfl,hvc,_⟩:=fg h2;rw [ax] at c1 OW oP hvc;have L1:ag ((l++[aq]).length=n+1):=by show _=_;rw [Ψ,LN.o];rfl
 clear h h1 h2 h3 h4 ax;go_enter func81,ntmps81;go_wp2_with (at_builtin;refine wpList_append_own_at _ rfl _ _ 72 rfl 0 71 ii (.agg #[BY 0,BY 0,.bool false]) 3 24 underlying72 aK hz hs aJ rfl γ _ n _ rfl (OW.o.alloc _) ⟨w.heap.size,0,none⟩ 1 1 (aI aq) rfl rfl (lV w aq) (kC _) θ ω (Γ _) ?_);intro v' w5 r1 r2 r3 r4;obtain ⟨b,cap,rfl,_,oQ,_⟩:=cJ r1 (by simpa using r3)
 obtain ⟨B5,bp,sb,B6,E6,G6⟩:=oP.o b cap w5 r1 r2 (by
  rcases r4 with q | q
  ·exact .inl (by simpa [Value.ownBlock] using q.symm)
  ·exact .inr (by simpa [Value.ownBlock] using q))
 have d1:w5.cell? (φ p 1)=some (.slice bo n vc):=aj B5 rfl;have d2:=bC (o:=1) B5;have pl5:=ak B5;obtain ⟨W6,hW6⟩:=qbr (w5.setCell (φ p 1) (ψ b 0 (n+1) cap));rw [hW6] at B6 E6 G6;have b1:W6.cell? (φ p 1)=some (ψ b 0 (n+1) cap):=aj B6 rfl;have pl6:=ak B6;have BB:ag (W6.heap[p]?=some (.cells #[By most,ψ b 0 (n+1) cap] 114 (0,0))):=B6;have EE:ag (EO W6 0 (ψ b 0 (n+1) cap) (l++[aq])):=E6;have GG:ag (Gx S w W6):=G6;clear r1 r2 r3 r4 B5 B6 E6 G6 oP OW c1;go_wp2_with fail;by_cases kc:k+1=cap
 ·have kn:k=n:=by omega
  subst kn;subst kc;have i1:IntKind.i64.wrap ((k:Int)+1)=(k:Int)+1:=by rw [Δ];omega
  have i5:(k:Int)<=(k:Int)+1:=ω;have i0:0<=(k:Int)+1:=ω;go_region_law (refine Ue rfl (.tmp 20) (.tmp 26) rfl b (k+1) k k (l++[aq]) (lU EE.o (fun _ _=>rfl)) L1.o (Yk _) (some (φ b 0)) 0 0 (k*3) 1 1 ρ ρ ω ω rfl (fun q=>absurd q (Nat.lt_irrefl _)) ?_;intro w7 e7 g7;have R7:ag (wJ w w7 p S most l k):=Uo.o b _ W6 w7 bp sb BB.o GG.o e7 ((Gx.refl _ W6).drew.trans g7 (fun q hq=>.inl hq));clear e7 g7)
  all_goals go_wp2_with fail
  all_goals go_end0
  all_goals exact ⟨rfl,R7.o⟩
 ·have i1:IntKind.i64.wrap ((k:Int)+1)=(k:Int)+1:=by rw [Δ];omega
  have i0:0<=(k:Int)+1:=ω;have i2:(k:Int)+1<=(n:Int)+1:=ω;have i3:(k:Int)+1<=(cap:Int):=ω;have i4:(k:Int)<=(n:Int)+1:=ω;have i5:(k:Int)<=(cap:Int):=ω;have i6:(n:Int)+1<=(cap:Int):=ω;have j1:(cap=k+1)=False:=by simp;omega
  have j2:(cap=k)=False:=by simp;omega
  go_region_law (refine Ue rfl (.tmp 20) (.tmp 26) rfl b cap n k (l++[aq]) (lU EE.o (fun _ _=>rfl)) L1.o hk (some (φ b ((k+1)*3))) (n-k) (cap-(k+1)) (k*3) (n+1-k) (cap-k) ρ ρ rfl rfl rfl (fun q=>rfl) ?_;intro w7 e7 g7;have R7:ag (wJ w w7 p S most l k):=Uo.o b _ W6 w7 bp sb BB.o GG.o e7 ((Gx.refl _ W6).drew.trans g7 (fun q hq=>.inl hq));clear e7 g7)
  all_goals go_wp2_with fail
  all_goals go_end0
  all_goals exact ⟨rfl,R7.o⟩
theorem Uq {t:TypeId} {w W:World} {p b m cap k:Nat} {S:Nat->Prop} {most:Int} {L l':List ah} {e:ah} (h1:W.heap[p]?=some (.cells #[By most,ψ b 0 m cap] t (0,0))) (h2:EO W 0 (ψ b 0 m cap) L) (hm:L.length=m) (bp:b≠p) (hk:k<m) (g:Gx S w W) (sb:S b\/w.heap.size<=b) (sp:S p) (el:L.set k e=l') (r:aH ah.k l') (ok:∀ x∈l',x.ok) (rm:(l'.length:Int)<=most):jv t w (put3 W b (k*3) e) p S most l':=by
 refine ⟨fun q=>q=p\/q=b,⟨⟨ψ b 0 m cap,?_,?_,fun q hq=>?_,fun q=>?_⟩,r,ok,rm⟩,((g.set sb _ _).set sb _ _).set sb _ _,fun q hq=>?_⟩
 ·unfold put3
  rw [qac _ _ _ _ (fun x=>bp x.symm),qac _ _ _ _ (fun x=>bp x.symm),qac _ _ _ _ (fun x=>bp x.symm)]
  exact h1
 ·rw [<-el]
  exact acR h2 hm ω e
 ·cases hq;exact bp
 ·constructor
  ·rintro (x | x)
   ·exact .inl x
   ·exact .inr (by rw [x];rfl)
  ·rintro (x | x)
   ·exact .inl x
   ·exact .inr (by cases x;rfl)
 ·rcases hq with x | x
  ·rw [x];exact .inl sp
  ·rw [x];exact sb
theorem Ur (p:Nat) (S:Nat->Prop) (most:Int) (l:List ah) (e:ah) (hn:l.length<=4000000) (eZ:e.ok) (w:World) (h:HB 114 w p S most l) :
  Calls prog 49 #[IS p,.agg #[BY e.k,BY e.v,.bool e.g]] w fun ex w'=>ex=χ (By (mj most l e).1)/\jv 114 w w' p S most (mj most l e).2:=by
 have H:ag (HB 114 w p S most l):=h;have FD:ag (∀ W,Gw w W->Calls prog 80 #[IS p,BY e.k] W fun ex w'=>ex=π #[By (aV ah.k e.k l:Int),.bool (look ah.k e.k l).isSome]/\Gw W w'):=fun W g=>Uj p S most l e.k hn W (h.gw g)
 have FU:ag (∀ W,Gw w W->Calls prog 50 #[IS p] W fun ex w'=>ex=χ (.bool ((l.length:Int) == most))/\Gw W w'):=fun W g=>Ul p S most l W (h.gw g)
 have oG:ag (∀ W,Gw w W->jv 114 w W p S most l):=fun W g=>jv.same h g
 obtain ⟨bq,aE⟩:=qbr w.heap.size;have BQ:ag (w.heap.size=bq):=aE;have BX:ag (∀ u,Gw (w.alloc (.cells #[BY e.k,BY e.v,.bool e.g] 71)) u->(u.cell? (φ bq 0)=some (BY e.k)/\u.cell? (φ bq 1)=some (BY e.v)/\u.cell? (φ bq 2)=some (.bool e.g))/\bq<u.heap.size):=fun u gg=>by
  have NB:u.heap[bq]?=some (.cells #[BY e.k,BY e.v,.bool e.g] 71 (0,0)):=by rw [<-BQ.o];exact (gg.below.block _ ε).trans (Ω _ _)
  exact ⟨⟨aj NB rfl,aj NB rfl,aj NB rfl⟩,ak NB⟩
 have l9:ag (∀ x∈ins ah.k e l,x.ok):=vL eZ h.ok;have RI:ag (aH ah.k (ins ah.k e l)):=h.rise.ins;by_cases bad:e.g=true/\e.v≠0
 ·have PR:ag (mj most l e=(31,l)):=by show _=_;unfold mj;rw [Ym bad]
  obtain ⟨ek,ev,eg⟩:=e;obtain ⟨b1,b2⟩:=bad;have Us:eg=true:=b1;have b2':((ev:Int) == 0)=false:=by simpa using b2
  subst Us;clear h FD FU l9 RI BX aE b1 b2;simp only at b2' ⊢;go_enter func49,ntmps49;go_wp2_with fail;go_ret;rw [PR.o];exact ⟨rfl,oG.o _ ((Gw.refl w).alloc _ _)⟩
 ·cases hk:look ah.k e.k l with
  | none =>
   rw [hk] at FD;by_cases full:(l.length:Int)=most
   ·have PR:ag (mj most l e=(140,l)):=(by show _=_;unfold mj;rw [Yl bad,Ym ⟨hk,full⟩]);rw [show ((l.length:Int) == most)=true by simpa using full] at FU
    obtain ⟨ek,ev,eg⟩:=e;simp only at FD BX ⊢;generalize aV ah.k ek l=pp at FD;have zw:eg=false\/(eg=true/\((ev:Int) == 0)=true):=by
     cases eg with
     | false=>exact .inl rfl
     | true =>
      refine .inr ⟨rfl,?_⟩;have:¬ ev≠0:=fun q=>bad ⟨rfl,q⟩
      simpa using this
    clear h l9 RI hk full bad eZ;rcases zw with rfl | ⟨rfl,b2⟩ <;>
    ·go_enter func49,ntmps49
     go_wp2_with fail;refine (FD.o _ ((Gw.refl w).alloc _ _)).mono ?_
     rintro ex u1 ⟨rfl,g⟩;have G1:ag (Gw w u1):=((Gw.refl w).alloc _ _).trans g;clear g FD BX;go_wp2_with fail;refine (FU.o _ G1.o).mono ?_;rintro ex u2 ⟨rfl,g⟩;have G2:ag (Gw w u2):=G1.o.trans g;clear g FU G1;go_wp2_with fail;go_ret;rw [PR.o];exact ⟨rfl,oG.o _ G2.o⟩
   ·have PR:ag (mj most l e=(0,ins ah.k e l)):=(by show _=_;unfold mj;rw [Yl bad,Yl (fun q=>full q.2)]);rw [show ((l.length:Int) == most)=false by simpa using full] at FU
    have OP:ag (∀ W,Gw w W->Calls prog 81 #[IS p,By (aV ah.k e.k l:Int)] W fun ex w'=>ex=π #[]/\wJ W w' p S most l (aV ah.k e.k l)):=fun W g=>aej p S most l _ (yG _ _) hn W (h.gw g)
    have pl:=yG (key:=ah.k) e.k l;have nR:ag (∀ (u W:World) (b cap:Nat),Gw w u->W.heap[p]?=some (.cells #[By most,ψ b 0 (l.length+1) cap] 114 (0,0))->EO W 0 (ψ b 0 (l.length+1) cap) (mq (l++[aq]) l.length (aV ah.k e.k l))->b≠p->Gx S u W->(S b\/u.heap.size<=b)->jv 114 w (put3 W b (aV ah.k e.k l*3) e) p S most (ins ah.k e l)):=fun u W b cap gu c1 c2 c3 c4 c5=>by
     refine Uq c1 c2 (zt ε pl) c3 ω ((gu.gx S).trans c4 (fun q hq=>.inl hq)) ?_ H.o.own (by rw [aea pl,Cp hk]) RI.o l9.o (by rw [QA hk];have:=H.o.room;omega)
     rcases c5 with x | x
     ·exact .inl x
     ·exact .inr (Φ gu.size x)
    have rQ:ag (∀ (u W:World) (b cap:Nat),Gw (w.alloc (.cells #[BY e.k,BY e.v,.bool e.g] 71)) u->EO W 0 (ψ b 0 (l.length+1) cap) (mq (l++[aq]) l.length (aV ah.k e.k l))->Gx S u W->((W.cell? (φ bq 0)=some (BY e.k)/\W.cell? (φ bq 1)=some (BY e.v)/\W.cell? (φ bq 2)=some (.bool e.g))/\bq<W.heap.size)/\∃ x:ah,(W.cell? (φ b (aV ah.k e.k l*3))=some (BY x.k)/\W.cell? (φ b (aV ah.k e.k l*3+1))=some (BY x.v)/\W.cell? (φ b (aV ah.k e.k l*3+2))=some (.bool x.g))/\(∀ i,W.frozen? (φ b i)=false)/\b<W.heap.size):=fun u W b cap gu c2 c4=>by
     obtain ⟨⟨x0,x1,x2⟩,x3⟩:=BX.o u gu;have nb:¬ S bq:=fun q=>by have:=H.o.lt bq q;have:=BQ.o;omega
     have kc:∀ o,W.cell? (φ bq o)=u.cell? (φ bq o):=fun o=>qba (a:=⟨bq,o,none⟩) (c4.block bq x3 nb)
     obtain ⟨b',eb,_,y2,y3,y4⟩:=Ip c2 (zt ε pl) ω;injection eb with eb;injection eb with eb;subst eb;exact ⟨⟨⟨(kc 0).trans x0,(kc 1).trans x1,(kc 2).trans x2⟩,Θ x3 c4.size⟩,_,y4 _ ω,y3,y2⟩
    obtain ⟨ek,ev,eg⟩:=e;simp only at FD BX OP nR rQ pl ⊢;generalize JC:aV ah.k ek l=pp at FD OP nR rQ pl;have zw:eg=false\/(eg=true/\((ev:Int) == 0)=true):=by
     cases eg with
     | false=>exact .inl rfl
     | true =>
      refine .inr ⟨rfl,?_⟩;have:¬ ev≠0:=fun q=>bad ⟨rfl,q⟩
      simpa using this
    obtain ⟨n,ax⟩:=qbr l.length;unfold wJ at OP;rw [ax] at hn pl OP nR rQ;have JD:(pp:Int)<((n+1:Nat):Int):=ω;have kA:(pp:Int)<(n:Int)+1:=ω;clear h l9 RI hk full bad eZ JC ax;rcases zw with rfl | ⟨rfl,b2⟩ <;>
    ·go_enter func49,ntmps49
     go_wp2_with fail;refine (FD.o _ ((Gw.refl w).alloc _ _)).mono ?_
     rintro ex u1 ⟨rfl,g⟩;have G1:ag (Gw (w.alloc _) u1):=g;have nT:ag (Gw w u1):=((Gw.refl w).alloc _ _).trans g;clear g FD BX;go_wp2_with fail;refine (FU.o _ nT.o).mono ?_;rintro ex u2 ⟨rfl,g⟩;have G2:ag (Gw (w.alloc _) u2):=G1.o.trans g;have Ut:ag (Gw w u2):=nT.o.trans g;clear g FU G1 nT;go_wp2_with fail;refine (OP.o _ Ut.o).mono ?_;rintro ex u3 ⟨rfl,b,cap,o1,o2,o3,o4,o5⟩;have av:ag (jv 114 w (put3 u3.drew b (pp*3) _) p S most _):=nR.o u2 u3.drew b cap Ut.o o1 (lU o2 (fun _ _=>rfl)) o3 o4.drew o5
     obtain ⟨⟨⟨x0,x1,x2⟩,x3⟩,y,⟨y0,y1,y2⟩,y3,y4⟩:=rQ.o u2 u3 b cap G2.o o2 o4;have c1:u3.cell? (φ p 1)=some (ψ b 0 (n+1) cap):=aj o1 rfl;have z0:=y3 (pp*3);have z1:=y3 (pp*3+1);have z2:=y3 (pp*3+2);clear o1 o2 o3 o4 o5 OP nR rQ y3 aE oG;go_wp2_with fail;go_region
     all_goals go_wp2_with fail
     all_goals go_ret
     all_goals rw [PR.o]
     all_goals exact ⟨rfl,av.o⟩
  | some y =>
   rw [hk] at FD;have PR:ag (mj most l e=(0,ins ah.k e l)):=(by show _=_;unfold mj;rw [Yl bad,Yl (fun q=>by rw [hk] at q;cases q.1)]);have pl:=Cn H.o.rise hk;have nR:ag (∀ (W:World),Gw w W->∃ b cap,W.cell? (φ p 1)=some (ψ b 0 l.length cap)/\jv 114 w (put3 W.drew b (aV ah.k e.k l*3) e) p S most (ins ah.k e l)/\∃ x:ah,(W.cell? (φ b (aV ah.k e.k l*3))=some (BY x.k)/\W.cell? (φ b (aV ah.k e.k l*3+1))=some (BY x.v)/\W.cell? (φ b (aV ah.k e.k l*3+2))=some (.bool x.g))/\(∀ i,W.frozen? (φ b i)=false)/\b<W.heap.size):=fun W gW=>by obtain ⟨v,h1,h2,h3,h4⟩:=(H.o.gw gW).lies;obtain ⟨bo,c,rfl,hc,_⟩:=fg h2;obtain ⟨b,rfl,_,y2,y3,y4⟩:=Ip h2 rfl ω;refine ⟨b,c,aj h1 rfl,Uq h1 (lU h2 (fun _ _=>rfl)) rfl (h3 b rfl) pl (gW.gx S).drew (.inl ((h4 b).2 (.inr rfl))) H.o.own (Co H.o.rise hk).symm RI.o l9.o (by rw [QB H.o.rise hk];exact H.o.room),_,y4 _ pl,y3,y2⟩
   obtain ⟨ek,ev,eg⟩:=e;simp only at FD BX nR pl ⊢;generalize JC:aV ah.k ek l=pp at FD nR pl;have zw:eg=false\/(eg=true/\((ev:Int) == 0)=true):=by
    cases eg with
    | false=>exact .inl rfl
    | true =>
     refine .inr ⟨rfl,?_⟩;have:¬ ev≠0:=fun q=>bad ⟨rfl,q⟩
     simpa using this
   obtain ⟨n,ax⟩:=qbr l.length;rw [ax] at hn pl nR;have JD:(pp:Int)<(n:Int):=ω;clear h l9 RI hk bad eZ JC ax FU;rcases zw with rfl | ⟨rfl,b2⟩ <;>
   ·go_enter func49,ntmps49
    go_wp2_with fail;refine (FD.o _ ((Gw.refl w).alloc _ _)).mono ?_
    rintro ex u3 ⟨rfl,g⟩;have nT:ag (Gw w u3):=((Gw.refl w).alloc _ _).trans g;obtain ⟨⟨x0,x1,x2⟩,x3⟩:=BX.o u3 g;obtain ⟨b,cap,c1,res,y,⟨y0,y1,y2⟩,y3,y4⟩:=nR.o u3 nT.o;have av:ag (jv 114 w (put3 u3.drew b (pp*3) _) p S most _):=res;have z0:=y3 (pp*3);have z1:=y3 (pp*3+1);have z2:=y3 (pp*3+2);clear g FD BX nR res y3 aE oG;go_wp2_with fail;go_region
    all_goals go_wp2_with fail
    all_goals go_ret
    all_goals rw [PR.o]
    all_goals exact ⟨rfl,av.o⟩
theorem aek (p:Nat) (S:Nat->Prop) (most:Int) (l:List ah) (hn:l.length<=4000000) (w:World) (h:HB 114 w p S most l) :
  Calls prog 47 #[IS p] w fun e w'=>(∃ p' S',e=χ (.pointer (some (φ p' 0)))/\HB 114 w' p' S' most l/\∀ q,S' q->w.heap.size<=q)/\Gw w w':=by
 have LI:ag (∀ W,Gw w W->Calls prog 58 #[IS p] W fun e w'=>(∃ v',e=χ v'/\EO w' W.heap.size v' l)/\Gw W w'):=fun W g=>Um p S most l hn W (h.gw g)
 have C0:ag (∀ W,Gw w W->W.cell? (φ p 0)=some (By most)/\p<W.heap.size):=fun W g=>by obtain ⟨v,h1,_⟩:=(h.gw g).lies;exact ⟨aj h1 rfl,ak h1⟩
 have aD:ag (∀ W v,EO W w.heap.size v l->Gw w W->(∃ p' S',Ending.returned (IS (W.heap.size))=χ (.pointer (some (φ p' 0)))/\HB 114 (W.alloc (.cells #[By most,v] 114)) p' S' most l/\∀ q,S' q->w.heap.size<=q)/\Gw w (W.alloc (.cells #[By most,v] 114))):=fun W v ho g=>by
  refine ⟨⟨_,fun q=>q=W.heap.size\/v.ownBlock=some q,rfl,⟨⟨v,Ω W _,tI (nC ho ((Gw.refl W).alloc _ _)) (Γ _),fun q hq=>Nat.ne_of_lt (World.ownsRow.lt ho q hq).2,fun q=>Iff.rfl⟩,h.rise,h.ok,h.room⟩,fun q hq=>?_⟩,g.alloc _ _⟩
  rcases hq with x | x
  ·rw [x];exact g.size
  ·exact (World.ownsRow.lt ho q x).1
 obtain ⟨c0,pl⟩:=C0.o w (Gw.refl w);clear h hn;go_enter func47,ntmps47;go_wp2_with fail;go_region_with (go_at_call 58;refine (LI.o _ ((Gw.refl _).drew)).mono ?_;rintro e w4 ⟨⟨v4,rfl,o4⟩,g4⟩;have G4:ag (Gw w w4):=((Gw.refl _).drew.trans g4);obtain ⟨c4,l4⟩:=C0.o w4 G4.o;obtain ⟨bo4,bc4,ev4,_,_⟩:=fg o4;have O4:ag (EO w4 w.heap.size v4 l):=o4;have F4:ag _:=aD.o w4 v4 o4 G4.o;subst ev4;clear o4 g4)
 all_goals go_wp2_with fail
 all_goals go_ret
 all_goals exact F4.o
