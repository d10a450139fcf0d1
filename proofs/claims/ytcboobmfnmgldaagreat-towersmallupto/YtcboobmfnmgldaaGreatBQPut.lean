/- Package buffer: open, Put, Clone. -/
import Derived.Maps.AppendAt
import Derived.Test.YtcboobmfnmgldaaGreatBQMem
set_option linter.unusedVariables false
set_option maxHeartbeats 4000000
set_option maxRecDepth 20000
open Go.Proofs.Tryz
namespace Go.Proofs.YtcboobmfnmgldaaGreat
open Go.RowKit
def uu (w w':World) (p:Nat) (S:Nat->Prop) (most:Int) (l:List ah) (k:Nat):Prop:=∃ b cap,w'.heap[p]?=some (.cells #[AI most,.slice (some ⟨b,0,none⟩) (l.length+1) cap] 115 (0,0))/\EO w' 0 (.slice (some ⟨b,0,none⟩) (l.length+1) cap) (kM (l++[ax]) l.length k)/\b≠p/\Gx S w w'/\(S b\/w.heap.size<=b)
theorem acB (p:Nat) (S:Nat->Prop) (most:Int) (l:List ah) (k:Nat) (hk:k<=l.length) (hn:l.length<=4000000) (w:World) (h:HB 115 w p S most l) :
  Calls prog 82 #[BY p,AI (k:Int)] w fun e w'=>e=.returned (.tuple #[])/\uu w w' p S most l k:=by
 obtain ⟨v,h1,h2,h3,h4⟩:=h.lies;obtain ⟨ii,aQ,hz,hs,aR⟩:=info_parts nK;have c1:w.cell? ⟨p,1,none⟩=some v:=aj h1 rfl;have pl:=aC h1;obtain ⟨n,au⟩:∃ n,l.length=n:=⟨_,rfl⟩;have LN:ag (l.length=n):=au;have OW:ag (w.ownsRow 0 75 3 v n (l.flatMap aO)):=by have:=h2;unfold EO at this;rw [au] at this;exact this
 rw [au] at hk hn;have mP:ag (∀ (b cap:Nat) (w5:World),w5.ownsRow 0 75 3 (.slice (some ⟨b,0,none⟩) (n+1) cap) (n+1) (l.flatMap aO++aO ax)->(w.alloc (.cells #[By 0,By 0,.bool false] 75)).grownBy w5 v.ownBlock->(v.ownBlock=some b\/b=w.heap.size+1)->w5.heap[p]?=some (.cells #[AI most,v] 115 (0,0))/\b≠p/\(S b\/w.heap.size<=b)/\(w5.setCell ⟨p,1,none⟩ (.slice (some ⟨b,0,none⟩) (n+1) cap)).heap[p]?=some (.cells #[AI most,.slice (some ⟨b,0,none⟩) (n+1) cap] 115 (0,0))/\EO (w5.setCell ⟨p,1,none⟩ (.slice (some ⟨b,0,none⟩) (n+1) cap)) 0 (.slice (some ⟨b,0,none⟩) (n+1) cap) (l++[ax])/\Gx S w (w5.setCell ⟨p,1,none⟩ (.slice (some ⟨b,0,none⟩) (n+1) cap))):=fun b cap w5 r1 r2 r4=>by
  have bp:b≠p:=by
   rcases r4 with q | q
   ·exact h3 b q
   ·omega
  have B5:w5.heap[p]?=some (.cells #[AI most,v] 115 (0,0)):=((r2.block p (by simp;omega) (fun e=>h3 p e.symm rfl)).trans (heap_alloc_old w _ pl)).trans h1
  have E5:EO w5 0 (.slice (some ⟨b,0,none⟩) (n+1) cap) (l++[ax]):=rf (by rw [LN.o];exact r1)
  refine ⟨B5,bp,?_,by rw [xC B5];rfl,mL E5 (fun q hq=>Go.Deep.blk_setCell_other _ _ _ _ (by cases hq;exact bp)),((((Gx.refl S w).alloc _ _).grown r2 (fun q hq=>.inl ((h4 q).2 (.inr hq)))).set (.inl h.own) _ _)⟩
  rcases r4 with q | q
  ·exact .inl ((h4 b).2 (.inr q))
  ·exact .inr (by omega)
 have Rf:ag (∀ (b cap:Nat) (w6 w7:World),b≠p->(S b\/w.heap.size<=b)->w6.heap[p]?=some (.cells #[AI most,.slice (some ⟨b,0,none⟩) (n+1) cap] 115 (0,0))->Gx S w w6->EO w7 0 (.slice (some ⟨b,0,none⟩) (n+1) cap) (kM (l++[ax]) n k)->Gx (fun q=>q=b) w6 w7->uu w w7 p S most l k):=fun b cap w6 w7 bp sb b6 g6 e7 g7=>by
  refine ⟨b,cap,?_,?_,bp,g6.trans g7 (fun q hq=>by rw [show q=b from hq];exact sb),sb⟩
  ·rw [LN.o]
   exact (g7.block p (aC b6) (fun e=>bp e.symm)).trans b6
  ·rw [LN.o];exact e7
 obtain ⟨bo,vc,rfl,hvc,_⟩:=pQ h2;rw [au] at c1 OW mP hvc;have L1:ag ((l++[ax]).length=n+1):=by show _=_;rw [List.length_append,LN.o];rfl
 clear h h1 h2 h3 h4 au;go_enter func82,ntmps82;go_wp2_with (at_builtin;refine wpList_append_own_at _ rfl _ _ 24 rfl 0 75 ii (.agg #[By 0,By 0,.bool false]) 3 24 underlying24 aQ hz hs aR rfl (by decide) _ n _ rfl (OW.o.alloc _) ⟨w.heap.size,0,none⟩ 1 1 (aO ax) rfl rfl (pC w ax) (mJ _) (by simp only [maxLen];omega) (by omega) (Nat.zero_le _) ?_)
 intro v' w5 r1 r2 r3 r4;obtain ⟨b,cap,rfl,_,wO,_⟩:=dh r1 (by simpa using r3)
 obtain ⟨B5,bp,sb,B6,E6,G6⟩:=mP.o b cap w5 r1 r2 (by
  rcases r4 with q | q
  ·exact .inl (by simpa [Value.ownBlock] using q.symm)
  ·exact .inr (by simpa [Value.ownBlock] using q))
 have d1:w5.cell? ⟨p,1,none⟩=some (.slice bo n vc):=aj B5 rfl;have d2:=bT (o:=1) B5;have pl5:=aC B5;obtain ⟨W6,hW6⟩:∃ W6,w5.setCell ⟨p,1,none⟩ (.slice (some ⟨b,0,none⟩) (n+1) cap)=W6:=⟨_,rfl⟩;rw [hW6] at B6 E6 G6;have b1:W6.cell? ⟨p,1,none⟩=some (.slice (some ⟨b,0,none⟩) (n+1) cap):=aj B6 rfl;have pl6:=aC B6;have BB:ag (W6.heap[p]?=some (.cells #[AI most,.slice (some ⟨b,0,none⟩) (n+1) cap] 115 (0,0))):=B6;have EE:ag (EO W6 0 (.slice (some ⟨b,0,none⟩) (n+1) cap) (l++[ax])):=E6;have GG:ag (Gx S w W6):=G6;clear r1 r2 r3 r4 B5 B6 E6 G6 mP OW c1;go_wp2_with fail;by_cases kc:k+1=cap
 ·have kn:k=n:=by omega
  subst kn;subst kc;have i1:IntKind.i64.wrap ((k:Int)+1)=(k:Int)+1:=by rw [IntKind.wrap_i64];omega
  have i5:(k:Int)<=(k:Int)+1:=by omega
  have i0:0<=(k:Int)+1:=by omega
  go_region_law (refine Q6 rfl (.tmp 20) (.tmp 26) rfl b (k+1) k k (l++[ax]) (mL EE.o (fun _ _=>rfl)) L1.o (Nat.le_refl _) (some ⟨b,0,none⟩) 0 0 (k*3) 1 1 (by first | rfl | kernel_rfl | simp [Act.eval,go_sem]) (by first | rfl | kernel_rfl | simp [Act.eval,go_sem]) (by omega) (by omega) rfl (fun q=>absurd q (Nat.lt_irrefl _)) ?_;intro w7 e7 g7;have R7:ag (uu w w7 p S most l k):=Rf.o b _ W6 w7 bp sb BB.o GG.o e7 ((Gx.refl _ W6).drew.trans g7 (fun q hq=>.inl hq));clear e7 g7)
  all_goals go_wp2_with fail
  all_goals go_end0
  all_goals exact ⟨rfl,R7.o⟩
 ·have i1:IntKind.i64.wrap ((k:Int)+1)=(k:Int)+1:=by rw [IntKind.wrap_i64];omega
  have i0:0<=(k:Int)+1:=by omega
  have i2:(k:Int)+1<=(n:Int)+1:=by omega
  have i3:(k:Int)+1<=(cap:Int):=by omega
  have i4:(k:Int)<=(n:Int)+1:=by omega
  have i5:(k:Int)<=(cap:Int):=by omega
  have i6:(n:Int)+1<=(cap:Int):=by omega
  have j1:(cap=k+1)=False:=by simp;omega
  have j2:(cap=k)=False:=by simp;omega
  go_region_law (refine Q6 rfl (.tmp 20) (.tmp 26) rfl b cap n k (l++[ax]) (mL EE.o (fun _ _=>rfl)) L1.o hk (some ⟨b,(k+1)*3,none⟩) (n-k) (cap-(k+1)) (k*3) (n+1-k) (cap-k) (by first | rfl | kernel_rfl | simp [Act.eval,go_sem]) (by first | rfl | kernel_rfl | simp [Act.eval,go_sem]) rfl rfl rfl (fun q=>rfl) ?_;intro w7 e7 g7;have R7:ag (uu w w7 p S most l k):=Rf.o b _ W6 w7 bp sb BB.o GG.o e7 ((Gx.refl _ W6).drew.trans g7 (fun q hq=>.inl hq));clear e7 g7)
  all_goals go_wp2_with fail
  all_goals go_end0
  all_goals exact ⟨rfl,R7.o⟩
theorem Rg {t:TypeId} {w W:World} {p b m cap k:Nat} {S:Nat->Prop} {most:Int} {L l':List ah} {e:ah} (h1:W.heap[p]?=some (.cells #[AI most,.slice (some ⟨b,0,none⟩) m cap] t (0,0))) (h2:EO W 0 (.slice (some ⟨b,0,none⟩) m cap) L) (hm:L.length=m) (bp:b≠p) (hk:k<m) (g:Gx S w W) (sb:S b\/w.heap.size<=b) (sp:S p) (el:L.set k e=l') (r:aG ah.k l') (ok:∀ x∈l',x.ok) (rm:(l'.length:Int)<=most):kL t w (ri W b (k*3) e) p S most l':=by
 refine ⟨fun q=>q=p\/q=b,⟨⟨.slice (some ⟨b,0,none⟩) m cap,?_,?_,fun q hq=>?_,fun q=>?_⟩,r,ok,rm⟩,((g.set sb _ _).set sb _ _).set sb _ _,fun q hq=>?_⟩
 ·unfold ri
  rw [Go.Deep.blk_setCell_other _ _ _ _ (fun x=>bp x.symm),Go.Deep.blk_setCell_other _ _ _ _ (fun x=>bp x.symm),Go.Deep.blk_setCell_other _ _ _ _ (fun x=>bp x.symm)]
  exact h1
 ·rw [<-el]
  exact aa4 h2 hm (by omega) e
 ·cases hq;exact bp
 ·constructor
  ·rintro (x | x)
   ·exact .inl x
   ·exact .inr (by rw [x];rfl)
  ·rintro (x | x)
   ·exact .inl x
   ·exact .inr (by cases x;rfl)
 ·rcases hq with x | x
  ·rw [x];exact .inl sp
  ·rw [x];exact sb
theorem Rh (p:Nat) (S:Nat->Prop) (most:Int) (l:List ah) (e:ah) (hn:l.length<=4000000) (ig:e.ok) (w:World) (h:HB 115 w p S most l) :
  Calls prog 45 #[BY p,.agg #[By e.k,By e.v,.bool e.g]] w fun ex w'=>ex=.returned (AI (kK most l e).1)/\kL 115 w w' p S most (kK most l e).2:=by
 have H:ag (HB 115 w p S most l):=h;have FD:ag (∀ W,Gw w W->Calls prog 81 #[BY p,By e.k] W fun ex w'=>ex=.returned (.tuple #[AI (bD ah.k e.k l:Int),.bool (look ah.k e.k l).isSome])/\Gw W w'):=fun W g=>Rc p S most l e.k hn W (h.gw g)
 have FU:ag (∀ W,Gw w W->Calls prog 46 #[BY p] W fun ex w'=>ex=.returned (.bool ((l.length:Int) == most))/\Gw W w'):=fun W g=>Re p S most l W (h.gw g)
 have oj:ag (∀ W,Gw w W->kL 115 w W p S most l):=fun W g=>kL.same h g
 obtain ⟨bq,aE⟩:∃ b,w.heap.size=b:=⟨_,rfl⟩;have BQ:ag (w.heap.size=bq):=aE;have BX:ag (∀ u,Gw (w.alloc (.cells #[By e.k,By e.v,.bool e.g] 75)) u->(u.cell? ⟨bq,0,none⟩=some (By e.k)/\u.cell? ⟨bq,1,none⟩=some (By e.v)/\u.cell? ⟨bq,2,none⟩=some (.bool e.g))/\bq<u.heap.size):=fun u gg=>by
  have NB:u.heap[bq]?=some (.cells #[By e.k,By e.v,.bool e.g] 75 (0,0)):=by
   rw [<-BQ.o];exact (gg.below.block _ (by simp)).trans (heap_alloc_new _ _)
  exact ⟨⟨aj NB rfl,aj NB rfl,aj NB rfl⟩,aC NB⟩
 have mQ:ag (∀ x∈ins ah.k e l,x.ok):=vQ ig h.ok;have RI:ag (aG ah.k (ins ah.k e l)):=h.rise.ins;by_cases bad:e.g=true/\e.v≠0
 ·have PR:ag (kK most l e=(31,l)):=by show _=_;unfold kK;rw [if_pos bad]
  obtain ⟨ek,ev,eg⟩:=e;obtain ⟨b1,b2⟩:=bad;have Ri:eg=true:=b1;have b2':((ev:Int) == 0)=false:=by simpa using b2
  subst Ri;clear h FD FU mQ RI BX aE b1 b2;simp only at b2' ⊢;go_enter func45,ntmps45;go_wp2_with fail;go_ret;rw [PR.o];exact ⟨rfl,oj.o _ ((Gw.refl w).alloc _ _)⟩
 ·cases hk:look ah.k e.k l with
  | none =>
   rw [hk] at FD;by_cases full:(l.length:Int)=most
   ·have PR:ag (kK most l e=(140,l)):=by show _=_;unfold kK;rw [if_neg bad,if_pos ⟨hk,full⟩]
    rw [show ((l.length:Int) == most)=true by simpa using full] at FU
    obtain ⟨ek,ev,eg⟩:=e;simp only at FD BX ⊢;generalize bD ah.k ek l=pp at FD;have xD:eg=false\/(eg=true/\((ev:Int) == 0)=true):=by
     cases eg with
     | false=>exact .inl rfl
     | true =>
      refine .inr ⟨rfl,?_⟩;have:¬ ev≠0:=fun q=>bad ⟨rfl,q⟩
      simpa using this
    clear h mQ RI hk full bad ig;rcases xD with rfl | ⟨rfl,b2⟩ <;>
    ·go_enter func45,ntmps45
     go_wp2_with fail;refine (FD.o _ ((Gw.refl w).alloc _ _)).mono ?_
     rintro ex u1 ⟨rfl,g⟩;have G1:ag (Gw w u1):=((Gw.refl w).alloc _ _).trans g;clear g FD BX;go_wp2_with fail;refine (FU.o _ G1.o).mono ?_;rintro ex u2 ⟨rfl,g⟩;have G2:ag (Gw w u2):=G1.o.trans g;clear g FU G1;go_wp2_with fail;go_ret;rw [PR.o];exact ⟨rfl,oj.o _ G2.o⟩
   ·have PR:ag (kK most l e=(0,ins ah.k e l)):=by show _=_;unfold kK;rw [if_neg bad,if_neg (fun q=>full q.2)]
    rw [show ((l.length:Int) == most)=false by simpa using full] at FU
    have OP:ag (∀ W,Gw w W->Calls prog 82 #[BY p,AI (bD ah.k e.k l:Int)] W fun ex w'=>ex=.returned (.tuple #[])/\uu W w' p S most l (bD ah.k e.k l)):=fun W g=>acB p S most l _ (Ac _ _) hn W (h.gw g)
    have pl:=Ac (key:=ah.k) e.k l;have lN:ag (∀ (u W:World) (b cap:Nat),Gw w u->W.heap[p]?=some (.cells #[AI most,.slice (some ⟨b,0,none⟩) (l.length+1) cap] 115 (0,0))->EO W 0 (.slice (some ⟨b,0,none⟩) (l.length+1) cap) (kM (l++[ax]) l.length (bD ah.k e.k l))->b≠p->Gx S u W->(S b\/u.heap.size<=b)->kL 115 w (ri W b (bD ah.k e.k l*3) e) p S most (ins ah.k e l)):=fun u W b cap gu c1 c2 c3 c4 c5=>by
     refine Rg c1 c2 (xA (by simp) pl) c3 (by omega) ((gu.gx S).trans c4 (fun q hq=>.inl hq)) ?_ H.o.own (by rw [acs pl,Ew hk]) RI.o mQ.o (by rw [Ob hk];have:=H.o.room;omega)
     rcases c5 with x | x
     ·exact .inl x
     ·exact .inr (Nat.le_trans gu.size x)
    have rR:ag (∀ (u W:World) (b cap:Nat),Gw (w.alloc (.cells #[By e.k,By e.v,.bool e.g] 75)) u->EO W 0 (.slice (some ⟨b,0,none⟩) (l.length+1) cap) (kM (l++[ax]) l.length (bD ah.k e.k l))->Gx S u W->((W.cell? ⟨bq,0,none⟩=some (By e.k)/\W.cell? ⟨bq,1,none⟩=some (By e.v)/\W.cell? ⟨bq,2,none⟩=some (.bool e.g))/\bq<W.heap.size)/\∃ x:ah,(W.cell? ⟨b,bD ah.k e.k l*3,none⟩=some (By x.k)/\W.cell? ⟨b,bD ah.k e.k l*3+1,none⟩=some (By x.v)/\W.cell? ⟨b,bD ah.k e.k l*3+2,none⟩=some (.bool x.g))/\(∀ i,W.frozen? ⟨b,i,none⟩=false)/\b<W.heap.size):=fun u W b cap gu c2 c4=>by
     obtain ⟨⟨x0,x1,x2⟩,x3⟩:=BX.o u gu;have nb:¬ S bq:=fun q=>by have:=H.o.lt bq q;have:=BQ.o;omega
     have kc:∀ o,W.cell? ⟨bq,o,none⟩=u.cell? ⟨bq,o,none⟩:=fun o=>World.cell?_of_block (a:=⟨bq,o,none⟩) (c4.block bq x3 nb)
     obtain ⟨b',eb,_,y2,y3,y4⟩:=EK c2 (xA (by simp) pl) (by omega)
     injection eb with eb;injection eb with eb;subst eb;exact ⟨⟨⟨(kc 0).trans x0,(kc 1).trans x1,(kc 2).trans x2⟩,Nat.lt_of_lt_of_le x3 c4.size⟩,_,y4 _ (by omega),y3,y2⟩
    obtain ⟨ek,ev,eg⟩:=e;simp only at FD BX OP lN rR pl ⊢;generalize GJ:bD ah.k ek l=pp at FD OP lN rR pl;have xD:eg=false\/(eg=true/\((ev:Int) == 0)=true):=by
     cases eg with
     | false=>exact .inl rfl
     | true =>
      refine .inr ⟨rfl,?_⟩;have:¬ ev≠0:=fun q=>bad ⟨rfl,q⟩
      simpa using this
    obtain ⟨n,au⟩:∃ n,l.length=n:=⟨_,rfl⟩;unfold uu at OP;rw [au] at hn pl OP lN rR;have pl':(pp:Int)<((n+1:Nat):Int):=by omega
    have pl2:(pp:Int)<(n:Int)+1:=by omega
    clear h mQ RI hk full bad ig GJ au;rcases xD with rfl | ⟨rfl,b2⟩ <;>
    ·go_enter func45,ntmps45
     go_wp2_with fail;refine (FD.o _ ((Gw.refl w).alloc _ _)).mono ?_
     rintro ex u1 ⟨rfl,g⟩;have G1:ag (Gw (w.alloc _) u1):=g;have xE:ag (Gw w u1):=((Gw.refl w).alloc _ _).trans g;clear g FD BX;go_wp2_with fail;refine (FU.o _ xE.o).mono ?_;rintro ex u2 ⟨rfl,g⟩;have G2:ag (Gw (w.alloc _) u2):=G1.o.trans g;have Rj:ag (Gw w u2):=xE.o.trans g;clear g FU G1 xE;go_wp2_with fail;refine (OP.o _ Rj.o).mono ?_;rintro ex u3 ⟨rfl,b,cap,o1,o2,o3,o4,o5⟩;have ak:ag (kL 115 w (ri u3.drew b (pp*3) _) p S most _):=lN.o u2 u3.drew b cap Rj.o o1 (mL o2 (fun _ _=>rfl)) o3 o4.drew o5
     obtain ⟨⟨⟨x0,x1,x2⟩,x3⟩,y,⟨y0,y1,y2⟩,y3,y4⟩:=rR.o u2 u3 b cap G2.o o2 o4;have c1:u3.cell? ⟨p,1,none⟩=some (.slice (some ⟨b,0,none⟩) (n+1) cap):=aj o1 rfl;have z0:=y3 (pp*3);have z1:=y3 (pp*3+1);have z2:=y3 (pp*3+2);clear o1 o2 o3 o4 o5 OP lN rR y3 aE oj;go_wp2_with fail;go_region
     all_goals go_wp2_with fail
     all_goals go_ret
     all_goals rw [PR.o]
     all_goals exact ⟨rfl,ak.o⟩
  | some y =>
   rw [hk] at FD;have PR:ag (kK most l e=(0,ins ah.k e l)):=by show _=_;unfold kK;rw [if_neg bad,if_neg (fun q=>by rw [hk] at q;cases q.1)]
   have pl:=N6 H.o.rise hk;have lN:ag (∀ (W:World),Gw w W->∃ b cap,W.cell? ⟨p,1,none⟩=some (.slice (some ⟨b,0,none⟩) l.length cap)/\kL 115 w (ri W.drew b (bD ah.k e.k l*3) e) p S most (ins ah.k e l)/\∃ x:ah,(W.cell? ⟨b,bD ah.k e.k l*3,none⟩=some (By x.k)/\W.cell? ⟨b,bD ah.k e.k l*3+1,none⟩=some (By x.v)/\W.cell? ⟨b,bD ah.k e.k l*3+2,none⟩=some (.bool x.g))/\(∀ i,W.frozen? ⟨b,i,none⟩=false)/\b<W.heap.size):=fun W gW=>by
    obtain ⟨v,h1,h2,h3,h4⟩:=(H.o.gw gW).lies;obtain ⟨bo,c,rfl,hc,_⟩:=pQ h2;obtain ⟨b,rfl,_,y2,y3,y4⟩:=EK h2 rfl (by omega)
    refine ⟨b,c,aj h1 rfl,Rg h1 (mL h2 (fun _ _=>rfl)) rfl (h3 b rfl) pl (gW.gx S).drew (.inl ((h4 b).2 (.inr rfl))) H.o.own (Ev H.o.rise hk).symm RI.o mQ.o (by rw [Oc H.o.rise hk];exact H.o.room),_,y4 _ pl,y3,y2⟩
   obtain ⟨ek,ev,eg⟩:=e;simp only at FD BX lN pl ⊢;generalize GJ:bD ah.k ek l=pp at FD lN pl;have xD:eg=false\/(eg=true/\((ev:Int) == 0)=true):=by
    cases eg with
    | false=>exact .inl rfl
    | true =>
     refine .inr ⟨rfl,?_⟩;have:¬ ev≠0:=fun q=>bad ⟨rfl,q⟩
     simpa using this
   obtain ⟨n,au⟩:∃ n,l.length=n:=⟨_,rfl⟩;rw [au] at hn pl lN;have pl':(pp:Int)<(n:Int):=by omega
   clear h mQ RI hk bad ig GJ au FU;rcases xD with rfl | ⟨rfl,b2⟩ <;>
   ·go_enter func45,ntmps45
    go_wp2_with fail;refine (FD.o _ ((Gw.refl w).alloc _ _)).mono ?_
    rintro ex u3 ⟨rfl,g⟩;have xE:ag (Gw w u3):=((Gw.refl w).alloc _ _).trans g;obtain ⟨⟨x0,x1,x2⟩,x3⟩:=BX.o u3 g;obtain ⟨b,cap,c1,res,y,⟨y0,y1,y2⟩,y3,y4⟩:=lN.o u3 xE.o;have ak:ag (kL 115 w (ri u3.drew b (pp*3) _) p S most _):=res;have z0:=y3 (pp*3);have z1:=y3 (pp*3+1);have z2:=y3 (pp*3+2);clear g FD BX lN res y3 aE oj;go_wp2_with fail;go_region
    all_goals go_wp2_with fail
    all_goals go_ret
    all_goals rw [PR.o]
    all_goals exact ⟨rfl,ak.o⟩
end Go.Proofs.YtcboobmfnmgldaaGreat
