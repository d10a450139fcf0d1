/- Package buffer: open, Put, Clone. -/
import Derived.Maps.AppendAt
import Derived.Test.YtemijdhemdhclaaGreatNQMem
set_option linter.unusedVariables false
set_option maxHeartbeats 4000000
set_option maxRecDepth 20000
open Go.Proofs.Tryz
namespace Go.Proofs.YtemijdhemdhclaaGreat
open Go.RowKit
def OpenOut (w w':World) (p:Nat) (S:Nat->Prop) (most:Int) (l:List Ent) (k:Nat):Prop:=∃ b cap,w'.heap[p]?=some (.cells #[.int .i64 most,.slice (some ⟨b,0,none⟩) (l.length+1) cap] 92 (0,0))/\EO w' 0 (.slice (some ⟨b,0,none⟩) (l.length+1) cap) (further (l++[ent0]) l.length k)/\b≠p/\Gx S w w'/\(S b\/w.heap.size<=b)
theorem open14 (p:Nat) (S:Nat->Prop) (most:Int) (l:List Ent) (k:Nat) (hk:k<=l.length) (hn:l.length<=4000000) (w:World) (h:HB 92 w p S most l) :
  Calls prog 64 #[.pointer (some ⟨p,0,none⟩),.int .i64 (k:Int)] w fun e w'=>e=.returned (.tuple #[])/\OpenOut w w' p S most l k:=by
 obtain ⟨v,h1,h2,h3,h4⟩:=h.lies;obtain ⟨ii,hii,hz,hs,hby⟩:=info_parts info_e;have c1:w.cell? ⟨p,1,none⟩=some v:=blkc h1 rfl;have pl:=blkl h1;obtain ⟨n,hln⟩:∃ n,l.length=n:=⟨_,rfl⟩;have LN:Aside (l.length=n):=hln;have OW:Aside (w.ownsRow 0 69 3 v n (l.flatMap ent3)):=by have:=h2;unfold EO at this;rw [hln] at this;exact this
 rw [hln] at hk hn;have APP:Hid (∀ (b cap:Nat) (w5:World),w5.ownsRow 0 69 3 (.slice (some ⟨b,0,none⟩) (n+1) cap) (n+1) (l.flatMap ent3++ent3 ent0)->(w.alloc (.cells #[.int .u64 0,.int .u64 0,.bool false] 69)).grownBy w5 v.ownBlock->(v.ownBlock=some b\/b=w.heap.size+1)->w5.heap[p]?=some (.cells #[.int .i64 most,v] 92 (0,0))/\b≠p/\(S b\/w.heap.size<=b)/\(w5.setCell ⟨p,1,none⟩ (.slice (some ⟨b,0,none⟩) (n+1) cap)).heap[p]?=some (.cells #[.int .i64 most,.slice (some ⟨b,0,none⟩) (n+1) cap] 92 (0,0))/\EO (w5.setCell ⟨p,1,none⟩ (.slice (some ⟨b,0,none⟩) (n+1) cap)) 0 (.slice (some ⟨b,0,none⟩) (n+1) cap) (l++[ent0])/\Gx S w (w5.setCell ⟨p,1,none⟩ (.slice (some ⟨b,0,none⟩) (n+1) cap))):=fun b cap w5 r1 r2 r4=>by
  have bp:b≠p:=by
   rcases r4 with q | q
   ·exact h3 b q
   ·omega
  have B5:w5.heap[p]?=some (.cells #[.int .i64 most,v] 92 (0,0)):=((r2.block p (by simp;omega) (fun e=>h3 p e.symm rfl)).trans (heap_alloc_old w _ pl)).trans h1
  have E5:EO w5 0 (.slice (some ⟨b,0,none⟩) (n+1) cap) (l++[ent0]):=eo_more (by rw [LN.out];exact r1)
  refine ⟨B5,bp,?_,by rw [blk_set14 B5];rfl,eo_keep E5 (fun q hq=>Go.Deep.blk_setCell_other _ _ _ _ (by cases hq;exact bp)),((((Gx.refl S w).alloc _ _).grown r2 (fun q hq=>.inl ((h4 q).2 (.inr hq)))).set (.inl h.own) _ _)⟩
  rcases r4 with q | q
  ·exact .inl ((h4 b).2 (.inr q))
  ·exact .inr (by omega)
 have CPY:Hid (∀ (b cap:Nat) (w6 w7:World),b≠p->(S b\/w.heap.size<=b)->w6.heap[p]?=some (.cells #[.int .i64 most,.slice (some ⟨b,0,none⟩) (n+1) cap] 92 (0,0))->Gx S w w6->EO w7 0 (.slice (some ⟨b,0,none⟩) (n+1) cap) (further (l++[ent0]) n k)->Gx (fun q=>q=b) w6 w7->OpenOut w w7 p S most l k):=fun b cap w6 w7 bp sb b6 g6 e7 g7=>by
  refine ⟨b,cap,?_,?_,bp,g6.trans g7 (fun q hq=>by rw [show q=b from hq];exact sb),sb⟩
  ·rw [LN.out]
   exact (g7.block p (blkl b6) (fun e=>bp e.symm)).trans b6
  ·rw [LN.out];exact e7
 obtain ⟨bo,vc,rfl,hvc,_⟩:=eo_shape h2;rw [hln] at c1 OW APP hvc;have L1:Aside ((l++[ent0]).length=n+1):=by show _=_;rw [List.length_append,LN.out];rfl
 clear h h1 h2 h3 h4 hln;go_enter func64,ntmps64;go_wp2_with (at_builtin;refine wpList_append_own_at _ rfl _ _ 59 rfl 0 69 ii (.agg #[.int .u64 0,.int .u64 0,.bool false]) 3 24 underlying59 hii hz hs hby rfl (by decide) _ n _ rfl (OW.out.alloc _) ⟨w.heap.size,0,none⟩ 1 1 (ent3 ent0) rfl rfl (new_ent w ent0) (ent3_one _) (by simp only [maxLen];omega) (by omega) (Nat.zero_le _) ?_)
 intro v' w5 r1 r2 r3 r4;obtain ⟨b,cap,rfl,_,hcap,_⟩:=own_slice r1 (by simpa using r3)
 obtain ⟨B5,bp,sb,B6,E6,G6⟩:=APP.out b cap w5 r1 r2 (by
  rcases r4 with q | q
  ·exact .inl (by simpa [Value.ownBlock] using q.symm)
  ·exact .inr (by simpa [Value.ownBlock] using q))
 have d1:w5.cell? ⟨p,1,none⟩=some (.slice bo n vc):=blkc B5 rfl;have d2:=blkf (o:=1) B5;have pl5:=blkl B5;obtain ⟨W6,hW6⟩:∃ W6,w5.setCell ⟨p,1,none⟩ (.slice (some ⟨b,0,none⟩) (n+1) cap)=W6:=⟨_,rfl⟩;rw [hW6] at B6 E6 G6;have b1:W6.cell? ⟨p,1,none⟩=some (.slice (some ⟨b,0,none⟩) (n+1) cap):=blkc B6 rfl;have pl6:=blkl B6;have BB:Aside (W6.heap[p]?=some (.cells #[.int .i64 most,.slice (some ⟨b,0,none⟩) (n+1) cap] 92 (0,0))):=B6;have EE:Aside (EO W6 0 (.slice (some ⟨b,0,none⟩) (n+1) cap) (l++[ent0])):=E6;have GG:Aside (Gx S w W6):=G6;clear r1 r2 r3 r4 B5 B6 E6 G6 APP OW c1;go_wp2_with fail;by_cases kc:k+1=cap
 ·have kn:k=n:=by omega
  subst kn;subst kc;have i1:IntKind.i64.wrap ((k:Int)+1)=(k:Int)+1:=by rw [IntKind.wrap_i64];omega
  have i5:(k:Int)<=(k:Int)+1:=by omega
  have i0:0<=(k:Int)+1:=by omega
  go_region_law (refine step_copy_e rfl (.tmp 20) (.tmp 26) rfl b (k+1) k k (l++[ent0]) (eo_keep EE.out (fun _ _=>rfl)) L1.out (Nat.le_refl _) (some ⟨b,0,none⟩) 0 0 (k*3) 1 1 (by first | rfl | kernel_rfl | simp [Act.eval,go_sem]) (by first | rfl | kernel_rfl | simp [Act.eval,go_sem]) (by omega) (by omega) rfl (fun q=>absurd q (Nat.lt_irrefl _)) ?_;intro w7 e7 g7;have R7:Hid (OpenOut w w7 p S most l k):=CPY.out b _ W6 w7 bp sb BB.out GG.out e7 ((Gx.refl _ W6).drew.trans g7 (fun q hq=>.inl hq));clear e7 g7)
  all_goals go_wp2_with fail
  all_goals go_end0
  all_goals exact ⟨rfl,R7.out⟩
 ·have i1:IntKind.i64.wrap ((k:Int)+1)=(k:Int)+1:=by rw [IntKind.wrap_i64];omega
  have i0:0<=(k:Int)+1:=by omega
  have i2:(k:Int)+1<=(n:Int)+1:=by omega
  have i3:(k:Int)+1<=(cap:Int):=by omega
  have i4:(k:Int)<=(n:Int)+1:=by omega
  have i5:(k:Int)<=(cap:Int):=by omega
  have i6:(n:Int)+1<=(cap:Int):=by omega
  have j1:(cap=k+1)=False:=by simp;omega
  have j2:(cap=k)=False:=by simp;omega
  go_region_law (refine step_copy_e rfl (.tmp 20) (.tmp 26) rfl b cap n k (l++[ent0]) (eo_keep EE.out (fun _ _=>rfl)) L1.out hk (some ⟨b,(k+1)*3,none⟩) (n-k) (cap-(k+1)) (k*3) (n+1-k) (cap-k) (by first | rfl | kernel_rfl | simp [Act.eval,go_sem]) (by first | rfl | kernel_rfl | simp [Act.eval,go_sem]) rfl rfl rfl (fun q=>rfl) ?_;intro w7 e7 g7;have R7:Hid (OpenOut w w7 p S most l k):=CPY.out b _ W6 w7 bp sb BB.out GG.out e7 ((Gx.refl _ W6).drew.trans g7 (fun q hq=>.inl hq));clear e7 g7)
  all_goals go_wp2_with fail
  all_goals go_end0
  all_goals exact ⟨rfl,R7.out⟩
theorem stored14 {t:TypeId} {w W:World} {p b m cap k:Nat} {S:Nat->Prop} {most:Int} {L l':List Ent} {e:Ent} (h1:W.heap[p]?=some (.cells #[.int .i64 most,.slice (some ⟨b,0,none⟩) m cap] t (0,0))) (h2:EO W 0 (.slice (some ⟨b,0,none⟩) m cap) L) (hm:L.length=m) (bp:b≠p) (hk:k<m) (g:Gx S w W) (sb:S b\/w.heap.size<=b) (sp:S p) (el:L.set k e=l') (r:Rise Ent.k l') (ok:∀ x∈l',x.ok) (rm:(l'.length:Int)<=most):PutOut t w (put3 W b (k*3) e) p S most l':=by
 refine ⟨fun q=>q=p\/q=b,⟨⟨.slice (some ⟨b,0,none⟩) m cap,?_,?_,fun q hq=>?_,fun q=>?_⟩,r,ok,rm⟩,((g.set sb _ _).set sb _ _).set sb _ _,fun q hq=>?_⟩
 ·unfold put3
  rw [Go.Deep.blk_setCell_other _ _ _ _ (fun x=>bp x.symm),Go.Deep.blk_setCell_other _ _ _ _ (fun x=>bp x.symm),Go.Deep.blk_setCell_other _ _ _ _ (fun x=>bp x.symm)]
  exact h1
 ·rw [<-el]
  exact eo_put h2 hm (by omega) e
 ·cases hq;exact bp
 ·constructor
  ·rintro (x | x)
   ·exact .inl x
   ·exact .inr (by rw [x];rfl)
  ·rintro (x | x)
   ·exact .inl x
   ·exact .inr (by cases x;rfl)
 ·rcases hq with x | x
  ·rw [x];exact .inl sp
  ·rw [x];exact sb
theorem put14 (p:Nat) (S:Nat->Prop) (most:Int) (l:List Ent) (e:Ent) (hn:l.length<=4000000) (oke:e.ok) (w:World) (h:HB 92 w p S most l) :
  Calls prog 43 #[.pointer (some ⟨p,0,none⟩),.agg #[.int .u64 e.k,.int .u64 e.v,.bool e.g]] w fun ex w'=>ex=.returned (.int .i64 (putR most l e).1)/\PutOut 92 w w' p S most (putR most l e).2:=by
 have H:Aside (HB 92 w p S most l):=h;have FD:Hid (∀ W,Gw w W->Calls prog 62 #[.pointer (some ⟨p,0,none⟩),.int .u64 e.k] W fun ex w'=>ex=.returned (.tuple #[.int .i64 (plc Ent.k e.k l:Int),.bool (look Ent.k e.k l).isSome])/\Gw W w'):=fun W g=>find14 p S most l e.k hn W (h.gw g)
 have FU:Hid (∀ W,Gw w W->Calls prog 44 #[.pointer (some ⟨p,0,none⟩)] W fun ex w'=>ex=.returned (.bool ((l.length:Int) == most))/\Gw W w'):=fun W g=>full14 p S most l W (h.gw g)
 have SAME:Hid (∀ W,Gw w W->PutOut 92 w W p S most l):=fun W g=>PutOut.same h g
 obtain ⟨bq,hbq⟩:∃ b,w.heap.size=b:=⟨_,rfl⟩;have BQ:Aside (w.heap.size=bq):=hbq;have BX:Hid (∀ u,Gw (w.alloc (.cells #[.int .u64 e.k,.int .u64 e.v,.bool e.g] 69)) u->(u.cell? ⟨bq,0,none⟩=some (.int .u64 e.k)/\u.cell? ⟨bq,1,none⟩=some (.int .u64 e.v)/\u.cell? ⟨bq,2,none⟩=some (.bool e.g))/\bq<u.heap.size):=fun u gg=>by
  have NB:u.heap[bq]?=some (.cells #[.int .u64 e.k,.int .u64 e.v,.bool e.g] 69 (0,0)):=by
   rw [<-BQ.out];exact (gg.below.block _ (by simp)).trans (heap_alloc_new _ _)
  exact ⟨⟨blkc NB rfl,blkc NB rfl,blkc NB rfl⟩,blkl NB⟩
 have OKL:Aside (∀ x∈ins Ent.k e l,x.ok):=ins_all oke h.ok;have RI:Aside (Rise Ent.k (ins Ent.k e l)):=h.rise.ins;by_cases bad:e.g=true/\e.v≠0
 ·have PR:Aside (putR most l e=(31,l)):=by show _=_;unfold putR;rw [if_pos bad]
  obtain ⟨ek,ev,eg⟩:=e;obtain ⟨b1,b2⟩:=bad;have b1':eg=true:=b1;have b2':((ev:Int) == 0)=false:=by simpa using b2
  subst b1';clear h FD FU OKL RI BX hbq b1 b2;simp only at b2' ⊢;go_enter func43,ntmps43;go_wp2_with fail;go_ret;rw [PR.out];exact ⟨rfl,SAME.out _ ((Gw.refl w).alloc _ _)⟩
 ·cases hk:look Ent.k e.k l with
  | none =>
   rw [hk] at FD;by_cases full:(l.length:Int)=most
   ·have PR:Aside (putR most l e=(140,l)):=by show _=_;unfold putR;rw [if_neg bad,if_pos ⟨hk,full⟩]
    rw [show ((l.length:Int) == most)=true by simpa using full] at FU
    obtain ⟨ek,ev,eg⟩:=e;simp only at FD BX ⊢;generalize plc Ent.k ek l=pp at FD;have bad':eg=false\/(eg=true/\((ev:Int) == 0)=true):=by
     cases eg with
     | false=>exact .inl rfl
     | true =>
      refine .inr ⟨rfl,?_⟩;have:¬ ev≠0:=fun q=>bad ⟨rfl,q⟩
      simpa using this
    clear h OKL RI hk full bad oke;rcases bad' with rfl | ⟨rfl,b2⟩ <;>
    ·go_enter func43,ntmps43
     go_wp2_with fail;refine (FD.out _ ((Gw.refl w).alloc _ _)).mono ?_
     rintro ex u1 ⟨rfl,g⟩;have G1:Aside (Gw w u1):=((Gw.refl w).alloc _ _).trans g;clear g FD BX;go_wp2_with fail;refine (FU.out _ G1.out).mono ?_;rintro ex u2 ⟨rfl,g⟩;have G2:Aside (Gw w u2):=G1.out.trans g;clear g FU G1;go_wp2_with fail;go_ret;rw [PR.out];exact ⟨rfl,SAME.out _ G2.out⟩
   ·have PR:Aside (putR most l e=(0,ins Ent.k e l)):=by show _=_;unfold putR;rw [if_neg bad,if_neg (fun q=>full q.2)]
    rw [show ((l.length:Int) == most)=false by simpa using full] at FU
    have OP:Hid (∀ W,Gw w W->Calls prog 64 #[.pointer (some ⟨p,0,none⟩),.int .i64 (plc Ent.k e.k l:Int)] W fun ex w'=>ex=.returned (.tuple #[])/\OpenOut W w' p S most l (plc Ent.k e.k l)):=fun W g=>open14 p S most l _ (plc_le _ _) hn W (h.gw g)
    have pl:=plc_le (key:=Ent.k) e.k l;have STO:Hid (∀ (u W:World) (b cap:Nat),Gw w u->W.heap[p]?=some (.cells #[.int .i64 most,.slice (some ⟨b,0,none⟩) (l.length+1) cap] 92 (0,0))->EO W 0 (.slice (some ⟨b,0,none⟩) (l.length+1) cap) (further (l++[ent0]) l.length (plc Ent.k e.k l))->b≠p->Gx S u W->(S b\/u.heap.size<=b)->PutOut 92 w (put3 W b (plc Ent.k e.k l*3) e) p S most (ins Ent.k e l)):=fun u W b cap gu c1 c2 c3 c4 c5=>by
     refine stored14 c1 c2 (further_len (by simp) pl) c3 (by omega) ((gu.gx S).trans c4 (fun q hq=>.inl hq)) ?_ H.out.own (by rw [further_set pl,ins_new hk]) RI.out OKL.out (by rw [ins_len_new hk];have:=H.out.room;omega)
     rcases c5 with x | x
     ·exact .inl x
     ·exact .inr (Nat.le_trans gu.size x)
    have ROW:Hid (∀ (u W:World) (b cap:Nat),Gw (w.alloc (.cells #[.int .u64 e.k,.int .u64 e.v,.bool e.g] 69)) u->EO W 0 (.slice (some ⟨b,0,none⟩) (l.length+1) cap) (further (l++[ent0]) l.length (plc Ent.k e.k l))->Gx S u W->((W.cell? ⟨bq,0,none⟩=some (.int .u64 e.k)/\W.cell? ⟨bq,1,none⟩=some (.int .u64 e.v)/\W.cell? ⟨bq,2,none⟩=some (.bool e.g))/\bq<W.heap.size)/\∃ x:Ent,(W.cell? ⟨b,plc Ent.k e.k l*3,none⟩=some (.int .u64 x.k)/\W.cell? ⟨b,plc Ent.k e.k l*3+1,none⟩=some (.int .u64 x.v)/\W.cell? ⟨b,plc Ent.k e.k l*3+2,none⟩=some (.bool x.g))/\(∀ i,W.frozen? ⟨b,i,none⟩=false)/\b<W.heap.size):=fun u W b cap gu c2 c4=>by
     obtain ⟨⟨x0,x1,x2⟩,x3⟩:=BX.out u gu;have nb:¬ S bq:=fun q=>by have:=H.out.lt bq q;have:=BQ.out;omega
     have kc:∀ o,W.cell? ⟨bq,o,none⟩=u.cell? ⟨bq,o,none⟩:=fun o=>World.cell?_of_block (a:=⟨bq,o,none⟩) (c4.block bq x3 nb)
     obtain ⟨b',eb,_,y2,y3,y4⟩:=eo_form c2 (further_len (by simp) pl) (by omega)
     injection eb with eb;injection eb with eb;subst eb;exact ⟨⟨⟨(kc 0).trans x0,(kc 1).trans x1,(kc 2).trans x2⟩,Nat.lt_of_lt_of_le x3 c4.size⟩,_,y4 _ (by omega),y3,y2⟩
    obtain ⟨ek,ev,eg⟩:=e;simp only at FD BX OP STO ROW pl ⊢;generalize hpp:plc Ent.k ek l=pp at FD OP STO ROW pl;have bad':eg=false\/(eg=true/\((ev:Int) == 0)=true):=by
     cases eg with
     | false=>exact .inl rfl
     | true =>
      refine .inr ⟨rfl,?_⟩;have:¬ ev≠0:=fun q=>bad ⟨rfl,q⟩
      simpa using this
    obtain ⟨n,hln⟩:∃ n,l.length=n:=⟨_,rfl⟩;unfold OpenOut at OP;rw [hln] at hn pl OP STO ROW;have pl':(pp:Int)<((n+1:Nat):Int):=by omega
    have pl2:(pp:Int)<(n:Int)+1:=by omega
    clear h OKL RI hk full bad oke hpp hln;rcases bad' with rfl | ⟨rfl,b2⟩ <;>
    ·go_enter func43,ntmps43
     go_wp2_with fail;refine (FD.out _ ((Gw.refl w).alloc _ _)).mono ?_
     rintro ex u1 ⟨rfl,g⟩;have G1:Aside (Gw (w.alloc _) u1):=g;have G1':Aside (Gw w u1):=((Gw.refl w).alloc _ _).trans g;clear g FD BX;go_wp2_with fail;refine (FU.out _ G1'.out).mono ?_;rintro ex u2 ⟨rfl,g⟩;have G2:Aside (Gw (w.alloc _) u2):=G1.out.trans g;have G2':Aside (Gw w u2):=G1'.out.trans g;clear g FU G1 G1';go_wp2_with fail;refine (OP.out _ G2'.out).mono ?_;rintro ex u3 ⟨rfl,b,cap,o1,o2,o3,o4,o5⟩;have RES:Hid (PutOut 92 w (put3 u3.drew b (pp*3) _) p S most _):=STO.out u2 u3.drew b cap G2'.out o1 (eo_keep o2 (fun _ _=>rfl)) o3 o4.drew o5
     obtain ⟨⟨⟨x0,x1,x2⟩,x3⟩,y,⟨y0,y1,y2⟩,y3,y4⟩:=ROW.out u2 u3 b cap G2.out o2 o4;have c1:u3.cell? ⟨p,1,none⟩=some (.slice (some ⟨b,0,none⟩) (n+1) cap):=blkc o1 rfl;have z0:=y3 (pp*3);have z1:=y3 (pp*3+1);have z2:=y3 (pp*3+2);clear o1 o2 o3 o4 o5 OP STO ROW y3 hbq SAME;go_wp2_with fail;go_region
     all_goals go_wp2_with fail
     all_goals go_ret
     all_goals rw [PR.out]
     all_goals exact ⟨rfl,RES.out⟩
  | some y =>
   rw [hk] at FD;have PR:Aside (putR most l e=(0,ins Ent.k e l)):=by show _=_;unfold putR;rw [if_neg bad,if_neg (fun q=>by rw [hk] at q;cases q.1)]
   have pl:=plc_found_lt H.out.rise hk;have STO:Hid (∀ (W:World),Gw w W->∃ b cap,W.cell? ⟨p,1,none⟩=some (.slice (some ⟨b,0,none⟩) l.length cap)/\PutOut 92 w (put3 W.drew b (plc Ent.k e.k l*3) e) p S most (ins Ent.k e l)/\∃ x:Ent,(W.cell? ⟨b,plc Ent.k e.k l*3,none⟩=some (.int .u64 x.k)/\W.cell? ⟨b,plc Ent.k e.k l*3+1,none⟩=some (.int .u64 x.v)/\W.cell? ⟨b,plc Ent.k e.k l*3+2,none⟩=some (.bool x.g))/\(∀ i,W.frozen? ⟨b,i,none⟩=false)/\b<W.heap.size):=fun W gW=>by
    obtain ⟨v,h1,h2,h3,h4⟩:=(H.out.gw gW).lies;obtain ⟨bo,c,rfl,hc,_⟩:=eo_shape h2;obtain ⟨b,rfl,_,y2,y3,y4⟩:=eo_form h2 rfl (by omega)
    refine ⟨b,c,blkc h1 rfl,stored14 h1 (eo_keep h2 (fun _ _=>rfl)) rfl (h3 b rfl) pl (gW.gx S).drew (.inl ((h4 b).2 (.inr rfl))) H.out.own (ins_there H.out.rise hk).symm RI.out OKL.out (by rw [ins_len_there H.out.rise hk];exact H.out.room),_,y4 _ pl,y3,y2⟩
   obtain ⟨ek,ev,eg⟩:=e;simp only at FD BX STO pl ⊢;generalize hpp:plc Ent.k ek l=pp at FD STO pl;have bad':eg=false\/(eg=true/\((ev:Int) == 0)=true):=by
    cases eg with
    | false=>exact .inl rfl
    | true =>
     refine .inr ⟨rfl,?_⟩;have:¬ ev≠0:=fun q=>bad ⟨rfl,q⟩
     simpa using this
   obtain ⟨n,hln⟩:∃ n,l.length=n:=⟨_,rfl⟩;rw [hln] at hn pl STO;have pl':(pp:Int)<(n:Int):=by omega
   clear h OKL RI hk bad oke hpp hln FU;rcases bad' with rfl | ⟨rfl,b2⟩ <;>
   ·go_enter func43,ntmps43
    go_wp2_with fail;refine (FD.out _ ((Gw.refl w).alloc _ _)).mono ?_
    rintro ex u3 ⟨rfl,g⟩;have G1':Aside (Gw w u3):=((Gw.refl w).alloc _ _).trans g;obtain ⟨⟨x0,x1,x2⟩,x3⟩:=BX.out u3 g;obtain ⟨b,cap,c1,res,y,⟨y0,y1,y2⟩,y3,y4⟩:=STO.out u3 G1'.out;have RES:Hid (PutOut 92 w (put3 u3.drew b (pp*3) _) p S most _):=res;have z0:=y3 (pp*3);have z1:=y3 (pp*3+1);have z2:=y3 (pp*3+2);clear g FD BX STO res y3 hbq SAME;go_wp2_with fail;go_region
    all_goals go_wp2_with fail
    all_goals go_ret
    all_goals rw [PR.out]
    all_goals exact ⟨rfl,RES.out⟩
end Go.Proofs.YtemijdhemdhclaaGreat
