/- The statements' plain map: at, put, drop. -/
import Derived.Laws.StructEq
import Derived.Test.YtemijdhemdhclaaGreatBIPair
set_option linter.unusedVariables false
set_option maxHeartbeats 8000000
set_option maxRecDepth 20000
open Go.Proofs.Tryz
namespace Go.Proofs.YtemijdhemdhclaaGreat
open Go.RowKit
theorem at16 (p:Nat) (S:Nat->Prop) (l:List (Int×Int)) (k:Int) (hn:l.length<=4000000) (w:World) (h:HP w p S l) :
  Calls prog 12 #[.pointer (some ⟨p,0,none⟩),.int .u64 k] w fun e w'=>e=.returned (.tuple #[.int .i64 (plc Prod.fst k l:Int),.bool (look Prod.fst k l).isSome])/\Gw w w':=by
 obtain ⟨v,h1,h2,h3,h4⟩:=h.lies;obtain ⟨bo,c,rfl,hc,_⟩:=po_shape h2;have PP:Aside (PO w 0 (.slice bo l.length c) l):=h2;have RI:Aside (Rise Prod.fst l):=h.rise;have pl:=blkl h1;have BL:Aside (w.heap[p]?=some (.cells #[.slice bo l.length c] 35 (0,0))):=h1;obtain ⟨n,hln⟩:∃ n,l.length=n:=⟨_,rfl⟩;have LN:Aside (l.length=n):=hln;rw [hln] at hn hc BL PP;obtain ⟨m,hm⟩:∃ m,plc Prod.fst k l=m:=⟨_,rfl⟩;have PM:Aside (plc Prod.fst k l=m):=hm;have mn:m<=n:=by rw [<-hm,<-hln];exact plc_le k l
 obtain ⟨F,hF⟩:∃ F,(look Prod.fst k l).isSome=F:=⟨_,rfl⟩;have FF:Aside ((look Prod.fst k l).isSome=F):=hF;rw [hm,hF];clear h h1 h2 h3 h4 hln hm hF;go_enter func12,ntmps12;go_wp2_with fail;go_loopg [6] n (fun gg s6 wr=>∃ i:Nat,s6=.int .i64 (i:Int)/\i<=m/\n-i<=gg/\wr=w)
 case atStart=>exact ⟨0,rfl,Nat.zero_le _,by omega,rfl⟩
 case round =>
  obtain ⟨i,rfl,a1,a2,hw⟩:=hrel;subst hw;obtain ⟨wS,hwS⟩:∃ wx,wx=wr:=⟨_,rfl⟩;subst hwS;have c0:wS.cell? ⟨p,0,none⟩=some (.slice bo n c):=blkc BL.out rfl;by_cases hlt:i<n
  ·have hlt':(i:Int)<(n:Int):=by omega
   obtain ⟨b,rfl,_,bl,_,cc⟩:=po_form PP.out LN.out (by omega)
   obtain ⟨d0,_⟩:=cc i hlt;have gi:l[i]?=some (l.getD i (0,0)):=by rw [List.getElem?_eq_getElem (by rw [LN.out];exact hlt),List.getD_eq_getElem?_getD,List.getElem?_eq_getElem (by rw [LN.out];exact hlt)];rfl
   by_cases im:i<m
   ·have lt:(l.getD i (0,0)).1<k:=plc_below (by rw [PM.out];exact im) gi
    have t1:decide ((l.getD i (0,0)).1<k)=true:=by simpa using lt
    generalize (l.getD i (0,0)).1=ki at d0 t1;clear cc gi lt;go_wp2_with fail;go_roundg (n-(i+1))
    case measure=>omega
    case rel=>exact ⟨i+1,by go_num,by omega,Nat.le_refl _,rfl⟩
   ·have e:m=i:=by omega
    subst e;have nlt:¬ (l.getD m (0,0)).1<k:=plc_not (by rw [PM.out];exact gi)
    have t1:decide ((l.getD m (0,0)).1<k)=false:=by simpa using nlt
    have t2:((l.getD m (0,0)).1 == k)=F:=by
     rw [<-FF.out,plc_look RI.out,PM.out,gi];generalize l.getD m (0,0)=x;by_cases e:x.1=k
     ·simp [e]
     ·simp [e]
    generalize (l.getD m (0,0)).1=ki at d0 t1 t2;clear cc gi nlt;go_wp2_with fail;go_quiet (fail);go_wp2_with fail;go_ret2;exact ⟨rfl,(Gw.refl wS).drewN _⟩
  ·have e:n=i:=by omega
   have e':m=i:=by omega
   subst e;subst e';have hF:F=false:=by
    rw [<-FF.out,plc_look RI.out,PM.out,List.getElem?_eq_none (by rw [LN.out];exact Nat.le_refl _)]
    rfl
   subst hF;go_wp2_with fail;go_quiet (fail);go_wp2_with fail;go_ret2;exact ⟨rfl,(Gw.refl wS).drewN _⟩
theorem info_p16:(prog.info? 44).map (fun i=>(i.zero,i.size,i.bytes))=some (some (.agg #[.int .u64 0,.int .u64 0]),2,16):=by kernel_rfl
theorem pr2_one (e:Int×Int):∀ u∈pr2 e,u.oneCell'=true:=by
 intro u hu;simp only [pr2,List.mem_cons,List.not_mem_nil,or_false] at hu;rcases hu with rfl | rfl<;>rfl
theorem new_pair (w:World) (e:Int×Int):∀ j u,(pr2 e)[j]?=some u->(w.alloc (.cells #[.int .u64 e.1,.int .u64 e.2] 44)).cell? ((⟨w.heap.size,0,none⟩:Addr).add j)=some u:=by
 intro j u hu
 match j,hu with
 | 0,hu=>simp [pr2] at hu;subst hu;simp [Addr.add,go_sem]
 | 1,hu=>simp [pr2] at hu;subst hu;simp [Addr.add,go_sem]
 | j+2,hu=>simp [pr2] at hu
def POut (w w':World) (p:Nat) (S:Nat->Prop) (l:List (Int×Int)):Prop:=∃ S',HP w' p S' l/\Gx S w w'/\∀ q,S' q->S q\/w.heap.size<=q
def shR (l:List (Int×Int)) (x:Int×Int) (k:Nat):List (Int×Int):=(l++[x]).take (k+1)++l.drop k
theorem shR_len {l:List (Int×Int)} {x:Int×Int} {k:Nat} (h:k<=l.length):(shR l x k).length=l.length+1:=by
 unfold shR;rw [List.length_append,List.length_take,List.length_drop];simp;omega
theorem shR_get {l:List (Int×Int)} {x:Int×Int} {k:Nat} (h:k<l.length):(shR l x (k+1)).getD k (0,0)=l.getD k (0,0):=by
 unfold shR;rw [List.getD_eq_getElem?_getD,List.getElem?_append_left (by simp;omega),List.getElem?_take,if_pos (by omega),List.getElem?_append_left h,<-List.getD_eq_getElem?_getD]
theorem shR_set {l:List (Int×Int)} {x:Int×Int} {k:Nat} (h:k<l.length):(shR l x (k+1)).set (k+1) (l.getD k (0,0))=shR l x k:=by
 unfold shR;rw [List.set_append_left _ _ (by simp;omega)]
 have e1:((l++[x]).take (k+1+1)).set (k+1) (l.getD k (0,0))=(l++[x]).take (k+1)++[l.getD k (0,0)]:=by
  rw [List.set_eq_take_append_cons_drop,if_pos (by simp;omega),List.take_take,Nat.min_eq_left (by omega),List.drop_eq_nil_of_le (by simp;omega)]
 rw [e1,List.append_assoc,List.singleton_append];congr 1;rw [List.drop_eq_getElem_cons h,List.getD_eq_getElem?_getD,List.getElem?_eq_getElem h];rfl
theorem shR_top (l:List (Int×Int)) (x:Int×Int):shR l x l.length=l++[x]:=by
 unfold shR;rw [List.drop_length,List.append_nil,List.take_of_length_le (by simp)]
theorem shR_put {l:List (Int×Int)} {x y:Int×Int} {k:Nat} (h:k<=l.length):(shR l x k).set k y=l.take k++y::l.drop k:=by
 unfold shR;rw [List.set_append_left _ _ (by simp;omega)]
 have e1:((l++[x]).take (k+1)).set k y=l.take k++[y]:=by
  rw [List.set_eq_take_append_cons_drop,if_pos (by simp;omega),List.take_take,Nat.min_eq_left (by omega),List.drop_eq_nil_of_le (by simp;omega),List.take_append_of_le_length h]
 rw [e1,List.append_assoc,List.singleton_append]
theorem pput16 (p:Nat) (S:Nat->Prop) (l:List (Int×Int)) (k v:Int) (hn:l.length<=2000000) (hk:0<=k/\k<18446744073709551616) (hv:0<=v/\v<18446744073709551616) (w:World) (h:HP w p S l) :
  Calls prog 16 #[.pointer (some ⟨p,0,none⟩),.int .u64 k,.int .u64 v] w fun e w'=>e=.returned (.tuple #[])/\POut w w' p S (ins Prod.fst (k,v) l):=by
 have H:Aside (HP w p S l):=h;have AT:Hid (Calls prog 12 #[.pointer (some ⟨p,0,none⟩),.int .u64 k] w fun e w'=>e=.returned (.tuple #[.int .i64 (plc Prod.fst k l:Int),.bool (look Prod.fst k l).isSome])/\Gw w w'):=at16 p S l k (by omega) w h
 have BD:Aside (∀ x∈ins Prod.fst (k,v) l,(0<=x.1/\x.1<18446744073709551616)/\0<=x.2/\x.2<18446744073709551616):=ins_all (P:=fun x:Int×Int=>(0<=x.1/\x.1<18446744073709551616)/\0<=x.2/\x.2<18446744073709551616) ⟨hk,hv⟩ h.bd
 have ppn:=plc_le (key:=Prod.fst) k l;clear h;cases q:look Prod.fst k l with
 | some y =>
  have IN:=ins_there (x:=(k,v)) H.out.rise q;rw [q] at AT;have YT:=plc_found H.out.rise q;have plt:plc Prod.fst k l<l.length:=(List.getElem?_eq_some_iff.1 YT.1).1;have GD:l.getD (plc Prod.fst k l) (0,0)=y:=by rw [List.getD_eq_getElem?_getD,YT.1];rfl
  have FIN:Hid (∀ (W:World) (b c:Nat),Gw w W->W.heap[p]?=some (.cells #[.slice (some ⟨b,0,none⟩) l.length c] 35 (0,0))->PO W 0 (.slice (some ⟨b,0,none⟩) l.length c) l->b≠p->S b->POut w (W.setCell ⟨b,plc Prod.fst k l*2+1,none⟩ (.int .u64 v)) p S (ins Prod.fst (k,v) l)):=fun W b c g h1 h2 bp sb=>by
   have h3:=po_put1 h2 rfl plt v;rw [GD,show y.1=k from YT.2] at h3;rw [IN];refine ⟨fun q=>q=p\/q=b,⟨⟨_,(Go.Deep.blk_setCell_other _ _ _ _ (fun e=>bp e.symm)).trans h1,?_,fun q hq=>?_,fun q=>?_⟩,?_,?_⟩,(g.gx S).set (.inl sb) _ _,fun q hq=>.inl ?_⟩
   ·have:=h3
    unfold PO at this ⊢;exact this
   ·injection hq with hq
    rw [<-hq];exact bp
   ·refine ⟨fun e=>e.elim .inl (fun e=>.inr (by rw [e];rfl)),fun e=>e.elim .inl (fun e=>?_)⟩
    injection e with e;exact .inr e.symm
   ·rw [<-IN];exact H.out.rise.ins
   ·rw [<-IN];exact BD.out
   ·rcases hq with e | e
    ·rw [e];exact H.out.own
    ·rw [e];exact sb
  obtain ⟨vv,h1,h2,h3,h4⟩:=H.out.lies;obtain ⟨bo,c,rfl,hc,_⟩:=po_shape h2;obtain ⟨b,rfl,_,bl,fz,cc⟩:=po_form h2 rfl (by omega)
  have bp:b≠p:=h3 b rfl;have SB:S b:=(h4 b).2 (.inr rfl);have KE:Hid (∀ W,Gw w W->(W.cell? ⟨p,0,none⟩=some (.slice (some ⟨b,0,none⟩) l.length c)/\p<W.heap.size)/\(W.cell? ⟨b,plc Prod.fst k l*2+1,none⟩=some (.int .u64 y.2)/\W.frozen? ⟨b,plc Prod.fst k l*2+1,none⟩=false/\b<W.heap.size)):=fun W g=>by
   have x1:=(g.below.block p (blkl h1)).trans h1;obtain ⟨b',e,_,x2,x3,x4⟩:=po_form (po_gw h2 g) rfl (show 0<l.length by omega)
   injection e with e;injection e with e;subst e;have:=(x4 _ plt).2;rw [GD] at this;exact ⟨⟨blkc x1 rfl,blkl x1⟩,this,x3 _,x2⟩
  have FI2:Hid (∀ W,Gw w W->POut w (W.setCell ⟨b,plc Prod.fst k l*2+1,none⟩ (.int .u64 v)) p S (ins Prod.fst (k,v) l)):=fun W g=>FIN.out W b c g ((g.below.block p (blkl h1)).trans h1) (po_gw h2 g) bp SB
  obtain ⟨n,hln⟩:∃ n,l.length=n:=⟨_,rfl⟩;rw [hln] at hn ppn plt KE;generalize plc Prod.fst k l=pp at AT ppn plt KE FI2;have plt':(pp:Int)<(n:Int):=by omega
  clear FIN cc fz h1 h2 h3 h4 hc IN YT GD q hln ppn;go_enter func16,ntmps16;go_wp2_with fail;refine Calls.mono AT.out ?_;rintro e w1 ⟨rfl,g1⟩;have FI3:=FI2.out w1 g1;obtain ⟨⟨k1,k2⟩,k3,k4,k5⟩:=KE.out w1 g1;clear g1 KE FI2 AT;go_wp2_with fail;refine bodyPost_ret (results_none rfl _ _ _) rfl ⟨rfl,FI3⟩
 | none =>
  have IN:=ins_new (x:=(k,v)) (key:=Prod.fst) q;rw [q] at AT;obtain ⟨ii,hii,hz,hs,hby⟩:=info_parts info_p16;obtain ⟨vv,h1,h2,h3,h4⟩:=H.out.lies;obtain ⟨bo,c,rfl,hc,_⟩:=po_shape h2;obtain ⟨n,hln⟩:∃ n,l.length=n:=⟨_,rfl⟩;have LN:Aside (l.length=n):=hln;have IN':Aside (ins Prod.fst (k,v) l=l.take (plc Prod.fst k l)++(k,v)::l.drop (plc Prod.fst k l)):=IN;have PPN:Aside (plc Prod.fst k l<=l.length):=ppn;rw [hln] at hn hc h1 h2 ppn;generalize plc Prod.fst k l=pp at AT IN' ppn PPN;have PP:Aside (∀ W,Gw w W->PO W 0 (.slice bo n c) l):=fun W g=>po_gw h2 g
  have BL:Aside (∀ W,Gw w W->W.heap[p]?=some (.cells #[.slice bo n c] 35 (0,0))):=fun W g=>(g.below.block p (blkl h1)).trans h1
  have H3:Aside (∀ q,(Value.slice bo n c).ownBlock=some q->q≠p):=by rw [<-hln];exact h3
  have H4:Aside (∀ q,S q↔q=p\/(Value.slice bo n c).ownBlock=some q):=by rw [<-hln];exact h4
  clear h1 h2 h3 h4 hc IN q hln;go_enter func16,ntmps16;go_wp2_with fail;refine Calls.mono AT.out ?_;rintro e w1 ⟨rfl,g1⟩;have b1:=BL.out w1 g1;have k1:w1.cell? ⟨p,0,none⟩=some (.slice bo n c):=blkc b1 rfl;have k2:=blkl b1;have k3:=blkf (o:=0) b1;have OW:Aside (w1.ownsRow 0 44 2 (.slice bo n c) n (l.flatMap pr2)):=by have:=PP.out w1 g1;unfold PO at this;rw [LN.out] at this;exact this
  have G1:Aside (Gw w w1):=g1;have B1:Aside (w1.heap[p]?=some (.cells #[.slice bo n c] 35 (0,0))):=b1;clear g1 b1 AT PP BL;go_wp2_with (at_builtin;refine wpList_append_own_at _ rfl _ _ 33 rfl 0 44 ii (.agg #[.int .u64 0,.int .u64 0]) 2 16 underlying33 hii hz hs hby rfl (by decide) _ n _ rfl (OW.out.alloc _) ⟨w1.heap.size,0,none⟩ 1 1 (pr2 (0,0)) rfl rfl (new_pair w1 (0,0)) (pr2_one _) (by simp only [maxLen];omega) (by omega) (Nat.zero_le _) ?_)
  intro v' w5 r1 r2 r3 r4;obtain ⟨b,cap,rfl,_,hcap,bl⟩:=own_slice r1 (by simpa using r3)
  have SB:S b\/w.heap.size<=b:=by
   rcases r4 with q | q
   ·exact .inl ((H4.out b).2 (.inr q.symm))
   ·refine .inr ?_
    have q':b=w1.heap.size+1:=by simpa [Value.ownBlock] using q
    have:=G1.out.size
    omega
  have bp:b≠p:=by
   rcases r4 with q | q
   ·exact H3.out b q.symm
   ·have q':b=w1.heap.size+1:=by simpa [Value.ownBlock] using q
    omega
  have b5:w5.heap[p]?=some (.cells #[.slice bo n c] 35 (0,0)):=(r2.block p (by simp;omega) (fun e=>H3.out p e.symm rfl)).trans ((heap_alloc_old _ _ k2).trans B1.out)
  have x1:=blkl b5;have x2:=blkf (o:=0) b5;have x3:w5.cell? ⟨p,0,none⟩=some (.slice bo n c):=blkc b5 rfl;have G5:Gx S w w5:=((G1.out.gx S).alloc _ _).grown r2 (fun k hk=>.inl ((H4.out k).2 (.inr hk)))
  have E6:Aside (PO (w5.setCell ⟨p,0,none⟩ (.slice (some ⟨b,0,none⟩) (n+1) cap)) 0 (.slice (some ⟨b,0,none⟩) (n+1) cap) (shR l (0,0) n)):=by
   refine po_keep ?_ fun q hq=>Go.Deep.blk_setCell_other _ _ _ _ (by injection hq with hq;rw [<-hq];exact bp)
   have e:shR l (0,0) n=l++[(0,0)]:=by rw [<-LN.out];exact shR_top _ _
   rw [e];unfold PO;rw [List.length_append,List.flatMap_append,LN.out];simpa using r1
  have B6:Aside ((w5.setCell ⟨p,0,none⟩ (.slice (some ⟨b,0,none⟩) (n+1) cap)).heap[p]?=some (.cells #[.slice (some ⟨b,0,none⟩) (n+1) cap] 35 (0,0))):=by show _=_;rw [Go.Proofs.YtemijdhemdhclaaGreat.blk_set16 b5];rfl
  have G6:Aside (Gx S w (w5.setCell ⟨p,0,none⟩ (.slice (some ⟨b,0,none⟩) (n+1) cap))):=G5.set (.inl H.out.own) _ _;have SB':Aside (S b\/w.heap.size<=b):=SB;have c6:(w5.setCell ⟨p,0,none⟩ (.slice (some ⟨b,0,none⟩) (n+1) cap)).cell? ⟨p,0,none⟩=some (.slice (some ⟨b,0,none⟩) (n+1) cap):=blkc B6.out rfl;have wn:IntKind.i64.wrap (((n+1:Nat):Int)-1)=(n:Int):=by rw [IntKind.wrap_i64];omega
  have wn':IntKind.i64.wrap ((n:Int)+1-1)=(n:Int):=by rw [IntKind.wrap_i64];omega
  clear r1 r2 r3 r4 b5 G5 SB OW G1 B1 k1 k3 H3 H4;go_wp2_with fail;generalize w5.setCell ⟨p,0,none⟩ (.slice (some ⟨b,0,none⟩) (n+1) cap)=w6 at E6 B6 G6 c6 ⊢;clear c6 x1 x2 x3 bl k2;go_loopg [8] (n+1) (fun gg s8 wr=>∃ j:Nat,s8=.int .i64 (j:Int)/\pp<=j/\j<=n/\j<gg+1/\Aside (PO wr 0 (.slice (some ⟨b,0,none⟩) (n+1) cap) (shR l (0,0) j))/\Aside (wr.heap[p]?=some (.cells #[.slice (some ⟨b,0,none⟩) (n+1) cap] 35 (0,0)))/\Aside (Gx S w wr))
  case atStart=>exact ⟨n,rfl,ppn,Nat.le_refl _,by omega,E6,B6,G6⟩
  case round =>
   clear E6 B6 G6;obtain ⟨j,rfl,a1,a2,a3,E,BB,G⟩:=hrel;obtain ⟨wS,hwS⟩:∃ wx,wx=wr:=⟨_,rfl⟩;subst hwS;have c0:wS.cell? ⟨p,0,none⟩=some (.slice (some ⟨b,0,none⟩) (n+1) cap):=blkc BB.out rfl;have cl:=blkl BB.out;have ln:(shR l (0,0) j).length=n+1:=by rw [shR_len (by rw [LN.out];exact a2),LN.out]
   obtain ⟨b',eb,_,bl,fz,cc⟩:=po_form E.out ln (by omega)
   injection eb with eb;injection eb with eb;subst eb;by_cases hlt:pp<j
   ·obtain ⟨i,hi⟩:∃ i,j=i+1:=⟨j-1,by omega⟩
    subst hi;have il:i<l.length:=by rw [LN.out];omega
    obtain ⟨d0,d1⟩:=cc i (by omega)
    obtain ⟨d2,d3⟩:=cc (i+1) (by omega)
    rw [shR_get il] at d0 d1;have E':Aside (PO (put2 wS b ((i+1)*2) (l.getD i (0,0))) 0 (.slice (some ⟨b,0,none⟩) (n+1) cap) (shR l (0,0) i)):=by
     have:=po_put (k:=i+1) E.out ln (by omega) (l.getD i (0,0))
     rw [shR_set il] at this;exact this
    have B':Aside ((put2 wS b ((i+1)*2) (l.getD i (0,0))).heap[p]?=some (.cells #[.slice (some ⟨b,0,none⟩) (n+1) cap] 35 (0,0))):=(Go.Deep.blk_setCell_other _ _ _ _ (fun e=>bp e.symm)).trans ((Go.Deep.blk_setCell_other _ _ _ _ (fun e=>bp e.symm)).trans BB.out)
    have G':Aside (Gx S w (put2 wS b ((i+1)*2) (l.getD i (0,0)))):=(G.out.set SB'.out _ _).set SB'.out _ _;have f2:=fz ((i+1)*2);have f3:=fz ((i+1)*2+1);generalize l.getD i (0,0)=x at d0 d1 E' B' G';obtain ⟨x0,x1⟩:=x;unfold put2 at E' B' G';simp only at d0 d1 E' B' G';have t1:(pp:Int)<((i+1:Nat):Int):=by omega
    have t1':(pp:Int)<(i:Int)+1:=by omega
    have w1':IntKind.i64.wrap ((i:Int)+1-1)=(i:Int):=by rw [IntKind.wrap_i64];omega
    have i0:(i:Int)+1<(n:Int)+1:=by omega
    have i1:(i:Int)<(n:Int)+1:=by omega
    clear cc fz E BB G ln;go_wp2_with fail;go_region
    all_goals go_wp2_with fail
    all_goals go_roundg i
    all_goals first
     | (case measure=>omega)
     | (case rel=>exact ⟨i,by go_num,by omega,by omega,by omega,E',B',(show Aside _ from G'.out.drew)⟩)
   ·have ej:j=pp:=by omega
    subst ej;obtain ⟨d0,d1⟩:=cc j (by omega)
    have f2:=fz (j*2);have f3:=fz (j*2+1);have E':=po_put (k:=j) E.out ln (by omega) (k,v)
    rw [shR_put (by rw [LN.out];exact a2),<-IN'.out] at E'
    have RES:Hid (POut w (put2 wS b (j*2) (k,v)) p S (ins Prod.fst (k,v) l)):=by
     refine ⟨fun q=>q=p\/q=b,⟨⟨_,(Go.Deep.blk_setCell_other _ _ _ _ (fun e=>bp e.symm)).trans ((Go.Deep.blk_setCell_other _ _ _ _ (fun e=>bp e.symm)).trans BB.out),E',fun q hq=>?_,fun q=>?_⟩,H.out.rise.ins,BD.out⟩,(G.out.set SB'.out _ _).set SB'.out _ _,fun q hq=>?_⟩
     ·injection hq with hq
      rw [<-hq];exact bp
     ·refine ⟨fun e=>e.elim .inl (fun e=>.inr (by rw [e];rfl)),fun e=>e.elim .inl (fun e=>?_)⟩
      injection e with e;exact .inr e.symm
     ·rcases hq with e | e
      ·rw [e];exact .inl H.out.own
      ·rw [e];exact SB'.out
    unfold put2 at RES;simp only at RES;have i1:(j:Int)<(n:Int)+1:=by omega
    clear cc fz E BB G ln E';go_wp2_with fail;refine bodyPost_end (results_none rfl _ _ _) rfl ⟨rfl,RES.out⟩
theorem po_cut {w:World} {base b n m cap:Nat} {l:List (Int×Int)} (h:PO w base (.slice (some ⟨b,0,none⟩) n cap) l) (hn:l.length=n) (hm:m<=n):PO w base (.slice (some ⟨b,0,none⟩) m cap) (l.take m):=by
 subst hn;have lt:(l.take m).length=m:=by rw [List.length_take];omega
 rcases h.2 with ⟨x,_⟩ | ⟨b',cap',cur,e,hb,hh,hc,hmx,hz,ht⟩
 ·cases x
 ·injection e with e1 e2 e3
  injection e1 with e1;injection e1 with e1;subst e1 e3;have ft:∀ (l:List (Int×Int)) (k:Nat),(l.take k).flatMap pr2=(l.flatMap pr2).take (k*2):=by
   intro l;induction l with
   | nil=>intro k;simp
   | cons s l ih =>
    intro k;cases k with
    | zero=>simp
    | succ k=>rw [List.take_succ_cons,List.flatMap_cons,List.flatMap_cons,ih k,show (k+1)*2=(pr2 s).length+k*2 by show _=2+_;omega,List.take_length_add_append]
  refine ⟨by rw [flatp_len],.inr ⟨b,cap,cur,by rw [lt],hb,hh,by rw [lt];omega,hmx,hz,?_⟩⟩
  rw [lt,ft,<-ht,List.take_take,Nat.min_eq_left (by omega)]
def shD (l:List (Int×Int)) (p j:Nat):List (Int×Int):=l.take p++((l.drop (p+1)).take (j-p)++l.drop j)
theorem shD_len {l:List (Int×Int)} {p j:Nat} (h:p<=j) (hj:j<l.length):(shD l p j).length=l.length:=by
 unfold shD;rw [List.length_append,List.length_append,List.length_take,List.length_take,List.length_drop,List.length_drop];omega
theorem shD_get {l:List (Int×Int)} {p j:Nat} (h:p<=j) (hj:j+1<l.length):(shD l p j).getD (j+1) (0,0)=l.getD (j+1) (0,0):=by
 unfold shD;have a:(l.take p).length=p:=by rw [List.length_take];omega
 have b:((l.drop (p+1)).take (j-p)).length=j-p:=by rw [List.length_take,List.length_drop];omega
 rw [List.getD_eq_getElem?_getD,List.getElem?_append_right (by omega),a,List.getElem?_append_right (by rw [b];omega),b,List.getElem?_drop,List.getD_eq_getElem?_getD]
 congr 2
 omega
theorem shD_set {l:List (Int×Int)} {p j:Nat} (h:p<=j) (hj:j+1<l.length):(shD l p j).set j (l.getD (j+1) (0,0))=shD l p (j+1):=by
 unfold shD;have a:(l.take p).length=p:=by rw [List.length_take];omega
 have b:((l.drop (p+1)).take (j-p)).length=j-p:=by rw [List.length_take,List.length_drop];omega
 rw [List.set_append_right _ _ (by omega),a,List.set_append_right _ _ (by rw [b];exact Nat.le_refl _),b,Nat.sub_self]
 congr 1
 have e1:(l.drop (p+1)).take (j+1-p)=(l.drop (p+1)).take (j-p)++[l.getD (j+1) (0,0)]:=by
  rw [show j+1-p=(j-p)+1 by omega,List.take_add_one,List.getElem?_drop,show p+1+(j-p)=j+1 by omega,List.getD_eq_getElem?_getD,List.getElem?_eq_getElem hj]
  rfl
 have e2:l.drop j=l.getD j (0,0)::l.drop (j+1):=by
  rw [List.drop_eq_getElem_cons (by omega),List.getD_eq_getElem?_getD,List.getElem?_eq_getElem (by omega)]
  rfl
 rw [e1,e2,List.set_cons_zero,List.append_assoc,List.singleton_append]
theorem shD_top {l:List (Int×Int)} {p:Nat} (h:p<l.length):shD l p p=l:=by
 unfold shD;rw [Nat.sub_self,List.take_zero,List.nil_append,List.take_append_drop]
theorem shD_end {l:List (Int×Int)} {p:Nat} (h:p<l.length):(shD l p (l.length-1)).take (l.length-1)=l.take p++l.drop (p+1):=by
 unfold shD;have a:(l.take p).length=p:=by rw [List.length_take];omega
 have b:((l.drop (p+1)).take (l.length-1-p)).length=l.length-1-p:=by rw [List.length_take,List.length_drop];omega
 rw [<-List.append_assoc,List.take_append_of_le_length (by rw [List.length_append,a,b];omega),List.take_of_length_le (by rw [List.length_append,a,b];omega)]
 rw [List.take_of_length_le (l:=l.drop (p+1)) (by rw [List.length_drop];omega)]
theorem dropP_there {l:List (Int×Int)} {k:Int} (r:Rise Prod.fst l) {y:Int×Int} (h:look Prod.fst k l=some y):dropP k l=l.take (plc Prod.fst k l)++l.drop (plc Prod.fst k l+1):=by
 induction l with
 | nil=>cases h
 | cons x l ih =>
  obtain ⟨r1,r2⟩:=List.pairwise_cons.1 r;rw [look_cons] at h;unfold dropP plc;rw [List.filter_cons];by_cases c:x.1=k
  ·rw [if_neg (by simpa using c),if_neg (by omega)]
   simp only [List.take_zero,List.nil_append,Nat.zero_add,List.drop_succ_cons,List.drop_zero];refine List.filter_eq_self.2 fun z hz=>?_
   have:=r1 z hz
   simp
   omega
  ·rw [if_neg c] at h
   have xk:x.1<k:=by
    have:=r1 y (List.mem_of_find?_eq_some h)
    have:=look_key h
    omega
   rw [if_pos (by simpa using c),if_pos xk]
   have:=ih r2 h
   unfold dropP at this;rw [this];rfl
theorem dropP_not {l:List (Int×Int)} {k:Int} (h:look Prod.fst k l=none):dropP k l=l:=by
 refine List.filter_eq_self.2 fun z hz=>?_
 unfold look at h;have:=List.find?_eq_none.1 h z hz;simpa using this
theorem dropP_rise {l:List (Int×Int)} {k:Int} (r:Rise Prod.fst l):Rise Prod.fst (dropP k l):=r.filter _
theorem pdrop16 (p:Nat) (S:Nat->Prop) (l:List (Int×Int)) (k:Int) (hn:l.length<=2000000) (w:World) (h:HP w p S l) :
  Calls prog 18 #[.pointer (some ⟨p,0,none⟩),.int .u64 k] w fun e w'=>e=.returned (.tuple #[])/\POut w w' p S (dropP k l):=by
 have H:Aside (HP w p S l):=h;have AT:Hid (Calls prog 12 #[.pointer (some ⟨p,0,none⟩),.int .u64 k] w fun e w'=>e=.returned (.tuple #[.int .i64 (plc Prod.fst k l:Int),.bool (look Prod.fst k l).isSome])/\Gw w w'):=at16 p S l k (by omega) w h
 have BD:Aside (∀ x∈dropP k l,(0<=x.1/\x.1<18446744073709551616)/\0<=x.2/\x.2<18446744073709551616):=fun x hx=>h.bd x (List.mem_filter.1 hx).1
 clear h;cases q:look Prod.fst k l with
 | none =>
  rw [q] at AT;have RES:Hid (∀ W,Gw w W->POut w W p S (dropP k l)):=fun W g=>by
   rw [dropP_not q];exact ⟨S,H.out.gw g,g.gx S,fun q hq=>.inl hq⟩
  clear q;go_enter func18,ntmps18;go_wp2_with fail;refine Calls.mono AT.out ?_;rintro e w1 ⟨rfl,g1⟩;have R1:=RES.out w1 g1;clear g1 AT RES;go_wp2_with fail;refine bodyPost_ret (results_none rfl _ _ _) rfl ⟨rfl,R1⟩
 | some y =>
  rw [q] at AT;have DR:=dropP_there H.out.rise q;have plt:plc Prod.fst k l<l.length:=(List.getElem?_eq_some_iff.1 (plc_found H.out.rise q).1).1;obtain ⟨vv,h1,h2,h3,h4⟩:=H.out.lies;obtain ⟨bo,c,rfl,hc,_⟩:=po_shape h2;obtain ⟨b,rfl,_,bl,fz,cc⟩:=po_form h2 rfl (by omega)
  have bp:b≠p:=h3 b rfl;have SB:Aside (S b):=(h4 b).2 (.inr rfl);have DR':Aside (dropP k l=l.take (plc Prod.fst k l)++l.drop (plc Prod.fst k l+1)):=DR;have BL:Aside (∀ W,Gw w W->W.heap[p]?=some (.cells #[.slice (some ⟨b,0,none⟩) l.length c] 35 (0,0))/\PO W 0 (.slice (some ⟨b,0,none⟩) l.length c) l):=fun W g=>⟨(g.below.block p (blkl h1)).trans h1,po_gw h2 g⟩
  obtain ⟨n,hln⟩:∃ n,l.length=n:=⟨_,rfl⟩;have LN:Aside (l.length=n):=hln;rw [hln] at hn plt BL hc;have PLT:Aside (plc Prod.fst k l<l.length):=by rw [hln];exact plt
  generalize plc Prod.fst k l=pp at AT plt DR' PLT;clear h1 h2 h3 h4 cc fz DR q hln bl;go_enter func18,ntmps18;go_wp2_with fail;refine Calls.mono AT.out ?_;rintro e w1 ⟨rfl,g1⟩;have E1:Aside (PO w1 0 (.slice (some ⟨b,0,none⟩) n c) (shD l pp pp)):=by rw [shD_top PLT.out];exact (BL.out w1 g1).2
  have B1:Aside (w1.heap[p]?=some (.cells #[.slice (some ⟨b,0,none⟩) n c] 35 (0,0))):=(BL.out w1 g1).1;have G1:Aside (Gx S w w1):=g1.gx S;clear g1 AT BL;go_wp2_with fail;go_loopg [6] n (fun gg s6 wr=>∃ j:Nat,s6=.int .i64 (j:Int)/\pp<=j/\j<n/\n-j<=gg/\Aside (PO wr 0 (.slice (some ⟨b,0,none⟩) n c) (shD l pp j))/\Aside (wr.heap[p]?=some (.cells #[.slice (some ⟨b,0,none⟩) n c] 35 (0,0)))/\Aside (Gx S w wr))
  case atStart=>exact ⟨pp,rfl,Nat.le_refl _,plt,by omega,E1,B1,G1⟩
  case round =>
   clear E1 B1 G1;obtain ⟨j,rfl,a1,a2,a3,E,BB,G⟩:=hrel;obtain ⟨wS,hwS⟩:∃ wx,wx=wr:=⟨_,rfl⟩;subst hwS;have c0:wS.cell? ⟨p,0,none⟩=some (.slice (some ⟨b,0,none⟩) n c):=blkc BB.out rfl;have cl:=blkl BB.out;have cf:=blkf (o:=0) BB.out;have ln:(shD l pp j).length=n:=by rw [shD_len a1 (by rw [LN.out];exact a2),LN.out]
   obtain ⟨b',eb,_,bl,fz,cc⟩:=po_form E.out ln (by omega)
   injection eb with eb;injection eb with eb;subst eb;have wj:IntKind.i64.wrap ((j:Int)+1)=(j:Int)+1:=by rw [IntKind.wrap_i64];omega
   by_cases hlt:j+1<n
   ·have il:j+1<l.length:=by rw [LN.out];omega
    obtain ⟨d0,d1⟩:=cc (j+1) (by omega)
    obtain ⟨d2,d3⟩:=cc j (by omega)
    rw [shD_get a1 il] at d0 d1;have E':Aside (PO (put2 wS b (j*2) (l.getD (j+1) (0,0))) 0 (.slice (some ⟨b,0,none⟩) n c) (shD l pp (j+1))):=by
     have:=po_put (k:=j) E.out ln (by omega) (l.getD (j+1) (0,0))
     rw [shD_set a1 il] at this;exact this
    have B':Aside ((put2 wS b (j*2) (l.getD (j+1) (0,0))).heap[p]?=some (.cells #[.slice (some ⟨b,0,none⟩) n c] 35 (0,0))):=(Go.Deep.blk_setCell_other _ _ _ _ (fun e=>bp e.symm)).trans ((Go.Deep.blk_setCell_other _ _ _ _ (fun e=>bp e.symm)).trans BB.out)
    have G':Aside (Gx S w (put2 wS b (j*2) (l.getD (j+1) (0,0)))):=(G.out.set (.inl SB.out) _ _).set (.inl SB.out) _ _;have f2:=fz (j*2);have f3:=fz (j*2+1);generalize l.getD (j+1) (0,0)=x at d0 d1 E' B' G';obtain ⟨x0,x1⟩:=x;unfold put2 at E' B' G';simp only at d0 d1 E' B' G';have t1:(j:Int)+1<(n:Int):=by omega
    have t2:(j:Int)<(n:Int):=by omega
    clear cc fz E BB G ln;go_wp2_with fail;go_region
    all_goals go_wp2_with fail
    all_goals go_roundg (n-(j+1))
    all_goals first
     | (case measure=>omega)
     | (case rel=>exact ⟨j+1,by go_num,by omega,by omega,Nat.le_refl _,E',B',(show Aside _ from G'.out.drew)⟩)
   ·have ej:j=n-1:=by omega
    have t1:¬ (j:Int)+1<(n:Int):=by omega
    have wn:IntKind.i64.wrap ((n:Int)-1)=(j:Int):=by rw [IntKind.wrap_i64];omega
    have E':=po_cut (m:=j) E.out ln (by omega)
    have eT:(shD l pp j).take j=dropP k l:=by
     rw [DR'.out,ej,<-LN.out];exact shD_end PLT.out
    rw [eT] at E';have RES:Hid (POut w (wS.setCell ⟨p,0,none⟩ (.slice (some ⟨b,0,none⟩) j c)) p S (dropP k l)):=by
     refine ⟨fun q=>q=p\/q=b,⟨⟨_,by rw [blk_set16 BB.out];rfl,po_keep E' (fun q hq=>Go.Deep.blk_setCell_other _ _ _ _ (by injection hq with hq;rw [<-hq];exact bp)),fun q hq=>?_,fun q=>?_⟩,dropP_rise H.out.rise,BD.out⟩,G.out.set (.inl H.out.own) _ _,fun q hq=>?_⟩
     ·injection hq with hq
      rw [<-hq];exact bp
     ·refine ⟨fun e=>e.elim .inl (fun e=>.inr (by rw [e];rfl)),fun e=>e.elim .inl (fun e=>?_)⟩
      injection e with e;exact .inr e.symm
     ·rcases hq with e | e
      ·rw [e];exact .inl H.out.own
      ·rw [e];exact .inl SB.out
    have j1:(j:Int)<=(c:Int):=by omega
    have j2:j<=c:=by omega
    have j3:(0:Int)<=(j:Int):=by omega
    clear cc fz E BB G ln E' eT ej;have RD:Hid (POut w (wS.setCell ⟨p,0,none⟩ (.slice (some ⟨b,0,none⟩) j c)).drew p S (dropP k l)):=by
     obtain ⟨S',x1,x2,x3⟩:=RES.out;exact ⟨S',x1.keep (fun q hq=>rfl),x2.drew,x3⟩
    go_wp2_with fail;go_region
    all_goals
     first
      | refine bodyPost_end (results_none rfl _ _ _) rfl ⟨rfl,RD.out⟩
      | refine bodyPost_end (results_none rfl _ _ _) rfl ⟨rfl,RES.out⟩
end Go.Proofs.YtemijdhemdhclaaGreat
