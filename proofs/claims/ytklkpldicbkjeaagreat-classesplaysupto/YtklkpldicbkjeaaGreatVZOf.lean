/- Package probe: Of. -/
import Derived.Test.YtklkpldicbkjeaaGreatVZPile
import Derived.Test.YtklkpldicbkjeaaGreatVPY2
set_option linter.unusedVariables false
set_option maxHeartbeats 4000000
set_option maxRecDepth 10000
open Go.Proofs.Tryz
namespace Go.Proofs.YtklkpldicbkjeaaGreat
open Go.RowKit
theorem ae5 {P:Program} (w:World) {ops:Array Oper} {o:Oper} {a:Act} {K:Act->World->Prop} {Q:Exit->Act->World->Prop} {E:Prop} (oG:o.guard=none) (s x:Operand) (t:TypeId)
  (ho:o.op=.call { callee:=.builtin .append,args:=#[s,x],argTypes:=#[t,t] })
  (base:Nat) (e:TypeId) (i:TypeInfo) (z:Value) (size bytes:Nat) (ht:P.underlying t=some (.slice e)) (hi:P.info? e=some i) (hz:i.zero=some z)
  (nj:i.size=size) (aL:i.bytes=bytes) (nk:z.cells.size=size) (bZ:0<size)
  (v:Value) (n:Nat) (xs:List Value) (hs:a.eval s=v) (iP:w.ownsRow base e size v n xs)
  (ad:Addr) (m c:Nat) (news:List Value) (hx:a.eval x=.slice (some ad) m c) (hl:news.length=m*size) (nu:∀ j u,news[j]?=some u->w.cell? (ad.add j)=some u) (h1:∀ u∈news,u.oneCell'=true)
  (nA:n+m<=maxLen) (nB:(n+m)*bytes<=140737488355328) (nC:base<=w.heap.size)
  (h:∀ v' w',w'.ownsRow base e size v' (n+m) (xs++news)->w.grownBy w' v.ownBlock->(v'=.slice none 0 0↔v=.slice none 0 0/\m=0)->(v'.ownBlock=v.ownBlock\/v'.ownBlock=some w.heap.size)->K (a.put o.dst v') w') :
  if Region.wanted o (yielded ops a.tmps)=true then Oper.wp P o a w K Q else E:=by
 have hw:Region.wanted o (yielded ops a.tmps)=true:=by simp [Region.wanted,oG]
 rw [if_pos hw];obtain ⟨v',w',hr,h2,h3,h4,h5⟩:=run_append_own_at (P:=P) w base t o.type e i z size bytes ht hi hz nj aL nk bZ v n xs iP ad m c news hl nu h1 nA nB nC;unfold Oper.wp execOp;simp only [ho,resolve,invoke,builtin,Sem.run_bind,Sem.run_pure,Result.andThen_ok,List.map_toArray,List.map_cons,List.map_nil,hs,hx,hr];exact h v' w' h2 h3 h4 h5
theorem ae6 {w:World} {b:Nat} {x y z:Value} {t:TypeId} (h:w.heap[b]?=some (.cells #[x,y,z] t (0,0))) (u:Value):(w.setCell ⟨b,2,none⟩ u).heap[b]?=some (.cells #[x,y,u] t (0,0)):=by simp [World.setCell,Array.getElem?_modify,h]
theorem ae7 {w:World} {ao:Option Addr} {n cp:Nat} {f:Nat->Int} (h:KS w ao n f) (hn:n<=2000000) :
  Calls prog 103 #[.slice ao n cp] w fun e w'=>(∃ bo c,e=.returned (.slice bo n c)/\KS w' bo n f/\n<=c/\∀ a,bo=some a->w.heap.size<=a.block)/\Gw w w':=by
 cases ao with
 | none =>
  have n0:n=0:=by
   rcases Nat.eq_zero_or_pos n with e | e
   ·exact e
   ·obtain ⟨b,off,e',_⟩:=h.cells e;cases e'
  subst n0;have HK:ag _:=h;clear h;have hq:∀ W:World,(binOp .eql 90 (.slice none 0 cp) (.slice none 0 0)).run prog W=.ok (.bool true) W:=fun _=>by kernel_rfl
  go_enter func103,ntmps103;go_wp2_with fail;go_ret;exact ⟨⟨none,0,rfl,HK.o,Nat.le_refl _,fun a e=>by cases e⟩,Gw.refl w⟩
 | some ad =>
  have OW:ag (∀ x,(some ad:Option Addr)=some x->∀ j u,((List.range n).map fun j=>Value.int .u64 (f j))[j]?=some u->(w.alloc (.cells #[] 34)).cell? (x.add j)=some u):=by
   intro x e j u hu;cases e;have hj:j<n:=by
    have:=(List.getElem?_eq_some_iff.1 hu).1
    simpa using this
   obtain ⟨b,off,e',hb,hc⟩:=h.cells (by omega)
   cases e'
   rw [Addr.add_lit];refine (((Gw.refl w).alloc _ _).cell _ _ hb).trans ((hc j hj).trans ?_);simpa [hj] using hu
  have O0:ag ((w.alloc (.cells #[] 34)).ownsRow w.heap.size 34 1 (.slice (some ⟨w.heap.size,0,none⟩) 0 0) 0 []):=World.ownsRow_made w #[] 0 (Nat.le_refl _) (Nat.zero_le _) rfl;obtain ⟨ii,aM,hz,hs,aL⟩:=info_parts oF;have BD:ag _:=h.bd;have NL:ag (((List.range n).map fun j=>Value.int .u64 (f j)).length=n*1):=by show _=_;simp
  have N1:ag (∀ u∈((List.range n).map fun j=>Value.int .u64 (f j)),u.oneCell'=true):=by
   intro u hu;obtain ⟨j,_,rfl⟩:=List.mem_map.1 hu;rfl
  clear h;have hq:∀ W:World,(binOp .eql 90 (.slice (some ad) n cp) (.slice none 0 0)).run prog W=.ok (.bool false) W:=fun _=>by kernel_rfl
  go_enter func103,ntmps103;go_wp2_with (at_builtin;refine sJ _ rfl _ _ 90 rfl w.heap.size 34 ii (.int .u64 0) 1 8 underlying90 aM hz hs aL rfl (by decide) _ 0 [] rfl O0.o (some ad) n cp ((List.range n).map fun j=>Value.int .u64 (f j)) rfl (fun q=>by cases q) NL.o OW.o N1.o (by simp only [maxLen];omega) (by omega) (by simp) ?_)
  intro v' w7 q1 q2 q3;have G7:ag (Gw w w7):=((Gw.refl w).alloc _ _).grown q2 (fun k hk=>by cases hk;exact Nat.le_refl _)
  have FM:∃ bo c,v'=.slice bo n c/\KS w7 bo n f/\n<=c/\∀ a,bo=some a->w.heap.size<=a.block:=by
   have eP:w7.ownsRow w.heap.size 34 1 v' n ((List.range n).map fun j=>Value.int .u64 (f j)):=by simpa using q1
   rcases eP.2 with ⟨e,z⟩ | ⟨g,cap,cur,e,hb,hh,hc,_⟩
   ·subst z
    exact ⟨none,0,e,⟨fun h0=>by omega,BD.o⟩,Nat.le_refl _,fun a q=>by cases q⟩
   ·subst e
    exact ⟨some ⟨g,0,none⟩,cap,rfl,uB eP (Nat.le_refl _) (fun j hj=>by simp [hj]) BD.o,hc,fun a q=>by cases q;exact hb⟩
  obtain ⟨bo,c,rfl,r1,r2,r3⟩:=FM;have aK:ag (KS w7 bo n f/\n<=c/\∀ a,bo=some a->w.heap.size<=a.block):=⟨r1,r2,r3⟩;clear q1 q2 q3 aM hz hs aL r1 r2 r3;go_wp2_with fail;go_ret;exact ⟨⟨bo,c,rfl,aK.o⟩,G7.o⟩
theorem ae8 {w:World} {ao:Option Addr} {cp:Nat} {l:List Sg} (h:GS w ao l) (hn:l.length<=2000000) :
  Calls prog 104 #[.slice ao l.length cp] w fun e w'=>(∃ bo c,e=.returned (.slice bo l.length c)/\SR w' w.heap.size (.slice bo l.length c) l)/\Gw w w':=by
 cases ao with
 | none =>
  have n0:l.length=0:=by
   rcases Nat.eq_zero_or_pos l.length with e | e
   ·exact e
   ·obtain ⟨b,off,e',_⟩:=h.cells e;cases e'
  have l0:l=[]:=List.eq_nil_of_length_eq_zero n0;subst l0;clear h n0;show Calls _ _ #[.slice none 0 cp] _ _;have hq:∀ W:World,(binOp .eql 126 (.slice none 0 cp) (.slice none 0 0)).run prog W=.ok (.bool true) W:=fun _=>by kernel_rfl
  go_enter func104,ntmps104;go_wp2_with fail;go_ret;exact ⟨⟨none,0,rfl,World.ownsRow_nil _ _ _ _⟩,Gw.refl w⟩
 | some ad =>
  have OW:ag (∀ x,(some ad:Option Addr)=some x->∀ j u,(l.flatMap cI)[j]?=some u->(w.alloc (.cells #[] 129)).cell? (x.add j)=some u):=by
   intro x e j u hu;cases e;have hj:j<l.length*5:=by
    have:=(List.getElem?_eq_some_iff.1 hu).1
    rw [sY] at this;exact this
   obtain ⟨b,off,e',hb,hc⟩:=Zx h (by omega)
   cases e'
   rw [Addr.add_lit];refine (((Gw.refl w).alloc _ _).cell _ _ hb).trans ((hc j hj).trans ?_);rw [<-CX l j hj];exact hu
  have O0:ag ((w.alloc (.cells #[] 129)).ownsRow w.heap.size 129 5 (.slice (some ⟨w.heap.size,0,none⟩) 0 0) 0 []):=World.ownsRow_made w #[] 0 (Nat.le_refl _) (Nat.zero_le _) rfl;obtain ⟨ii,aM,hz,hs,aL⟩:=info_parts yX;have NL:ag _:=sY l;have N1:ag (∀ u∈l.flatMap cI,u.oneCell'=true):=by
   intro u hu;obtain ⟨s,-,hs⟩:=List.mem_flatMap.1 hu;exact Lp s u hs
  clear h;obtain ⟨n,aA⟩:∃ n,l.length=n:=⟨_,rfl⟩;have LN:ag _:=aA;rw [aA] at hn NL ⊢;clear aA;have hq:∀ W:World,(binOp .eql 126 (.slice (some ad) n cp) (.slice none 0 0)).run prog W=.ok (.bool false) W:=fun _=>by kernel_rfl
  go_enter func104,ntmps104;go_wp2_with (at_builtin;refine sJ _ rfl _ _ 126 rfl w.heap.size 129 ii (.agg #[.int .u64 0,.float .f64 0,.float .f64 0,.int .i64 0,.int .i64 0]) 5 40 underlying126 aM hz hs aL rfl (by decide) _ 0 [] rfl O0.o (some ad) n cp (l.flatMap cI) rfl (fun q=>by cases q) NL.o OW.o N1.o (by simp only [maxLen];omega) (by omega) (by simp) ?_)
  intro v' w7 q1 q2 q3;have G7:ag (Gw w w7):=((Gw.refl w).alloc _ _).grown q2 (fun k hk=>by cases hk;exact Nat.le_refl _)
  have FM:∃ bo c,v'=.slice bo n c/\SR w7 w.heap.size (.slice bo n c) l:=by
   have eP:w7.ownsRow w.heap.size 129 5 v' n (l.flatMap cI):=by simpa using q1
   have iI:SR w7 w.heap.size v' l:=by show World.ownsRow _ _ _ _ _ _ _;rw [LN.o];exact eP
   rcases eP.2 with ⟨e,z⟩ | ⟨g,cap,cur,e,hb,hh,hc,_⟩
   ·subst z
    exact ⟨none,0,e,by rw [<-e];exact iI⟩
   ·subst e
    exact ⟨some ⟨g,0,none⟩,cap,rfl,iI⟩
  obtain ⟨bo,c,rfl,r1⟩:=FM;have aK:ag _:=r1;clear q1 q2 q3 aM hz hs aL r1;go_wp2_with fail;go_ret;exact ⟨⟨bo,c,rfl,aK.o⟩,G7.o⟩
theorem of9 (M:gh) (eps:Int) (ao:Option Addr) (n cp:Nat) (f:Nat->Int) (lo:Option Addr) (lc:Nat) (L:List (List Sg)) (e0:-9223372036854775808<=eps) (e1:eps<9223372036854775808) (hn:n<=2000000) (cZ:n<=cp) (hS:kT L) (bP:L.length<=lc) (w:World) (hk:KS w ao n f) (hv:VS w lo L) :
  Calls prog 84 #[.slice ao n cp,.int .i64 eps,.slice lo L.length lc] w fun ex w'=>Mw eJ w w' ex eps f n L/\Gw w w':=by
 have CK:ag _:=ae3 M eps ao n cp f lo lc L e0 e1 hn cZ hS w hk hv;have HK:ag _:=hk;have HV:ag _:=hv;have SH:ag _:=hS;obtain ⟨ln,aA⟩:∃ ln,L.length=ln:=⟨_,rfl⟩;have LN:ag _:=aA;have ln1:ln<=2000000:=by have:=hS.1;omega
 rw [aA] at CK bP ⊢;clear hk hv hS aA M;go_enter func84,ntmps84;go_wp2_with fail;refine Calls.mono CK.o ?_;rintro e w1 ⟨⟨E,rfl,hR⟩,g1⟩;have CR:ag _:=hR;have G1:ag _:=g1;clear hR g1 CK;by_cases E0:E=0
 ·subst E0
  have K1:ag _:=HK.o.gw G1.o;go_wp2_with fail;refine (ae7 K1.o hn).mono ?_;rintro e w2 ⟨⟨ko,kc,rfl,Cy,cQ,fT⟩,g2⟩;have K2:ag (KS w2 ko n f/\n<=kc/\∀ a,ko=some a->w1.heap.size<=a.block):=⟨Cy,cQ,fT⟩;have G2:ag _:=g2;clear Cy cQ fT g2 K1;go_wp2_with fail;have B3:ag ((w2.alloc (.cells #[.int .i64 eps,.slice ko n kc,.slice none 0 0] 124)).heap[w2.heap.size]?=some (.cells #[.int .i64 eps,.slice ko n kc,.slice none 0 0] 124 (0,0))):=heap_alloc_new w2 _;have G3:ag (Gw w2 (w2.alloc (.cells #[.int .i64 eps,.slice ko n kc,.slice none 0 0] 124))):=(Gw.refl w2).alloc _ _;have z3:(w2.alloc (.cells #[.int .i64 eps,.slice ko n kc,.slice none 0 0] 124)).heap.size=w2.heap.size+1:=by simp
  obtain ⟨pb,BA⟩:∃ pb,w2.heap.size=pb:=⟨_,rfl⟩;have PB:ag _:=BA;have Z3:ag ((w2.alloc (.cells #[.int .i64 eps,.slice ko n kc,.slice none 0 0] 124)).heap.size=pb+1):=by rw [<-BA];exact z3
  rw [BA] at B3 ⊢;clear BA z3;generalize w2.alloc (.cells #[.int .i64 eps,.slice ko n kc,.slice none 0 0] 124)=w3 at B3 G3 Z3 ⊢;obtain ⟨jj,kX,jz,js,kY⟩:=info_parts yY;have WP:ag (w.heap.size<=pb):=by have:=G1.o.size;have:=G2.o.size;have:=PB.o;show _<=_;omega
  go_loopg [26] ln (fun gg xO wr=>∃ (i:Nat) (vo:Option Addr) (vc:Nat) (aj:List Value),xO=.int .i64 (i:Int)/\i<=ln/\ln-i<=gg/\ag (wr.heap[pb]?=some (.cells #[.int .i64 eps,.slice ko n kc,.slice vo i vc] 124 (0,0)))/\ag (cF wr (pb+1) (.slice vo i vc) (L.take i) aj)/\ag (Gw w2 wr))
  case atStart=>exact ⟨0,none,0,[],rfl,Nat.zero_le _,by omega,B3,(show ag _ from Bw _ _),G3⟩
  case round =>
   clear B3 G3;obtain ⟨i,vo,vc,aj,rfl,a1,a2,BK,OV,GG⟩:=hrel;obtain ⟨wS,aZ⟩:∃ wx,wx=wr:=⟨_,rfl⟩;subst aZ;by_cases ak:i<ln
   ·obtain ⟨ab,af,rfl,cO,pC⟩:=(((HV.o.gw G1.o).gw G2.o).gw GG.o).cells (by rw [LN.o];omega)
    obtain ⟨so,sc,p1,_,_,p4⟩:=pC i (by rw [LN.o];exact ak)
    obtain ⟨lv,nf⟩:∃ lv,L.getD i []=lv:=⟨_,rfl⟩;have LV:ag _:=nf;have TK:ag (L.take (i+1)=L.take i++[lv]):=by have:=ZB (L:=L) (i:=i) (by rw [LN.o];exact ak);rw [nf] at this;exact this
    have TL:ag ((L.take i).length=i):=by show _=_;rw [List.length_take,LN.o];omega
    rw [nf] at p1 p4;have sn1:lv.length<=2000000:=by have:=SH.o.2 i (by rw [LN.o];exact ak);rw [nf] at this;exact this
    have GSR:ag _:=p4;have CG:ag (∀ W,Gw wS W->Calls prog 104 #[.slice so lv.length sc] W fun e w'=>(∃ bo c,e=.returned (.slice bo lv.length c)/\SR w' W.heap.size (.slice bo lv.length c) lv)/\Gw W w'):=fun W gW=>ae8 (p4.gw gW) sn1
    obtain ⟨sn,ja⟩:∃ sn,lv.length=sn:=⟨_,rfl⟩;have SN:ag _:=ja;rw [ja] at p1 CG;have bl:=(Array.getElem?_eq_some_iff.1 BK.o).1;have OW:ag (∀ W,Gw wS W->∀ o,(W.alloc o).ownsRow (pb+1) 126 1 (.slice vo i vc) i aj):=fun W gW o=>by
     have:=(OV.o.gw gW).outer
     rw [TL.o] at this;exact this.alloc o
    have aJ:ag (∀ (W:World) (bo:Option Addr) (c:Nat) (v':Value) (w7:World),Gw wS W->SR W wS.heap.size (.slice bo sn c) lv->w7.ownsRow (pb+1) 126 1 v' (i+1) (aj++[.slice bo sn c])->(W.alloc (.cells #[.slice bo sn c] 126)).grownBy w7 (Value.slice vo i vc).ownBlock->(v'.ownBlock=(Value.slice vo i vc).ownBlock\/v'.ownBlock=some (W.heap.size+1))->w7.heap[pb]?=some (.cells #[.int .i64 eps,.slice ko n kc,.slice vo i vc] 124 (0,0))/\(w7.setCell ⟨pb,2,none⟩ v').heap[pb]?=some (.cells #[.int .i64 eps,.slice ko n kc,v'] 124 (0,0))/\cF (w7.setCell ⟨pb,2,none⟩ v') (pb+1) v' (L.take (i+1)) (aj++[.slice bo sn c])/\Gw w2 (w7.setCell ⟨pb,2,none⟩ v')):=fun W bo c v' w7 gW hs r1 r2 r4=>by
     have ow:∀ q,(Value.slice vo i vc).ownBlock=some q->pb+1<=q:=fun q e=>((OW.o W gW (.cells #[] 0)).lt q e).1
     have B7:w7.heap[pb]?=some (.cells #[.int .i64 eps,.slice ko n kc,.slice vo i vc] 124 (0,0)):=(r2.block pb (by have:=gW.size;simp;omega) (fun e=>by have:=ow pb e.symm;omega)).trans ((heap_alloc_old _ _ (Nat.lt_of_lt_of_le bl gW.size)).trans ((gW.below.block pb bl).trans BK.o))
     refine ⟨B7,ae6 B7 v',?_,?_⟩
     ·rw [TK.o]
      have:=cF.more (o:=.cells #[.slice bo sn c] 126) OV.o gW hs (by omega) (by rw [TL.o];exact r1) r2 r4
      exact this.keep fun q hq _=>Go.Deep.blk_setCell_other _ _ _ _ (by show q≠pb;omega)
     ·refine Gw.setCell (((GG.o.trans gW).alloc _ _).grown r2 (fun q hq=>?_)) (by show w2.heap.size<=pb;rw [PB.o];exact Nat.le_refl _) _
      have:=ow q hq
      rw [PB.o];omega
    have k2:wS.drew.cell? ⟨pb,2,none⟩=some (.slice vo i vc):=(qS BK.o).2.2;clear pC nf ja p4;go_wp2_with fail;go_region_law (first
     | (go_simp;refine (CG.o _ ((Gw.refl wS).drew)).mono ?_;rintro e w4 ⟨⟨bo,c,rfl,Wa⟩,g4⟩;have S4:ag (SR w4 wS.heap.size (.slice bo sn c) lv):=Wa;have G4:ag (Gw wS w4):=((Gw.refl wS).drew.trans g4);have k4:w4.cell? ⟨pb,2,none⟩=some (.slice vo i vc):=(g4.cell _ _ bl).trans k2;have l4:pb<w4.heap.size:=Nat.lt_of_lt_of_le bl g4.size;clear Wa g4)
     | (refine ae5 _ rfl (.tmp 34) (.tmp 37) 85 rfl (pb+1) 126 jj (.slice none 0 0) 1 24 underlying85 kX jz js kY rfl (by decide) (.slice vo i vc) i aj (by simp [Act.eval]) (OW.o w4 G4.o _) ⟨w4.heap.size,0,none⟩ 1 1 [.slice bo sn c] (by simp [Act.eval]) rfl (Di w4 (.slice bo sn c) 126) (fun u hu=>by simp at hu;subst hu;rfl) (by simp only [maxLen];omega) (by omega) (Nat.le_trans (show pb+1<=w4.heap.size by omega) ((Gw.refl w4).alloc _ _).size) ?_;intro v' w7 r1 r2 r3 r4;obtain ⟨b8,cap8,ev,_,_,_⟩:=cS r1 (by simpa using r3);obtain ⟨B7,Q7⟩:=aJ.o w4 bo c v' w7 G4.o S4.o r1 r2 (by simpa using r4);have k7:=(qS B7).2.2;have f7:w7.frozen? ⟨pb,2,none⟩=false:=(by simp [World.frozen?,B7]);have l7:pb<w7.heap.size:=(Array.getElem?_eq_some_iff.1 B7).1;have Q8:ag _:=Q7;clear B7 Q7 r1 r2 r3 r4;subst ev))
    all_goals go_wp2_with fail
    all_goals go_roundg (ln-(i+1))
    all_goals first
     | (case measure=>omega)
     | (case rel=>exact ⟨i+1,some ⟨b8,0,none⟩,cap8,aj++[Value.slice bo sn c],by go_num,by omega,Nat.le_refl _,(show ag _ from Q8.o.1),(show ag _ from Q8.o.2.1),(show ag _ from Q8.o.2.2)⟩)
   ·have ei:i=ln:=by omega
    subst ei;have e1:L.take i=L:=by rw [List.take_of_length_le (by rw [LN.o];exact Nat.le_refl _)]
    have Wb:cF wS w.heap.size (.slice vo L.length vc) L aj:=by
     have:=OV.o
     rw [e1] at this;rw [LN.o];exact this.base (by have:=WP.o;omega)
    have GA:ag _:=(G1.o.trans G2.o).trans GG.o;have Wc:gE wS w.heap.size vo L:=Wb.vsf (ZC HV.o);have Bd:ag (eJ wS pb (fun q=>w.heap.size<=q/\q<wS.heap.size) eps f n L):=by
     refine ⟨⟨wS,w.heap.size,ko,kc,vo,vc,fun q=>Iff.rfl,Nat.le_refl _,fun q _ _=>rfl,by rw [LN.o];exact BK.o,WP.o,K2.o.1.gw GG.o,fun a ea=>Nat.le_trans G1.o.size (K2.o.2.2 a ea),Wc⟩,hn,SH.o⟩
    clear Wb Wc e1;go_wp2_with fail;go_ret2;exact ⟨⟨0,CR.o,.inr ⟨rfl,pb,_,rfl,fun q hq=>hq.1,Bd.o⟩⟩,GA.o⟩
 ·have t0:(E == 0)=false:=by simpa using E0
  have HE:ag _:=E0;clear E0;go_wp2_with fail;go_ret2;exact ⟨⟨E,CR.o,.inl ⟨HE.o,rfl⟩⟩,G1.o⟩
end Go.Proofs.YtklkpldicbkjeaaGreat
