import Derived.Test.YtaemofgeciklkaaGreatEUInv
import Derived.Test.YtaemofgeciklkaaGreatEQPut
set_option linter.unusedVariables false
set_option maxHeartbeats 8000000
set_option maxRecDepth 20000
open Go.Proofs.Tryz
namespace Go.Proofs.YtaemofgeciklkaaGreat
open Go.RowKit
def mx (eps buf keys:Int) (pb pc:Nat) (live:Nat):Array Value:=#[By eps,By buf,By keys,IS pb,IS pc,By (live:Int)]
structure HS (HR:bH) (w:World) (pb:Nat) (Sb:Nat->Prop) (pc:Nat) (eps buf:Int) (l:List ah) (rs:List (Option Rn)) (B W:Int):Prop where
 hb:HB 114 w pb Sb buf l
 hc:aP HR w pc rs eps buf B W
 nc:¬ Sb pc
 nr:∀ r,some r∈rs->∀ q,Sb q->¬ r.S q
structure HT (HR:bH) (w:World) (p:Nat) (F:Nat->Prop) (eps buf keys:Int) (l:List ah) (rs:List (Option Rn)) (B W:Int) (live:Nat):Prop where
 lies:∃ pb Sb pc,w.heap[p]?=some (.cells (mx eps buf keys pb pc live) 65 (0,0))/\HS HR w pb Sb pc eps buf l rs B W/\p≠pc/\¬ Sb p/\(∀ r,some r∈rs->¬ r.S p)/\∀ q,F q↔q=p\/q=pc\/Sb q
 inv:jt eps buf keys l rs live
 cf:fR eps buf keys
section
variable {HR:bH} {w w':World} {p pb pc:Nat} {F Sb:Nat->Prop} {eps buf keys:Int} {l:List ah} {rs:List (Option Rn)} {B W:Int} {live:Nat}
theorem HS.keep (K:Kp HR) (h:HS HR w pb Sb pc eps buf l rs B W) (k:∀ q,(Sb q\/q=pc\/∃ r,some r∈rs/\r.S q)->w'.heap[q]?=w.heap[q]?):HS HR w' pb Sb pc eps buf l rs B W :=
 ⟨h.hb.keep fun q hq=>k q (.inl hq),⟨(k pc (.inr (.inl rfl))).trans h.hc.blk,h.hc.len,fun r hr=>⟨(h.hc.runs r hr).1.keep K fun q hq=>k q (.inr (.inr ⟨r,hr,hq⟩)),(h.hc.runs r hr).2⟩,h.hc.e0,h.hc.e1,h.hc.b0,h.hc.b1⟩,h.nc,h.nr⟩
theorem HS.lt (K:Kp HR) (h:HS HR w pb Sb pc eps buf l rs B W):∀ q,(Sb q\/q=pc\/∃ r,some r∈rs/\r.S q)->q<w.heap.size:=fun q hq=>by
 rcases hq with x | x | ⟨r,x,y⟩
 ·exact h.hb.lt q x
 ·rw [x];exact h.hc.lt
 ·exact K.lt (h.hc.runs r x).1.h q y
theorem HS.gw (K:Kp HR) (h:HS HR w pb Sb pc eps buf l rs B W) (g:Gw w w'):HS HR w' pb Sb pc eps buf l rs B W:=h.keep K fun q hq=>g.below.block q (h.lt K q hq)
theorem HT.keep (K:Kp HR) (h:HT HR w p F eps buf keys l rs B W live) (k:∀ q,(F q\/∃ r,some r∈rs/\r.S q)->w'.heap[q]?=w.heap[q]?):HT HR w' p F eps buf keys l rs B W live:=by
 obtain ⟨pb,Sb,pc,h1,h2,h3,h4,h5,h6⟩:=h.lies;exact ⟨⟨pb,Sb,pc,(k p (.inl ((h6 p).2 (.inl rfl)))).trans h1,h2.keep K fun q hq=>k q (by
  rcases hq with x | x | x
  ·exact .inl ((h6 q).2 (.inr (.inr x)))
  ·exact .inl ((h6 q).2 (.inr (.inl x)))
  ·exact .inr x),h3,h4,h5,h6⟩,h.inv,h.cf⟩
theorem HT.lt (K:Kp HR) (h:HT HR w p F eps buf keys l rs B W live):∀ q,(F q\/∃ r,some r∈rs/\r.S q)->q<w.heap.size:=fun q hq=>by
 obtain ⟨pb,Sb,pc,h1,h2,h3,h4,h5,h6⟩:=h.lies;rcases hq with x | x
 ·rcases (h6 q).1 x with y | y | y
  ·rw [y];exact ak h1
  ·exact h2.lt K q (.inr (.inl y))
  ·exact h2.lt K q (.inl y)
 ·exact h2.lt K q (.inr (.inr x))
theorem HT.own (h:HT HR w p F eps buf keys l rs B W live):F p:=by obtain ⟨pb,Sb,pc,h1,h2,h3,h4,h5,h6⟩:=h.lies;exact (h6 p).2 (.inl rfl)
theorem HT.o (h:HT HR w p F eps buf keys l rs B W live):∀ r,some r∈rs->∀ q,F q->¬ r.S q:=fun r hr q hq=>by
 obtain ⟨pb,Sb,pc,h1,h2,h3,h4,h5,h6⟩:=h.lies;rcases (h6 q).1 hq with y | y | y
 ·rw [y];exact h5 r hr
 ·rw [y];exact (h2.hc.runs r hr).2
 ·exact h2.nr r hr q y
theorem HT.gw (K:Kp HR) (h:HT HR w p F eps buf keys l rs B W live) (g:Gw w w'):HT HR w' p F eps buf keys l rs B W live:=h.keep K fun q hq=>g.below.block q (h.lt K q hq)
theorem HT.gx (K:Kp HR) {G:Nat->Prop} (h:HT HR w p F eps buf keys l rs B W live) (g:Gx G w w') (d:∀ q,G q->¬ F q) (d':∀ q,G q->∀ r,some r∈rs->¬ r.S q):HT HR w' p F eps buf keys l rs B W live:=h.keep K fun q hq=>g.block q (h.lt K q hq) fun x=>by
 rcases hq with y | ⟨r,y,z⟩
 ·exact d q x y
 ·exact d' q x r y z
theorem HT.pr (h:HT HR w p F eps buf keys l rs B W live):∀ r,some r∈rs->RA HR w r:=fun r hr=>by obtain ⟨pb,Sb,pc,h1,h2,h3,h4,h5,h6⟩:=h.lies;exact (h2.hc.runs r hr).1
theorem HT.len (h:HT HR w p F eps buf keys l rs B W live):rs.length=40:=h.inv.len
end
def kK (HR:bH) (w w':World) (eps buf:Int) (l:List ah) (rs:List (Option Rn)) (B W:Int) (l':List ah) (rs':List (Option Rn)) (B' W':Int) (e:ah):Prop :=
 (((ins ah.k e l).length:Int)<buf/\l'=ins ah.k e l/\rs'=rs/\B'=B/\W'=W) \/
 (((ins ah.k e l).length:Int)=buf/\l'=[]/\∃ o kept rn,fV rs (ins ah.k e l) o kept/\gZ HR w w' eps kept rn/\rs'=laid rs rn/\B'=B+gY kept/\W'=W+kept.length)
def Dm (w:World) (F F':Nat->Prop) (rs rs':List (Option Rn)):Prop:=(∀ q,F' q->F q\/w.heap.size<=q)/\∀ r,some r∈rs'->some r∈rs\/∀ q,r.S q->w.heap.size<=q
theorem ael (o:Option ah):Ud o=.tuple #[(dE o).1,.bool (dE o).2]:=by
 cases o with
 | none=>rfl
 | some e=>rfl
variable {HR:bH} {w:World} {pb pc:Nat} {Sb:Nat->Prop} {eps buf B W:Int} {l:List ah} {rs:List (Option Rn)}
theorem aem (H:bj HR) (h:HS HR w pb Sb pc eps buf l rs B W) (hn:l.length<=4000000) (q:Int) (q0:0<=q) (q1:q<18446744073709551616) :
  Calls prog 40 #[.agg #[IS pb,IS pc],BY q] w fun e w'=>e=π #[(dE (newE l rs q)).1,.bool (dE (newE l rs q)).2]/\Gw w w':=by
 obtain ⟨x,y,z,t,f1,f2,_⟩:=pV (look ah.k q l);have G1:ag (∀ W,Gw w W->Calls prog 66 #[IS pb,BY q] W fun e w'=>e=χ (.tuple #[.agg #[BY x,BY y,.bool z],.bool t])/\Gw W w'):=fun W gg=>by
  have:=aei pb Sb buf l q hn W (h.hb.gw gg)
  rw [ael,f1] at this;exact this
 obtain ⟨x',y',z',t',uk,Uu,_⟩:=pV (nw q rs);have G2:ag (∀ W,Gw w W->Calls prog 67 #[IS pc,BY q] W fun e w'=>e=χ (.tuple #[.agg #[BY x',BY y',.bool z'],.bool t'])/\Gw W w'):=fun W gg=>by
  have:=adp H (h.hc.gw H.kp gg) q q0 q1
  rw [uk] at this;exact this
 have hb:=h.hb.lt pb h.hb.own;have hc:=h.hc.lt;cases t with
 | true =>
  have R:dE (newE l rs q)=(.agg #[BY x,BY y,.bool z],true):=by
   rw [<-f1];unfold newE;cases hk:look ah.k q l with
   | none=>rw [hk] at f2;cases f2
   | some e=>rfl
  rw [R];clear R f1 f2 uk Uu G2 h H;go_enter func40,ntmps40;go_wp2_with fail;obtain ⟨bq,aE⟩:=qbr w.heap.size;have BQ:ag (w.heap.size=bq):=aE;have B0:ag (bD w [(bq+1,#[BY 0,BY 0,.bool false],71),(bq,#[IS pb,IS pc],63)] ((w.alloc (.cells #[IS pb,IS pc] 63)).alloc (.cells #[BY 0,BY 0,.bool false] 71))):=by have a:=((bD.nil (Gw.refl w)).add #[IS pb,IS pc] 63).add #[BY 0,BY 0,.bool false] 71;have e:(w.alloc (.cells #[IS pb,IS pc] 63)).heap.size=bq+1:=(by simp [aE]);rw [e,aE] at a;exact a
  rw [aE];generalize (w.alloc (.cells #[IS pb,IS pc] 63)).alloc (.cells #[BY 0,BY 0,.bool false] 71)=w1 at B0 ⊢;refine Calls.mono (G1.o _ B0.o.gw0) ?_;rintro e u1 ⟨rfl,gg⟩;have B1:=(B0.o.gw gg).add #[BY x,BY y,.bool z] 71;obtain ⟨bx,eM⟩:=qbr u1.heap.size;have BX:ag (u1.heap.size=bx):=eM;rw [eM] at B1;clear gg G1 eM aE B0;go_upto_region 2 with fail;rw [BX.o];generalize u1.alloc (.cells #[BY x,BY y,.bool z] 71)=U at B1 ⊢;have E0:U.heap[bq+1]?=some (.cells #[BY 0,BY 0,.bool false] 71 (0,0)):=B1.lie (bq+1,#[BY 0,BY 0,.bool false],71) ε;have E1:U.heap[bx]?=some (.cells #[BY x,BY y,.bool z] 71 (0,0)):=B1.lie (bx,#[BY x,BY y,.bool z],71) ε;have GU:ag (Gw w U):=B1.gw0;obtain ⟨x0,x1,x2,_⟩:=lY E1;obtain ⟨m0,m1,m2,z0,z1,z2,bl,TT⟩:=lY E0;have T3:=TT x y z;have BS:ag (w.heap.size<=bq+1):=by have:=BQ.o;show _<=_;omega
  clear E0 E1 B1 TT;go_wp2_with fail;exact bodyPost_ret (v:=.tuple #[.agg #[BY x,BY y,.bool z],.bool true]) (by simp [results,results40,go_sem,T3.1,T3.2.1,T3.2.2]) rfl ⟨rfl,((GU.o.setCell BS.o _).setCell BS.o _).setCell BS.o _⟩
 | false =>
  have R:dE (newE l rs q)=(.agg #[BY x',BY y',.bool z'],t'):=by
   rw [<-uk];unfold newE;cases hk:look ah.k q l with
   | none=>rfl
   | some e=>rw [hk] at f2;cases f2
  rw [R];clear R f1 f2 uk Uu h H;go_enter func40,ntmps40;go_wp2_with fail;obtain ⟨bq,aE⟩:=qbr w.heap.size;have BQ:ag (w.heap.size=bq):=aE;have B0:ag (bD w [(bq+1,#[BY 0,BY 0,.bool false],71),(bq,#[IS pb,IS pc],63)] ((w.alloc (.cells #[IS pb,IS pc] 63)).alloc (.cells #[BY 0,BY 0,.bool false] 71))):=by have a:=((bD.nil (Gw.refl w)).add #[IS pb,IS pc] 63).add #[BY 0,BY 0,.bool false] 71;have e:(w.alloc (.cells #[IS pb,IS pc] 63)).heap.size=bq+1:=(by simp [aE]);rw [e,aE] at a;exact a
  rw [aE];generalize (w.alloc (.cells #[IS pb,IS pc] 63)).alloc (.cells #[BY 0,BY 0,.bool false] 71)=w1 at B0 ⊢;refine Calls.mono (G1.o _ B0.o.gw0) ?_;rintro e u1 ⟨rfl,gg⟩;have B1:=(B0.o.gw gg).add #[BY x,BY y,.bool z] 71;obtain ⟨bx,eM⟩:=qbr u1.heap.size;have BX:ag (u1.heap.size=bx):=eM;rw [eM] at B1;clear gg G1 eM aE B0;go_upto_region 2 with fail;rw [BX.o];generalize u1.alloc (.cells #[BY x,BY y,.bool z] 71)=U at B1 ⊢;have E2:U.heap[bq]?=some (.cells #[IS pb,IS pc] 63 (0,0)):=B1.lie (bq,#[IS pb,IS pc],63) ε;have s1:U.cell? (φ bq 1)=some (IS pc):=aj E2 rfl;have sl:=ak E2;have B2:ag (bD w [(bx,#[BY x,BY y,.bool z],71),(bq+1,#[BY 0,BY 0,.bool false],71),(bq,#[IS pb,IS pc],63)] U):=B1;clear E2 B1;go_wp2_with fail;refine Calls.mono (G2.o _ B2.o.gw0) ?_;rintro e u2 ⟨rfl,gg⟩;have B3:=B2.o.gw gg;have E0:u2.heap[bq+1]?=some (.cells #[BY 0,BY 0,.bool false] 71 (0,0)):=B3.lie (bq+1,#[BY 0,BY 0,.bool false],71) ε;have GU:ag (Gw w u2):=B3.gw0;obtain ⟨m0,m1,m2,z0,z1,z2,bl,TT⟩:=lY E0;have T3:=TT x' y' z';have BS:ag (w.heap.size<=bq+1):=by have:=BQ.o;show _<=_;omega
  clear E0 B3 B2 TT gg G2;go_wp2_with fail;exact bodyPost_ret (v:=.tuple #[.agg #[BY x',BY y',.bool z'],.bool t']) (by simp [results,results40,go_sem,T3.1,T3.2.1,T3.2.2]) rfl ⟨rfl,((GU.o.setCell BS.o _).setCell BS.o _).setCell BS.o _⟩
def jw (HR:bH) (w w':World) (pb:Nat) (Sb:Nat->Prop) (pc:Nat) (eps buf:Int) (l:List ah) (rs:List (Option Rn)) (B W:Int) (e:ah):Prop :=
 ∃ my l' rs' B' W',HS HR w' pb my pc eps buf l' rs' B' W'/\kK HR w w' eps buf l rs B W l' rs' B' W' e/\Dm w (fun q=>q=pc\/Sb q) (fun q=>q=pc\/my q) rs rs'
variable {e:ah}
theorem Uv (eZ:¬ (e.g=true/\e.v≠0)) (room:(l.length:Int)<buf):mj buf l e=(0,ins ah.k e l):=by unfold mj;rw [Yl eZ,Yl (fun x=>ω)]
theorem JE (ok:aR l) (eZ:¬ (e.g=true/\e.v≠0)):aR (ins ah.k e l):=aR.iff.2 ⟨ok.rise.ins,vL (P:=fun x:ah=>¬ (x.g=true/\x.v≠0)) eZ (aR.iff.1 ok).2⟩
variable {W_:Int}
theorem Uw (H:bj HR) (h:HS HR w pb Sb pc eps buf l rs B W_) (e:ah) (ok:aR l) (rR:e.ok) (eZ:¬ (e.g=true/\e.v≠0)) (room:(l.length:Int)<buf) (few:l.length+1+tot rs<=2000000) (hB:0<=B/\B<4611686018427387904) (hW:0<=W_/\W_<4611686018427387904) :
  Calls prog 25 #[.agg #[IS pb,IS pc],.agg #[BY e.k,BY e.v,.bool e.g]] w fun ex w'=>ex=π #[]/\jw HR w w' pb Sb pc eps buf l rs B W_ e/\Gx (fun q=>q=pc\/Sb q) w w':=by
 have HH:ag (bj HR):=H;have iO:ag (HS HR w pb Sb pc eps buf l rs B W_):=h;have LE:=vM (x:=e) ok.rise;have PU:ag (∀ W,Gw w W->Calls prog 49 #[IS pb,.agg #[BY e.k,BY e.v,.bool e.g]] W fun ex w'=>ex=χ (By 0)/\jv 114 W w' pb Sb buf (ins ah.k e l)):=fun W gg=>by
  have:=Ur pb Sb buf l e ω rR W (h.hb.gw gg)
  rw [Uv eZ room] at this;exact this
 have qb:=h.hb.lt pb h.hb.own;have mA:=h.hc.lt;have PN:pc≠pb:=fun x=>h.nc (by rw [x];exact h.hb.own)
 obtain ⟨bq,aE⟩:=qbr w.heap.size;have BQ:ag (w.heap.size=bq):=aE;have mC:ag ((ins ah.k e l).length+tot rs<=2000000/\aR (ins ah.k e l)/\(0<=B/\B<4611686018427387904)/\0<=W_/\W_<4611686018427387904):=⟨ω,JE ok eZ,hB,hW⟩;obtain ⟨l',dw⟩:=qbr (ins ah.k e l);have LL:ag (ins ah.k e l=l'):=dw;rw [dw] at PU mC LE;clear h H dw ok eZ rR few hB hW;obtain ⟨ek,ev,eg⟩:=e;simp only at PU ⊢;have B0:ag (bD w [(bq+1,#[BY ek,BY ev,.bool eg],71),(bq,#[IS pb,IS pc],63)] ((w.alloc (.cells #[IS pb,IS pc] 63)).alloc (.cells #[BY ek,BY ev,.bool eg] 71))):=by
  have a:=((bD.nil (Gw.refl w)).add #[IS pb,IS pc] 63).add #[BY ek,BY ev,.bool eg] 71;have e:(w.alloc (.cells #[IS pb,IS pc] 63)).heap.size=bq+1:=by simp [aE]
  rw [e,aE] at a;exact a
 clear aE;go_enter func25,ntmps25;go_wp2_with fail;rw [BQ.o];generalize (w.alloc (.cells #[IS pb,IS pc] 63)).alloc (.cells #[BY ek,BY ev,.bool eg] 71)=w1 at B0 ⊢;refine Calls.mono (PU.o _ B0.o.gw0) ?_;rintro ex u1 ⟨rfl,S1,nG,oN,s1⟩;have Ux:ag (∀ q,Sb q->q<bq):=fun q hq=>by have:=iO.o.hb.lt q hq;rw [BQ.o] at this;exact this
 have E1:u1.heap[bq]?=some (.cells #[IS pb,IS pc] 63 (0,0)):=by have x:=B0.o.lie (bq,#[IS pb,IS pc],63) ε;exact (oN.block bq (ak x) (fun y=>by have:=Ux.o bq y;omega)).trans x
 have k0:u1.cell? (φ bq 0)=some (IS pb):=aj E1 rfl;have k1:u1.cell? (φ bq 1)=some (IS pc):=aj E1 rfl;have kl:=ak E1;have FU:ag (Calls prog 50 #[IS pb] u1 fun e w'=>e=χ (.bool ((l'.length:Int) == buf))/\Gw u1 w'):=Ul pb S1 buf l' u1 nG
 have pW:ag (Gx Sb w u1):=(B0.o.gw0.gx Sb).trans oN (fun q hq=>.inl hq)
 have nH:ag (HB 114 u1 pb S1 buf l'):=nG;have NS2:ag (∀ q,S1 q->Sb q\/bq<q):=fun q hq=>(s1 q hq).imp id (fun x=>by
  have:=ak (B0.o.lie (bq+1,#[BY ek,BY ev,.bool eg],71) ε)
  dsimp only at this;omega)
 have oT:ag (∀ q,S1 q->Sb q\/w.heap.size<=q):=fun q hq=>(s1 q hq).imp id (fun x=>Φ B0.o.gw0.size x)
 have Uy:ag (u1.heap[bq]?=some (.cells #[IS pb,IS pc] 63 (0,0))):=E1;clear nG oN s1 E1 PU B0;go_wp2_with fail;refine Calls.mono FU.o ?_;rintro ex u2 ⟨rfl,g2⟩;have E2:u2.heap[bq]?=some (.cells #[IS pb,IS pc] 63 (0,0)):=(g2.below.block bq kl).trans Uy.o;have oU:ag (Gx Sb w u2):=pW.o.tw g2;have fX:ag (HB 114 u2 pb S1 buf l'):=nH.o.gw g2;have Uz:ag (aP HR u2 pc rs eps buf B W_):=iO.o.hc.gx HH.o.kp oU.o iO.o.nc (fun q hq r hr=>iO.o.nr r hr q hq)
 have EX2:ag (u2.heap[bq]?=some (.cells #[IS pb,IS pc] 63 (0,0))):=E2;have m0:u2.cell? (φ bq 0)=some (IS pb):=aj E2 rfl;have m1:u2.cell? (φ bq 1)=some (IS pc):=aj E2 rfl;have ml:=ak E2;clear g2 E2 k0 k1 kl FU pW nH Uy;by_cases fl:(l'.length:Int)=buf
 ·have t1:((l'.length:Int) == buf)=true:=by simpa using fl
  rw [t1];have BK:ag (∀ W b,Gx S1 u2 W->Gx (fun q=>q=pc) W b->b.heap[bq]?=some (.cells #[IS pb,IS pc] 63 (0,0))):=fun W b g1 g2=>by
   have a1:=(g1.block bq ml (fun x=>by
    rcases NS2.o bq x with y | y
    ·have:=Ux.o bq y;omega
    ·omega)).trans EX2.o
   exact (g2.block bq (ak a1) (fun x=>by have:=BQ.o;omega)).trans a1
  have EM:ag (∀ W,Gw u2 W->Calls prog 52 #[IS pb] W fun e w'=>(∃ bo c,e=χ (.slice bo l'.length c)/\EO w' 0 (.slice bo l'.length c) l'/\(l'.length<=c/\(bo=none->l'.length=0/\c=0))/\(∀ q,(Value.slice bo l'.length c).ownBlock=some q->S1 q/\q≠pb)/\HB 114 w' pb (fun q=>q=pb) buf [])/\Gx S1 u2 w'):=fun W gg=>(aeh pb S1 buf l' ω W (fX.o.gw gg)).mono fun e w' ⟨⟨v',x1,x2,x3,x4⟩,x5⟩=>by obtain ⟨bo,c,ev,y1,y2⟩:=fg x2;subst ev;exact ⟨⟨bo,c,x1,x2,⟨y1,y2⟩,x3,x4⟩,(gg.gx S1).trans x5 (fun q hq=>.inl hq)⟩
  have FL:ag ((l'.length:Int)=buf):=fl;have TK:ag (∀ (wA W:World) (bo:Option Addr) (c:Nat),Gx S1 u2 wA->Gw wA W->EO wA 0 (.slice bo l'.length c) l'->(l'.length<=c/\(bo=none->l'.length=0/\c=0))->Calls prog 51 #[IS pc,.slice bo l'.length c] W fun e w'=>(∃ j t k,e=χ (.tuple #[.agg #[By (j:Int),By (t:Int),By (k:Int)],By 0]))/\(∃ o kept rn,fV rs l' o kept/\gZ HR W w' eps kept rn/\aP HR w' pc (laid rs rn) eps buf (B+gY kept) (W_+kept.length))/\Gx (fun q=>q=pc) W w'):=fun wA W bo c g1 g2 JF zx=>by
   have JG:aP HR W pc rs eps buf B W_:=(Uz.o.gx HH.o.kp g1 (fun x=>by
     rcases oT.o pc x with y | y
     ·exact iO.o.nc y
     ·omega) (fun q hq r hr hx=>by
     rcases oT.o q hq with y | y
     ·exact iO.o.nr r hr q y hx
     ·have:=HH.o.lt (iO.o.hc.runs r hr).1.h q hx;omega)).gw HH.o.kp g2
   refine (adS HH.o JG bo c l' ((je JF fX.o.ok).gw g2) zx.1 zx.2 mC.o.1 mC.o.2.2.1 mC.o.2.2.2).mono fun e w' ⟨⟨r0,cr,x⟩,g⟩=>?_
   have e0:r0=0:=cr.one mC.o.2.1;rcases x with ⟨x,_⟩ | ⟨_,x,_⟩ | ⟨_,_,o,kp,rn,tr,he,ld,iX⟩
   ·exact absurd e0 x
   ·exact absurd FL.o x
   ·exact ⟨⟨_,_,_,he⟩,⟨o,kp,rn,tr,ld,iX⟩,g⟩
  obtain ⟨ln,ax⟩:=qbr l'.length;have LN:ag (l'.length=ln):=ax;rw [ax] at EM TK;clear t1 fl ax;go_wp2_with fail;go_region_held3 (fun w'=>w'.cell? (φ bq 0)=some (IS pb)/\w'.cell? (φ bq 1)=some (IS pc))
   (((first | exact ⟨m0,m1⟩ | exact ag.o δ | assumption);done))
   ((
    first
    | (go_at_call 52;refine (EM.o _ (by repeat (first | exact Gw.refl _ | exact Ξ δ | exact ag.o δ | refine Gw.drew ?_ | refine Gw.drewN ?_ _))).mono ?_;rintro ex wA ⟨⟨nO,cA,rfl,Dn,UA,obA,mD⟩,gA⟩;have PA:ag (∀ w',Gw wA w'->w'.cell? (φ bq 0)=some (IS pb)/\w'.cell? (φ bq 1)=some (IS pc)):=(fun w' gg=>⟨(gg.cell _ _ (ak (BK.o wA wA gA (Gx.refl _ _)))).trans (aj (BK.o wA wA gA (Gx.refl _ _)) rfl),(gg.cell _ _ (ak (BK.o wA wA gA (Gx.refl _ _)))).trans (aj (BK.o wA wA gA (Gx.refl _ _)) rfl)⟩);have PA0:=PA.o wA (Gw.refl _);have wK:ag (Gx S1 u2 wA):=gA;have HBA:ag (HB 114 wA pb (fun q=>q=pb) buf []):=mD;have UC:ag (EO wA 0 (.slice nO ln cA) l'/\(ln<=cA/\(nO=none->ln=0/\cA=0))):=⟨Dn,UA⟩;clear Dn UA obA mD gA)
    | (go_at_call 51;refine (TK.o wA _ nO cA wK.o ξ UC.o.1 UC.o.2).mono ?_;rintro ex wB ⟨⟨j,t,k,rfl⟩,JH,gB⟩;have PB:wB.cell? (φ bq 0)=some (IS pb)/\wB.cell? (φ bq 1)=some (IS pc):=(by have x:=BK.o _ wB (wK.o.tw ξ) gB;exact ⟨aj x rfl,aj x rfl⟩);have UD:ag (Gx (fun q=>q=pc) wA wB):=((Gw.gx ξ _).trans gB (fun q hq=>.inl hq));have TO:ag (∃ o kept rn,fV rs l' o kept/\gZ HR wA wB eps kept rn/\aP HR wB pc (laid rs rn) eps buf (B+gY kept) (W_+kept.length)):=(by first | exact JH | (obtain ⟨o,kept,rn,a,b,c⟩:=JH;exact ⟨o,kept,rn,a,b,c⟩));clear JH gB)))
  all_goals
   have av:ag (jw HR w wB pb Sb pc eps buf l rs B W_ ⟨ek,ev,eg⟩/\Gx (fun q=>q=pc\/Sb q) w wB):=by
    obtain ⟨o,kept,rn,tr,ld,iX⟩:=TO.o;have sz:w.heap.size<=wA.heap.size:=Φ oU.o.size wK.o.size;have nrn:∀ r,rn=some r->∀ q,r.S q->w.heap.size<=q:=fun r hr q hq=>by
     rcases ld with ⟨_,x⟩ | ⟨_,r',x,_,_,_,y,_⟩
     ·rw [x] at hr;cases hr
     ·rw [x] at hr;cases hr;exact Φ sz (y q hq)
    have inl:∀ r,some r∈laid rs rn->some r∈rs\/∀ q,r.S q->w.heap.size<=q:=fun r hr=>by
     unfold laid at hr;rcases qaq.1 hr with q | q
     ·simp at q
     ·rcases qaf.1 q with q | q
      ·exact .inr (nrn r q.symm)
      ·exact .inl (qbn q)
    have JI:gZ HR w wB eps kept rn:=by
     rcases ld with x | ⟨a,r,b1,b2,b3,b4,b5,b6⟩
     ·exact .inl x
     ·exact .inr ⟨a,r,b1,b2,b3,b4,fun q hq=>Φ sz (b5 q hq),b6⟩
    refine ⟨⟨fun q=>q=pb,[],laid rs rn,B+gY kept,W_+kept.length,⟨HBA.o.gx UD.o (fun q hq hx=>PN (hx.symm.trans hq)),iX,PN,fun r hr q hq hx=>?_⟩,.inr ⟨by rw [LL.o];exact FL.o,rfl,o,kept,rn,by rw [LL.o];exact tr,JI,rfl,rfl,rfl⟩,fun q hq=>?_,inl⟩,?_⟩
    ·rcases inl r hr with y | y
     ·exact iO.o.nr r y pb iO.o.hb.own (by rw [<-hq];exact hx)
     ·have:=y q hx;omega
    ·rcases hq with y | y
     ·exact .inl (.inl y)
     ·rw [y];exact .inl (.inr iO.o.hb.own)
    ·exact ((oU.o.mono (S':=fun q=>q=pc\/Sb q) fun q hq=>.inl (.inr hq)).trans wK.o (fun q hq=>(oT.o q hq).imp .inr id)).trans UD.o (fun q hq=>.inl (.inl hq))
   go_end0
   exact ⟨rfl,av.o⟩
 ·have t1:((l'.length:Int) == buf)=false:=by simpa using fl
  rw [t1];have av:ag (jw HR w u2 pb Sb pc eps buf l rs B W_ ⟨ek,ev,eg⟩/\Gx (fun q=>q=pc\/Sb q) w u2):=by
   refine ⟨⟨S1,l',rs,B,W_,⟨fX.o,Uz.o,fun x=>?_,fun r hr q hq hx=>?_⟩,.inl ⟨?_,LL.o.symm,rfl,rfl,rfl⟩,fun q hq=>?_,fun r hr=>.inl hr⟩,?_⟩
   ·rcases oT.o pc x with y | y
    ·exact iO.o.nc y
    ·have:=iO.o.hc.lt;omega
   ·rcases oT.o q hq with y | y
    ·exact iO.o.nr r hr q y hx
    ·have:=HH.o.lt (iO.o.hc.runs r hr).1.h q hx;omega
   ·rw [LL.o];have:=fX.o.room;omega
   ·rcases hq with y | y
    ·exact .inl (.inl y)
    ·exact (oT.o q y).imp .inr id
   ·exact oU.o.mono fun q hq=>.inl (.inr hq)
  clear t1 fl;go_wp2_with fail;go_end0;exact ⟨rfl,av.o⟩
theorem aen (H:bj HR) (h:HS HR w pb Sb pc eps buf l rs B W_) (hn:l.length<=4000000) :
  Calls prog 22 #[.agg #[IS pb,IS pc]] w fun ex w'=>(∃ zA my um,ex=χ (.agg #[IS zA,IS um])/\HS HR w' zA my um eps buf l rs B W_/\∀ q,(q=um\/my q)->w.heap.size<=q)/\Gw w w':=by
 have HH:ag (bj HR):=H;have iO:ag (HS HR w pb Sb pc eps buf l rs B W_):=h;have C1:ag (∀ W,Gw w W->Calls prog 47 #[IS pb] W fun e w'=>(∃ p' S',e=χ (.pointer (some (φ p' 0)))/\HB 114 w' p' S' buf l/\∀ q,S' q->W.heap.size<=q)/\Gw W w'):=fun W gg=>aek pb Sb buf l hn W (h.hb.gw gg)
 have C2:ag (∀ W,Gw w W->Calls prog 48 #[IS pc] W fun e w'=>(∃ p',e=χ (.pointer (some (φ p' 0)))/\W.heap.size<=p'/\aP HR w' p' rs eps buf B W_)/\Gw W w'):=fun W gg=>adw H (h.hc.gw H.kp gg)
 have qb:=h.hb.lt pb h.hb.own;have mA:=h.hc.lt;clear h H;obtain ⟨bq,aE⟩:=qbr w.heap.size;have BQ:ag (w.heap.size=bq):=aE;have B0:ag (bD w [(bq+1,#[.pointer none,.pointer none],63),(bq,#[IS pb,IS pc],63)] ((w.alloc (.cells #[IS pb,IS pc] 63)).alloc (.cells #[.pointer none,.pointer none] 63))):=by
  have a:=((bD.nil (Gw.refl w)).add #[IS pb,IS pc] 63).add #[.pointer none,.pointer none] 63;have e:(w.alloc (.cells #[IS pb,IS pc] 63)).heap.size=bq+1:=by simp [aE]
  rw [e,aE] at a;exact a
 clear aE;go_enter func22,ntmps22;go_wp2_with fail;rw [BQ.o];generalize (w.alloc (.cells #[IS pb,IS pc] 63)).alloc (.cells #[.pointer none,.pointer none] 63)=w1 at B0 ⊢;have G0:ag (Gw w w1):=B0.o.gw0;have L1:∀ w',Gw w1 w'->w'.heap[bq]?=some (.cells #[IS pb,IS pc] 63 (0,0)):=fun w' gg=>(B0.o.gw gg).lie (bq,#[IS pb,IS pc],63) ε
 have L2:ag (∀ w',Gw w1 w'->w'.heap[bq+1]?=some (.cells #[.pointer none,.pointer none] 63 (0,0))):=fun w' gg=>(B0.o.gw gg).lie (bq+1,#[.pointer none,.pointer none],63) ε
 have HW:ag (∀ w':World,w'.heap[bq]?=some (.cells #[IS pb,IS pc] 63 (0,0))->w'.heap[bq]?=some (.cells #[IS pb,IS pc] 63 (0,0))/\w'.cell? (φ bq 0)=some (IS pb)/\w'.cell? (φ bq 1)=some (IS pc)):=fun w' hh=>⟨hh,aj hh rfl,aj hh rfl⟩
 have I0:ag (w1.heap[bq]?=some (.cells #[IS pb,IS pc] 63 (0,0))/\w1.cell? (φ bq 0)=some (IS pb)/\w1.cell? (φ bq 1)=some (IS pc)):=HW.o _ (L1 w1 (Gw.refl _));have LH:ag (∀ w',Gw w1 w'->w'.heap[bq]?=some (.cells #[IS pb,IS pc] 63 (0,0))/\w'.cell? (φ bq 0)=some (IS pb)/\w'.cell? (φ bq 1)=some (IS pc)):=fun w' gg=>HW.o _ (L1 w' gg)
 clear L1;go_region_held3 (fun w'=>w'.heap[bq]?=some (.cells #[IS pb,IS pc] 63 (0,0))/\w'.cell? (φ bq 0)=some (IS pb)/\w'.cell? (φ bq 1)=some (IS pc))
  (((first | exact I0.o | exact ag.o δ | (refine HW.o _ ?_;exact Ξ δ) | (refine HW.o _ ((qac _ _ _ _ ε).trans ((qac _ _ _ _ ε).trans ?_));exact Ξ δ));done))
  ((
   first
   | (go_at_call 47;refine (C1.o _ (by repeat (first | exact Gw.refl _ | exact Ξ δ | exact ag.o δ | refine Gw.drew ?_ | refine Gw.drewN ?_ _))).mono ?_;rintro ex wA ⟨⟨pA,SA,rfl,mD,nA⟩,gA⟩;have GA:ag (Gw w1 wA):=(by first | exact gA | exact Gw.trans (Gw.drew (Gw.refl _)) gA);have KA:ag (wA.heap[bq]?=some (.cells #[IS pb,IS pc] 63 (0,0))/\wA.cell? (φ bq 0)=some (IS pb)/\wA.cell? (φ bq 1)=some (IS pc)):=LH.o wA GA.o;have UG:ag (Gw w wA):=(G0.o.trans GA.o);have FA:ag (HB 114 wA pA SA buf l/\∀ q,SA q->w1.heap.size<=q):=⟨mD,nA⟩;clear mD nA gA)
   | (go_at_call 48;refine (C2.o _ (by repeat (first | exact Gw.refl _ | exact Ξ δ | exact ag.o δ | refine Gw.drew ?_ | refine Gw.drewN ?_ _))).mono ?_;rintro ex wB ⟨⟨pB,rfl,nB,zB⟩,gB⟩;have GB:ag (Gw wA wB):=(by first | exact gB | exact Gw.trans (Gw.drew (Gw.refl _)) gB);have KB:ag (wB.heap[bq]?=some (.cells #[IS pb,IS pc] 63 (0,0))/\wB.cell? (φ bq 0)=some (IS pb)/\wB.cell? (φ bq 1)=some (IS pc)):=LH.o wB (GA.o.trans GB.o);have z0:wB.cell? (φ (bq+1) 0)=some (.pointer none):=(aj (L2.o wB (GA.o.trans GB.o)) rfl);have z1:wB.cell? (φ (bq+1) 1)=some (.pointer none):=(aj (L2.o wB (GA.o.trans GB.o)) rfl);have z2:wB.frozen? (φ (bq+1) 0)=false:=(bC (L2.o wB (GA.o.trans GB.o)));have z3:wB.frozen? (φ (bq+1) 1)=false:=(bC (L2.o wB (GA.o.trans GB.o)));have z4:=ak (L2.o wB (GA.o.trans GB.o));have FB:ag (aP HR wB pB rs eps buf B W_/\wA.heap.size<=pB):=⟨zB,nB⟩;clear zB nB gB)))
 all_goals
  have T:=ik (o:=1) (u:=IS pB) (ik (o:=0) (u:=IS pA) (L2.o wB (GA.o.trans GB.o)));have T0:((wB.setCell (φ (bq+1) 0) (IS pA)).setCell (φ (bq+1) 1) (IS pB)).cell? (φ (bq+1) 0)=some (IS pA):=aj T rfl;have T1:((wB.setCell (φ (bq+1) 0) (IS pA)).setCell (φ (bq+1) 1) (IS pB)).cell? (φ (bq+1) 1)=some (IS pB):=aj T rfl;have av:ag (HS HR ((wB.setCell (φ (bq+1) 0) (IS pA)).setCell (φ (bq+1) 1) (IS pB)) pA SA pB eps buf l rs B W_/\(∀ q,(q=pB\/SA q)->w.heap.size<=q)/\Gw w ((wB.setCell (φ (bq+1) 0) (IS pA)).setCell (φ (bq+1) 1) (IS pB))):=by
   have gz:Gx (fun q=>q=bq+1) wB ((wB.setCell (φ (bq+1) 0) (IS pA)).setCell (φ (bq+1) 1) (IS pB)):=((Gx.refl (fun q=>q=bq+1) wB).set (.inl rfl) _ _).set (.inl rfl) _ _
   have z1:=ak (L2.o w1 (Gw.refl _));have z2:=G0.o.size;have z3:=GA.o.size;have z4:=BQ.o;refine ⟨⟨(FA.o.1.gw GB.o).gx gz (fun q hq hx=>?_),FB.o.1.gx HH.o.kp gz (fun hx=>?_) (fun q hq r hr hx=>?_),fun hx=>?_,fun r hr q hq hx=>?_⟩,fun q hq=>?_,Gx.gw (UG.o.trans GB.o) gz (fun q hq=>ω)⟩
   ·have:=FA.o.2 q hq;omega
   ·have:=FB.o.2;omega
   ·have:=HH.o.lt (iO.o.hc.runs r hr).1.h q hx;omega
   ·have:=FA.o.1.lt pB hx;have:=FB.o.2;omega
   ·have:=FA.o.2 q hq;have:=HH.o.lt (iO.o.hc.runs r hr).1.h q hx;omega
   ·rcases hq with x | x
    ·have:=FB.o.2;omega
    ·have:=FA.o.2 q x;omega
  clear T;go_wp2_with fail;exact bodyPost_ret (v:=.agg #[IS pA,IS pB]) (by simp [results,results22,go_sem,T0,T1]) rfl ⟨⟨pA,SA,pB,rfl,av.o.1,av.o.2.1⟩,av.o.2.2⟩
def qe (o:Option Int):Value:=.tuple #[BY (o.getD 0),.bool o.isSome]
variable {p live:Nat} {keys:Int}
theorem HT.cells {HR:bH} {F:Nat->Prop} {l:List ah} {rs:List (Option Rn)} {B W_:Int} (h:w.heap[p]?=some (.cells (mx eps buf keys pb pc live) 65 (0,0))):(w.cell? (φ p 0)=some (By eps)/\w.cell? (φ p 1)=some (By buf)/\w.cell? (φ p 2)=some (By keys))/\w.cell? (φ p 3)=some (IS pb)/\w.cell? (φ p 4)=some (IS pc)/\w.cell? (φ p 5)=some (By (live:Int))/\w.frozen? (φ p 5)=false/\p<w.heap.size :=
 ⟨⟨aj h rfl,aj h rfl,aj h rfl⟩,aj h rfl,aj h rfl,aj h rfl,bC h,ak h⟩
variable {F:Nat->Prop}
theorem HT.fewN {N:Nat} (h:HT HR w p F eps buf keys l rs B W_ live) (t:l.length+tot rs<=N):live<=N:=by
 obtain ⟨ks,k1,k2,k3⟩:=h.inv.all;have a:=h.inv.ok.rise;have:ks.length<=(l.map ah.k++(lists rs).flatMap (List.map ah.k)).length:=Di k1 fun x hx=>by
  have jE:=(k2 x).1 hx;unfold ct newE at jE;cases hk:look ah.k x l with
  | some y=>exact qaq.2 (.inl (qaA.2 ⟨y,vR hk⟩))
  | none =>
   rw [hk] at jE;cases hn:nw x rs with
   | none=>rw [hn] at jE;cases jE
   | some e =>
    have:∀ ls:List (List ah),df ah.k x ls=some e->∃ l∈ls,e∈l/\e.k=x:=by
     intro ls;induction ls with
     | nil=>intro h;cases h
     | cons l ls ih =>
      intro h;simp only [df] at h;cases hk:look ah.k x l with
      | some y=>rw [hk] at h;cases h;exact ⟨l,qat ..,vR hk⟩
      | none =>
       rw [hk] at h;obtain ⟨l',a,b⟩:=ih h;exact ⟨l',qay _ a,b⟩
    obtain ⟨l,a,b,c⟩:=this _ hn;exact qaq.2 (.inr (List.mem_flatMap.2 ⟨l,a,qaA.2 ⟨e,b,c⟩⟩))
 rw [Ψ,qaS,List.length_flatMap] at this;have t':l.length+((lists rs).map fun a=>a.length).sum<=N:=t
 simp at this;omega
theorem HT.few (h:HT HR w p F eps buf keys l rs B W_ live) (t:l.length+tot rs<=2000000):live<=2000000:=h.fewN t
theorem zC (H:bj HR) (h:HT HR w p F eps buf keys l rs B W_ live) (hn:l.length<=4000000) (q:Int) (q0:0<=q) (q1:q<18446744073709551616) :
  Calls prog 17 #[IS p,BY q] w fun e w'=>e=χ (qe (bV l rs q))/\Gw w w':=by
 obtain ⟨pb,Sb,pc,h1,h2,h3,h4,h5,h6⟩:=h.lies;obtain ⟨_,c3,c4,_,_,pl⟩:=HT.cells (HR:=HR) (F:=F) (l:=l) (rs:=rs) (B:=B) (W_:=W_) h1;obtain ⟨x,y,z,t,f1,f2,f3⟩:=pV (newE l rs q);have SG:ag (Calls prog 40 #[.agg #[IS pb,IS pc],BY q] w fun e w'=>e=χ (.tuple #[.agg #[BY x,BY y,.bool z],.bool t])/\Gw w w'):=by
  have:=aem H h2 hn q q0 q1
  rw [f1] at this;exact this
 have R:qe (bV l rs q)=.tuple #[BY (if t&&!z then y else 0),.bool (t&&!z)]:=by
  unfold bV;cases hk:newE l rs q with
  | none =>
   rw [hk] at f2;subst f2;rfl
  | some e =>
   rw [hk] at f1 f2;subst f2;have uk:(Value.agg #[BY e.k,BY e.v,.bool e.g],true)=(Value.agg #[BY x,BY y,.bool z],(some e).isSome):=f1;simp at uk;obtain ⟨_,e2,e3⟩:=uk;subst e2;subst e3;obtain ⟨ek,ev,eg⟩:=e;cases eg<;>rfl
 rw [R];clear R f1 f2 f3 h h1 h2 h3 h4 h5 h6 H;cases t<;>cases z
 all_goals
  go_enter func17,ntmps17;go_wp2_with fail;refine Calls.mono SG.o ?_;rintro e u1 ⟨rfl,gg⟩;have GU:ag (Gw w u1):=gg;clear gg SG;go_wp2_with fail;go_ret2;exact ⟨rfl,GU.o.alloc _ _⟩
def uo (HR:bH) (w w':World) (p:Nat) (F:Nat->Prop) (eps buf keys:Int) (l:List ah) (rs:List (Option Rn)) (B W_:Int) (e:ah) (n:Nat):Prop :=
 ∃ F' l' rs' B' W',HT HR w' p F' eps buf keys l' rs' B' W' n/\kK HR w w' eps buf l rs B W_ l' rs' B' W' e/\Dm w F F' rs rs'/\Gx F w w'
section
variable {HR:bH} {w:World} {p:Nat} {F:Nat->Prop} {eps buf keys:Int} {l:List ah} {rs:List (Option Rn)} {B W_:Int} {live:Nat}
variable {pb pc n:Nat} {Sb:Nat->Prop} {w':World} {e:ah}
theorem HT.change (K:Kp HR) (h:HT HR w p F eps buf keys l rs B W_ live) (h2:HS HR w pb Sb pc eps buf l rs B W_) (h3:p≠pc) (h4:¬ Sb p) (h5:∀ r,some r∈rs->¬ r.S p) (h6:∀ q,F q↔q=p\/q=pc\/Sb q) {W1:World} (eZ:¬ (e.g=true/\e.v≠0)) (few:l.length+1+tot rs<=2000000) (hn:aT (ct (ins ah.k e l) rs) n) (hk:(n:Int)<=keys)
  (g1:Gx (fun q=>q=p) w W1) (b1:W1.heap[p]?=some (.cells (mx eps buf keys pb pc n) 65 (0,0))) (lo:jw HR W1 w' pb Sb pc eps buf l rs B W_ e) (g2:Gx (fun q=>q=pc\/Sb q) W1 w'):uo HR w w' p F eps buf keys l rs B W_ e n:=by
 obtain ⟨my,l',rs',B',W',hs,lr,nf,nr⟩:=lo;have pl:=ak b1;have sz:=g1.size;have LE:=vM (x:=e) h.inv.ok.rise;have pw:p<w.heap.size:=h.lt K p (.inl h.own);have lI:kK HR w w' eps buf l rs B W_ l' rs' B' W' e:=by
  rcases lr with x | ⟨x1,x2,o,kept,rn,y1,y2,y3⟩
  ·exact .inl x
  ·refine .inr ⟨x1,x2,o,kept,rn,y1,?_,y3⟩
   rcases y2 with z | ⟨a,r,b1,b2,b3,b4,b5,b6⟩
   ·exact .inl z
   ·exact .inr ⟨a,r,b1,b2,b3,b4,fun q hq=>Φ sz (b5 q hq),b6⟩
 have nS:¬ my p:=fun x=>by
  rcases nf p (.inr x) with (y | y) | y
  ·exact h3 y
  ·exact h4 y
  ·omega
 refine ⟨fun q=>q=p\/q=pc\/my q,l',rs',B',W',⟨⟨pb,my,pc,(g2.block p pl (fun x=>x.elim h3 h4)).trans b1,hs,h3,nS,fun r hr hx=>?_,fun q=>Iff.rfl⟩,?_,h.cf⟩,lI,⟨fun q hq=>?_,fun r hr=>(nr r hr).imp id fun x q hq=>Φ sz (x q hq)⟩,?_⟩
 ·rcases nr r hr with y | y
  ·exact h5 r y hx
  ·have:=y p hx;omega
 ·rcases lI with ⟨x1,rfl,rfl,_,_⟩ | ⟨x1,rfl,o,kept,rn,tr,ld,rfl,_⟩
  ·exact h.inv.put eZ hn hk x1
  ·exact h.inv.take h2.hc.b0 h2.hc.b1 (JE h.inv.ok eZ) x1 ω hn hk tr ld
 ·rcases hq with x | x
  ·exact .inl ((h6 q).2 (.inl x))
  ·rcases nf q (by exact x) with (y | y) | y
   ·exact .inl ((h6 q).2 (.inr (.inl y)))
   ·exact .inl ((h6 q).2 (.inr (.inr y)))
   ·exact .inr (Φ sz y)
 ·exact (g1.mono (S':=F) fun q hq=>.inl ((h6 q).2 (.inl hq))).trans g2 (fun q hq=>.inl ((h6 q).2 (.inr hq)))
theorem UH (h:HT HR w p F eps buf keys l rs B W_ live):(e.g=false->ct l rs e.k=false->aT (ct (ins ah.k e l) rs) (live+1))/\(e.g=false->ct l rs e.k=true->aT (ct (ins ah.k e l) rs) live)/\(e.g=true->ct l rs e.k=true->0<live/\aT (ct (ins ah.k e l) rs) (live-1)):=by
 have nN:∀ q,q≠e.k->ct (ins ah.k e l) rs q=ct l rs q:=fun q hq=>by unfold ct;rw [TV h.inv.ok.rise,Yl (fun x=>hq x.symm)]
 have at_:ct (ins ah.k e l) rs e.k=!e.g:=by unfold ct;rw [TV h.inv.ok.rise,Ym rfl];rfl
 refine ⟨fun g f=>h.inv.all.put f (by rw [at_,g];rfl) nN,fun g f=>h.inv.all.same fun q=>?_,fun g f=>h.inv.all.drop f (by rw [at_,g];rfl) nN⟩
 by_cases c:q=e.k
 ·rw [c,at_,f,g];rfl
 ·exact nN q c
end
variable {HR:bH} {w:World} {p pb pc:Nat} {Sb:Nat->Prop} {eps buf B W:Int} {l:List ah} {rs:List (Option Rn)}
theorem HS.other (K:Kp HR) (h:HS HR w pb Sb pc eps buf l rs B W) (h3:p≠pc) (h4:¬ Sb p) (h5:∀ r,some r∈rs->¬ r.S p) (o:Nat) (v:Value):HS HR (w.setCell (φ p o) v) pb Sb pc eps buf l rs B W :=
 h.keep K fun q hq=>qac _ _ _ _ fun e=>by
  have e':q=p:=e;rw [e'] at hq;rcases hq with x | x | ⟨r,x,y⟩
  ·exact h4 x
  ·exact h3 x
  ·exact h5 r x y
def uq (HR:bH) (w w':World) (ex:Ending) (p:Nat) (F:Nat->Prop) (eps buf keys:Int) (l:List ah) (rs:List (Option Rn)) (B W_:Int) (live:Nat) (k v:Int):Prop :=
 ((bV l rs k=none/\(live:Int)=keys)/\ex=χ (By 161)/\Gw w w')\/(¬ (bV l rs k=none/\(live:Int)=keys)/\ex=χ (By 0)/\uo HR w w' p F eps buf keys l rs B W_ ⟨k,v,false⟩ (if bV l rs k=none then live+1 else live))
variable {F:Nat->Prop} {keys W_:Int} {live:Nat}
theorem UI (H:bj HR) (h:HT HR w p F eps buf keys l rs B W_ live) (few:l.length+1+tot rs<=2000000) (hB:0<=B/\B<4611686018427387904) (hW:0<=W_/\W_<4611686018427387904) (k v:Int) (k0:0<=k/\k<18446744073709551616) (v0:0<=v/\v<18446744073709551616) :
  Calls prog 10 #[IS p,BY k,BY v] w fun ex w'=>uq HR w w' ex p F eps buf keys l rs B W_ live k v:=by
 have HH:ag (bj HR):=H;have JL:ag (HT HR w p F eps buf keys l rs B W_ live):=h;obtain ⟨pb,Sb,pc,h1,h2,h3,h4,h5,h6⟩:=h.lies;have GT:ag (Calls prog 17 #[IS p,BY k] w fun e w'=>e=χ (qe (bV l rs k))/\Gw w w'):=zC H h ω k k0.1 k0.2
 have LY:ag (∀ W,HS HR W pb Sb pc eps buf l rs B W_->Calls prog 25 #[.agg #[IS pb,IS pc],.agg #[BY k,BY v,.bool false]] W fun ex w'=>ex=π #[]/\jw HR W w' pb Sb pc eps buf l rs B W_ ⟨k,v,false⟩/\Gx (fun q=>q=pc\/Sb q) W w'):=fun W hs=>Uw H hs ⟨k,v,false⟩ h.inv.ok ⟨k0,v0⟩ ε h.inv.room few hB hW
 have oV:ag (HS HR w pb Sb pc eps buf l rs B W_/\p≠pc/\¬ Sb p/\(∀ r,some r∈rs->¬ r.S p)/\∀ q,F q↔q=p\/q=pc\/Sb q):=⟨h2,h3,h4,h5,h6⟩;have BL:ag (w.heap[p]?=some (.cells (mx eps buf keys pb pc live) 65 (0,0))):=h1;have lf:=h.few ω;have MO:=h.inv.most;have LV:=UH h (e:=⟨k,v,false⟩);have mC:ag (l.length+1+tot rs<=2000000):=few;have wL:ag (∀ (W1 w':World) (n:Nat),aT (ct (ins ah.k ⟨k,v,false⟩ l) rs) n->(n:Int)<=keys->Gx (fun q=>q=p) w W1->W1.heap[p]?=some (.cells (mx eps buf keys pb pc n) 65 (0,0))->jw HR W1 w' pb Sb pc eps buf l rs B W_ ⟨k,v,false⟩->Gx (fun q=>q=pc\/Sb q) W1 w'->uo HR w w' p F eps buf keys l rs B W_ ⟨k,v,false⟩ n):=fun W1 w' n a b c d e f=>h.change H.kp h2 h3 h4 h5 h6 ε few a b c d e f
 have lJ:=zq l rs k;clear h h1 h2 h3 h4 h5 h6 H few hB hW k0 v0;cases hv:bV l rs k with
 | some y =>
  rw [hv] at GT lJ;have av:ag (∀ w1 w',Gw w w1->jw HR w1 w' pb Sb pc eps buf l rs B W_ ⟨k,v,false⟩->Gx (fun q=>q=pc\/Sb q) w1 w'->uq HR w w' (χ (By 0)) p F eps buf keys l rs B W_ live k v):=fun w1 w' g a b=>by
   refine .inr ⟨fun x=>by rw [hv] at x;exact absurd x.1 ε,rfl,?_⟩
   rw [hv,Yl ε];exact wL.o w1 w' live (LV.2.1 rfl lJ.symm) MO (g.gx _) ((g.below.block p (ak BL.o)).trans BL.o) a b
  have CL:ag (∀ w1,Gw w w1->(w1.cell? (φ p 3)=some (IS pb)/\w1.cell? (φ p 4)=some (IS pc)/\p<w1.heap.size)/\HS HR w1 pb Sb pc eps buf l rs B W_):=fun w1 g=>by have x:=(g.below.block p (ak BL.o)).trans BL.o;exact ⟨⟨aj x rfl,aj x rfl,ak x⟩,oV.o.1.gw HH.o.kp g⟩
  have lK:ag (Calls prog 17 #[IS p,BY k] w fun e w'=>e=π #[BY y,.bool true]/\Gw w w'):=GT
  clear hv LV lJ MO GT;go_enter func10,ntmps10;go_wp2_with fail;refine Calls.mono lK.o ?_;rintro e w1 ⟨rfl,gg⟩;obtain ⟨⟨c3,c4,pl⟩,hs⟩:=CL.o w1 gg;have rS:ag (Calls prog 25 #[.agg #[IS pb,IS pc],.agg #[BY k,BY v,.bool false]] w1 fun ex w'=>ex=π #[]/\jw HR w1 w' pb Sb pc eps buf l rs B W_ ⟨k,v,false⟩/\Gx (fun q=>q=pc\/Sb q) w1 w'):=LY.o w1 hs
  have GG:ag (Gw w w1):=gg;clear gg hs lK LY CL;go_wp2_with fail;refine Calls.mono rS.o ?_;rintro e w2 ⟨rfl,lo,g2⟩;have R2:ag (uq HR w w2 (χ (By 0)) p F eps buf keys l rs B W_ live k v):=av.o w1 w2 GG.o lo g2;clear lo g2 rS;go_wp2_with fail;go_ret;exact R2.o
 | none =>
  rw [hv] at GT lJ;have lK:ag (Calls prog 17 #[IS p,BY k] w fun e w'=>e=π #[BY 0,.bool false]/\Gw w w'):=GT
  have CL:ag (∀ w1,Gw w w1->(w1.cell? (φ p 3)=some (IS pb)/\w1.cell? (φ p 4)=some (IS pc)/\w1.cell? (φ p 5)=some (By (live:Int))/\w1.cell? (φ p 2)=some (By keys)/\w1.frozen? (φ p 5)=false/\p<w1.heap.size)/\w1.heap[p]?=some (.cells (mx eps buf keys pb pc live) 65 (0,0))):=fun w1 g=>by have x:=(g.below.block p (ak BL.o)).trans BL.o;exact ⟨⟨aj x rfl,aj x rfl,aj x rfl,aj x rfl,bC x,ak x⟩,x⟩
  by_cases full:(live:Int)=keys
  ·have t1:((live:Int) == keys)=true:=(by simpa using full);have av:ag (∀ w',Gw w w'->uq HR w w' (χ (By 161)) p F eps buf keys l rs B W_ live k v):=fun w' g=>.inl ⟨⟨hv,full⟩,rfl,g⟩
   clear hv LV lJ MO GT full;go_enter func10,ntmps10;go_wp2_with fail;refine Calls.mono lK.o ?_;rintro e w1 ⟨rfl,gg⟩;obtain ⟨⟨c3,c4,c5,c2,f5,pl⟩,_⟩:=CL.o w1 gg;have GG:ag (Gw w w1):=gg;clear gg lK CL LY;go_wp2_with fail;go_quiet (fail);go_wp2_with fail;go_ret;exact av.o _ (GG.o.drewN _)
  ·have t1:((live:Int) == keys)=false:=(by simpa using full);have wl:IntKind.i64.wrap ((live:Int)+1)=((live+1:Nat):Int):=(by rw [Δ];omega);have wl':IntKind.i64.wrap ((live:Int)+1)=(live:Int)+1:=(by rw [Δ];omega);have av:ag (∀ w1 w',Gw w w1->jw HR (w1.setCell (φ p 5) (By ((live:Int)+1))) w' pb Sb pc eps buf l rs B W_ ⟨k,v,false⟩->Gx (fun q=>q=pc\/Sb q) (w1.setCell (φ p 5) (By ((live:Int)+1))) w'->uq HR w w' (χ (By 0)) p F eps buf keys l rs B W_ live k v):=fun w1 w' g a b=>by
    refine .inr ⟨fun x=>full x.2,rfl,?_⟩
    rw [hv,Ym rfl];refine wL.o _ w' (live+1) (LV.1 rfl lJ.symm) ω ((g.gx (fun q=>q=p)).set (.inl rfl) _ _) ?_ a b
    have x:=(g.below.block p (ak BL.o)).trans BL.o;rw [ik x];rfl
   have zD:ag (∀ w1,Gw w w1->HS HR (w1.setCell (φ p 5) (By ((live:Int)+1))) pb Sb pc eps buf l rs B W_):=fun w1 g=>(oV.o.1.gw HH.o.kp g).other HH.o.kp oV.o.2.1 oV.o.2.2.1 oV.o.2.2.2.1 _ _
   clear hv LV lJ MO GT full;go_enter func10,ntmps10;go_wp2_with fail;refine Calls.mono lK.o ?_;rintro e w1 ⟨rfl,gg⟩;obtain ⟨⟨c3,c4,c5,c2,f5,pl⟩,bb⟩:=CL.o w1 gg;have GG:ag (Gw w w1):=gg;clear gg lK bb;go_wp2_with fail;go_quiet (fail);have GD:ag (Gw w (w1.drewN nq)):=GG.o.drewN nq;generalize w1.drewN nq=wD at GD ⊢;clear c3 c4 c5 c2 f5 pl GG;obtain ⟨⟨c3,c4,c5,c2,f5,pl⟩,bb⟩:=CL.o wD GD.o;have b5:=ik (o:=5) (u:=By ((live:Int)+1)) bb;have d3:(wD.setCell (φ p 5) (By ((live:Int)+1))).cell? (φ p 3)=some (IS pb):=aj b5 rfl;have d4:(wD.setCell (φ p 5) (By ((live:Int)+1))).cell? (φ p 4)=some (IS pc):=aj b5 rfl;have rS:ag (Calls prog 25 #[.agg #[IS pb,IS pc],.agg #[BY k,BY v,.bool false]] (wD.setCell (φ p 5) (By ((live:Int)+1))) fun ex w'=>ex=π #[]/\jw HR (wD.setCell (φ p 5) (By ((live:Int)+1))) w' pb Sb pc eps buf l rs B W_ ⟨k,v,false⟩/\Gx (fun q=>q=pc\/Sb q) (wD.setCell (φ p 5) (By ((live:Int)+1))) w'):=LY.o _ (zD.o wD GD.o)
   have R1:ag (∀ w',jw HR (wD.setCell (φ p 5) (By ((live:Int)+1))) w' pb Sb pc eps buf l rs B W_ ⟨k,v,false⟩->Gx (fun q=>q=pc\/Sb q) (wD.setCell (φ p 5) (By ((live:Int)+1))) w'->uq HR w w' (χ (By 0)) p F eps buf keys l rs B W_ live k v):=fun w' a b=>av.o wD w' GD.o a b
   have d5:=ak b5;clear bb b5 LY zD CL av;go_wp2_with fail;refine Calls.mono rS.o ?_;rintro e w2 ⟨rfl,lo,g2⟩;have R2:ag (uq HR w w2 (χ (By 0)) p F eps buf keys l rs B W_ live k v):=R1.o w2 lo g2;clear lo g2 rS R1;go_wp2_with fail;go_ret;exact R2.o
def zE (HR:bH) (w w':World) (ex:Ending) (p:Nat) (F:Nat->Prop) (eps buf keys:Int) (l:List ah) (rs:List (Option Rn)) (B W_:Int) (live:Nat) (k:Int):Prop :=
 (bV l rs k=none/\ex=χ (.bool false)/\Gw w w')\/(bV l rs k≠none/\ex=χ (.bool true)/\0<live/\uo HR w w' p F eps buf keys l rs B W_ ⟨k,0,true⟩ (live-1))
theorem JM (H:bj HR) (h:HT HR w p F eps buf keys l rs B W_ live) (few:l.length+1+tot rs<=2000000) (hB:0<=B/\B<4611686018427387904) (hW:0<=W_/\W_<4611686018427387904) (k:Int) (k0:0<=k/\k<18446744073709551616) :
  Calls prog 12 #[IS p,BY k] w fun ex w'=>zE HR w w' ex p F eps buf keys l rs B W_ live k:=by
 have HH:ag (bj HR):=H;obtain ⟨pb,Sb,pc,h1,h2,h3,h4,h5,h6⟩:=h.lies;have GT:ag (Calls prog 17 #[IS p,BY k] w fun e w'=>e=χ (qe (bV l rs k))/\Gw w w'):=zC H h ω k k0.1 k0.2
 have LY:ag (∀ W,HS HR W pb Sb pc eps buf l rs B W_->Calls prog 25 #[.agg #[IS pb,IS pc],.agg #[BY k,BY 0,.bool true]] W fun ex w'=>ex=π #[]/\jw HR W w' pb Sb pc eps buf l rs B W_ ⟨k,0,true⟩/\Gx (fun q=>q=pc\/Sb q) W w'):=fun W hs=>Uw H hs ⟨k,0,true⟩ h.inv.ok ⟨k0,(by decide:(0:Int)<=0),(by decide:(0:Int)<18446744073709551616)⟩ ε h.inv.room few hB hW
 have oV:ag (HS HR w pb Sb pc eps buf l rs B W_/\p≠pc/\¬ Sb p/\(∀ r,some r∈rs->¬ r.S p)/\∀ q,F q↔q=p\/q=pc\/Sb q):=⟨h2,h3,h4,h5,h6⟩;have BL:ag (w.heap[p]?=some (.cells (mx eps buf keys pb pc live) 65 (0,0))):=h1;have lf:=h.few ω;have MO:=h.inv.most;have LV:=UH h (e:=⟨k,0,true⟩);have wL:ag (∀ (W1 w':World) (n:Nat),aT (ct (ins ah.k ⟨k,0,true⟩ l) rs) n->(n:Int)<=keys->Gx (fun q=>q=p) w W1->W1.heap[p]?=some (.cells (mx eps buf keys pb pc n) 65 (0,0))->jw HR W1 w' pb Sb pc eps buf l rs B W_ ⟨k,0,true⟩->Gx (fun q=>q=pc\/Sb q) W1 w'->uo HR w w' p F eps buf keys l rs B W_ ⟨k,0,true⟩ n):=fun W1 w' n a b c d e f=>h.change H.kp h2 h3 h4 h5 h6 ε few a b c d e f
 have lJ:=zq l rs k;clear h h1 h2 h3 h4 h5 h6 H few hB hW k0;cases hv:bV l rs k with
 | none =>
  rw [hv] at GT lJ;have lK:ag (Calls prog 17 #[IS p,BY k] w fun e w'=>e=π #[BY 0,.bool false]/\Gw w w'):=GT
  have av:ag (∀ w',Gw w w'->zE HR w w' (χ (.bool false)) p F eps buf keys l rs B W_ live k):=fun w' g=>.inl ⟨hv,rfl,g⟩
  clear hv LV lJ MO GT LY wL;go_enter func12,ntmps12;go_wp2_with fail;refine Calls.mono lK.o ?_;rintro e w1 ⟨rfl,gg⟩;have GG:ag (Gw w w1):=gg;clear gg lK;go_wp2_with fail;go_ret;exact av.o _ GG.o
 | some y =>
  rw [hv] at GT lJ;have lK:ag (Calls prog 17 #[IS p,BY k] w fun e w'=>e=π #[BY y,.bool true]/\Gw w w'):=GT
  obtain ⟨lp,JN⟩:=LV.2.2 rfl lJ.symm;obtain ⟨lm,JO⟩:∃ m,live=m+1:=⟨live-1,ω⟩;have LM:ag (live=lm+1):=JO;have wl':IntKind.i64.wrap ((live:Int)-1)=(lm:Int):=by rw [Δ];omega
  have CL:ag (∀ w1,Gw w w1->(w1.cell? (φ p 3)=some (IS pb)/\w1.cell? (φ p 4)=some (IS pc)/\w1.cell? (φ p 5)=some (By (live:Int))/\w1.frozen? (φ p 5)=false/\p<w1.heap.size)/\w1.heap[p]?=some (.cells (mx eps buf keys pb pc live) 65 (0,0))):=fun w1 g=>by have x:=(g.below.block p (ak BL.o)).trans BL.o;exact ⟨⟨aj x rfl,aj x rfl,aj x rfl,bC x,ak x⟩,x⟩
  have av:ag (∀ w1 w',Gw w w1->jw HR (w1.setCell (φ p 5) (By (lm:Int))) w' pb Sb pc eps buf l rs B W_ ⟨k,0,true⟩->Gx (fun q=>q=pc\/Sb q) (w1.setCell (φ p 5) (By (lm:Int))) w'->zE HR w w' (χ (.bool true)) p F eps buf keys l rs B W_ live k):=fun w1 w' g a b=>by
   refine .inr ⟨by rw [hv];simp,rfl,lp,?_⟩
   rw [JO,Nat.add_sub_cancel] at JN ⊢;refine wL.o _ w' lm JN ω ((g.gx (fun q=>q=p)).set (.inl rfl) _ _) ?_ a b
   have x:=(g.below.block p (ak BL.o)).trans BL.o;rw [ik x];rfl
  have zD:ag (∀ w1,Gw w w1->HS HR (w1.setCell (φ p 5) (By (lm:Int))) pb Sb pc eps buf l rs B W_):=fun w1 g=>(oV.o.1.gw HH.o.kp g).other HH.o.kp oV.o.2.1 oV.o.2.2.1 oV.o.2.2.2.1 _ _
  clear hv LV lJ MO GT wL JN JO lp;go_enter func12,ntmps12;go_wp2_with fail;refine Calls.mono lK.o ?_;rintro e wD ⟨rfl,gg⟩;have GD:ag (Gw w wD):=gg;obtain ⟨⟨c3,c4,c5,f5,pl⟩,bb⟩:=CL.o wD GD.o;have b5:=ik (o:=5) (u:=By (lm:Int)) bb;have d3:(wD.setCell (φ p 5) (By (lm:Int))).cell? (φ p 3)=some (IS pb):=aj b5 rfl;have d4:(wD.setCell (φ p 5) (By (lm:Int))).cell? (φ p 4)=some (IS pc):=aj b5 rfl;have rS:ag (Calls prog 25 #[.agg #[IS pb,IS pc],.agg #[BY k,BY 0,.bool true]] (wD.setCell (φ p 5) (By (lm:Int))) fun ex w'=>ex=π #[]/\jw HR (wD.setCell (φ p 5) (By (lm:Int))) w' pb Sb pc eps buf l rs B W_ ⟨k,0,true⟩/\Gx (fun q=>q=pc\/Sb q) (wD.setCell (φ p 5) (By (lm:Int))) w'):=LY.o _ (zD.o wD GD.o)
  have R1:ag (∀ w',jw HR (wD.setCell (φ p 5) (By (lm:Int))) w' pb Sb pc eps buf l rs B W_ ⟨k,0,true⟩->Gx (fun q=>q=pc\/Sb q) (wD.setCell (φ p 5) (By (lm:Int))) w'->zE HR w w' (χ (.bool true)) p F eps buf keys l rs B W_ live k):=fun w' a b=>av.o wD w' GD.o a b
  have d5:=ak b5;clear bb b5 LY zD CL av gg lK;go_wp2_with fail;refine Calls.mono rS.o ?_;rintro e w2 ⟨rfl,lo,g2⟩;have R2:ag (zE HR w w2 (χ (.bool true)) p F eps buf keys l rs B W_ live k):=R1.o w2 lo g2;clear lo g2 rS R1;go_wp2_with fail;go_ret;exact R2.o
theorem HT.made (K:Kp HR) (h:HS HR w pb Sb pc eps buf l rs B W_) (inv:jt eps buf keys l rs live) (cf:fR eps buf keys):HT HR (w.alloc (.cells (mx eps buf keys pb pc live) 65)) w.heap.size (fun q=>q=w.heap.size\/q=pc\/Sb q) eps buf keys l rs B W_ live:=by
 refine ⟨⟨pb,Sb,pc,Ω w _,h.gw K ((Gw.refl w).alloc _ _),fun e=>?_,fun x=>?_,fun r hr x=>?_,fun q=>Iff.rfl⟩,inv,cf⟩
 ·have:=h.lt K pc (.inr (.inl rfl));omega
 ·have:=h.lt K _ (.inl x);omega
 ·have:=h.lt K _ (.inr (.inr ⟨r,hr,x⟩));omega
theorem aeo (h:HT HR w p F eps buf keys l rs B W_ live) (hn:l.length<=4000000) :
  Calls prog 29 #[IS p] w fun e w'=>(∃ bo c,e=χ (.slice bo l.length c)/\EO w' w.heap.size (.slice bo l.length c) l)/\Gw w w':=by
 obtain ⟨pb,Sb,pc,h1,h2,h3,h4,h5,h6⟩:=h.lies;obtain ⟨_,c3,c4,_,_,pl⟩:=HT.cells (HR:=HR) (F:=F) (l:=l) (rs:=rs) (B:=B) (W_:=W_) h1;have LI:ag (Calls prog 58 #[IS pb] w fun e w'=>(∃ bo c,e=χ (.slice bo l.length c)/\EO w' w.heap.size (.slice bo l.length c) l)/\Gw w w'):=(Um pb Sb buf l hn w h2.hb).mono fun e w' ⟨⟨v,a,b⟩,g⟩=>by obtain ⟨bo,c,ev,_⟩:=fg b;subst ev;exact ⟨⟨bo,c,a,b⟩,g⟩
 have qb:=h2.hb.lt pb h2.hb.own;generalize l.length=n at LI ⊢;clear h h1 h2 h3 h4 h5 h6;go_enter func29,ntmps29;go_wp2_with fail;refine Calls.mono LI.o ?_;rintro e w1 ⟨⟨bo,c,rfl,eo⟩,gg⟩;have av:ag (EO w1 w.heap.size (.slice bo n c) l/\Gw w w1):=⟨eo,gg⟩;clear eo gg LI;go_wp2_with fail;go_ret;exact ⟨⟨bo,c,rfl,av.o.1⟩,av.o.2⟩
theorem aep (h:HT HR w p F eps buf keys l rs B W_ live) :
  Calls prog 30 #[IS p] w fun e w'=>(∃ (t b c:Nat),e=χ (ψ b 0 t c)/\cX rs t/\RO w' w.heap.size (ψ b 0 t c) (rs.take t))/\Gw w w':=by
 obtain ⟨pb,Sb,pc,h1,h2,h3,h4,h5,h6⟩:=h.lies;obtain ⟨_,c3,c4,_,_,pl⟩:=HT.cells (HR:=HR) (F:=F) (l:=l) (rs:=rs) (B:=B) (W_:=W_) h1;have LI:ag (Calls prog 45 #[IS pc] w fun e w'=>(∃ (t b c:Nat),e=χ (ψ b 0 t c)/\cX rs t/\RO w' w.heap.size (ψ b 0 t c) (rs.take t))/\Gw w w'):=RE h2.hc
 have mA:=h2.hc.lt;clear h h1 h2 h3 h4 h5 h6;go_enter func30,ntmps30;go_wp2_with fail;refine Calls.mono LI.o ?_;rintro e w1 ⟨⟨t,b,c,rfl,a,d⟩,gg⟩;have av:ag (cX rs t/\RO w1 w.heap.size (ψ b 0 t c) (rs.take t)/\Gw w w1):=⟨a,d,gg⟩;clear a d gg LI;go_wp2_with fail;go_ret;exact ⟨⟨t,b,c,rfl,av.o.1,av.o.2.1⟩,av.o.2.2⟩
theorem aeq (h:HT HR w p F eps buf keys l rs B W_ live) :
  Calls prog 35 #[IS p] w fun e w'=>e=χ (.agg #[By eps,By buf,By keys])/\Gw w w':=by
 obtain ⟨pb,Sb,pc,h1,h2,h3,h4,h5,h6⟩:=h.lies;obtain ⟨⟨c0,c1,c2⟩,_,_,_,_,pl⟩:=HT.cells (HR:=HR) (F:=F) (l:=l) (rs:=rs) (B:=B) (W_:=W_) h1;clear h h1 h2 h3 h4 h5 h6;go_enter func35,ntmps35;go_wp2_with fail;exact bodyPost_ret (v:=.agg #[By eps,By buf,By keys]) (by simp [results,results35,go_sem]) rfl ⟨rfl,(Gw.refl w).alloc _ _⟩
structure SZ (w:World) (base b t:Nat) (rs:List (Option Rn)):Prop where
 top:cX rs t
 row:w.rowIs b 3 t (fun i=>By (fQ (rs.getD i none):Int))
 new:base<=b
def wO (live len:Nat) (B W:Int) (b t:Nat):Value:=.agg #[By (live:Int),By (len:Int),By B,By W,ψ b 0 t t]
theorem UJ (H:bj HR) (h:HT HR w p F eps buf keys l rs B W_ live) :
  Calls prog 16 #[IS p] w fun e w'=>(∃ b t,e=χ (wO live l.length B W_ b t)/\SZ w' w.heap.size b t rs)/\Gw w w':=by
 have HH:ag (bj HR):=H;obtain ⟨pb,Sb,pc,h1,h2,h3,h4,h5,h6⟩:=h.lies;have BL:ag (w.heap[p]?=some (.cells (mx eps buf keys pb pc live) 65 (0,0))):=h1;have LE:ag (∀ W,Gw w W->Calls prog 36 #[IS pb] W fun e w'=>e=χ (By (l.length:Int))/\Gw W w'):=fun W gg=>aef pb Sb buf l W (h2.hb.gw gg)
 have BU:ag (∀ W,Gw w W->Calls prog 37 #[IS pc] W fun e w'=>e=χ (By B)/\w'=W):=fun W gg=>adq (h2.hc.gw H.kp gg)
 have WR:ag (∀ W,Gw w W->Calls prog 38 #[IS pc] W fun e w'=>e=χ (By W_)/\w'=W):=fun W gg=>adr (h2.hc.gw H.kp gg)
 have SI:ag (∀ W,Gw w W->Calls prog 39 #[IS pc] W fun e w'=>(∃ (t b:Nat),e=χ (ψ b 0 t t)/\cX rs t/\w'.rowIs b 3 t (fun i=>By (fQ (rs.getD i none):Int))/\W.heap.size<=b)/\Gw W w'):=fun W gg=>ado H (h2.hc.gw H.kp gg)
 have qb:=h2.hb.lt pb h2.hb.own;have mA:=h2.hc.lt;clear h h1 h2 h3 h4 h5 h6 H;obtain ⟨bq,aE⟩:=qbr w.heap.size;have BQ:ag (w.heap.size=bq):=aE;obtain ⟨ln,ax⟩:=qbr l.length;rw [ax] at LE ⊢;have B0:ag (bD w [(bq,#[By 0,By 0,By 0,By 0,.slice none 0 0],46)] (w.alloc (.cells #[By 0,By 0,By 0,By 0,.slice none 0 0] 46))):=by have a:=(bD.nil (Gw.refl w)).add #[By 0,By 0,By 0,By 0,.slice none 0 0] 46;rw [aE] at a;exact a
 clear aE ax;go_enter func16,ntmps16;go_wp2_with fail;rw [BQ.o];generalize w.alloc (.cells #[By 0,By 0,By 0,By 0,.slice none 0 0] 46)=w1 at B0 ⊢;have G0:ag (Gw w w1):=B0.o.gw0;have L2:ag (∀ w',Gw w1 w'->w'.heap[bq]?=some (.cells #[By 0,By 0,By 0,By 0,.slice none 0 0] 46 (0,0))):=fun w' gg=>(B0.o.gw gg).lie (bq,#[By 0,By 0,By 0,By 0,.slice none 0 0],46) ε
 have HW:ag (∀ w':World,Gw w w'->Gw w w'/\w'.cell? (φ p 3)=some (IS pb)/\w'.cell? (φ p 4)=some (IS pc)/\w'.cell? (φ p 5)=some (By (live:Int))/\p<w'.heap.size):=fun w' gg=>by have hh:=(gg.below.block p (ak BL.o)).trans BL.o;exact ⟨gg,aj hh rfl,aj hh rfl,aj hh rfl,ak hh⟩
 go_region_held3 (fun w'=>Gw w w'/\w'.cell? (φ p 3)=some (IS pb)/\w'.cell? (φ p 4)=some (IS pc)/\w'.cell? (φ p 5)=some (By (live:Int))/\p<w'.heap.size)
  (((refine HW.o _ ?_;repeat (first | exact Ξ δ | exact ag.o δ | refine Gw.drew ?_ | refine Gw.setCell ?_ (qad BQ.o) _));done))
  ((
   first
   | (go_at_call 36;refine (LE.o _ (by repeat (first | exact Gw.refl _ | exact Ξ δ | exact ag.o δ | refine Gw.drew ?_ | refine Gw.drewN ?_ _))).mono ?_;rintro ex wA ⟨rfl,gA⟩;have FA:ag (Gw w1 wA):=(Gw.trans (by repeat (first | exact Gw.refl _ | exact Ξ δ | exact ag.o δ | refine Gw.drew ?_ | refine Gw.drewN ?_ _)) gA);have HA:ag (Gw w wA):=G0.o.trans FA.o;clear gA)
   | (go_at_call 37;refine (BU.o _ (by repeat (first | exact Gw.refl _ | exact Ξ δ | exact ag.o δ | refine Gw.drew ?_ | refine Gw.drewN ?_ _))).mono ?_;rintro ex wB ⟨rfl,hwB⟩;subst hwB)
   | (go_at_call 38;refine (WR.o _ (by repeat (first | exact Gw.refl _ | exact Ξ δ | exact ag.o δ | refine Gw.drew ?_ | refine Gw.drewN ?_ _))).mono ?_;rintro ex wC ⟨rfl,hwC⟩;subst hwC)
   | (go_at_call 39;refine (SI.o _ (by repeat (first | exact Gw.refl _ | exact Ξ δ | exact ag.o δ | refine Gw.drew ?_ | refine Gw.drewN ?_ _))).mono ?_;rintro ex wD ⟨⟨tS,bS,rfl,s1,s2,s3⟩,gD⟩;have FD:ag (Gw w1 wD):=(Gw.trans (by repeat (first | exact Gw.refl _ | exact Ξ δ | exact ag.o δ | refine Gw.drew ?_ | refine Gw.drewN ?_ _)) gD);have HD:ag (Gw w wD):=G0.o.trans FD.o;have z0:wD.cell? (φ bq 0)=some (By 0):=(aj (L2.o wD FD.o) rfl);have y0:wD.frozen? (φ bq 0)=false:=(bC (L2.o wD FD.o));have z1:wD.cell? (φ bq 1)=some (By 0):=(aj (L2.o wD FD.o) rfl);have y1:wD.frozen? (φ bq 1)=false:=(bC (L2.o wD FD.o));have z2:wD.cell? (φ bq 2)=some (By 0):=(aj (L2.o wD FD.o) rfl);have y2:wD.frozen? (φ bq 2)=false:=(bC (L2.o wD FD.o));have z3:wD.cell? (φ bq 3)=some (By 0):=(aj (L2.o wD FD.o) rfl);have y3:wD.frozen? (φ bq 3)=false:=(bC (L2.o wD FD.o));have z4:wD.cell? (φ bq 4)=some (.slice none 0 0):=(aj (L2.o wD FD.o) rfl);have y4:wD.frozen? (φ bq 4)=false:=(bC (L2.o wD FD.o));have zl:=ak (L2.o wD FD.o);have SS:ag (cX rs tS/\wD.rowIs bS 3 tS (fun i=>By (fQ (rs.getD i none):Int))/\w1.heap.size<=bS):=⟨s1,s2,Φ (Gw.size (show Gw w1 _ from (by repeat (first | exact Gw.refl _ | exact Ξ δ | exact ag.o δ | refine Gw.drew ?_ | refine Gw.drewN ?_ _)))) s3⟩;clear s1 s2 s3 gD)))
 all_goals
  have T:=(ik (o:=4) (u:=(ψ bS 0 tS tS)) (ik (o:=3) (u:=(By W_)) (ik (o:=2) (u:=(By B)) (ik (o:=1) (u:=(By (ln:Int))) (ik (o:=0) (u:=(By (live:Int))) (L2.o wD FD.o))))));have T0:(((((wD.setCell (φ bq 0) (By (live:Int))).setCell (φ bq 1) (By (ln:Int))).setCell (φ bq 2) (By B)).setCell (φ bq 3) (By W_)).setCell (φ bq 4) (ψ bS 0 tS tS)).cell? (φ bq 0)=some (By (live:Int)):=aj T rfl;have T1:(((((wD.setCell (φ bq 0) (By (live:Int))).setCell (φ bq 1) (By (ln:Int))).setCell (φ bq 2) (By B)).setCell (φ bq 3) (By W_)).setCell (φ bq 4) (ψ bS 0 tS tS)).cell? (φ bq 1)=some (By (ln:Int)):=aj T rfl;have T2:(((((wD.setCell (φ bq 0) (By (live:Int))).setCell (φ bq 1) (By (ln:Int))).setCell (φ bq 2) (By B)).setCell (φ bq 3) (By W_)).setCell (φ bq 4) (ψ bS 0 tS tS)).cell? (φ bq 2)=some (By B):=aj T rfl;have T3:(((((wD.setCell (φ bq 0) (By (live:Int))).setCell (φ bq 1) (By (ln:Int))).setCell (φ bq 2) (By B)).setCell (φ bq 3) (By W_)).setCell (φ bq 4) (ψ bS 0 tS tS)).cell? (φ bq 3)=some (By W_):=aj T rfl;have T4:(((((wD.setCell (φ bq 0) (By (live:Int))).setCell (φ bq 1) (By (ln:Int))).setCell (φ bq 2) (By B)).setCell (φ bq 3) (By W_)).setCell (φ bq 4) (ψ bS 0 tS tS)).cell? (φ bq 4)=some (ψ bS 0 tS tS):=aj T rfl;have av:ag (SZ (((((wD.setCell (φ bq 0) (By (live:Int))).setCell (φ bq 1) (By (ln:Int))).setCell (φ bq 2) (By B)).setCell (φ bq 3) (By W_)).setCell (φ bq 4) (ψ bS 0 tS tS)) w.heap.size bS tS rs/\Gw w (((((wD.setCell (φ bq 0) (By (live:Int))).setCell (φ bq 1) (By (ln:Int))).setCell (φ bq 2) (By B)).setCell (φ bq 3) (By W_)).setCell (φ bq 4) (ψ bS 0 tS tS))):=by
   have gz:Gx (fun q=>q=bq) wD (((((wD.setCell (φ bq 0) (By (live:Int))).setCell (φ bq 1) (By (ln:Int))).setCell (φ bq 2) (By B)).setCell (φ bq 3) (By W_)).setCell (φ bq 4) (ψ bS 0 tS tS)):=(((((Gx.refl (fun q=>q=bq) wD).set (.inl rfl) _ _).set (.inl rfl) _ _).set (.inl rfl) _ _).set (.inl rfl) _ _).set (.inl rfl) _ _
   have z1:=ak (L2.o w1 (Gw.refl _));have z2:=G0.o.size;refine ⟨⟨SS.o.1,SS.o.2.1.of_block (gz.block bS SS.o.2.1.lt (fun e=>?_)),Φ z2 SS.o.2.2⟩,Gx.gw HD.o gz (fun q hq=>by have:=BQ.o;omega)⟩
   have:=SS.o.2.2
   omega
  clear T;go_wp2_with fail;exact bodyPost_ret (v:=wO live ln B W_ bS tS) (by simp [results,results16,go_sem,T0,T1,T2,T3,T4,wO]) rfl ⟨⟨bS,tS,rfl,av.o.1⟩,av.o.2⟩
theorem aer (H:bj HR) (h:HT HR w p F eps buf keys l rs B W_ live) (hn:l.length<=4000000) :
  Calls prog 7 #[IS p] w fun e w'=>(∃ p' F',e=χ (.pointer (some (φ p' 0)))/\HT HR w' p' F' eps buf keys l rs B W_ live/\∀ q,F' q->w.heap.size<=q)/\Gw w w':=by
 have HH:ag (bj HR):=H;have JL:ag (HT HR w p F eps buf keys l rs B W_ live):=h;obtain ⟨pb,Sb,pc,h1,h2,h3,h4,h5,h6⟩:=h.lies;have BL:ag (w.heap[p]?=some (.cells (mx eps buf keys pb pc live) 65 (0,0))):=h1;have CL:ag (∀ W,Gw w W->Calls prog 22 #[.agg #[IS pb,IS pc]] W fun ex w'=>(∃ zA my um,ex=χ (.agg #[IS zA,IS um])/\HS HR w' zA my um eps buf l rs B W_/\∀ q,(q=um\/my q)->W.heap.size<=q)/\Gw W w'):=fun W gg=>aen H (h2.gw H.kp gg) hn
 have HW:ag (∀ w':World,Gw w w'->Gw w w'/\(w'.cell? (φ p 0)=some (By eps)/\w'.cell? (φ p 1)=some (By buf)/\w'.cell? (φ p 2)=some (By keys))/\w'.cell? (φ p 3)=some (IS pb)/\w'.cell? (φ p 4)=some (IS pc)/\w'.cell? (φ p 5)=some (By (live:Int))/\p<w'.heap.size):=fun w' gg=>by have hh:=(gg.below.block p (ak BL.o)).trans BL.o;exact ⟨gg,⟨aj hh rfl,aj hh rfl,aj hh rfl⟩,aj hh rfl,aj hh rfl,aj hh rfl,ak hh⟩
 have I0:ag (Gw w w):=Gw.refl w;clear h h1 h2 h3 h4 h5 h6 H;go_enter func7,ntmps7;go_wp2_with fail;go_region_held3 (fun w'=>Gw w w'/\(w'.cell? (φ p 0)=some (By eps)/\w'.cell? (φ p 1)=some (By buf)/\w'.cell? (φ p 2)=some (By keys))/\w'.cell? (φ p 3)=some (IS pb)/\w'.cell? (φ p 4)=some (IS pc)/\w'.cell? (φ p 5)=some (By (live:Int))/\p<w'.heap.size)
  (((refine HW.o _ ?_;repeat (first | exact Ξ δ | exact ag.o δ | refine Gw.drew ?_ | refine Gw.alloc ?_ _ _));done))
  ((
   first
   | (go_at_call 22;refine (CL.o _ (by repeat (first | exact Gw.refl _ | exact Ξ δ | exact ag.o δ | refine Gw.drew ?_ | refine Gw.drewN ?_ _))).mono ?_;rintro ex wA ⟨⟨Dp,Dq,ur,rfl,UK,nA⟩,gA⟩;have FA:ag (Gw w wA):=(Gw.trans (by repeat (first | exact Gw.refl _ | exact Ξ δ | exact ag.o δ | refine Gw.drew ?_ | refine Gw.drewN ?_ _)) gA);have HA:ag (HS HR wA Dp Dq ur eps buf l rs B W_/\∀ q,(q=ur\/Dq q)->w.heap.size<=q):=⟨UK,fun q hq=>Φ (Gw.size (show Gw w _ from (by repeat (first | exact Gw.refl _ | exact Ξ δ | exact ag.o δ | refine Gw.drew ?_ | refine Gw.drewN ?_ _)))) (nA q hq)⟩;clear gA UK nA)))
 all_goals
  have av:ag ((HT HR (wA.alloc (.cells #[By eps,By buf,By keys,IS Dp,IS ur,By (live:Int)] 65)) wA.heap.size (fun q=>q=wA.heap.size\/q=ur\/Dq q) eps buf keys l rs B W_ live/\∀ q,(q=wA.heap.size\/q=ur\/Dq q)->w.heap.size<=q)/\Gw w (wA.alloc (.cells #[By eps,By buf,By keys,IS Dp,IS ur,By (live:Int)] 65))):=by
   refine ⟨⟨HT.made HH.o.kp HA.o.1 JL.o.inv JL.o.cf,fun q hq=>?_⟩,FA.o.alloc _ _⟩
   rcases hq with x | x
   ·rw [x];exact FA.o.size
   ·exact HA.o.2 q x
  generalize wA.heap.size=pN at av ⊢;generalize wA.alloc (.cells #[By eps,By buf,By keys,IS Dp,IS ur,By (live:Int)] 65)=wN at av ⊢;go_wp2_with fail;go_ret;exact ⟨⟨pN,_,rfl,av.o.1.1,av.o.1.2⟩,av.o.2⟩
section
variable {w w':World} {base b t:Nat} {rs:List (Option Rn)}
theorem SZ.keep (h:SZ w base b t rs) (k:w'.heap[b]?=w.heap[b]?):SZ w' base b t rs:=⟨h.top,h.row.of_block k,h.new⟩
theorem SZ.gw (h:SZ w base b t rs) (g:Gw w w'):SZ w' base b t rs:=h.keep (g.below.block b h.row.lt)
theorem SZ.le (h:SZ w base b t rs) (kJ:rs.length=40):t<=40:=by have:=h.top.le;omega
end
variable {l:List ah} {x:ah}
theorem aes (h:∀ y∈l,y.k<x.k):ins ah.k x l=l++[x]:=by
 induction l with
 | nil=>rfl
 | cons y l ih =>
  unfold ins;rw [Ym (h y (qat ..)),ih fun z hz=>h z (qay _ hz)]
  rfl
theorem aet (r:aH ah.k l) {i:Nat} (hi:i<l.length):ins ah.k (l.getD i aq) (l.take i)=l.take (i+1):=by
 have e:l.take (i+1)=l.take i++[l.getD i aq]:=by rw [qaW,qah hi,ji hi];rfl
 rw [e];refine aes fun y hy=>?_
 have:=List.pairwise_append.1 (by rw [<-e];exact r.sublist (List.take_sublist _ _):((l.take i++[l.getD i aq]).Pairwise fun a b=>a.k<b.k))
 exact this.2.2 y hy _ (qbg.2 rfl)
theorem aeu (most:Int) (m0:1<=most) (m1:most<=4294967296) (ao:Option Addr) (c:Nat) (l:List ah) (hl:l.length<=2000000) (ok:aR l) (room:(l.length:Int)<most) (pc:Nat) (w:World) (he:EL w ao l) :
  Calls prog 46 #[By most,.slice ao l.length c,IS pc] w fun e w'=>(∃ pb Sb,e=χ (.agg #[IS pb,IS pc])/\HB 114 w' pb Sb most l/\∀ q,Sb q->w.heap.size<=q)/\Gw w w':=by
 have EA:ag (EL w ao l):=he;have OK:ag (aR l):=ok;obtain ⟨n,hn⟩:=qbr l.length;have LN:ag (l.length=n):=hn;have RM:ag ((n:Int)<most):=by rw [<-hn];exact room
 have NW:ag (∀ W,Calls prog 79 #[By most] W fun e w'=>(e=π #[IS (W.heap.size),By 0]/\HB 114 w' W.heap.size (fun q=>q=W.heap.size) most [])/\Gw W w'):=fun W=>aee most m0 m1 W
 rw [hn] at hl ⊢;clear he ok room hn;obtain ⟨bq,aE⟩:=qbr w.heap.size;have BQ:ag (w.heap.size=bq):=aE;have B0:ag (bD w [(bq,#[.pointer none,.pointer none],63)] (w.alloc (.cells #[.pointer none,.pointer none] 63))):=by have a:=(bD.nil (Gw.refl w)).add #[.pointer none,.pointer none] 63;rw [aE] at a;exact a
 clear aE;go_enter func46,ntmps46;go_wp2_with fail;rw [BQ.o];generalize w.alloc (.cells #[.pointer none,.pointer none] 63)=w1 at B0 ⊢;refine Calls.mono (NW.o w1) ?_;rintro e w2 ⟨⟨rfl,jY⟩,g2⟩;have B2:ag (bD w [(bq,#[.pointer none,.pointer none],63)] w2):=B0.o.gw g2;have JP:=ak (B0.o.lie (bq,#[.pointer none,.pointer none],63) ε);dsimp only at JP;obtain ⟨pb,nU⟩:=qbr w1.heap.size;rw [nU] at jY JP ⊢;have H2:ag (HB 114 w2 pb (fun q=>q=pb) most (l.take 0)):=jY
 have S2:ag (∀ q,(fun q=>q=pb) q->bq<q):=fun q (hq:q=pb)=>ω
 clear jY g2 B0 nU NW JP;go_wp2_with fail;go_loopg [18] n (fun gg s18 wr=>∃ (i:Nat) (S:Nat->Prop),s18=By (i:Int)/\i<=n/\n-i<=gg/\ag (HB 114 wr pb S most (l.take i))/\ag (∀ q,S q->bq<q)/\ag (bD w [(bq,#[.pointer none,.pointer none],63)] wr))
 case atStart=>exact ⟨0,_,rfl,Γ _,ω,H2,S2,B2⟩
 case round =>
  clear H2 S2 B2;obtain ⟨i,S,rfl,a1,a2,qi,SS,BX⟩:=hrel;obtain ⟨wS,aS⟩:=qbs wr;subst aS;by_cases ar:i<n
  ·have dH:(i:Int)<(n:Int):=(by omega);have il:i<l.length:=(by rw [LN.o];exact ar);obtain ⟨ab,af,rfl,cN,ju⟩:=(EA.o.gw BX.o.gw0).cells (by rw [LN.o];omega)
   obtain ⟨c0,c1,c2⟩:=ju i il;have rR:=EA.o.ok il;have PU:ag (Calls prog 49 #[IS pb,.agg #[BY (l.getD i aq).k,BY (l.getD i aq).v,.bool (l.getD i aq).g]] (wS.alloc (.cells #[BY (l.getD i aq).k,BY (l.getD i aq).v,.bool (l.getD i aq).g] 71)) fun ex w'=>ex=χ (By 0)/\jv 114 (wS.alloc (.cells #[BY (l.getD i aq).k,BY (l.getD i aq).v,.bool (l.getD i aq).g] 71)) w' pb S most (l.take (i+1))):=by
    have lt:(l.take i).length=i:=(by rw [qav];omega);have:=Ur pb S most (l.take i) (l.getD i aq) ω rR (wS.alloc (.cells #[BY (l.getD i aq).k,BY (l.getD i aq).v,.bool (l.getD i aq).g] 71)) (qi.o.gw ((Gw.refl wS).alloc _ _))
    rw [Uv (by rw [ji il];exact (aR.iff.1 OK.o).2 _ (qaz il)) (by have:=RM.o;omega),aet OK.o.rise il] at this
    exact this
   generalize (l.getD i aq).k=ki at c0 PU;generalize (l.getD i aq).v=vi at c1 PU;generalize (l.getD i aq).g=gi at c2 PU;have B1:ag (bD w [(bq,#[.pointer none,.pointer none],63)] (wS.alloc (.cells #[BY ki,BY vi,.bool gi] 71))):=BX.o.gw ((Gw.refl wS).alloc _ _);clear ju rR;go_wp2_with fail;refine Calls.mono PU.o ?_;rintro e u1 ⟨rfl,S',eQ,JQ,UL⟩;have H9:ag (HB 114 u1 pb S' most (l.take (i+1))):=eQ;have bl:=ak (B1.o.lie (bq,#[.pointer none,.pointer none],63) ε);dsimp only at bl;have S9:ag (∀ q,S' q->bq<q):=fun q hq=>by
    rcases UL q hq with x | x
    ·exact SS.o q x
    ·omega
   have B9:ag (bD w [(bq,#[.pointer none,.pointer none],63)] u1):=⟨Gx.gw B1.o.gw0 JQ (fun q hq=>by have:=SS.o q hq;have:=BQ.o;omega),fun x hx=>by
    have:=B1.o.lie x hx
    rw [qbg.1 hx] at this ⊢;exact (JQ.block bq bl (fun y=>by have:=SS.o bq y;omega)).trans this⟩
   clear eQ JQ UL bl PU B1 BX qi SS;go_wp2_with fail;go_roundg (n-(i+1))
   case measure=>omega
   case rel=>exact ⟨i+1,S',by go_num,ω,Yk _,H9,S9,B9⟩
  ·have ei:i=n:=(by omega);subst ei;have bb:wS.heap[bq]?=some (.cells #[.pointer none,.pointer none] 63 (0,0)):=BX.o.lie (bq,#[.pointer none,.pointer none],63) ε;have T:=ik (o:=1) (u:=IS pc) (ik (o:=0) (u:=IS pb) bb);have T0:((wS.setCell (φ bq 0) (IS pb)).setCell (φ bq 1) (IS pc)).cell? (φ bq 0)=some (IS pb):=aj T rfl;have T1:((wS.setCell (φ bq 0) (IS pb)).setCell (φ bq 1) (IS pc)).cell? (φ bq 1)=some (IS pc):=aj T rfl;have z0:wS.cell? (φ bq 0)=some (.pointer none):=aj bb rfl;have z1:wS.cell? (φ bq 1)=some (.pointer none):=aj bb rfl;have z2:=bC (o:=0) bb;have z3:=bC (o:=1) bb;have z4:=ak bb;have av:ag ((HB 114 ((wS.setCell (φ bq 0) (IS pb)).setCell (φ bq 1) (IS pc)) pb S most l/\∀ q,S q->w.heap.size<=q)/\Gw w ((wS.setCell (φ bq 0) (IS pb)).setCell (φ bq 1) (IS pc))):=by
    have gz:Gx (fun q=>q=bq) wS ((wS.setCell (φ bq 0) (IS pb)).setCell (φ bq 1) (IS pc)):=((Gx.refl (fun q=>q=bq) wS).set (.inl rfl) _ _).set (.inl rfl) _ _
    have h9:=qi.o;rw [qaQ (by rw [LN.o];exact Yk _)] at h9
    refine ⟨⟨h9.gx gz (fun q hq hx=>?_),fun q hq=>?_⟩,Gx.gw BX.o.gw0 gz (fun q hq=>by have:=BQ.o;omega)⟩
    ·have:=SS.o q hq;omega
    ·have:=SS.o q hq;have:=BQ.o;omega
   clear T bb BX qi SS;go_wp2_with fail;exact bodyPost_ret (v:=.agg #[IS pb,IS pc]) (by simp [results,results46,go_sem,T0,T1]) rfl ⟨⟨pb,S,rfl,av.o.1.1,av.o.1.2⟩,av.o.2⟩
variable {rs:List (Option Rn)} {t:Nat}
theorem UM (h:cX rs t) (i:Nat) (q:Int):nw q ((rs.take t).drop i)=nw q (rs.drop i):=by
 have e:rs.drop i=(rs.take t).drop i++List.replicate ((rs.drop i).length-((rs.take t).drop i).length) none:=by
  refine List.ext_getElem? fun j=>?_
  have hj:rs[i+j]?=(rs.drop i)[j]?:=by rw [List.getElem?_drop]
  rw [<-hj];have l1:((rs.take t).drop i).length=t-i:=by rw [qax,qav,qaU h.le]
  have l2:(rs.drop i).length=rs.length-i:=qax;rw [l1,l2];by_cases a:i+j<t
  ·rw [qau (by rw [l1];omega),List.getElem?_drop,List.getElem?_take,Ym a]
  ·rw [qaZ (by rw [l1];omega),qbk]
   by_cases b:i+j<rs.length
   ·have:=h.no (i+j) ω
    rw [qag,qah b] at this;have hle:=h.le;rw [qah b,Ym (by rw [l1];omega)]
    exact congrArg some this
   ·have hle:=h.le
    rw [qbb ω,Yl (by rw [l1];omega)]
 rw [e,Rk];have:=yP q ((rs.drop i).length-((rs.take t).drop i).length) [];rw [qaJ] at this;rw [this];cases nw q ((rs.take t).drop i)<;>rfl
variable {n:Nat}
theorem ma.top {most:Int} {ok:Bool} (h:cX rs t) (c:ma l (rs.take t) most n ok):ma l rs most n ok:=by
 have e1:∀ i q,aM (rs.drop i) q=aM ((rs.take t).drop i) q:=fun i q=>by unfold aM;rw [UM h]
 have e2:∀ q,ct l rs q=ct l (rs.take t) q:=fun q=>by
  have:=UM h 0 q
  rw [List.drop_zero,List.drop_zero] at this;unfold ct newE;rw [this]
 rcases c with ⟨a,b,c,d⟩ | ⟨a,b,c⟩
 ·refine .inl ⟨a,fun i=>?_,c.same e2,d⟩
  obtain ⟨m,m1,m2⟩:=b i;exact ⟨m,m1.same (e1 i),m2⟩
 ·refine .inr ⟨a,b,?_⟩
  rcases c with ⟨i,m,m1,m2⟩ | ⟨m,m1,m2⟩
  ·exact .inl ⟨i,m,m1.same (e1 i),m2⟩
  ·exact .inr ⟨m,m1.same e2,m2⟩
theorem aev (l:List (Option Rn)):tot (cd l)<=tot l:=by
 unfold cd;have r:∀ n,tot (List.replicate n (none:Option Rn))=0:=fun n=>by
  induction n with
  | zero=>rfl
  | succ n ih=>rw [List.replicate_succ,Cz];exact ih
 rw [vU,r];have:=pU l 40;omega
variable {w:World}
theorem aew {base ni:Nat} {v:Value} (h:RO w base v rs) (hb:ni<=base):RO w ni v rs:=by
 refine ⟨h.1,?_⟩;rcases h.2 with q | ⟨b,cap,cur,rfl,hg,r⟩
 ·exact .inl q
 ·exact .inr ⟨b,cap,cur,rfl,Φ hb hg,r⟩
def UO (eps buf keys:Int) (b:List ah) (l:List (Option Rn)) (E:Int) (n:Nat):Prop :=
 (¬ fR eps buf keys/\E=160)\/(fR eps buf keys/\((E≠0/\dS (ek b) (ev b) (eg b) b.length E)\/(aR b/\((buf<=b.length/\E=140)\/((b.length:Int)<buf/\((E≠0/\CZ eps buf l E)\/(CZ eps buf l 0/\((E=161/\ma b (cd l) keys n false)\/(E=0/\ma b (cd l) keys n true)))))))))
def rT (HR:bH) (w w':World) (ex:Ending) (eps buf keys:Int) (b:List ah) (l:List (Option Rn)):Prop :=
 ∃ E n,UO eps buf keys b l E n/\((E≠0/\ex=π #[.pointer none,By E])\/(E=0/\∃ p F,ex=π #[IS p,By 0]/\HT HR w' p F eps buf keys b (cd l) 0 0 n/\∀ q,F q->w.heap.size<=q))
variable {HR:bH}
theorem aex (H:bj HR) (eps buf keys:Int) (ao bo:Option Addr) (c d:Nat) (b:List ah) (l:List (Option Rn)) (hb:b.length+tot l<=2000000) (hl:l.length<=2000000) (hc:b.length<=c) (hd:l.length<=d) (hz:bo=none->l.length=0/\d=0) (w:World) (he:EL w ao b) (hp:PR HR w bo l) :
  Calls prog 18 #[.agg #[By eps,By buf,By keys],.slice ao b.length c,.slice bo l.length d] w fun e w'=>rT HR w w' e eps buf keys b l/\Gw w w':=by
 have HH:ag (bj HR):=H;have CK:ag (∀ W,Calls prog 41 #[.agg #[By eps,By buf,By keys]] W fun e w'=>e=χ (By (fO eps buf keys))/\Gw W w'):=fun W=>Zh eps buf keys W
 have KC:ag (∀ W,Gw w W->Calls prog 42 #[.slice ao b.length c] W fun e w'=>(∃ r:Int,e=χ (By r)/\dS (ek b) (ev b) (eg b) b.length r)/\Gw W w'):=fun W gg=>Hl ao b.length c (ek b) (ev b) (eg b) ω hc W (he.gw gg)
 have CO:ag (∀ W,Gw w W->Calls prog 43 #[By eps,By buf,.slice bo l.length d] W fun e w'=>wo (fun w' p rs=>aP HR w' p rs eps buf 0 0) W w' e eps buf l/\Gw W w'):=fun W gg=>adE H eps buf bo d l hl hd hz W (hp.gw H.kp gg)
 have EA:ag (EL w ao b):=he;have TB:ag (b.length+tot (cd l)<=2000000):=by have:=aev l;show _<=_;omega
 obtain ⟨bq,aE⟩:=qbr w.heap.size;have BQ:ag (w.heap.size=bq):=aE;have B0:ag (bD w [(bq,#[By eps,By buf,By keys],23)] (w.alloc (.cells #[By eps,By buf,By keys] 23))):=by have a:=(bD.nil (Gw.refl w)).add #[By eps,By buf,By keys] 23;rw [aE] at a;exact a
 have FC:ag (∀ W,bD w [(bq,#[By eps,By buf,By keys],23)] W->W.heap[bq]?=some (.cells #[By eps,By buf,By keys] 23 (0,0))):=fun W h=>h.lie (bq,#[By eps,By buf,By keys],23) ε
 obtain ⟨bn,uu⟩:=qbr b.length;have BN:ag (b.length=bn):=uu;obtain ⟨ln,ax⟩:=qbr l.length;rw [uu] at KC hc hb ⊢;rw [ax] at CO hl hd ⊢;clear H he hp hz aE uu ax;go_enter func18,ntmps18;go_wp2_with fail;rw [BQ.o];generalize w.alloc (.cells #[By eps,By buf,By keys] 23)=w1 at B0 ⊢;refine Calls.mono (CK.o w1) ?_;rintro e w2 ⟨rfl,g2⟩;have B2:ag (bD w [(bq,#[By eps,By buf,By keys],23)] w2):=B0.o.gw g2;clear g2 B0 CK;by_cases cf:fR eps buf keys
 ·have ce:fO eps buf keys=0:=Ym cf
  rw [ce];have CF:ag (fR eps buf keys):=cf;have UQ:=cf.2.1;clear ce cf;go_wp2_with fail;refine Calls.mono (KC.o w2 B2.o.gw0) ?_;rintro e w3 ⟨⟨r,rfl,cr⟩,g3⟩;have B3:ag (bD w [(bq,#[By eps,By buf,By keys],23)] w3):=B2.o.gw g3;have CR:ag (dS (ek b) (ev b) (eg b) b.length r):=by have:=cr;rw [<-BN.o] at this;exact this
  clear g3 cr B2 KC;by_cases r0:r=0
  ·subst r0
   have uv:ag (aR b):=CR.o;have bb:=FC.o w3 B3.o;have k0:w3.cell? (φ bq 0)=some (By eps):=aj bb rfl;have k1:w3.cell? (φ bq 1)=some (By buf):=aj bb rfl;have kl:=ak bb;clear bb CR;by_cases rm:(bn:Int)<buf
   ·have t1:decide (buf<=(bn:Int))=false:=(by simp;omega);have RM:ag ((b.length:Int)<buf):=(by rw [BN.o];exact rm);clear rm;go_wp2_with fail;refine Calls.mono (CO.o w3 B3.o.gw0) ?_;rintro e w4 ⟨⟨E,Dr,hE⟩,g4⟩;have B4:ag (bD w [(bq,#[By eps,By buf,By keys],23)] w4):=B3.o.gw g4;rcases hE with ⟨e0,rfl⟩ | ⟨rfl,p4,rfl,n4,Ds⟩
    ·have Qk:(E != 0)=true:=(by simpa using e0);have av:ag (∀ W,Gw w W->rT HR w W (π #[.pointer none,By E]) eps buf keys b l/\Gw w W):=fun W g=>⟨⟨E,0,.inr ⟨CF.o,.inr ⟨uv.o,.inr ⟨RM.o,.inl ⟨e0,Dr⟩⟩⟩⟩,.inl ⟨e0,rfl⟩⟩,g⟩
     clear e0 Dr g4 CO t1 k0 k1 kl;go_wp2_with fail;go_ret2;exact av.o _ B4.o.gw0
    ·have JR:ag (CZ eps buf l 0):=Dr
     have uf:ag (aP HR w4 p4 (cd l) eps buf 0 0/\w3.heap.size<=p4):=⟨Ds,n4⟩;have RN:ag (∀ W,Gw w4 W->Calls prog 45 #[IS p4] W fun e w'=>(∃ (t b c:Nat),e=χ (ψ b 0 t c)/\cX (cd l) t/\RO w' w4.heap.size (ψ b 0 t c) ((cd l).take t))/\Gw W w'):=fun W gg=>(RE (Ds.gw HH.o.kp gg)).mono fun e w' ⟨⟨t,b,c,x1,x2,x3⟩,x4⟩=>⟨⟨t,b,c,x1,x2,aew x3 gg.size⟩,x4⟩
     have mA:=Ds.lt;have bb:=FC.o w4 B4.o;have k0:w4.cell? (φ bq 0)=some (By eps):=aj bb rfl;have k2:w4.cell? (φ bq 2)=some (By keys):=aj bb rfl;have kl:=ak bb;have CN:ag (∀ (wA W:World) (t bR cR:Nat),Gw w4 wA->Gw wA W->cX (cd l) t->RO wA w4.heap.size (ψ bR 0 t cR) ((cd l).take t)->Calls prog 44 #[.slice ao bn c,ψ bR 0 t cR,By keys] W fun e w'=>(∃ (n:Nat) (ok:Bool),e=π #[By (n:Int),.bool ok]/\ma b (cd l) keys n ok)/\Gw W w'):=fun wA W t bR cR g1 g2 tp ro=>by
      have tl:t<=40:=(by have:=tp.le;rw [CY] at this;exact this);have lt:((cd l).take t).length=t:=(by rw [qav,CY];omega);have mF:RO wA w4.heap.size (ψ bR 0 ((cd l).take t).length cR) ((cd l).take t):=(by rw [lt];exact ro);have prA:PR HR W (some (φ bR 0)) ((cd l).take t):=(mF.pr (HR:=HR) fun r hr=>(uf.o.1.runs r (List.mem_of_mem_take hr)).1.gw HH.o.kp g1).gw HH.o.kp g2
      have cap:t<=cR:=by
       rcases ro.2 with ⟨x,_⟩ | ⟨b',cap,cur,x,_,_,hc,_⟩
       ·cases x
       ·injection x with _ _ x3;rw [x3,<-lt];exact hc
      have tt:tot ((cd l).take t)<=tot (cd l):=(by have:=pU (cd l) t;omega);have:=ad4 HH.o ao c bR 0 cR b ((cd l).take t) keys (by have:=CF.o.2.2.1;omega) (by have:=TB.o;omega) (by rw [lt];exact tl) (by rw [lt];exact cap) uv.o.rise W ((EA.o.gw B4.o.gw0).gw (g1.trans g2)) prA
      rw [lt,BN.o] at this;exact this.mono fun e w' ⟨⟨n,ok,e1,e2⟩,g⟩=>⟨⟨n,ok,e1,e2.top tp⟩,g⟩
     have HW:ag (∀ w':World,Gw w4 w'->Gw w4 w'/\w'.cell? (φ bq 2)=some (By keys)/\bq<w'.heap.size):=fun w' gg=>⟨gg,(gg.cell _ _ kl).trans k2,Θ kl gg.size⟩
     have I4:ag (Gw w4 w4):=Gw.refl w4;clear Dr g4 CO n4 Ds t1 k1 bb;go_wp2_with fail;go_region_held3 (fun w'=>Gw w4 w'/\w'.cell? (φ bq 2)=some (By keys)/\bq<w'.heap.size)
      (((refine HW.o _ ?_;repeat (first | exact Ξ δ | exact ag.o δ | refine Gw.drew ?_));done))
      ((
       first
       | (go_at_call 45;refine (RN.o _ (by repeat (first | exact Gw.refl _ | exact Ξ δ | exact ag.o δ | refine Gw.drew ?_ | refine Gw.drewN ?_ _))).mono ?_;rintro ex wA ⟨⟨tA,bA,cA,rfl,UR,US⟩,gA⟩;have FA:ag (Gw w4 wA):=(Gw.trans (by repeat (first | exact Gw.refl _ | exact Ξ δ | exact ag.o δ | refine Gw.drew ?_ | refine Gw.drewN ?_ _)) gA);have Dt:ag (cX (cd l) tA/\RO wA w4.heap.size (ψ bA 0 tA cA) ((cd l).take tA)):=⟨UR,US⟩;clear gA UR US)
       | (go_at_call 44;refine (CN.o wA _ tA bA cA FA.o ξ Dt.o.1 Dt.o.2).mono ?_;rintro ex wB ⟨⟨m,UT,rfl,UW⟩,gB⟩;have FB:ag (Gw w4 wB):=(Gw.trans (by repeat (first | exact Gw.refl _ | exact Ξ δ | exact ag.o δ | refine Gw.drew ?_ | refine Gw.drewN ?_ _)) gB);have JS:ag (ma b (cd l) keys m UT):=UW;clear gB UW)))
     all_goals
      have B5:ag (bD w [(bq,#[By eps,By buf,By keys],23)] wB):=B4.o.gw FB.o;have zF:ag (aP HR wB p4 (cd l) eps buf 0 0/\w3.heap.size<=p4):=⟨uf.o.1.gw HH.o.kp FB.o,uf.o.2⟩;clear FB RN CN HW;cases UT with
      | false =>
       have av:ag (∀ W,Gw w W->rT HR w W (π #[.pointer none,By 161]) eps buf keys b l/\Gw w W):=fun W g=>⟨⟨161,m,.inr ⟨CF.o,.inr ⟨uv.o,.inr ⟨RM.o,.inr ⟨JR.o,.inl ⟨rfl,JS.o⟩⟩⟩⟩⟩,.inl ⟨γ,rfl⟩⟩,g⟩
       go_wp2_with fail;go_ret2
       exact av.o _ B5.o.gw0
      | true =>
       obtain ⟨w5,Iz⟩:=qbs wB;subst Iz;have bb:=FC.o w5 B5.o;have HW:ag (∀ w':World,Gw w5 w'->Gw w5 w'/\w'.cell? (φ bq 0)=some (By eps)/\w'.cell? (φ bq 1)=some (By buf)/\w'.cell? (φ bq 2)=some (By keys)/\bq<w'.heap.size):=fun w' gg=>by have hh:=(gg.below.block bq (ak bb)).trans bb;exact ⟨gg,aj hh rfl,aj hh rfl,aj hh rfl,ak hh⟩
       have I5:ag (Gw w5 w5):=Gw.refl w5;have SK:ag (∀ W,Gw w5 W->Calls prog 46 #[By buf,.slice ao bn c,IS p4] W fun e w'=>(∃ pb Sb,e=χ (.agg #[IS pb,IS p4])/\HB 114 w' pb Sb buf b/\∀ q,Sb q->W.heap.size<=q)/\Gw W w'):=fun W gg=>by
        have:=aeu buf UQ.1 UQ.2 ao c b (by have:=TB.o;omega) uv.o RM.o p4 W (EA.o.gw (B5.o.gw0.trans gg))
        rw [BN.o] at this;exact this
       have aD:ag (∀ (wS:World) (nV:Nat) (rU:Nat->Prop),Gw w5 wS->HB 114 wS nV rU buf b->(∀ q,rU q->w5.heap.size<=q)->rT HR w (wS.alloc (.cells #[By eps,By buf,By keys,IS nV,IS p4,By (m:Int)] 65)) (π #[IS (wS.heap.size),By 0]) eps buf keys b l/\Gw w (wS.alloc (.cells #[By eps,By buf,By keys,IS nV,IS p4,By (m:Int)] 65))):=fun wS nV rU g rV nS=>by
        have hs:HS HR wS nV rU p4 eps buf b (cd l) 0 0:=⟨rV,zF.o.1.gw HH.o.kp g,fun x=>by have:=nS p4 x;have:=zF.o.1.lt;omega,fun r hr q hq hx=>by have:=nS q hq;have:=HH.o.lt (zF.o.1.runs r hr).1.h q hx;omega⟩
        have inv:jt eps buf keys b (cd l) m:=by
         rcases JS.o with ⟨_,x1,x2,x3⟩ | ⟨x,_⟩
         ·refine jt.of (CY l) ?_ (fun r hr=>(zF.o.1.runs r hr).1.ok) x1 uv.o RM.o x2 x3
          rcases JR.o with ⟨x,_⟩ | ⟨x,_⟩ | ⟨_,_,x⟩
          ·cases x
          ·cases x
          ·exact x
         ·cases x
        refine ⟨⟨0,m,.inr ⟨CF.o,.inr ⟨uv.o,.inr ⟨RM.o,.inr ⟨JR.o,.inr ⟨rfl,JS.o⟩⟩⟩⟩⟩,.inr ⟨rfl,_,_,rfl,HT.made HH.o.kp hs inv CF.o,fun q hq=>?_⟩⟩,(B5.o.gw0.trans g).alloc _ _⟩
        have z:=B5.o.gw0.size;have z2:=g.size;rcases hq with x | x | x
        ·omega
        ·have:=zF.o.2;have:=B3.o.gw0.size;omega
        ·have:=nS q x;omega
       clear bb;go_wp2_with fail;go_region_held3 (fun w'=>Gw w5 w'/\w'.cell? (φ bq 0)=some (By eps)/\w'.cell? (φ bq 1)=some (By buf)/\w'.cell? (φ bq 2)=some (By keys)/\bq<w'.heap.size)
        (((refine HW.o _ ?_;repeat (first | exact Ξ δ | exact ag.o δ | refine Gw.drew ?_ | refine Gw.alloc ?_ _ _));done))
        ((
         first
         | (go_at_call 46;refine (SK.o _ (by repeat (first | exact Gw.refl _ | exact Ξ δ | exact ag.o δ | refine Gw.drew ?_ | refine Gw.drewN ?_ _))).mono ?_;rintro ex wS ⟨⟨nV,rU,rfl,rV,nS⟩,gS⟩;have FS_:ag (Gw w5 wS):=(Gw.trans (by repeat (first | exact Gw.refl _ | exact Ξ δ | exact ag.o δ | refine Gw.drew ?_ | refine Gw.drewN ?_ _)) gS);have UX:ag (HB 114 wS nV rU buf b/\∀ q,rU q->w5.heap.size<=q):=⟨rV,fun q hq=>Φ (Gw.size (show Gw w5 _ from (by repeat (first | exact Gw.refl _ | exact Ξ δ | exact ag.o δ | refine Gw.drew ?_ | refine Gw.drewN ?_ _)))) (nS q hq)⟩;clear gS rV nS)))
       all_goals
        have av:ag (rT HR w (wS.alloc (.cells #[By eps,By buf,By keys,IS nV,IS p4,By (m:Int)] 65)) (π #[IS (wS.heap.size),By 0]) eps buf keys b l/\Gw w (wS.alloc (.cells #[By eps,By buf,By keys,IS nV,IS p4,By (m:Int)] 65))):=aD.o wS nV rU FS_.o UX.o.1 UX.o.2;generalize wS.heap.size=pN at av ⊢;generalize (wS.alloc (.cells #[By eps,By buf,By keys,IS nV,IS p4,By (m:Int)] 65))=wN at av ⊢;go_wp2_with fail;go_ret2;exact av.o
   ·have t1:decide (buf<=(bn:Int))=true:=(by simp;omega);have av:ag (∀ W,Gw w W->rT HR w W (π #[.pointer none,By 140]) eps buf keys b l/\Gw w W):=fun W g=>⟨⟨140,0,.inr ⟨CF.o,.inr ⟨uv.o,.inl ⟨by rw [BN.o];omega,rfl⟩⟩⟩,.inl ⟨γ,rfl⟩⟩,g⟩
    clear rm;go_wp2_with fail;go_ret2;exact av.o _ B3.o.gw0
  ·have vK:(r != 0)=true:=(by simpa using r0);have av:ag (∀ W,Gw w W->rT HR w W (π #[.pointer none,By r]) eps buf keys b l/\Gw w W):=fun W g=>⟨⟨r,0,.inr ⟨CF.o,.inl ⟨r0,CR.o⟩⟩,.inl ⟨r0,rfl⟩⟩,g⟩
   clear r0 CR;go_wp2_with fail;go_ret2;exact av.o _ B3.o.gw0
 ·have ce:fO eps buf keys=160:=Yl cf
  rw [ce];have av:ag (∀ W,Gw w W->rT HR w W (π #[.pointer none,By 160]) eps buf keys b l/\Gw w W):=fun W g=>⟨⟨160,0,.inl ⟨cf,rfl⟩,.inl ⟨γ,rfl⟩⟩,g⟩
  clear ce cf;go_wp2_with fail;go_ret2;exact av.o _ B2.o.gw0
variable {eps buf keys:Int}
theorem aey {E:Int} (h:UO eps buf keys [] [] E n) (cf:fR eps buf keys):E=0/\n=0:=by
 have up:cd []=List.replicate 40 none:=rfl;have lv:∀ i q,aM ((List.replicate 40 (none:Option Rn)).drop i) q=false:=fun i q=>by rw [List.drop_replicate];have:=yP q (40-i) [];rw [qaJ] at this;unfold aM;rw [this];rfl
 have ft:fitAll eps buf (cd []) 40:=fun j hj=>by rw [up,qag,qbk,Ym hj];rfl
 have tT:fJ eps buf:=⟨cf.1,cf.2.1⟩;rcases h with ⟨a,_⟩ | ⟨_,h⟩
 ·exact absurd cf a
 ·rcases h with ⟨a,b⟩ | ⟨_,h⟩
  ·exact absurd (b.one (aR.iff.2 ⟨List.Pairwise.nil,ε⟩:aR [])) a
  ·rcases h with ⟨a,_⟩ | ⟨_,h⟩
   ·have:=cf.2.1.1
    simp at a;omega
   ·rcases h with ⟨a,b⟩ | ⟨_,h⟩
    ·rcases b with ⟨_,x | ⟨r,x⟩⟩ | ⟨_,_,x⟩ | ⟨x,_⟩
     ·exact absurd tT x
     ·simp at x
     ·exact absurd ft x
     ·exact absurd x a
    ·rcases h with ⟨_,b⟩ | ⟨e,b⟩
     ·rcases b with ⟨x,_⟩ | ⟨_,_,x⟩
      ·cases x
      ·rw [up] at x
       have k0:=cf.2.2.1.1;rcases x with ⟨i,m,m1,m2⟩ | ⟨m,m1,m2⟩
       ·have:m=0:=m1.one (aT.nil (lv i))
        omega
       ·have:m=0:=m1.one (aT.nil (lv 0))
        omega
     ·rcases b with ⟨_,_,x,_⟩ | ⟨x,_⟩
      ·rw [up] at x
       exact ⟨e,x.one (aT.nil (lv 0))⟩
      ·cases x
def JT (HR:bH) (w w':World) (ex:Ending) (eps buf keys:Int):Prop :=
 (¬ fR eps buf keys/\ex=π #[.pointer none,By 160])\/(fR eps buf keys/\∃ p F,ex=π #[IS p,By 0]/\HT HR w' p F eps buf keys [] (List.replicate 40 none) 0 0 0/\∀ q,F q->w.heap.size<=q)
theorem UY (H:bj HR) (eps buf keys:Int) (w:World) :
  Calls prog 5 #[.agg #[By eps,By buf,By keys]] w fun e w'=>JT HR w w' e eps buf keys/\Gw w w':=by
 have OF:ag (∀ W,Gw w W->Calls prog 18 #[.agg #[By eps,By buf,By keys],.slice none 0 0,.slice none 0 0] W fun e w'=>((¬ fR eps buf keys/\e=π #[.pointer none,By 160])\/(fR eps buf keys/\∃ p F,e=π #[IS p,By 0]/\HT HR w' p F eps buf keys [] (List.replicate 40 none) 0 0 0/\∀ q,F q->w.heap.size<=q))/\Gw W w'):=fun W gg=>(aex H eps buf keys none none 0 0 [] [] γ γ γ γ (fun _=>⟨rfl,rfl⟩) W ⟨fun h=>by simp at h,fun i hi=>by simp at hi⟩ ⟨fun h=>by simp at h,fun r hr=>by cases hr⟩).mono fun e w' ⟨⟨E,n,h1,h2⟩,g⟩=>by
  refine ⟨?_,g⟩;by_cases cf:fR eps buf keys
  ·obtain ⟨rfl,rfl⟩:=aey h1 cf
   rcases h2 with ⟨x,_⟩ | ⟨_,p,F,x1,x2,x3⟩
   ·exact absurd rfl x
   ·exact .inr ⟨cf,p,F,x1,x2,fun q hq=>Φ gg.size (x3 q hq)⟩
  ·have eE:E=160:=by
    rcases h1 with ⟨_,x⟩ | ⟨x,_⟩
    ·exact x
    ·exact absurd x cf
   subst eE;rcases h2 with ⟨_,x⟩ | ⟨x,_⟩
   ·exact .inl ⟨cf,x⟩
   ·exact absurd x γ
 clear H;go_enter func5,ntmps5;go_wp2_with fail;refine Calls.mono (OF.o _ ((Gw.refl w).alloc _ _)) ?_;rintro e w1 ⟨h,gg⟩;have GG:ag (Gw w w1):=((Gw.refl w).alloc _ _).trans gg;clear gg OF;rcases h with ⟨cf,rfl⟩ | ⟨cf,p,F,rfl,ht,hF⟩
 ·have av:ag (JT HR w w1 (π #[.pointer none,By 160]) eps buf keys):=.inl ⟨cf,rfl⟩
  clear cf;go_wp2_with fail;go_ret2;exact ⟨av.o,GG.o⟩
 ·have av:ag (JT HR w w1 (π #[IS p,By 0]) eps buf keys):=.inr ⟨cf,p,F,rfl,ht,hF⟩
  clear cf ht hF;go_wp2_with fail;go_ret2;exact ⟨av.o,GG.o⟩
structure Tw (HR:bH) (w0 w:World) (p:Nat) (F:Nat->Prop) (eps buf keys:Int) (l:List ah) (rs:List (Option Rn)) (B W:Int) (live:Nat):Prop where
 ht:HT HR w p F eps buf keys l rs B W live
 new:∀ q,F q->w0.heap.size<=q
 gw:Gw w0 w
section
variable {HR:bH} {w0 w w':World} {p:Nat} {F:Nat->Prop} {eps buf keys:Int} {l l':List ah} {rs rs':List (Option Rn)} {B W B' W':Int} {live n:Nat} {e:ah}
theorem Tw.to (K:Kp HR) (h:Tw HR w0 w p F eps buf keys l rs B W live) (g:Gw w w'):Tw HR w0 w' p F eps buf keys l rs B W live:=⟨h.ht.gw K g,h.new,h.gw.trans g⟩
theorem Tw.step (h:Tw HR w0 w p F eps buf keys l rs B W live) (c:uo HR w w' p F eps buf keys l rs B W e n):∃ F' l' rs' B' W',Tw HR w0 w' p F' eps buf keys l' rs' B' W' n/\kK HR w w' eps buf l rs B W l' rs' B' W' e/\Dm w F F' rs rs'/\Gx F w w':=by
 obtain ⟨F',l',rs',B',W',a,b,c,d⟩:=c;refine ⟨F',l',rs',B',W',⟨a,fun q hq=>?_,Gx.gw h.gw d h.new⟩,b,c,d⟩
 rcases c.1 q hq with x | x
 ·exact h.new q x
 ·exact Φ h.gw.size x
theorem kK.tot (ok:aR l) (h:kK HR w w' eps buf l rs B W l' rs' B' W' e):l'.length+Go.Proofs.YtaemofgeciklkaaGreat.tot rs'<=l.length+Go.Proofs.YtaemofgeciklkaaGreat.tot rs+1:=by
 have a:=vM (x:=e) ok.rise;rcases h with ⟨_,rfl,rfl,_,_⟩ | ⟨_,rfl,o,kept,rn,tr,ld,rfl,_⟩
 ·omega
 ·have:=adU tr ld
  simp only [List.length_nil];omega
theorem kK.bw (ok:aR l) (h:kK HR w w' eps buf l rs B W l' rs' B' W' e):B<=B'/\B'<=B+1/\W<=W'/\W'<=W+(l.length+Go.Proofs.YtaemofgeciklkaaGreat.tot rs+1:Nat):=by
 have a:=vM (x:=e) ok.rise;rcases h with ⟨_,rfl,rfl,rfl,rfl⟩ | ⟨_,rfl,o,kept,rn,tr,ld,rfl,rfl,rfl⟩
 ·omega
 ·have k:=tr.few.1
  have t:=pU rs (freeC rs+1);have o1:0<=gY kept/\gY kept<=1:=by unfold gY;split<;>decide
  unfold took at k;omega
end
structure BW (l:List ah) (rs:List (Option Rn)) (B W:Int) (t:Nat):Prop where
 few:l.length+tot rs<=t
 b:0<=B/\B<=t
 w:0<=W/\W<=(t:Int)*2000000
variable {HR:bH} {w w':World} {eps buf B W:Int} {l:List ah} {rs:List (Option Rn)} {e:ah} {t:Nat}
theorem BW.step {l':List ah} {rs':List (Option Rn)} {B' W':Int} (h:BW l rs B W t) (ht:t+1<=2000000) (ok:aR l) (c:kK HR w w' eps buf l rs B W l' rs' B' W' e):BW l' rs' B' W' (t+1):=by have a:=c.tot ok;obtain ⟨b1,b2,b3,b4⟩:=c.bw ok;obtain ⟨c1,c2⟩:=h.b;obtain ⟨d1,d2⟩:=h.w;have f:=h.few;exact ⟨ω,⟨ω,ω⟩,⟨ω,by push_cast;omega⟩⟩
theorem BW.new:BW [] (List.replicate 40 none) 0 0 0:=⟨γ,γ,γ⟩
theorem BW.in (h:BW l rs B W t) (ht:t<=1048576):(l.length+1+tot rs<=2000000)/\(0<=B/\B<4611686018427387904)/\0<=W/\W<4611686018427387904:=by obtain ⟨a,b,c⟩:=h;omega
theorem BW.mono {t':Nat} (h:BW l rs B W t) (ht:t<=t'):BW l rs B W t':=by obtain ⟨a,b,c⟩:=h;exact ⟨ω,⟨b.1,ω⟩,c.1,ω⟩
def oW (rs rs':List (Option Rn)):Prop:=rs.map (Option.map Rn.l)=rs'.map (Option.map Rn.l)
section
variable {rs rs':List (Option Rn)}
theorem Du (rs:List (Option Rn)):lists rs=(rs.map (Option.map Rn.l)).filterMap id:=by unfold lists;rw [List.filterMap_map];rfl
theorem oW.lists (h:oW rs rs'):Go.Proofs.YtaemofgeciklkaaGreat.lists rs=Go.Proofs.YtaemofgeciklkaaGreat.lists rs':=by rw [Du,Du,h]
theorem oW.nw (h:oW rs rs') (q:Int):Go.Proofs.YtaemofgeciklkaaGreat.nw q rs=Go.Proofs.YtaemofgeciklkaaGreat.nw q rs':=by unfold Go.Proofs.YtaemofgeciklkaaGreat.nw;rw [h.lists]
theorem oW.newE (h:oW rs rs') (l:List ah) (q:Int):Go.Proofs.YtaemofgeciklkaaGreat.newE l rs q=Go.Proofs.YtaemofgeciklkaaGreat.newE l rs' q:=by unfold Go.Proofs.YtaemofgeciklkaaGreat.newE;rw [h.nw]
theorem oW.val (h:oW rs rs') (l:List ah) (q:Int):bV l rs q=bV l rs' q:=by unfold bV;rw [h.newE]
end
def eB (e:ah):List ah:=if e.g=true then [] else [e]
def qj:Nat->List ah->List ah->List ah
 | 0,all,_=>all
 | _+1,all,[]=>all
 | n+1,[],e::r=>eB e++qj n [] r
 | n+1,a::bI,e::r=>if a.k<e.k then a::qj n bI (e::r) else if a.k=e.k then eB e++qj n bI r else eB e++qj n (a::bI) r
theorem wP:∀ (n m:Nat) (a l:List ah),a.length+l.length<=n->a.length+l.length<=m->qj n a l=qj m a l
 | 0,0,_,_,_,_=>rfl
 | 0,m+1,a,l,h,_=>by
  have e:l=[]:=qbd ω;subst e;rfl
 | n+1,0,a,l,_,h=>by
  have e:l=[]:=qbd ω;subst e;rfl
 | n+1,m+1,a,[],_,_=>rfl
 | n+1,m+1,[],e::r,h,h'=>by
  simp only [qak,List.length_nil] at h h';simp only [qj];rw [wP n m [] r (by simp only [List.length_nil];omega) (by simp only [List.length_nil];omega)]
 | n+1,m+1,a::bI,e::r,h,h'=>by simp only [qak] at h h';simp only [qj];rw [wP n m bI (e::r) (by simp only [qak];omega) (by simp only [qak];omega),wP n m bI r ω ω,wP n m (a::bI) r (by simp only [qak];omega) (by simp only [qak];omega)]
def aX (a l:List ah):List ah:=qj (a.length+l.length) a l
theorem zG (a:List ah):aX a []=a:=by unfold aX;cases a.length+([]:List ah).length<;>rfl
theorem zH (e:ah) (r:List ah):aX [] (e::r)=eB e++aX [] r:=rfl
variable {e:ah}
theorem zI {a:ah} (bI r:List ah) (h:a.k<e.k):aX (a::bI) (e::r)=a::aX bI (e::r):=by
 show (if a.k<e.k then _ else _)=_
 rw [Ym h];exact congrArg (a::·) (wP (bI.length+1+r.length) _ _ _ (by simp only [qak];omega) (Yk _))
theorem zJ {a:ah} (bI r:List ah) (h:a.k=e.k):aX (a::bI) (e::r)=eB e++aX bI r:=by
 show (if a.k<e.k then _ else if a.k=e.k then _ else _)=_
 rw [Yl ω,Ym h];exact congrArg (eB e++·) (wP (bI.length+1+r.length) _ _ _ ω (Yk _))
theorem zK {a:ah} (bI r:List ah) (h:e.k<a.k):aX (a::bI) (e::r)=eB e++aX (a::bI) r:=by
 show (if a.k<e.k then _ else if a.k=e.k then _ else _)=_
 rw [Yl ω,Yl ω];rfl
theorem rW {P:List ah->List ah->Prop} (h0:∀ a,P a []) (h1:∀ e r,P [] r->P [] (e::r)) (h2:∀ a bI e r,a.k<e.k->P bI (e::r)->P (a::bI) (e::r)) (h3:∀ a bI e r,a.k=e.k->P bI r->P (a::bI) (e::r)) (h4:∀ a bI e r,e.k<a.k->P (a::bI) r->P (a::bI) (e::r)):∀ (n:Nat) (a l:List ah),a.length+l.length<=n->P a l
 | _,a,[],_=>h0 a
 | 0,a,e::r,h=>by simp only [qak] at h;omega
 | n+1,[],e::r,h=>h1 e r (rW h0 h1 h2 h3 h4 n [] r (by simp only [qak,List.length_nil] at h ⊢;omega))
 | n+1,a::bI,e::r,h=>by
  simp only [qak] at h;rcases Int.lt_trichotomy a.k e.k with c | c | c
  ·exact h2 a bI e r c (rW h0 h1 h2 h3 h4 n bI (e::r) (by simp only [qak];omega))
  ·exact h3 a bI e r c (rW h0 h1 h2 h3 h4 n bI r ω)
  ·exact h4 a bI e r c (rW h0 h1 h2 h3 h4 n (a::bI) r (by simp only [qak];omega))
variable {x:ah}
theorem JU (h:x∈eB e):x=e/\e.g=false:=by
 unfold eB at h;split at h
 ·cases h
 ·exact ⟨qbg.1 h,by simpa using ‹¬ e.g=true›⟩
theorem wQ (a l:List ah):x∈aX a l->x∈a\/(x∈l/\x.g=false):=by
 refine rW (P:=fun a l=>x∈aX a l->x∈a\/(x∈l/\x.g=false)) (fun a h=>?_) (fun e r ih h=>?_) (fun a bI e r c ih h=>?_) (fun a bI e r c ih h=>?_) (fun a bI e r c ih h=>?_) _ a l (Yk _)
 ·rw [zG] at h;exact .inl h
 ·rw [zH] at h
  rcases qaq.1 h with q | q
  ·obtain ⟨rfl,g⟩:=JU q
   exact .inr ⟨qat ..,g⟩
  ·rcases ih q with q | ⟨q,g⟩
   ·cases q
   ·exact .inr ⟨qay _ q,g⟩
 ·rw [zI _ _ c] at h
  rcases qaf.1 h with q | q
  ·exact .inl (by rw [q];exact qat ..)
  ·rcases ih q with q | q
   ·exact .inl (qay _ q)
   ·exact .inr q
 ·rw [zJ _ _ c] at h
  rcases qaq.1 h with q | q
  ·obtain ⟨rfl,g⟩:=JU q
   exact .inr ⟨qat ..,g⟩
  ·rcases ih q with q | ⟨q,g⟩
   ·exact .inl (qay _ q)
   ·exact .inr ⟨qay _ q,g⟩
 ·rw [zK _ _ c] at h
  rcases qaq.1 h with q | q
  ·obtain ⟨rfl,g⟩:=JU q
   exact .inr ⟨qat ..,g⟩
  ·rcases ih q with q | ⟨q,g⟩
   ·exact .inl q
   ·exact .inr ⟨qay _ q,g⟩
theorem JV {z:List ah} (h:aH ah.k z) (b:∀ x∈z,e.k<x.k):aH ah.k (eB e++z):=by
 unfold eB;split
 ·exact h
 ·exact List.pairwise_cons.2 ⟨b,h⟩
variable {a l:List ah}
theorem aez:aH ah.k a->aH ah.k l->aH ah.k (aX a l):=by
 refine rW (P:=fun a l=>aH ah.k a->aH ah.k l->aH ah.k (aX a l)) (fun a h _=>?_) (fun e r ih h h'=>?_) (fun a bI e r c ih h h'=>?_) (fun a bI e r c ih h h'=>?_) (fun a bI e r c ih h h'=>?_) _ a l (Yk _)
 ·rw [zG];exact h
 ·rw [zH]
  exact JV (ih h h'.tail) fun x hx=>by
   rcases wQ _ _ hx with q | ⟨q,_⟩
   ·cases q
   ·exact h'.head x q
 ·rw [zI _ _ c]
  refine List.pairwise_cons.2 ⟨fun x hx=>?_,ih h.tail h'⟩
  rcases wQ _ _ hx with q | ⟨q,_⟩
  ·exact h.head x q
  ·rcases qaf.1 q with q | q
   ·rw [q];exact c
   ·have:=h'.head x q;omega
 ·rw [zJ _ _ c]
  exact JV (ih h.tail h'.tail) fun x hx=>by
   rcases wQ _ _ hx with q | ⟨q,_⟩
   ·have:=h.head x q;omega
   ·exact h'.head x q
 ·rw [zK _ _ c]
  exact JV (ih h h'.tail) fun x hx=>by
   rcases wQ _ _ hx with q | ⟨q,_⟩
   ·rcases qaf.1 q with q | q
    ·rw [q];exact c
    ·have:=h.head x q;omega
   ·exact h'.head x q
def Dv (o p:Option ah):Option ah:=match o with
 | some e=>if e.g=true then none else some e
 | none=>p
theorem JW (q:Int) (e:ah) (z:List ah):look ah.k q (eB e++z)=if e.k=q then (if e.g=true then look ah.k q z else some e) else look ah.k q z:=by
 unfold eB;cases h:e.g
 ·show look ah.k q (e::z)=_
  rw [de];simp
 ·simp
theorem aeA (q:Int):aH ah.k a->aH ah.k l->look ah.k q (aX a l)=Dv (look ah.k q l) (look ah.k q a):=by
 refine rW (P:=fun a l=>aH ah.k a->aH ah.k l->look ah.k q (aX a l)=Dv (look ah.k q l) (look ah.k q a)) (fun a h _=>?_) (fun e r ih h h'=>?_) (fun a bI e r c ih h h'=>?_) (fun a bI e r c ih h h'=>?_) (fun a bI e r c ih h h'=>?_) _ a l (Yk _)
 ·rw [zG];rfl
 ·rw [zH,JW,ih h h'.tail,de]
  by_cases c:e.k=q
  ·subst c
   rw [Ym rfl,Ym rfl,aH.below h'.head];rfl
  ·rw [Yl c,Yl c]
 ·rw [zI _ _ c,de,ih h.tail h',de q a]
  by_cases d:a.k=q
  ·subst d
   rw [Ym rfl,Ym rfl,aH.below (l:=e::r) fun x hx=>by
    rcases qaf.1 hx with y | y
    ·rw [y];exact c
    ·have:=h'.head x y;omega]
   rfl
  ·rw [Yl d,Yl d]
 ·rw [zJ _ _ c,JW,ih h.tail h'.tail,de q e,de q a]
  by_cases d:e.k=q
  ·subst d
   rw [Ym rfl,Ym rfl,aH.below h'.head,aH.below (l:=bI) fun x hx=>by have:=h.head x hx;omega]
   rfl
  ·rw [Yl d,Yl d,Yl ω]
 ·rw [zK _ _ c,JW,ih h h'.tail,de q e]
  by_cases d:e.k=q
  ·subst d
   rw [Ym rfl,Ym rfl,aH.below h'.head,aH.below (l:=a::bI) fun x hx=>by
    rcases qaf.1 hx with y | y
    ·rw [y];exact c
    ·have:=h.head x y;omega]
   rfl
  ·rw [Yl d,Yl d]
theorem UZ (q:Int) (x:List ah) (L:List (List ah)):df ah.k q (x::L)=(look ah.k q x).or (df ah.k q L):=by rw [df];cases look ah.k q x<;>rfl
def bE (L:List (List ah)):List ah:=L.foldl aX []
theorem U2 (L:List (List ah)) (x:List ah):bE (L++[x])=aX (bE L) x:=by unfold bE;rw [List.foldl_append];rfl
theorem U3 (q:Int):∀ L:List (List ah),(∀ l∈L,aH ah.k l)->aH ah.k (bE L.reverse)/\(∀ x∈bE L.reverse,x.g=false)/\look ah.k q (bE L.reverse)=Dv (df ah.k q L) none
 | [],_=>⟨List.Pairwise.nil,fun x hx=>(by cases hx),rfl⟩
 | x::L,h=>by
  obtain ⟨a,b,c⟩:=U3 q L fun l hl=>h l (qay _ hl)
  have hx:=h x (qat ..);rw [List.reverse_cons,U2];refine ⟨aez a hx,fun y hy=>?_,?_⟩
  ·rcases wQ _ _ hy with z | ⟨_,z⟩
   ·exact b y z
   ·exact z
  ·rw [aeA q a hx,c]
   rw [UZ];cases look ah.k q x<;>rfl
variable {rs:List (Option Rn)}
theorem U4 (hl:aH ah.k l) (hr:∀ r,some r∈rs->aH ah.k r.l):aH ah.k (bE ((lists rs).reverse++[l]))/\(∀ x∈bE ((lists rs).reverse++[l]),x.g=false)/\(∀ q,(look ah.k q (bE ((lists rs).reverse++[l]))).map ah.v=bV l rs q)/\aT (ct l rs) (bE ((lists rs).reverse++[l])).length:=by
 have hL:∀ x∈l::lists rs,aH ah.k x:=fun x hx=>by
  rcases qaf.1 hx with rfl | y
  ·exact hl
  ·rw [Du,List.mem_filterMap] at y
   obtain ⟨o,ho,e⟩:=y;obtain ⟨u,hu,rfl⟩:=qaA.1 ho;cases u with
   | none=>cases e
   | some r=>cases e;exact hr r hu
 have e:(lists rs).reverse++[l]=(l::lists rs).reverse:=by rw [List.reverse_cons]
 rw [e];have A:=fun q=>U3 q _ hL
 have V:∀ q,(look ah.k q (bE (l::lists rs).reverse)).map ah.v=bV l rs q:=fun q=>by
  rw [(A q).2.2];show _=zp ((look ah.k q l).or (df ah.k q (lists rs)));have f:df ah.k q (l::lists rs)=(look ah.k q l).or (df ah.k q (lists rs)):=UZ q l _;rw [f];cases (look ah.k q l).or (df ah.k q (lists rs)) with
  | none=>rfl
  | some x=>unfold Dv zp;cases hg:x.g<;>simp [hg]
 refine ⟨(A 0).1,(A 0).2.1,V,(bE (l::lists rs).reverse).map ah.k,adW (A 0).1,fun q=>?_,ε⟩
 rw [<-zq,<-V q,Option.isSome_map];constructor
 ·intro h
  obtain ⟨x,hx,rfl⟩:=qaA.1 h;rw [Cy (A 0).1 hx];rfl
 ·intro h
  obtain ⟨x,hx⟩:=Option.isSome_iff_exists.1 h;exact qaA.2 ⟨x,List.mem_of_find?_eq_some hx,Ch hx⟩
theorem wR (l:List ah) {i:Nat} (h:i<l.length):l.drop i=l.getD i aq::l.drop (i+1):=by rw [List.drop_eq_getElem_cons h];simp [List.getD,h]
variable {k j:Nat}
theorem aeB (hk:k<a.length) (hj:j<l.length) (c:(a.getD k aq).k<(l.getD j aq).k):aX (a.drop k) (l.drop j)=a.getD k aq::aX (a.drop (k+1)) (l.drop j):=by rw [wR a hk,wR l hj,zI _ _ c]
theorem aeC (hk:k<a.length) (hj:j<l.length) (c:(a.getD k aq).k=(l.getD j aq).k):aX (a.drop k) (l.drop j)=eB (l.getD j aq)++aX (a.drop (k+1)) (l.drop (j+1)):=by rw [wR a hk,wR l hj,zJ _ _ c]
theorem U5 (hj:j<l.length) (c:k<a.length->(l.getD j aq).k<(a.getD k aq).k):aX (a.drop k) (l.drop j)=eB (l.getD j aq)++aX (a.drop k) (l.drop (j+1)):=by
 rw [wR l hj];by_cases hk:k<a.length
 ·rw [wR a hk,zK _ _ (c hk)]
 ·rw [qbp (Nat.le_of_not_lt hk),zH]
theorem U6 (hj:l.length<=j):aX (a.drop k) (l.drop j)=a.drop k:=by rw [qbp hj,zG]
def qm:ah:=⟨1,10,false⟩
def rX:ah:=⟨2,20,false⟩
def uw:ah:=⟨3,30,false⟩
def wV:ah:=⟨4,40,false⟩
def U7:Nat->List ah
 | 0=>[]
 | 1=>[qm]
 | 2=>[qm,rX]
 | _=>[qm,rX,uw]
def rY (m:Nat) (l:List ah) (rs:List (Option Rn)) (B W:Int):Prop :=
 (m<=3/\l=U7 m/\rs=List.replicate 40 none/\B=0/\W=0)\/(m=4/\l=[]/\(∃ r,rs=some r::List.replicate 39 none/\r.l=[qm,rX,uw,wV])/\B=1/\W=4)
theorem aeD (n:Nat) (q:Int):nw q (List.replicate n none)=none:=by
 have:=yP q n []
 rw [qaJ] at this;rw [this];rfl
variable {B W:Int}
theorem aeE {m:Nat} (hm:m<4) (h:rY m l rs B W):bV l rs ((m:Int)+1)=none:=by
 rcases h with ⟨_,rfl,rfl,_,_⟩ | ⟨x,_⟩
 ·unfold bV newE
  rw [aeD]
  match m,hm with
  | 0,_=>rfl
  | 1,_=>rfl
  | 2,_=>rfl
  | 3,_=>rfl
 ·omega
variable {HR:bH} {w w':World}
theorem aeF {m:Nat} {l':List ah} {rs':List (Option Rn)} {B' W':Int} (hm:m<4) (h:rY m l rs B W) (c:kK HR w w' 2 4 l rs B W l' rs' B' W' ⟨(m:Int)+1,10*((m:Int)+1),false⟩):rY (m+1) l' rs' B' W':=by
 rcases h with ⟨_,rfl,rfl,rfl,rfl⟩ | ⟨x,_⟩
 ·match m,hm with
  | 0,_ =>
   rcases c with ⟨_,rfl,rfl,rfl,rfl⟩ | ⟨x,_⟩
   ·exact .inl ⟨γ,rfl,rfl,rfl,rfl⟩
   ·exact absurd x γ
  | 1,_ =>
   rcases c with ⟨_,rfl,rfl,rfl,rfl⟩ | ⟨x,_⟩
   ·exact .inl ⟨γ,rfl,rfl,rfl,rfl⟩
   ·exact absurd x γ
  | 2,_ =>
   rcases c with ⟨_,rfl,rfl,rfl,rfl⟩ | ⟨x,_⟩
   ·exact .inl ⟨γ,rfl,rfl,rfl,rfl⟩
   ·exact absurd x γ
  | 3,_ =>
   rcases c with ⟨x,_⟩ | ⟨_,rfl,o,kept,rn,tr,ld,rfl,rfl,rfl⟩
   ·exact absurd x γ
   ·have il:ins ah.k ⟨((3:Nat):Int)+1,10*(((3:Nat):Int)+1),false⟩ (U7 3)=[qm,rX,uw,wV]:=rfl
    have f0:freeC (List.replicate 40 none)=0:=rfl;have eo:o=[qm,rX,uw,wV]:=(by have mg:=tr.mg;rw [il] at mg;refine mg.one (b:=[qm,rX,uw,wV]) ?_;rw [show lists ((List.replicate 40 (none:Option Rn)).take (freeC (List.replicate 40 none)+1))=[] from rfl];exact ⟨rfl,rfl,rfl,rfl,rfl⟩);have ek:kept=[qm,rX,uw,wV]:=by rw [tr.kp,eo];rfl
    rcases ld with ⟨x,_⟩ | ⟨_,r,rfl,_,rl,_⟩
    ·rw [ek] at x;cases x
    ·refine .inr ⟨rfl,rfl,⟨r,rfl,by rw [rl,ek]⟩,?_,?_⟩
     ·rw [ek];rfl
     ·rw [ek];rfl
 ·omega
theorem aeG (w:World):Calls prog 15 #[] w fun e w'=>e=χ (.agg #[By 2,By 4,By 100])/\Gw w w':=by go_enter func15,ntmps15;go_wp2_with fail;exact bodyPost_ret (v:=.agg #[By 2,By 4,By 100]) (by simp [results,results15,go_sem]) rfl ⟨rfl,(Gw.refl w).alloc _ _⟩
theorem aeH (H:bj HR) (w:World):Calls prog 4 #[] w fun e w'=>e=χ (.bool true)/\Gw w w':=by
 have HH:ag (bj HR):=H;have NW:ag (∀ W,Gw w W->Calls prog 5 #[.agg #[By 2,By 4,By 100]] W fun e w'=>(∃ p F,e=π #[IS p,By 0]/\Tw HR w w' p F 2 4 100 [] (List.replicate 40 none) 0 0 0)/\Gw W w'):=fun W gg=>(UY H 2 4 100 W).mono fun e w' ⟨h,g⟩=>by
  rcases h with ⟨x,_⟩ | ⟨_,p,F,x1,x2,x3⟩
  ·exact absurd (by unfold fR;decide) x
  ·exact ⟨⟨p,F,x1,x2,fun q hq=>Φ gg.size (x3 q hq),gg.trans g⟩,g⟩
 have PU:ag (∀ (W:World) (p:Nat) (F:Nat->Prop) (l:List ah) (rs:List (Option Rn)) (B W_:Int) (m:Nat),m<4->Tw HR w W p F 2 4 100 l rs B W_ m->rY m l rs B W_->Calls prog 10 #[IS p,BY ((m:Int)+1),BY (10*((m:Int)+1))] W fun e w'=>e=χ (By 0)/\∃ F' l' rs' B' W',Tw HR w w' p F' 2 4 100 l' rs' B' W' (m+1)/\rY (m+1) l' rs' B' W'):=fun W p F l rs B W_ m hm ht hs=>by
  have bd:(l.length+1+tot rs<=2000000)/\(0<=B/\B<4611686018427387904)/\0<=W_/\W_<4611686018427387904:=by
   rcases hs with ⟨a,rfl,rfl,rfl,rfl⟩ | ⟨a,_⟩
   ·match m,hm with
    | 0,_=>exact ⟨γ,γ,γ⟩
    | 1,_=>exact ⟨γ,γ,γ⟩
    | 2,_=>exact ⟨γ,γ,γ⟩
    | 3,_=>exact ⟨γ,γ,γ⟩
   ·omega
  refine (UI HH.o ht.ht bd.1 bd.2.1 bd.2.2 ((m:Int)+1) (10*((m:Int)+1)) ω ω).mono fun e w' h=>?_
  have vn:=aeE hm hs;rcases h with ⟨⟨_,x⟩,_⟩ | ⟨_,x,y⟩
  ·omega
  ·rw [vn,Ym rfl] at y
   obtain ⟨F',l',rs',B',W',a,b,_⟩:=ht.step y;exact ⟨x,F',l',rs',B',W',a,aeF hm hs b⟩
 clear H;go_enter func4,ntmps4;go_wp2_with fail;refine (aeG w).mono ?_;rintro e w1 ⟨rfl,g1⟩;have G1:ag (Gw w w1):=g1;clear g1;go_wp2_with fail;refine Calls.mono (NW.o w1 G1.o) ?_;rintro e w2 ⟨⟨p,F,rfl,ht⟩,g2⟩;have T2:ag (∃ F l rs B W,Tw HR w w2 p F 2 4 100 l rs B W 0/\rY 0 l rs B W):=⟨F,_,_,_,_,ht,.inl ⟨γ,rfl,rfl,rfl,rfl⟩⟩;have qn:∀ (W:World),(binOp .eql 26 (IS p) (.pointer none)).run prog W=.ok (.bool false) W:=fun _=>η
 clear ht g2 NW G1;go_wp2_with fail;go_loopg [3] 5 (fun gg s3 wr=>∃ m:Nat,s3=BY ((m:Int)+1)/\m<=4/\4-m<gg/\ag (∃ F l rs B W,Tw HR w wr p F 2 4 100 l rs B W m/\rY m l rs B W))
 case atStart=>exact ⟨0,rfl,ω,ω,T2⟩
 case round =>
  clear T2;obtain ⟨m,rfl,a1,a2,T⟩:=hrel;by_cases ar:m<4
  ·have t1:decide ((m:Int)+1<=4)=true:=(by simp;omega);have w1:IntKind.u64.wrap (10*((m:Int)+1))=10*((m:Int)+1):=(by rw [qao];omega);have w2:IntKind.u64.wrap ((m:Int)+1+1)=((m+1:Nat):Int)+1:=(by rw [qao];omega);obtain ⟨F,l,rs,B,W,x1,x2⟩:=T.o;have PC:=PU.o wr p F l rs B W m ar x1 x2;clear x1 x2 T;go_wp2_with fail;refine Calls.mono PC ?_;rintro e u1 ⟨rfl,hT⟩;have T':ag (∃ F l rs B W,Tw HR w u1 p F 2 4 100 l rs B W (m+1)/\rY (m+1) l rs B W):=hT;clear hT PC;go_wp2_with fail;go_roundg (4-m)
   case measure=>omega
   case rel=>exact ⟨m+1,by first | rfl | (rw [w2]) | (congr 1;omega),ω,ω,T'⟩
  ·have em:m=4:=(by omega);subst em;obtain ⟨F,l,rs,B,W,x1,x2⟩:=T.o;rcases x2 with ⟨x,_⟩ | ⟨_,rfl,⟨r,rfl,rl⟩,rfl,rfl⟩
   ·exact absurd x γ
   have TW:ag (Tw HR w wr p F 2 4 100 [] (some r::List.replicate 39 none) 1 4 4):=x1;have RL:ag (r.l=[qm,rX,uw,wV]):=rl;have ST:ag (Calls prog 16 #[IS p] wr fun e w'=>(∃ b,e=χ (.agg #[By 4,By 0,By 1,By 4,ψ b 0 1 1])/\wr.heap.size<=b/\w'.cell? (φ b 0)=some (By 4)/\b<w'.heap.size)/\Gw wr w'):=(UJ HH.o x1.ht).mono fun e w' ⟨⟨b,t,e1,sz⟩,g⟩=>by
    have t1:t=1:=sz.top.one ⟨ε,fun i hi=>by
     rw [qag];obtain ⟨j,rfl⟩:∃ j,i=j+1:=⟨i-1,ω⟩;rw [List.getElem?_cons_succ,qbk];split<;>rfl,.inr ⟨r,rfl⟩⟩
    subst t1;refine ⟨⟨b,e1,sz.new,?_⟩,g⟩;have c:=sz.row.cell (i:=0) γ;rw [show ((some r::List.replicate 39 none:List (Option Rn)).getD 0 none)=some r from rfl,show fQ (some r)=4 by show r.l.length=4;rw [rl];rfl] at c
    exact ⟨c,sz.row.lt⟩
   clear x1 rl T;go_wp2_with fail;refine Calls.mono ST.o ?_;rintro e u1 ⟨⟨b,rfl,nb,hb,bG⟩,gg⟩;obtain ⟨bs,JX⟩:=qbr u1.heap.size;have BS:ag (u1.heap.size=bs):=JX;have T1:ag (Tw HR w (u1.alloc (.cells #[By 4,By 0,By 1,By 4,ψ b 0 1 1] 46)) p F 2 4 100 [] (some r::List.replicate 39 none) 1 4 4):=TW.o.to HH.o.kp (gg.alloc _ _);have K1:ag (bD wr [(bs,#[By 4,By 0,By 1,By 4,ψ b 0 1 1],46)] (u1.alloc (.cells #[By 4,By 0,By 1,By 4,ψ b 0 1 1] 46))/\(u1.alloc (.cells #[By 4,By 0,By 1,By 4,ψ b 0 1 1] 46)).cell? (φ b 0)=some (By 4)/\wr.heap.size<=b/\b<u1.heap.size):=by
    refine ⟨by rw [<-JX];exact (bD.nil gg).add _ _,?_,nb,bG⟩
    exact (((Gw.refl u1).alloc _ _).cell _ _ bG).trans hb
   clear hb nb gg ST JX;go_upto_region 11 with fail;rw [BS.o];have wX:ag (u1.heap.size<(u1.alloc (.cells #[By 4,By 0,By 1,By 4,ψ b 0 1 1] 46)).heap.size):=(by show _<_;simp);generalize u1.alloc (.cells #[By 4,By 0,By 1,By 4,ψ b 0 1 1] 46)=v1 at T1 K1 wX ⊢;have FW:ag (∀ q,F q->q<wr.heap.size):=fun q hq=>TW.o.ht.lt HH.o.kp q (.inl hq)
   have KK:ag (∀ v2,Gx F v1 v2->v2.heap[bs]?=some (.cells #[By 4,By 0,By 1,By 4,ψ b 0 1 1] 46 (0,0))/\v2.cell? (φ b 0)=some (By 4)/\b<v2.heap.size):=fun v2 g=>by
    have k:=K1.o.1.lie (bs,#[By 4,By 0,By 1,By 4,ψ b 0 1 1],46) ε;have z:=K1.o.1.gw0.size;have bw:wr.heap.size<=bs:=(by rw [<-BS.o];have:=K1.o.2.2;omega);refine ⟨(g.block bs (ak k) (fun x=>by have:=FW.o bs x;omega)).trans k,?_,Θ (by have:=wX.o;have:=K1.o.2.2.2;omega) g.size⟩
    have e:=g.block b (by have:=wX.o;have:=K1.o.2.2.2;omega) (fun x=>by have:=FW.o b x;have:=K1.o.2.2.1;omega)
    have c:=K1.o.2.1;unfold World.cell? at c ⊢;simp only at c ⊢;rw [e];exact c
   have V2:bV [] (some r::List.replicate 39 none) 2=some 20:=(by unfold bV newE;rw [rI,RL.o];rfl);have DL:ag (Calls prog 12 #[IS p,BY 2] v1 fun e w'=>e=χ (.bool true)/\(∃ F',Tw HR w w' p F' 2 4 100 [⟨2,0,true⟩] (some r::List.replicate 39 none) 1 4 3)/\Gx F v1 w'):=(JM HH.o T1.o.ht (by rw [vT,RL.o];decide) γ γ 2 γ).mono fun e w' h=>by
    rcases h with ⟨x,_⟩ | ⟨_,x,_,y⟩
    ·rw [V2] at x;cases x
    ·obtain ⟨F',l',rs',B',W',a,b,_,d⟩:=T1.o.step y
     rcases b with ⟨_,rfl,rfl,rfl,rfl⟩ | ⟨z,_⟩
     ·exact ⟨x,⟨F',a⟩,d⟩
     ·exact absurd z γ
   clear V2 K1 T1 TW;go_wp2_with fail;refine Calls.mono DL.o ?_;rintro e v2 ⟨rfl,⟨F2,t2⟩,g2⟩;have T2:ag (Tw HR w v2 p F2 2 4 100 [⟨2,0,true⟩] (some r::List.replicate 39 none) 1 4 3):=t2;have K2:ag (v2.heap[bs]?=some (.cells #[By 4,By 0,By 1,By 4,ψ b 0 1 1] 46 (0,0))/\v2.cell? (φ b 0)=some (By 4)/\b<v2.heap.size):=KK.o v2 g2;have V2:bV [⟨2,0,true⟩] (some r::List.replicate 39 none) 2=none:=(by unfold bV newE;rw [rI,RL.o];rfl);have V3:bV [⟨2,0,true⟩] (some r::List.replicate 39 none) 3=some 30:=(by unfold bV newE;rw [rI,RL.o];rfl);have U8:ag (Calls prog 12 #[IS p,BY 2] v2 fun e w'=>e=χ (.bool false)/\Gw v2 w'):=(JM HH.o t2.ht (by rw [vT,RL.o];decide) γ γ 2 γ).mono fun e w' h=>by
    rcases h with ⟨_,x,g⟩ | ⟨x,_⟩
    ·exact ⟨x,g⟩
    ·exact absurd V2 x
   have G3:ag (∀ W,Gw v2 W->Calls prog 17 #[IS p,BY 3] W fun e w'=>e=π #[BY 30,.bool true]/\Gw W w'):=fun W g=>by
    have:=zC HH.o (t2.ht.gw HH.o.kp g) γ 3 γ γ
    rw [V3] at this;exact this
   have G2:ag (∀ W,Gw v2 W->Calls prog 17 #[IS p,BY 2] W fun e w'=>e=π #[BY 0,.bool false]/\Gw W w'):=fun W g=>by
    have:=zC HH.o (t2.ht.gw HH.o.kp g) γ 2 γ γ
    rw [V2] at this;exact this
   clear V2 V3 t2 g2 DL KK;go_wp2_with fail;refine Calls.mono U8.o ?_;rintro e v3 ⟨rfl,g3⟩;have GA:ag (Gw v2 v3):=g3;clear g3 U8;go_wp2_with fail;refine Calls.mono (G3.o v3 GA.o) ?_;rintro e v4 ⟨rfl,g4⟩;have GB:ag (Gw v2 v4):=GA.o.trans g4;clear g4 GA G3;go_wp2_with fail;refine Calls.mono (G2.o v4 GB.o) ?_;rintro e v5 ⟨rfl,g5⟩;have GC:ag (Gw v2 v5):=GB.o.trans g5;have b5:=(GC.o.below.block bs (ak K2.o.1)).trans K2.o.1;have s0:v5.cell? (φ bs 0)=some (By 4):=aj b5 rfl;have s1:v5.cell? (φ bs 1)=some (By 0):=aj b5 rfl;have s2:v5.cell? (φ bs 2)=some (By 1):=aj b5 rfl;have s3:v5.cell? (φ bs 3)=some (By 4):=aj b5 rfl;have s4:v5.cell? (φ bs 4)=some (ψ b 0 1 1):=aj b5 rfl;have sl:=ak b5;have sb:v5.cell? (φ b 0)=some (By 4):=(GC.o.cell _ _ K2.o.2.2).trans K2.o.2.1;have sbl:b<v5.heap.size:=Θ K2.o.2.2 GC.o.size;have av:ag (Gw w v5):=T2.o.gw.trans GC.o;clear g5 b5 GB GC G2 K2 T2;go_wp2_with fail;go_ret;exact ⟨rfl,av.o⟩
