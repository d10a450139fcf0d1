/- Towers in memory. -/
import Derived.Test.YtcboobmfnmgldaaGreatBUOf2
import Derived.Test.YtcboobmfnmgldaaGreatBQPut
set_option linter.unusedVariables false
set_option maxHeartbeats 4000000
set_option maxRecDepth 20000
open Go.Proofs.Tryz
namespace Go.Proofs.YtcboobmfnmgldaaGreat
open Go.RowKit
def lO (eps buf keys:Int) (pb pc:Nat) (live:Nat):Array Value:=#[AI eps,AI buf,AI keys,BY pb,BY pc,AI (live:Int)]
structure HS (HR:bQ) (w:World) (pb:Nat) (Sb:Nat->Prop) (pc:Nat) (eps buf:Int) (l:List ah) (rs:List (Option Rn)) (B W:Int):Prop where
 hb:HB 115 w pb Sb buf l
 hc:aP HR w pc rs eps buf B W
 nc:¬ Sb pc
 nr:∀ r,some r∈rs->∀ q,Sb q->¬ r.S q
structure HT (HR:bQ) (w:World) (p:Nat) (F:Nat->Prop) (eps buf keys:Int) (l:List ah) (rs:List (Option Rn)) (B W:Int) (live:Nat):Prop where
 lies:∃ pb Sb pc,w.heap[p]?=some (.cells (lO eps buf keys pb pc live) 69 (0,0))/\HS HR w pb Sb pc eps buf l rs B W/\p≠pc/\¬ Sb p/\(∀ r,some r∈rs->¬ r.S p)/\∀ q,F q↔q=p\/q=pc\/Sb q
 inv:gh eps buf keys l rs live
 cf:eX eps buf keys
section
variable {HR:bQ} {w w':World} {p pb pc:Nat} {F Sb:Nat->Prop} {eps buf keys:Int} {l:List ah} {rs:List (Option Rn)} {B W:Int} {live:Nat}
theorem HS.keep (K:Kp HR) (h:HS HR w pb Sb pc eps buf l rs B W) (k:∀ q,(Sb q\/q=pc\/∃ r,some r∈rs/\r.S q)->w'.heap[q]?=w.heap[q]?):HS HR w' pb Sb pc eps buf l rs B W :=
 ⟨h.hb.keep fun q hq=>k q (.inl hq),⟨(k pc (.inr (.inl rfl))).trans h.hc.blk,h.hc.len,fun r hr=>⟨(h.hc.runs r hr).1.keep K fun q hq=>k q (.inr (.inr ⟨r,hr,hq⟩)),(h.hc.runs r hr).2⟩,h.hc.e0,h.hc.e1,h.hc.b0,h.hc.b1⟩,h.nc,h.nr⟩
theorem HS.lt (K:Kp HR) (h:HS HR w pb Sb pc eps buf l rs B W):∀ q,(Sb q\/q=pc\/∃ r,some r∈rs/\r.S q)->q<w.heap.size:=fun q hq=>by
 rcases hq with x | x | ⟨r,x,y⟩
 ·exact h.hb.lt q x
 ·rw [x];exact h.hc.lt
 ·exact K.lt (h.hc.runs r x).1.h q y
theorem HS.gw (K:Kp HR) (h:HS HR w pb Sb pc eps buf l rs B W) (g:Gw w w'):HS HR w' pb Sb pc eps buf l rs B W:=h.keep K fun q hq=>g.below.block q (h.lt K q hq)
theorem HT.keep (K:Kp HR) (h:HT HR w p F eps buf keys l rs B W live) (k:∀ q,(F q\/∃ r,some r∈rs/\r.S q)->w'.heap[q]?=w.heap[q]?):HT HR w' p F eps buf keys l rs B W live:=by
 obtain ⟨pb,Sb,pc,h1,h2,h3,h4,h5,h6⟩:=h.lies;exact ⟨⟨pb,Sb,pc,(k p (.inl ((h6 p).2 (.inl rfl)))).trans h1,h2.keep K fun q hq=>k q (by
  rcases hq with x | x | x
  ·exact .inl ((h6 q).2 (.inr (.inr x)))
  ·exact .inl ((h6 q).2 (.inr (.inl x)))
  ·exact .inr x),h3,h4,h5,h6⟩,h.inv,h.cf⟩
theorem HT.lt (K:Kp HR) (h:HT HR w p F eps buf keys l rs B W live):∀ q,(F q\/∃ r,some r∈rs/\r.S q)->q<w.heap.size:=fun q hq=>by
 obtain ⟨pb,Sb,pc,h1,h2,h3,h4,h5,h6⟩:=h.lies;rcases hq with x | x
 ·rcases (h6 q).1 x with y | y | y
  ·rw [y];exact aC h1
  ·exact h2.lt K q (.inr (.inl y))
  ·exact h2.lt K q (.inl y)
 ·exact h2.lt K q (.inr (.inr x))
theorem HT.own (h:HT HR w p F eps buf keys l rs B W live):F p:=by
 obtain ⟨pb,Sb,pc,h1,h2,h3,h4,h5,h6⟩:=h.lies;exact (h6 p).2 (.inl rfl)
theorem HT.gw (K:Kp HR) (h:HT HR w p F eps buf keys l rs B W live) (g:Gw w w'):HT HR w' p F eps buf keys l rs B W live:=h.keep K fun q hq=>g.below.block q (h.lt K q hq)
theorem HT.pr (h:HT HR w p F eps buf keys l rs B W live):∀ r,some r∈rs->RA HR w r:=fun r hr=>by
 obtain ⟨pb,Sb,pc,h1,h2,h3,h4,h5,h6⟩:=h.lies;exact (h2.hc.runs r hr).1
end
def mT (HR:bQ) (w w':World) (eps buf:Int) (l:List ah) (rs:List (Option Rn)) (B W:Int) (l':List ah) (aM:List (Option Rn)) (B' W':Int) (e:ah):Prop :=
 (((ins ah.k e l).length:Int)<buf/\l'=ins ah.k e l/\aM=rs/\B'=B/\W'=W) \/
 (((ins ah.k e l).length:Int)=buf/\l'=[]/\∃ o kept rn,iV rs (ins ah.k e l) o kept/\kI HR w w' eps kept rn/\aM=laid rs rn/\B'=B+ju kept/\W'=W+kept.length)
def GM (w:World) (F F':Nat->Prop) (rs aM:List (Option Rn)):Prop:=(∀ q,F' q->F q\/w.heap.size<=q)/\∀ r,some r∈aM->some r∈rs\/∀ q,r.S q->w.heap.size<=q
theorem acC (o:Option ah):QZ o=.tuple #[(de o).1,.bool (de o).2]:=by
 cases o with
 | none=>rfl
 | some e=>rfl
variable {HR:bQ} {w:World} {pb pc:Nat} {Sb:Nat->Prop} {eps buf B:Int} {l:List ah} {rs:List (Option Rn)}
theorem acD (H:bJ HR) {W:Int} (h:HS HR w pb Sb pc eps buf l rs B W) (hn:l.length<=4000000) (q:Int) (q0:0<=q) (q1:q<18446744073709551616) :
  Calls prog 27 #[.agg #[BY pb,BY pc],By q] w fun e w'=>e=.returned (.tuple #[(de (dB l rs q)).1,.bool (de (dB l rs q)).2])/\Gw w w':=by
 obtain ⟨x,y,z,t,f1,f2,_⟩:=nV (look ah.k q l);have G1:ag (∀ W,Gw w W->Calls prog 49 #[BY pb,By q] W fun e w'=>e=.returned (.tuple #[.agg #[By x,By y,.bool z],.bool t])/\Gw W w'):=fun W gg=>by
  have:=acA pb Sb buf l q hn W (h.hb.gw gg)
  rw [acC,f1] at this;exact this
 obtain ⟨x',y',z',t',rS,Rk,_⟩:=nV (nw q rs);have G2:ag (∀ W,Gw w W->Calls prog 50 #[BY pc,By q] W fun e w'=>e=.returned (.tuple #[.agg #[By x',By y',.bool z'],.bool t'])/\Gw W w'):=fun W gg=>by
  have:=abq H (h.hc.gw H.kp gg) q q0 q1
  rw [rS] at this;exact this
 have hb:=h.hb.lt pb h.hb.own;have hc:=h.hc.lt;cases t with
 | true =>
  have R:de (dB l rs q)=(.agg #[By x,By y,.bool z],true):=by
   rw [<-f1];unfold dB;cases hk:look ah.k q l with
   | none=>rw [hk] at f2;cases f2
   | some e=>rfl
  rw [R];clear R f1 f2 rS Rk G2 h H;go_enter func27,ntmps27;go_wp2_with fail;obtain ⟨bq,aE⟩:∃ b,w.heap.size=b:=⟨_,rfl⟩;have BQ:ag (w.heap.size=bq):=aE;have B0:ag (aT w [(bq+1,#[By 0,By 0,.bool false],75),(bq,#[BY pb,BY pc],67)] ((w.alloc (.cells #[BY pb,BY pc] 67)).alloc (.cells #[By 0,By 0,.bool false] 75))):=by
   have a:=((aT.nil (Gw.refl w)).add #[BY pb,BY pc] 67).add #[By 0,By 0,.bool false] 75;have e:(w.alloc (.cells #[BY pb,BY pc] 67)).heap.size=bq+1:=by simp [aE]
   rw [e,aE] at a;exact a
  rw [aE];generalize (w.alloc (.cells #[BY pb,BY pc] 67)).alloc (.cells #[By 0,By 0,.bool false] 75)=w1 at B0 ⊢;refine Calls.mono (G1.o _ B0.o.gw0) ?_;rintro e u1 ⟨rfl,gg⟩;have B1:=(B0.o.gw gg).add #[By x,By y,.bool z] 75;obtain ⟨bx,dT⟩:∃ b,u1.heap.size=b:=⟨_,rfl⟩;have BX:ag (u1.heap.size=bx):=dT;rw [dT] at B1;clear gg G1 dT aE B0;go_upto_region 2 with fail;rw [BX.o];generalize u1.alloc (.cells #[By x,By y,.bool z] 75)=U at B1 ⊢;have E0:U.heap[bq+1]?=some (.cells #[By 0,By 0,.bool false] 75 (0,0)):=B1.lie (bq+1,#[By 0,By 0,.bool false],75) (by simp)
  have E1:U.heap[bx]?=some (.cells #[By x,By y,.bool z] 75 (0,0)):=B1.lie (bx,#[By x,By y,.bool z],75) (by simp)
  have GU:ag (Gw w U):=B1.gw0;obtain ⟨x0,x1,x2,_⟩:=kH E1;obtain ⟨m0,m1,m2,z0,z1,z2,bl,TT⟩:=kH E0;have T3:=TT x y z;have BS:ag (w.heap.size<=bq+1):=by have:=BQ.o;show _<=_;omega
  clear E0 E1 B1 TT;go_wp2_with fail;exact bodyPost_ret (v:=.tuple #[.agg #[By x,By y,.bool z],.bool true]) (by simp [results,results27,go_sem,T3.1,T3.2.1,T3.2.2]) rfl ⟨rfl,((GU.o.setCell BS.o _).setCell BS.o _).setCell BS.o _⟩
 | false =>
  have R:de (dB l rs q)=(.agg #[By x',By y',.bool z'],t'):=by
   rw [<-rS];unfold dB;cases hk:look ah.k q l with
   | none=>rfl
   | some e=>rw [hk] at f2;cases f2
  rw [R];clear R f1 f2 rS Rk h H;go_enter func27,ntmps27;go_wp2_with fail;obtain ⟨bq,aE⟩:∃ b,w.heap.size=b:=⟨_,rfl⟩;have BQ:ag (w.heap.size=bq):=aE;have B0:ag (aT w [(bq+1,#[By 0,By 0,.bool false],75),(bq,#[BY pb,BY pc],67)] ((w.alloc (.cells #[BY pb,BY pc] 67)).alloc (.cells #[By 0,By 0,.bool false] 75))):=by
   have a:=((aT.nil (Gw.refl w)).add #[BY pb,BY pc] 67).add #[By 0,By 0,.bool false] 75;have e:(w.alloc (.cells #[BY pb,BY pc] 67)).heap.size=bq+1:=by simp [aE]
   rw [e,aE] at a;exact a
  rw [aE];generalize (w.alloc (.cells #[BY pb,BY pc] 67)).alloc (.cells #[By 0,By 0,.bool false] 75)=w1 at B0 ⊢;refine Calls.mono (G1.o _ B0.o.gw0) ?_;rintro e u1 ⟨rfl,gg⟩;have B1:=(B0.o.gw gg).add #[By x,By y,.bool z] 75;obtain ⟨bx,dT⟩:∃ b,u1.heap.size=b:=⟨_,rfl⟩;have BX:ag (u1.heap.size=bx):=dT;rw [dT] at B1;clear gg G1 dT aE B0;go_upto_region 2 with fail;rw [BX.o];generalize u1.alloc (.cells #[By x,By y,.bool z] 75)=U at B1 ⊢;have E2:U.heap[bq]?=some (.cells #[BY pb,BY pc] 67 (0,0)):=B1.lie (bq,#[BY pb,BY pc],67) (by simp)
  have s1:U.cell? ⟨bq,1,none⟩=some (BY pc):=aj E2 rfl;have sl:=aC E2;have B2:ag (aT w [(bx,#[By x,By y,.bool z],75),(bq+1,#[By 0,By 0,.bool false],75),(bq,#[BY pb,BY pc],67)] U):=B1;clear E2 B1;go_wp2_with fail;refine Calls.mono (G2.o _ B2.o.gw0) ?_;rintro e u2 ⟨rfl,gg⟩;have B3:=B2.o.gw gg;have E0:u2.heap[bq+1]?=some (.cells #[By 0,By 0,.bool false] 75 (0,0)):=B3.lie (bq+1,#[By 0,By 0,.bool false],75) (by simp)
  have GU:ag (Gw w u2):=B3.gw0;obtain ⟨m0,m1,m2,z0,z1,z2,bl,TT⟩:=kH E0;have T3:=TT x' y' z';have BS:ag (w.heap.size<=bq+1):=by have:=BQ.o;show _<=_;omega
  clear E0 B3 B2 TT gg G2;go_wp2_with fail;exact bodyPost_ret (v:=.tuple #[.agg #[By x',By y',.bool z'],.bool t']) (by simp [results,results27,go_sem,T3.1,T3.2.1,T3.2.2]) rfl ⟨rfl,((GU.o.setCell BS.o _).setCell BS.o _).setCell BS.o _⟩
def iK (HR:bQ) (w w':World) (pb:Nat) (Sb:Nat->Prop) (pc:Nat) (eps buf:Int) (l:List ah) (rs:List (Option Rn)) (B W:Int) (e:ah):Prop :=
 ∃ uv l' aM B' W',HS HR w' pb uv pc eps buf l' aM B' W'/\mT HR w w' eps buf l rs B W l' aM B' W' e/\GM w (fun q=>q=pc\/Sb q) (fun q=>q=pc\/uv q) rs aM
variable {e:ah}
theorem Rl (ig:¬ (e.g=true/\e.v≠0)) (room:(l.length:Int)<buf):kK buf l e=(0,ins ah.k e l):=by
 unfold kK;rw [if_neg ig,if_neg (fun x=>by omega)]
theorem Rm (ok:aW l) (ig:¬ (e.g=true/\e.v≠0)):aW (ins ah.k e l):=aW.iff.2 ⟨ok.rise.ins,vQ (P:=fun x:ah=>¬ (x.g=true/\x.v≠0)) ig (aW.iff.1 ok).2⟩
variable {W_:Int}
theorem Ro (H:bJ HR) (h:HS HR w pb Sb pc eps buf l rs B W_) (e:ah) (ok:aW l) (xF:e.ok) (ig:¬ (e.g=true/\e.v≠0)) (room:(l.length:Int)<buf) (few:l.length+1+tot rs<=2000000) (hB:0<=B/\B<4611686018427387904) (hW:0<=W_/\W_<4611686018427387904) :
  Calls prog 22 #[.agg #[BY pb,BY pc],.agg #[By e.k,By e.v,.bool e.g]] w fun ex w'=>ex=.returned (.tuple #[])/\iK HR w w' pb Sb pc eps buf l rs B W_ e/\Gx (fun q=>q=pc\/Sb q) w w':=by
 have HH:ag (bJ HR):=H;have jx:ag (HS HR w pb Sb pc eps buf l rs B W_):=h;have LE:=Ae (x:=e) ok.rise;have PU:ag (∀ W,Gw w W->Calls prog 45 #[BY pb,.agg #[By e.k,By e.v,.bool e.g]] W fun ex w'=>ex=.returned (AI 0)/\kL 115 W w' pb Sb buf (ins ah.k e l)):=fun W gg=>by
  have:=Rh pb Sb buf l e (by omega) xF W (h.hb.gw gg)
  rw [Rl ig room] at this;exact this
 have pbl:=h.hb.lt pb h.hb.own;have GN:=h.hc.lt;have PN:pc≠pb:=fun x=>h.nc (by rw [x];exact h.hb.own)
 obtain ⟨bq,aE⟩:∃ b,w.heap.size=b:=⟨_,rfl⟩;have BQ:ag (w.heap.size=bq):=aE;have jy:ag ((ins ah.k e l).length+tot rs<=2000000/\aW (ins ah.k e l)/\(0<=B/\B<4611686018427387904)/\0<=W_/\W_<4611686018427387904):=⟨by omega,Rm ok ig,hB,hW⟩
 obtain ⟨l',eS⟩:∃ l',ins ah.k e l=l':=⟨_,rfl⟩;have LL:ag (ins ah.k e l=l'):=eS;rw [eS] at PU jy LE;clear h H eS ok ig xF few hB hW;obtain ⟨ek,ev,eg⟩:=e;simp only at PU ⊢;have B0:ag (aT w [(bq+1,#[By ek,By ev,.bool eg],75),(bq,#[BY pb,BY pc],67)] ((w.alloc (.cells #[BY pb,BY pc] 67)).alloc (.cells #[By ek,By ev,.bool eg] 75))):=by
  have a:=((aT.nil (Gw.refl w)).add #[BY pb,BY pc] 67).add #[By ek,By ev,.bool eg] 75;have e:(w.alloc (.cells #[BY pb,BY pc] 67)).heap.size=bq+1:=by simp [aE]
  rw [e,aE] at a;exact a
 clear aE;go_enter func22,ntmps22;go_wp2_with fail;rw [BQ.o];generalize (w.alloc (.cells #[BY pb,BY pc] 67)).alloc (.cells #[By ek,By ev,.bool eg] 75)=w1 at B0 ⊢;refine Calls.mono (PU.o _ B0.o.gw0) ?_;rintro ex u1 ⟨rfl,S1,rv,rz,s1⟩;have Rp:ag (∀ q,Sb q->q<bq):=fun q hq=>by have:=jx.o.hb.lt q hq;rw [BQ.o] at this;exact this
 have E1:u1.heap[bq]?=some (.cells #[BY pb,BY pc] 67 (0,0)):=by
  have x:=B0.o.lie (bq,#[BY pb,BY pc],67) (by simp)
  exact (rz.block bq (aC x) (fun y=>by have:=Rp.o bq y;omega)).trans x
 have k0:u1.cell? ⟨bq,0,none⟩=some (BY pb):=aj E1 rfl;have k1:u1.cell? ⟨bq,1,none⟩=some (BY pc):=aj E1 rfl;have kl:=aC E1;have FU:ag (Calls prog 46 #[BY pb] u1 fun e w'=>e=.returned (.bool ((l'.length:Int) == buf))/\Gw u1 w'):=Re pb S1 buf l' u1 rv
 have wG:ag (Gx Sb w u1):=(B0.o.gw0.gx Sb).trans rz (fun q hq=>.inl hq)
 have pG:ag (HB 115 u1 pb S1 buf l'):=rv;have NS2:ag (∀ q,S1 q->Sb q\/bq<q):=fun q hq=>(s1 q hq).imp id (fun x=>by
  have:=aC (B0.o.lie (bq+1,#[By ek,By ev,.bool eg],75) (by simp))
  dsimp only at this;omega)
 have uw:ag (∀ q,S1 q->Sb q\/w.heap.size<=q):=fun q hq=>(s1 q hq).imp id (fun x=>Nat.le_trans B0.o.gw0.size x)
 have Rq:ag (u1.heap[bq]?=some (.cells #[BY pb,BY pc] 67 (0,0))):=E1;clear rv rz s1 E1 PU B0;go_wp2_with fail;refine Calls.mono FU.o ?_;rintro ex u2 ⟨rfl,g2⟩;have E2:u2.heap[bq]?=some (.cells #[BY pb,BY pc] 67 (0,0)):=(g2.below.block bq kl).trans Rq.o;have AV:ag (Gx Sb w u2):=wG.o.tw g2;have jw:ag (HB 115 u2 pb S1 buf l'):=pG.o.gw g2;have Rr:ag (aP HR u2 pc rs eps buf B W_):=jx.o.hc.gx HH.o.kp AV.o jx.o.nc (fun q hq r hr=>jx.o.nr r hr q hq)
 have EX2:ag (u2.heap[bq]?=some (.cells #[BY pb,BY pc] 67 (0,0))):=E2;have m0:u2.cell? ⟨bq,0,none⟩=some (BY pb):=aj E2 rfl;have m1:u2.cell? ⟨bq,1,none⟩=some (BY pc):=aj E2 rfl;have ml:=aC E2;clear g2 E2 k0 k1 kl FU wG pG Rq;by_cases fl:(l'.length:Int)=buf
 ·have t1:((l'.length:Int) == buf)=true:=by simpa using fl
  rw [t1];have BK:ag (∀ W b,Gx S1 u2 W->Gx (fun q=>q=pc) W b->b.heap[bq]?=some (.cells #[BY pb,BY pc] 67 (0,0))):=fun W b g1 g2=>by
   have a1:=(g1.block bq ml (fun x=>by
    rcases NS2.o bq x with y | y
    ·have:=Rp.o bq y;omega
    ·omega)).trans EX2.o
   exact (g2.block bq (aC a1) (fun x=>by have:=BQ.o;omega)).trans a1
  have EM:ag (∀ W,Gw u2 W->Calls prog 48 #[BY pb] W fun e w'=>(∃ bo c,e=.returned (.slice bo l'.length c)/\EO w' 0 (.slice bo l'.length c) l'/\(l'.length<=c/\(bo=none->l'.length=0/\c=0))/\(∀ q,(Value.slice bo l'.length c).ownBlock=some q->S1 q/\q≠pb)/\HB 115 w' pb (fun q=>q=pb) buf [])/\Gx S1 u2 w'):=fun W gg=>(acz pb S1 buf l' (by omega) W (jw.o.gw gg)).mono fun e w' ⟨⟨v',x1,x2,x3,x4⟩,x5⟩=>by
   obtain ⟨bo,c,ev,y1,y2⟩:=pQ x2;subst ev;exact ⟨⟨bo,c,x1,x2,⟨y1,y2⟩,x3,x4⟩,(gg.gx S1).trans x5 (fun q hq=>.inl hq)⟩
  have FL:ag ((l'.length:Int)=buf):=fl;have TK:ag (∀ (wA W:World) (bo:Option Addr) (c:Nat),Gx S1 u2 wA->Gw wA W->EO wA 0 (.slice bo l'.length c) l'->(l'.length<=c/\(bo=none->l'.length=0/\c=0))->Calls prog 47 #[BY pc,.slice bo l'.length c] W fun e w'=>(∃ j t k,e=.returned (.tuple #[.agg #[AI (j:Int),AI (t:Int),AI (k:Int)],AI 0]))/\(∃ o kept rn,iV rs l' o kept/\kI HR W w' eps kept rn/\aP HR w' pc (laid rs rn) eps buf (B+ju kept) (W_+kept.length))/\Gx (fun q=>q=pc) W w'):=fun wA W bo c g1 g2 heo Rs=>by
   have hcA:aP HR W pc rs eps buf B W_:=(Rr.o.gx HH.o.kp g1 (fun x=>by
     rcases uw.o pc x with y | y
     ·exact jx.o.nc y
     ·omega) (fun q hq r hr hx=>by
     rcases uw.o q hq with y | y
     ·exact jx.o.nr r hr q y hx
     ·have:=HH.o.lt (jx.o.hc.runs r hr).1.h q hx;omega)).gw HH.o.kp g2
   refine (abL HH.o hcA bo c l' ((vS heo jw.o.ok).gw g2) Rs.1 Rs.2 jy.o.1 jy.o.2.2.1 jy.o.2.2.2).mono fun e w' ⟨⟨r0,cr,x⟩,g⟩=>?_
   have e0:r0=0:=cr.one jy.o.2.1;rcases x with ⟨x,_⟩ | ⟨_,x,_⟩ | ⟨_,_,o,kp,rn,tr,he,ld,kC⟩
   ·exact absurd e0 x
   ·exact absurd FL.o x
   ·exact ⟨⟨_,_,_,he⟩,⟨o,kp,rn,tr,ld,kC⟩,g⟩
  obtain ⟨ln,au⟩:∃ n,l'.length=n:=⟨_,rfl⟩;have LN:ag (l'.length=ln):=au;rw [au] at EM TK;clear t1 fl au;go_wp2_with fail;go_region_held3 (fun w'=>w'.cell? ⟨bq,0,none⟩=some (BY pb)/\w'.cell? ⟨bq,1,none⟩=some (BY pc))
   (((first | exact ⟨m0,m1⟩ | exact ag.o (by assumption) | assumption);done))
   ((
    first
    | (go_at_call 48;refine (EM.o _ (by repeat (first | exact Gw.refl _ | exact And.left (by assumption) | exact ag.o (by assumption) | refine Gw.drew ?_ | refine Gw.drewN ?_ _))).mono ?_;rintro ex wA ⟨⟨oh,cA,rfl,Rt,Ru,obA,Rv⟩,gA⟩;have PA:ag (∀ w',Gw wA w'->w'.cell? ⟨bq,0,none⟩=some (BY pb)/\w'.cell? ⟨bq,1,none⟩=some (BY pc)):=(fun w' gg=>⟨(gg.cell _ _ (aC (BK.o wA wA gA (Gx.refl _ _)))).trans (aj (BK.o wA wA gA (Gx.refl _ _)) rfl),(gg.cell _ _ (aC (BK.o wA wA gA (Gx.refl _ _)))).trans (aj (BK.o wA wA gA (Gx.refl _ _)) rfl)⟩);have PA0:=PA.o wA (Gw.refl _);have AW:ag (Gx S1 u2 wA):=gA;have HBA:ag (HB 115 wA pb (fun q=>q=pb) buf []):=Rv;have Rw:ag (EO wA 0 (.slice oh ln cA) l'/\(ln<=cA/\(oh=none->ln=0/\cA=0))):=⟨Rt,Ru⟩;clear Rt Ru obA Rv gA)
    | (go_at_call 47;refine (TK.o wA _ oh cA AW.o (by first | exact Gw.refl _ | exact (Gw.refl _).drew) Rw.o.1 Rw.o.2).mono ?_;rintro ex wB ⟨⟨j,t,k,rfl⟩,GO,gB⟩;have PB:wB.cell? ⟨bq,0,none⟩=some (BY pb)/\wB.cell? ⟨bq,1,none⟩=some (BY pc):=(by have x:=BK.o _ wB (AW.o.tw (by first | exact Gw.refl _ | exact (Gw.refl _).drew)) gB;exact ⟨aj x rfl,aj x rfl⟩);have Rx:ag (Gx (fun q=>q=pc) wA wB):=((Gw.gx (by first | exact Gw.refl _ | exact (Gw.refl _).drew) _).trans gB (fun q hq=>.inl hq));have TO:ag (∃ o kept rn,iV rs l' o kept/\kI HR wA wB eps kept rn/\aP HR wB pc (laid rs rn) eps buf (B+ju kept) (W_+kept.length)):=(by first | exact GO | (obtain ⟨o,kept,rn,a,b,c⟩:=GO;exact ⟨o,kept,rn,a,b,c⟩));clear GO gB)))
  all_goals
   have ak:ag (iK HR w wB pb Sb pc eps buf l rs B W_ ⟨ek,ev,eg⟩/\Gx (fun q=>q=pc\/Sb q) w wB):=by
    obtain ⟨o,kept,rn,tr,ld,kC⟩:=TO.o;have sz:w.heap.size<=wA.heap.size:=Nat.le_trans AV.o.size AW.o.size;have nrn:∀ r,rn=some r->∀ q,r.S q->w.heap.size<=q:=fun r hr q hq=>by
     rcases ld with ⟨_,x⟩ | ⟨_,r',x,_,_,_,y,_⟩
     ·rw [x] at hr;cases hr
     ·rw [x] at hr;cases hr;exact Nat.le_trans sz (y q hq)
    have inl:∀ r,some r∈laid rs rn->some r∈rs\/∀ q,r.S q->w.heap.size<=q:=fun r hr=>by
     unfold laid at hr;rcases List.mem_append.1 hr with q | q
     ·simp at q
     ·rcases List.mem_cons.1 q with q | q
      ·exact .inr (nrn r q.symm)
      ·exact .inl (List.mem_of_mem_drop q)
    have ld':kI HR w wB eps kept rn:=by
     rcases ld with x | ⟨a,r,b1,b2,b3,b4,b5,b6⟩
     ·exact .inl x
     ·exact .inr ⟨a,r,b1,b2,b3,b4,fun q hq=>Nat.le_trans sz (b5 q hq),b6⟩
    refine ⟨⟨fun q=>q=pb,[],laid rs rn,B+ju kept,W_+kept.length,⟨HBA.o.gx Rx.o (fun q hq hx=>PN (hx.symm.trans hq)),kC,PN,fun r hr q hq hx=>?_⟩,.inr ⟨by rw [LL.o];exact FL.o,rfl,o,kept,rn,by rw [LL.o];exact tr,ld',rfl,rfl,rfl⟩,fun q hq=>?_,inl⟩,?_⟩
    ·rcases inl r hr with y | y
     ·exact jx.o.nr r y pb jx.o.hb.own (by rw [<-hq];exact hx)
     ·have:=y q hx;omega
    ·rcases hq with y | y
     ·exact .inl (.inl y)
     ·rw [y];exact .inl (.inr jx.o.hb.own)
    ·exact ((AV.o.mono (S':=fun q=>q=pc\/Sb q) fun q hq=>.inl (.inr hq)).trans AW.o (fun q hq=>(uw.o q hq).imp .inr id)).trans Rx.o (fun q hq=>.inl (.inl hq))
   go_end0
   exact ⟨rfl,ak.o⟩
 ·have t1:((l'.length:Int) == buf)=false:=by simpa using fl
  rw [t1];have ak:ag (iK HR w u2 pb Sb pc eps buf l rs B W_ ⟨ek,ev,eg⟩/\Gx (fun q=>q=pc\/Sb q) w u2):=by
   refine ⟨⟨S1,l',rs,B,W_,⟨jw.o,Rr.o,fun x=>?_,fun r hr q hq hx=>?_⟩,.inl ⟨?_,LL.o.symm,rfl,rfl,rfl⟩,fun q hq=>?_,fun r hr=>.inl hr⟩,?_⟩
   ·rcases uw.o pc x with y | y
    ·exact jx.o.nc y
    ·have:=jx.o.hc.lt;omega
   ·rcases uw.o q hq with y | y
    ·exact jx.o.nr r hr q y hx
    ·have:=HH.o.lt (jx.o.hc.runs r hr).1.h q hx;omega
   ·rw [LL.o];have:=jw.o.room;omega
   ·rcases hq with y | y
    ·exact .inl (.inl y)
    ·exact (uw.o q y).imp .inr id
   ·exact AV.o.mono fun q hq=>.inl (.inr hq)
  clear t1 fl;go_wp2_with fail;go_end0;exact ⟨rfl,ak.o⟩
def AY (o:Option Int):Value:=.tuple #[By (o.getD 0),.bool o.isSome]
variable {p live:Nat} {keys:Int}
theorem HT.cells {HR:bQ} {F:Nat->Prop} {l:List ah} {rs:List (Option Rn)} {B W_:Int} (h:w.heap[p]?=some (.cells (lO eps buf keys pb pc live) 69 (0,0))):(w.cell? ⟨p,0,none⟩=some (AI eps)/\w.cell? ⟨p,1,none⟩=some (AI buf)/\w.cell? ⟨p,2,none⟩=some (AI keys))/\w.cell? ⟨p,3,none⟩=some (BY pb)/\w.cell? ⟨p,4,none⟩=some (BY pc)/\w.cell? ⟨p,5,none⟩=some (AI (live:Int))/\w.frozen? ⟨p,5,none⟩=false/\p<w.heap.size :=
 ⟨⟨aj h rfl,aj h rfl,aj h rfl⟩,aj h rfl,aj h rfl,aj h rfl,bT h,aC h⟩
variable {F:Nat->Prop}
theorem HT.fewN {N:Nat} (h:HT HR w p F eps buf keys l rs B W_ live) (t:l.length+tot rs<=N):live<=N:=by
 obtain ⟨ks,k1,k2,k3⟩:=h.inv.all;have a:=h.inv.ok.rise;have:ks.length<=(l.map ah.k++(lists rs).flatMap (List.map ah.k)).length:=wY k1 fun x hx=>by
  have fP:=(k2 x).1 hx;unfold bE dB at fP;cases hk:look ah.k x l with
  | some y=>exact List.mem_append.2 (.inl (List.mem_map.2 ⟨y,vW hk⟩))
  | none =>
   rw [hk] at fP;cases hn:nw x rs with
   | none=>rw [hn] at fP;cases fP
   | some e =>
    have:∀ ls:List (List ah),cI ah.k x ls=some e->∃ l∈ls,e∈l/\e.k=x:=by
     intro ls;induction ls with
     | nil=>intro h;cases h
     | cons l ls ih =>
      intro h;simp only [cI] at h;cases hk:look ah.k x l with
      | some y=>rw [hk] at h;cases h;exact ⟨l,List.mem_cons_self ..,vW hk⟩
      | none =>
       rw [hk] at h;obtain ⟨l',a,b⟩:=ih h;exact ⟨l',List.mem_cons_of_mem _ a,b⟩
    obtain ⟨l,a,b,c⟩:=this _ hn;exact List.mem_append.2 (.inr (List.mem_flatMap.2 ⟨l,a,List.mem_map.2 ⟨e,b,c⟩⟩))
 rw [List.length_append,List.length_map,List.length_flatMap] at this;have t':l.length+((lists rs).map fun a=>a.length).sum<=N:=t
 simp at this;omega
theorem HT.few (h:HT HR w p F eps buf keys l rs B W_ live) (t:l.length+tot rs<=2000000):live<=2000000:=h.fewN t
theorem AZ (H:bJ HR) (h:HT HR w p F eps buf keys l rs B W_ live) (hn:l.length<=4000000) (q:Int) (q0:0<=q) (q1:q<18446744073709551616) :
  Calls prog 15 #[BY p,By q] w fun e w'=>e=.returned (AY (dK l rs q))/\Gw w w':=by
 obtain ⟨pb,Sb,pc,h1,h2,h3,h4,h5,h6⟩:=h.lies;obtain ⟨_,c3,c4,_,_,pl⟩:=HT.cells (HR:=HR) (F:=F) (l:=l) (rs:=rs) (B:=B) (W_:=W_) h1;obtain ⟨x,y,z,t,f1,f2,f3⟩:=nV (dB l rs q);have SG:ag (Calls prog 27 #[.agg #[BY pb,BY pc],By q] w fun e w'=>e=.returned (.tuple #[.agg #[By x,By y,.bool z],.bool t])/\Gw w w'):=by
  have:=acD H h2 hn q q0 q1
  rw [f1] at this;exact this
 have R:AY (dK l rs q)=.tuple #[By (if t&&!z then y else 0),.bool (t&&!z)]:=by
  unfold dK;cases hk:dB l rs q with
  | none =>
   rw [hk] at f2;subst f2;rfl
  | some e =>
   rw [hk] at f1 f2;subst f2;have rS:(Value.agg #[By e.k,By e.v,.bool e.g],true)=(Value.agg #[By x,By y,.bool z],(some e).isSome):=f1;simp at rS;obtain ⟨_,e2,e3⟩:=rS;subst e2;subst e3;obtain ⟨ek,ev,eg⟩:=e;cases eg<;>rfl
 rw [R];clear R f1 f2 f3 h h1 h2 h3 h4 h5 h6 H;cases t<;>cases z
 all_goals
  go_enter func15,ntmps15;go_wp2_with fail;refine Calls.mono SG.o ?_;rintro e u1 ⟨rfl,gg⟩;have GU:ag (Gw w u1):=gg;clear gg SG;go_wp2_with fail;go_ret2;exact ⟨rfl,GU.o.alloc _ _⟩
def rT (HR:bQ) (w w':World) (p:Nat) (F:Nat->Prop) (eps buf keys:Int) (l:List ah) (rs:List (Option Rn)) (B W_:Int) (e:ah) (n:Nat):Prop :=
 ∃ F' l' aM B' W',HT HR w' p F' eps buf keys l' aM B' W' n/\mT HR w w' eps buf l rs B W_ l' aM B' W' e/\GM w F F' rs aM/\Gx F w w'
section
variable {HR:bQ} {w:World} {p:Nat} {F:Nat->Prop} {eps buf keys:Int} {l:List ah} {rs:List (Option Rn)} {B W_:Int} {live:Nat}
variable {pb pc:Nat} {Sb:Nat->Prop} {e:ah}
theorem HT.change (K:Kp HR) (h:HT HR w p F eps buf keys l rs B W_ live) (h2:HS HR w pb Sb pc eps buf l rs B W_) (h3:p≠pc) (h4:¬ Sb p) (h5:∀ r,some r∈rs->¬ r.S p) (h6:∀ q,F q↔q=p\/q=pc\/Sb q) {W1 w':World} {n:Nat} (ig:¬ (e.g=true/\e.v≠0)) (few:l.length+1+tot rs<=2000000) (hn:aS (bE (ins ah.k e l) rs) n) (hk:(n:Int)<=keys)
  (g1:Gx (fun q=>q=p) w W1) (b1:W1.heap[p]?=some (.cells (lO eps buf keys pb pc n) 69 (0,0))) (lo:iK HR W1 w' pb Sb pc eps buf l rs B W_ e) (g2:Gx (fun q=>q=pc\/Sb q) W1 w'):rT HR w w' p F eps buf keys l rs B W_ e n:=by
 obtain ⟨uv,l',aM,B',W',hs,lr,nf,nr⟩:=lo;have pl:=aC b1;have sz:=g1.size;have LE:=Ae (x:=e) h.inv.ok.rise;have pw:p<w.heap.size:=h.lt K p (.inl h.own);have jY:mT HR w w' eps buf l rs B W_ l' aM B' W' e:=by
  rcases lr with x | ⟨x1,x2,o,kept,rn,y1,y2,y3⟩
  ·exact .inl x
  ·refine .inr ⟨x1,x2,o,kept,rn,y1,?_,y3⟩
   rcases y2 with z | ⟨a,r,b1,b2,b3,b4,b5,b6⟩
   ·exact .inl z
   ·exact .inr ⟨a,r,b1,b2,b3,b4,fun q hq=>Nat.le_trans sz (b5 q hq),b6⟩
 have nS:¬ uv p:=fun x=>by
  rcases nf p (.inr x) with (y | y) | y
  ·exact h3 y
  ·exact h4 y
  ·omega
 refine ⟨fun q=>q=p\/q=pc\/uv q,l',aM,B',W',⟨⟨pb,uv,pc,(g2.block p pl (fun x=>x.elim h3 h4)).trans b1,hs,h3,nS,fun r hr hx=>?_,fun q=>Iff.rfl⟩,?_,h.cf⟩,jY,⟨fun q hq=>?_,fun r hr=>(nr r hr).imp id fun x q hq=>Nat.le_trans sz (x q hq)⟩,?_⟩
 ·rcases nr r hr with y | y
  ·exact h5 r y hx
  ·have:=y p hx;omega
 ·rcases jY with ⟨x1,rfl,rfl,_,_⟩ | ⟨x1,rfl,o,kept,rn,tr,ld,rfl,_⟩
  ·exact h.inv.put ig hn hk x1
  ·exact h.inv.take h2.hc.b0 h2.hc.b1 (Rm h.inv.ok ig) x1 (by omega) hn hk tr ld
 ·rcases hq with x | x
  ·exact .inl ((h6 q).2 (.inl x))
  ·rcases nf q (by exact x) with (y | y) | y
   ·exact .inl ((h6 q).2 (.inr (.inl y)))
   ·exact .inl ((h6 q).2 (.inr (.inr y)))
   ·exact .inr (Nat.le_trans sz y)
 ·exact (g1.mono (S':=F) fun q hq=>.inl ((h6 q).2 (.inl hq))).trans g2 (fun q hq=>.inl ((h6 q).2 (.inr hq)))
theorem Ry (h:HT HR w p F eps buf keys l rs B W_ live):(e.g=false->bE l rs e.k=false->aS (bE (ins ah.k e l) rs) (live+1))/\(e.g=false->bE l rs e.k=true->aS (bE (ins ah.k e l) rs) live)/\(e.g=true->bE l rs e.k=true->0<live/\aS (bE (ins ah.k e l) rs) (live-1)):=by
 have pK:∀ q,q≠e.k->bE (ins ah.k e l) rs q=bE l rs q:=fun q hq=>by
  unfold bE;rw [QH h.inv.ok.rise,if_neg (fun x=>hq x.symm)]
 have at_:bE (ins ah.k e l) rs e.k=!e.g:=by
  unfold bE;rw [QH h.inv.ok.rise,if_pos rfl];rfl
 refine ⟨fun g f=>h.inv.all.put f (by rw [at_,g];rfl) pK,fun g f=>h.inv.all.same fun q=>?_,fun g f=>h.inv.all.drop f (by rw [at_,g];rfl) pK⟩
 by_cases c:q=e.k
 ·rw [c,at_,f,g];rfl
 ·exact pK q c
end
variable {HR:bQ} {w:World} {p pb pc:Nat} {Sb:Nat->Prop} {eps buf B:Int} {l:List ah} {rs:List (Option Rn)}
theorem HS.other (K:Kp HR) {W:Int} (h:HS HR w pb Sb pc eps buf l rs B W) (h3:p≠pc) (h4:¬ Sb p) (h5:∀ r,some r∈rs->¬ r.S p) (o:Nat) (v:Value):HS HR (w.setCell ⟨p,o,none⟩ v) pb Sb pc eps buf l rs B W :=
 h.keep K fun q hq=>Go.Deep.blk_setCell_other _ _ _ _ fun e=>by
  have e':q=p:=e;rw [e'] at hq;rcases hq with x | x | ⟨r,x,y⟩
  ·exact h4 x
  ·exact h3 x
  ·exact h5 r x y
def rU (HR:bQ) (w w':World) (ex:Ending) (p:Nat) (F:Nat->Prop) (eps buf keys:Int) (l:List ah) (rs:List (Option Rn)) (B W_:Int) (live:Nat) (k v:Int):Prop :=
 ((dK l rs k=none/\(live:Int)=keys)/\ex=.returned (AI 161)/\Gw w w')\/(¬ (dK l rs k=none/\(live:Int)=keys)/\ex=.returned (AI 0)/\rT HR w w' p F eps buf keys l rs B W_ ⟨k,v,false⟩ (if dK l rs k=none then live+1 else live))
variable {F:Nat->Prop} {keys W_:Int} {live:Nat}
theorem Rz (H:bJ HR) (h:HT HR w p F eps buf keys l rs B W_ live) (few:l.length+1+tot rs<=2000000) (hB:0<=B/\B<4611686018427387904) (hW:0<=W_/\W_<4611686018427387904) (k v:Int) (k0:0<=k/\k<18446744073709551616) (v0:0<=v/\v<18446744073709551616) :
  Calls prog 10 #[BY p,By k,By v] w fun ex w'=>rU HR w w' ex p F eps buf keys l rs B W_ live k v:=by
 have HH:ag (bJ HR):=H;have HT_:ag (HT HR w p F eps buf keys l rs B W_ live):=h;obtain ⟨pb,Sb,pc,h1,h2,h3,h4,h5,h6⟩:=h.lies;have GT:ag (Calls prog 15 #[BY p,By k] w fun e w'=>e=.returned (AY (dK l rs k))/\Gw w w'):=AZ H h (by omega) k k0.1 k0.2
 have LY:ag (∀ W,HS HR W pb Sb pc eps buf l rs B W_->Calls prog 22 #[.agg #[BY pb,BY pc],.agg #[By k,By v,.bool false]] W fun ex w'=>ex=.returned (.tuple #[])/\iK HR W w' pb Sb pc eps buf l rs B W_ ⟨k,v,false⟩/\Gx (fun q=>q=pc\/Sb q) W w'):=fun W hs=>Ro H hs ⟨k,v,false⟩ h.inv.ok ⟨k0,v0⟩ (by simp) h.inv.room few hB hW
 have mU:ag (HS HR w pb Sb pc eps buf l rs B W_/\p≠pc/\¬ Sb p/\(∀ r,some r∈rs->¬ r.S p)/\∀ q,F q↔q=p\/q=pc\/Sb q):=⟨h2,h3,h4,h5,h6⟩;have BL:ag (w.heap[p]?=some (.cells (lO eps buf keys pb pc live) 69 (0,0))):=h1;have lf:=h.few (by omega)
 have MO:=h.inv.most;have LV:=Ry h (e:=⟨k,v,false⟩);have jy:ag (l.length+1+tot rs<=2000000):=few;have uy:ag (∀ (W1 w':World) (n:Nat),aS (bE (ins ah.k ⟨k,v,false⟩ l) rs) n->(n:Int)<=keys->Gx (fun q=>q=p) w W1->W1.heap[p]?=some (.cells (lO eps buf keys pb pc n) 69 (0,0))->iK HR W1 w' pb Sb pc eps buf l rs B W_ ⟨k,v,false⟩->Gx (fun q=>q=pc\/Sb q) W1 w'->rT HR w w' p F eps buf keys l rs B W_ ⟨k,v,false⟩ n):=fun W1 w' n a b c d e f=>h.change H.kp h2 h3 h4 h5 h6 (by simp) few a b c d e f
 have jZ:=xd l rs k;clear h h1 h2 h3 h4 h5 h6 H few hB hW k0 v0;cases hv:dK l rs k with
 | some y =>
  rw [hv] at GT jZ;have ak:ag (∀ w1 w',Gw w w1->iK HR w1 w' pb Sb pc eps buf l rs B W_ ⟨k,v,false⟩->Gx (fun q=>q=pc\/Sb q) w1 w'->rU HR w w' (.returned (AI 0)) p F eps buf keys l rs B W_ live k v):=fun w1 w' g a b=>by
   refine .inr ⟨fun x=>by rw [hv] at x;exact absurd x.1 (by simp),rfl,?_⟩
   rw [hv,if_neg (by simp)]
   exact uy.o w1 w' live (LV.2.1 rfl jZ.symm) MO (g.gx _) ((g.below.block p (aC BL.o)).trans BL.o) a b
  have CL:ag (∀ w1,Gw w w1->(w1.cell? ⟨p,3,none⟩=some (BY pb)/\w1.cell? ⟨p,4,none⟩=some (BY pc)/\p<w1.heap.size)/\HS HR w1 pb Sb pc eps buf l rs B W_):=fun w1 g=>by
   have x:=(g.below.block p (aC BL.o)).trans BL.o;exact ⟨⟨aj x rfl,aj x rfl,aC x⟩,mU.o.1.gw HH.o.kp g⟩
  have j9:ag (Calls prog 15 #[BY p,By k] w fun e w'=>e=.returned (.tuple #[By y,.bool true])/\Gw w w'):=GT
  clear hv LV jZ MO GT;go_enter func10,ntmps10;go_wp2_with fail;refine Calls.mono j9.o ?_;rintro e w1 ⟨rfl,gg⟩;obtain ⟨⟨c3,c4,pl⟩,hs⟩:=CL.o w1 gg;have pT:ag (Calls prog 22 #[.agg #[BY pb,BY pc],.agg #[By k,By v,.bool false]] w1 fun ex w'=>ex=.returned (.tuple #[])/\iK HR w1 w' pb Sb pc eps buf l rs B W_ ⟨k,v,false⟩/\Gx (fun q=>q=pc\/Sb q) w1 w'):=LY.o w1 hs
  have GG:ag (Gw w w1):=gg;clear gg hs j9 LY CL;go_wp2_with fail;refine Calls.mono pT.o ?_;rintro e w2 ⟨rfl,lo,g2⟩;have R2:ag (rU HR w w2 (.returned (AI 0)) p F eps buf keys l rs B W_ live k v):=ak.o w1 w2 GG.o lo g2;clear lo g2 pT;go_wp2_with fail;go_ret;exact R2.o
 | none =>
  rw [hv] at GT jZ;have j9:ag (Calls prog 15 #[BY p,By k] w fun e w'=>e=.returned (.tuple #[By 0,.bool false])/\Gw w w'):=GT
  have CL:ag (∀ w1,Gw w w1->(w1.cell? ⟨p,3,none⟩=some (BY pb)/\w1.cell? ⟨p,4,none⟩=some (BY pc)/\w1.cell? ⟨p,5,none⟩=some (AI (live:Int))/\w1.cell? ⟨p,2,none⟩=some (AI keys)/\w1.frozen? ⟨p,5,none⟩=false/\p<w1.heap.size)/\w1.heap[p]?=some (.cells (lO eps buf keys pb pc live) 69 (0,0))):=fun w1 g=>by
   have x:=(g.below.block p (aC BL.o)).trans BL.o;exact ⟨⟨aj x rfl,aj x rfl,aj x rfl,aj x rfl,bT x,aC x⟩,x⟩
  by_cases full:(live:Int)=keys
  ·have t1:((live:Int) == keys)=true:=by simpa using full
   have ak:ag (∀ w',Gw w w'->rU HR w w' (.returned (AI 161)) p F eps buf keys l rs B W_ live k v):=fun w' g=>.inl ⟨⟨hv,full⟩,rfl,g⟩
   clear hv LV jZ MO GT full;go_enter func10,ntmps10;go_wp2_with fail;refine Calls.mono j9.o ?_;rintro e w1 ⟨rfl,gg⟩;obtain ⟨⟨c3,c4,c5,c2,f5,pl⟩,_⟩:=CL.o w1 gg;have GG:ag (Gw w w1):=gg;clear gg j9 CL LY;go_wp2_with fail;go_quiet (fail);go_wp2_with fail;go_ret;exact ak.o _ (GG.o.drewN _)
  ·have t1:((live:Int) == keys)=false:=by simpa using full
   have wl:IntKind.i64.wrap ((live:Int)+1)=((live+1:Nat):Int):=by rw [IntKind.wrap_i64];omega
   have wl':IntKind.i64.wrap ((live:Int)+1)=(live:Int)+1:=by rw [IntKind.wrap_i64];omega
   have ak:ag (∀ w1 w',Gw w w1->iK HR (w1.setCell ⟨p,5,none⟩ (AI ((live:Int)+1))) w' pb Sb pc eps buf l rs B W_ ⟨k,v,false⟩->Gx (fun q=>q=pc\/Sb q) (w1.setCell ⟨p,5,none⟩ (AI ((live:Int)+1))) w'->rU HR w w' (.returned (AI 0)) p F eps buf keys l rs B W_ live k v):=fun w1 w' g a b=>by
    refine .inr ⟨fun x=>full x.2,rfl,?_⟩
    rw [hv,if_pos rfl];refine uy.o _ w' (live+1) (LV.1 rfl jZ.symm) (by omega) ((g.gx (fun q=>q=p)).set (.inl rfl) _ _) ?_ a b
    have x:=(g.below.block p (aC BL.o)).trans BL.o;rw [kY x];rfl
   have xG:ag (∀ w1,Gw w w1->HS HR (w1.setCell ⟨p,5,none⟩ (AI ((live:Int)+1))) pb Sb pc eps buf l rs B W_):=fun w1 g=>(mU.o.1.gw HH.o.kp g).other HH.o.kp mU.o.2.1 mU.o.2.2.1 mU.o.2.2.2.1 _ _
   clear hv LV jZ MO GT full;go_enter func10,ntmps10;go_wp2_with fail;refine Calls.mono j9.o ?_;rintro e w1 ⟨rfl,gg⟩;obtain ⟨⟨c3,c4,c5,c2,f5,pl⟩,bb⟩:=CL.o w1 gg;have GG:ag (Gw w w1):=gg;clear gg j9 bb;go_wp2_with fail;go_quiet (fail);have GD:ag (Gw w (w1.drewN nq)):=GG.o.drewN nq;generalize w1.drewN nq=wD at GD ⊢;clear c3 c4 c5 c2 f5 pl GG;obtain ⟨⟨c3,c4,c5,c2,f5,pl⟩,bb⟩:=CL.o wD GD.o;have b5:=kY (o:=5) (u:=AI ((live:Int)+1)) bb;have d3:(wD.setCell ⟨p,5,none⟩ (AI ((live:Int)+1))).cell? ⟨p,3,none⟩=some (BY pb):=aj b5 rfl;have d4:(wD.setCell ⟨p,5,none⟩ (AI ((live:Int)+1))).cell? ⟨p,4,none⟩=some (BY pc):=aj b5 rfl;have pT:ag (Calls prog 22 #[.agg #[BY pb,BY pc],.agg #[By k,By v,.bool false]] (wD.setCell ⟨p,5,none⟩ (AI ((live:Int)+1))) fun ex w'=>ex=.returned (.tuple #[])/\iK HR (wD.setCell ⟨p,5,none⟩ (AI ((live:Int)+1))) w' pb Sb pc eps buf l rs B W_ ⟨k,v,false⟩/\Gx (fun q=>q=pc\/Sb q) (wD.setCell ⟨p,5,none⟩ (AI ((live:Int)+1))) w'):=LY.o _ (xG.o wD GD.o)
   have R1:ag (∀ w',iK HR (wD.setCell ⟨p,5,none⟩ (AI ((live:Int)+1))) w' pb Sb pc eps buf l rs B W_ ⟨k,v,false⟩->Gx (fun q=>q=pc\/Sb q) (wD.setCell ⟨p,5,none⟩ (AI ((live:Int)+1))) w'->rU HR w w' (.returned (AI 0)) p F eps buf keys l rs B W_ live k v):=fun w' a b=>ak.o wD w' GD.o a b
   have d5:=aC b5;clear bb b5 LY xG CL ak;go_wp2_with fail;refine Calls.mono pT.o ?_;rintro e w2 ⟨rfl,lo,g2⟩;have R2:ag (rU HR w w2 (.returned (AI 0)) p F eps buf keys l rs B W_ live k v):=R1.o w2 lo g2;clear lo g2 pT R1;go_wp2_with fail;go_ret;exact R2.o
def xH (HR:bQ) (w w':World) (ex:Ending) (p:Nat) (F:Nat->Prop) (eps buf keys:Int) (l:List ah) (rs:List (Option Rn)) (B W_:Int) (live:Nat) (k:Int):Prop :=
 (dK l rs k=none/\ex=.returned (.bool false)/\Gw w w')\/(dK l rs k≠none/\ex=.returned (.bool true)/\0<live/\rT HR w w' p F eps buf keys l rs B W_ ⟨k,0,true⟩ (live-1))
theorem Ha (H:bJ HR) (h:HT HR w p F eps buf keys l rs B W_ live) (few:l.length+1+tot rs<=2000000) (hB:0<=B/\B<4611686018427387904) (hW:0<=W_/\W_<4611686018427387904) (k:Int) (k0:0<=k/\k<18446744073709551616) :
  Calls prog 11 #[BY p,By k] w fun ex w'=>xH HR w w' ex p F eps buf keys l rs B W_ live k:=by
 have HH:ag (bJ HR):=H;obtain ⟨pb,Sb,pc,h1,h2,h3,h4,h5,h6⟩:=h.lies;have GT:ag (Calls prog 15 #[BY p,By k] w fun e w'=>e=.returned (AY (dK l rs k))/\Gw w w'):=AZ H h (by omega) k k0.1 k0.2
 have LY:ag (∀ W,HS HR W pb Sb pc eps buf l rs B W_->Calls prog 22 #[.agg #[BY pb,BY pc],.agg #[By k,By 0,.bool true]] W fun ex w'=>ex=.returned (.tuple #[])/\iK HR W w' pb Sb pc eps buf l rs B W_ ⟨k,0,true⟩/\Gx (fun q=>q=pc\/Sb q) W w'):=fun W hs=>Ro H hs ⟨k,0,true⟩ h.inv.ok ⟨k0,(by decide:(0:Int)<=0),(by decide:(0:Int)<18446744073709551616)⟩ (by simp) h.inv.room few hB hW
 have mU:ag (HS HR w pb Sb pc eps buf l rs B W_/\p≠pc/\¬ Sb p/\(∀ r,some r∈rs->¬ r.S p)/\∀ q,F q↔q=p\/q=pc\/Sb q):=⟨h2,h3,h4,h5,h6⟩;have BL:ag (w.heap[p]?=some (.cells (lO eps buf keys pb pc live) 69 (0,0))):=h1;have lf:=h.few (by omega)
 have MO:=h.inv.most;have LV:=Ry h (e:=⟨k,0,true⟩);have uy:ag (∀ (W1 w':World) (n:Nat),aS (bE (ins ah.k ⟨k,0,true⟩ l) rs) n->(n:Int)<=keys->Gx (fun q=>q=p) w W1->W1.heap[p]?=some (.cells (lO eps buf keys pb pc n) 69 (0,0))->iK HR W1 w' pb Sb pc eps buf l rs B W_ ⟨k,0,true⟩->Gx (fun q=>q=pc\/Sb q) W1 w'->rT HR w w' p F eps buf keys l rs B W_ ⟨k,0,true⟩ n):=fun W1 w' n a b c d e f=>h.change H.kp h2 h3 h4 h5 h6 (by simp) few a b c d e f
 have jZ:=xd l rs k;clear h h1 h2 h3 h4 h5 h6 H few hB hW k0;cases hv:dK l rs k with
 | none =>
  rw [hv] at GT jZ;have j9:ag (Calls prog 15 #[BY p,By k] w fun e w'=>e=.returned (.tuple #[By 0,.bool false])/\Gw w w'):=GT
  have ak:ag (∀ w',Gw w w'->xH HR w w' (.returned (.bool false)) p F eps buf keys l rs B W_ live k):=fun w' g=>.inl ⟨hv,rfl,g⟩
  clear hv LV jZ MO GT LY uy;go_enter func11,ntmps11;go_wp2_with fail;refine Calls.mono j9.o ?_;rintro e w1 ⟨rfl,gg⟩;have GG:ag (Gw w w1):=gg;clear gg j9;go_wp2_with fail;go_ret;exact ak.o _ GG.o
 | some y =>
  rw [hv] at GT jZ;have j9:ag (Calls prog 15 #[BY p,By k] w fun e w'=>e=.returned (.tuple #[By y,.bool true])/\Gw w w'):=GT
  obtain ⟨lp,Hb⟩:=LV.2.2 rfl jZ.symm;obtain ⟨lm,He⟩:∃ m,live=m+1:=⟨live-1,by omega⟩
  have LM:ag (live=lm+1):=He;have wl':IntKind.i64.wrap ((live:Int)-1)=(lm:Int):=by rw [IntKind.wrap_i64];omega
  have CL:ag (∀ w1,Gw w w1->(w1.cell? ⟨p,3,none⟩=some (BY pb)/\w1.cell? ⟨p,4,none⟩=some (BY pc)/\w1.cell? ⟨p,5,none⟩=some (AI (live:Int))/\w1.frozen? ⟨p,5,none⟩=false/\p<w1.heap.size)/\w1.heap[p]?=some (.cells (lO eps buf keys pb pc live) 69 (0,0))):=fun w1 g=>by
   have x:=(g.below.block p (aC BL.o)).trans BL.o;exact ⟨⟨aj x rfl,aj x rfl,aj x rfl,bT x,aC x⟩,x⟩
  have ak:ag (∀ w1 w',Gw w w1->iK HR (w1.setCell ⟨p,5,none⟩ (AI (lm:Int))) w' pb Sb pc eps buf l rs B W_ ⟨k,0,true⟩->Gx (fun q=>q=pc\/Sb q) (w1.setCell ⟨p,5,none⟩ (AI (lm:Int))) w'->xH HR w w' (.returned (.bool true)) p F eps buf keys l rs B W_ live k):=fun w1 w' g a b=>by
   refine .inr ⟨by rw [hv];simp,rfl,lp,?_⟩
   rw [He,Nat.add_sub_cancel] at Hb ⊢;refine uy.o _ w' lm Hb (by omega) ((g.gx (fun q=>q=p)).set (.inl rfl) _ _) ?_ a b
   have x:=(g.below.block p (aC BL.o)).trans BL.o;rw [kY x];rfl
  have xG:ag (∀ w1,Gw w w1->HS HR (w1.setCell ⟨p,5,none⟩ (AI (lm:Int))) pb Sb pc eps buf l rs B W_):=fun w1 g=>(mU.o.1.gw HH.o.kp g).other HH.o.kp mU.o.2.1 mU.o.2.2.1 mU.o.2.2.2.1 _ _
  clear hv LV jZ MO GT uy Hb He lp;go_enter func11,ntmps11;go_wp2_with fail;refine Calls.mono j9.o ?_;rintro e wD ⟨rfl,gg⟩;have GD:ag (Gw w wD):=gg;obtain ⟨⟨c3,c4,c5,f5,pl⟩,bb⟩:=CL.o wD GD.o;have b5:=kY (o:=5) (u:=AI (lm:Int)) bb;have d3:(wD.setCell ⟨p,5,none⟩ (AI (lm:Int))).cell? ⟨p,3,none⟩=some (BY pb):=aj b5 rfl;have d4:(wD.setCell ⟨p,5,none⟩ (AI (lm:Int))).cell? ⟨p,4,none⟩=some (BY pc):=aj b5 rfl;have pT:ag (Calls prog 22 #[.agg #[BY pb,BY pc],.agg #[By k,By 0,.bool true]] (wD.setCell ⟨p,5,none⟩ (AI (lm:Int))) fun ex w'=>ex=.returned (.tuple #[])/\iK HR (wD.setCell ⟨p,5,none⟩ (AI (lm:Int))) w' pb Sb pc eps buf l rs B W_ ⟨k,0,true⟩/\Gx (fun q=>q=pc\/Sb q) (wD.setCell ⟨p,5,none⟩ (AI (lm:Int))) w'):=LY.o _ (xG.o wD GD.o)
  have R1:ag (∀ w',iK HR (wD.setCell ⟨p,5,none⟩ (AI (lm:Int))) w' pb Sb pc eps buf l rs B W_ ⟨k,0,true⟩->Gx (fun q=>q=pc\/Sb q) (wD.setCell ⟨p,5,none⟩ (AI (lm:Int))) w'->xH HR w w' (.returned (.bool true)) p F eps buf keys l rs B W_ live k):=fun w' a b=>ak.o wD w' GD.o a b
  have d5:=aC b5;clear bb b5 LY xG CL ak gg j9;go_wp2_with fail;refine Calls.mono pT.o ?_;rintro e w2 ⟨rfl,lo,g2⟩;have R2:ag (xH HR w w2 (.returned (.bool true)) p F eps buf keys l rs B W_ live k):=R1.o w2 lo g2;clear lo g2 pT R1;go_wp2_with fail;go_ret;exact R2.o
theorem HT.made (K:Kp HR) (h:HS HR w pb Sb pc eps buf l rs B W_) (inv:gh eps buf keys l rs live) (cf:eX eps buf keys):HT HR (w.alloc (.cells (lO eps buf keys pb pc live) 69)) w.heap.size (fun q=>q=w.heap.size\/q=pc\/Sb q) eps buf keys l rs B W_ live:=by
 refine ⟨⟨pb,Sb,pc,heap_alloc_new w _,h.gw K ((Gw.refl w).alloc _ _),fun e=>?_,fun x=>?_,fun r hr x=>?_,fun q=>Iff.rfl⟩,inv,cf⟩
 ·have:=h.lt K pc (.inr (.inl rfl));omega
 ·have:=h.lt K _ (.inl x);omega
 ·have:=h.lt K _ (.inr (.inr ⟨r,hr,x⟩));omega
theorem acE (h:HT HR w p F eps buf keys l rs B W_ live) :
  Calls prog 7 #[BY p] w fun e w'=>(∃ (t b c:Nat),e=.returned (.slice (some ⟨b,0,none⟩) t c)/\eu rs t/\RO w' w.heap.size (.slice (some ⟨b,0,none⟩) t c) (rs.take t))/\Gw w w':=by
 obtain ⟨pb,Sb,pc,h1,h2,h3,h4,h5,h6⟩:=h.lies;obtain ⟨_,c3,c4,_,_,pl⟩:=HT.cells (HR:=HR) (F:=F) (l:=l) (rs:=rs) (B:=B) (W_:=W_) h1;have LI:ag (Calls prog 21 #[BY pc] w fun e w'=>(∃ (t b c:Nat),e=.returned (.slice (some ⟨b,0,none⟩) t c)/\eu rs t/\RO w' w.heap.size (.slice (some ⟨b,0,none⟩) t c) (rs.take t))/\Gw w w'):=O3 h2.hc
 have GN:=h2.hc.lt;clear h h1 h2 h3 h4 h5 h6;go_enter func7,ntmps7;go_wp2_with fail;refine Calls.mono LI.o ?_;rintro e w1 ⟨⟨t,b,c,rfl,a,d⟩,gg⟩;have ak:ag (eu rs t/\RO w1 w.heap.size (.slice (some ⟨b,0,none⟩) t c) (rs.take t)/\Gw w w1):=⟨a,d,gg⟩;clear a d gg LI;go_wp2_with fail;go_ret;exact ⟨⟨t,b,c,rfl,ak.o.1,ak.o.2.1⟩,ak.o.2.2⟩
structure SZ (w:World) (base b t:Nat) (rs:List (Option Rn)):Prop where
 top:eu rs t
 row:w.rowIs b 3 t (fun i=>AI (jt (rs.getD i none):Int))
 new:base<=b
def Hg (live len:Nat) (B W:Int) (b t:Nat):Value:=.agg #[AI (live:Int),AI (len:Int),AI B,AI W,.slice (some ⟨b,0,none⟩) t t]
theorem acF (H:bJ HR) (h:HT HR w p F eps buf keys l rs B W_ live) :
  Calls prog 14 #[BY p] w fun e w'=>(∃ b t,e=.returned (Hg live l.length B W_ b t)/\SZ w' w.heap.size b t rs)/\Gw w w':=by
 have HH:ag (bJ HR):=H;obtain ⟨pb,Sb,pc,h1,h2,h3,h4,h5,h6⟩:=h.lies;have BL:ag (w.heap[p]?=some (.cells (lO eps buf keys pb pc live) 69 (0,0))):=h1;have LE:ag (∀ W,Gw w W->Calls prog 23 #[BY pb] W fun e w'=>e=.returned (AI (l.length:Int))/\Gw W w'):=fun W gg=>acy pb Sb buf l W (h2.hb.gw gg)
 have BU:ag (∀ W,Gw w W->Calls prog 24 #[BY pc] W fun e w'=>e=.returned (AI B)/\w'=W):=fun W gg=>abr (h2.hc.gw H.kp gg)
 have WR:ag (∀ W,Gw w W->Calls prog 25 #[BY pc] W fun e w'=>e=.returned (AI W_)/\w'=W):=fun W gg=>abt (h2.hc.gw H.kp gg)
 have SI:ag (∀ W,Gw w W->Calls prog 26 #[BY pc] W fun e w'=>(∃ (t b:Nat),e=.returned (.slice (some ⟨b,0,none⟩) t t)/\eu rs t/\w'.rowIs b 3 t (fun i=>AI (jt (rs.getD i none):Int))/\W.heap.size<=b)/\Gw W w'):=fun W gg=>abp H (h2.hc.gw H.kp gg)
 have pbl:=h2.hb.lt pb h2.hb.own;have GN:=h2.hc.lt;clear h h1 h2 h3 h4 h5 h6 H;obtain ⟨bq,aE⟩:∃ b,w.heap.size=b:=⟨_,rfl⟩;have BQ:ag (w.heap.size=bq):=aE;obtain ⟨ln,au⟩:∃ n,l.length=n:=⟨_,rfl⟩;rw [au] at LE ⊢;have B0:ag (aT w [(bq,#[AI 0,AI 0,AI 0,AI 0,.slice none 0 0],52)] (w.alloc (.cells #[AI 0,AI 0,AI 0,AI 0,.slice none 0 0] 52))):=by
  have a:=(aT.nil (Gw.refl w)).add #[AI 0,AI 0,AI 0,AI 0,.slice none 0 0] 52;rw [aE] at a;exact a
 clear aE au;go_enter func14,ntmps14;go_wp2_with fail;rw [BQ.o];generalize w.alloc (.cells #[AI 0,AI 0,AI 0,AI 0,.slice none 0 0] 52)=w1 at B0 ⊢;have G0:ag (Gw w w1):=B0.o.gw0;have L2:ag (∀ w',Gw w1 w'->w'.heap[bq]?=some (.cells #[AI 0,AI 0,AI 0,AI 0,.slice none 0 0] 52 (0,0))):=fun w' gg=>(B0.o.gw gg).lie (bq,#[AI 0,AI 0,AI 0,AI 0,.slice none 0 0],52) (by simp)
 have HW:ag (∀ w':World,Gw w w'->Gw w w'/\w'.cell? ⟨p,3,none⟩=some (BY pb)/\w'.cell? ⟨p,4,none⟩=some (BY pc)/\w'.cell? ⟨p,5,none⟩=some (AI (live:Int))/\p<w'.heap.size):=fun w' gg=>by
  have hh:=(gg.below.block p (aC BL.o)).trans BL.o;exact ⟨gg,aj hh rfl,aj hh rfl,aj hh rfl,aC hh⟩
 go_region_held3 (fun w'=>Gw w w'/\w'.cell? ⟨p,3,none⟩=some (BY pb)/\w'.cell? ⟨p,4,none⟩=some (BY pc)/\w'.cell? ⟨p,5,none⟩=some (AI (live:Int))/\p<w'.heap.size)
  (((refine HW.o _ ?_;repeat (first | exact And.left (by assumption) | exact ag.o (by assumption) | refine Gw.drew ?_ | refine Gw.setCell ?_ (Nat.le_of_eq BQ.o) _));done))
  ((
   first
   | (go_at_call 23;refine (LE.o _ (by repeat (first | exact Gw.refl _ | exact And.left (by assumption) | exact ag.o (by assumption) | refine Gw.drew ?_ | refine Gw.drewN ?_ _))).mono ?_;rintro ex wA ⟨rfl,gA⟩;have FA:ag (Gw w1 wA):=(Gw.trans (by repeat (first | exact Gw.refl _ | exact And.left (by assumption) | exact ag.o (by assumption) | refine Gw.drew ?_ | refine Gw.drewN ?_ _)) gA);have HA:ag (Gw w wA):=G0.o.trans FA.o;clear gA)
   | (go_at_call 24;refine (BU.o _ (by repeat (first | exact Gw.refl _ | exact And.left (by assumption) | exact ag.o (by assumption) | refine Gw.drew ?_ | refine Gw.drewN ?_ _))).mono ?_;rintro ex wB ⟨rfl,hwB⟩;subst hwB)
   | (go_at_call 25;refine (WR.o _ (by repeat (first | exact Gw.refl _ | exact And.left (by assumption) | exact ag.o (by assumption) | refine Gw.drew ?_ | refine Gw.drewN ?_ _))).mono ?_;rintro ex wC ⟨rfl,hwC⟩;subst hwC)
   | (go_at_call 26;refine (SI.o _ (by repeat (first | exact Gw.refl _ | exact And.left (by assumption) | exact ag.o (by assumption) | refine Gw.drew ?_ | refine Gw.drewN ?_ _))).mono ?_;rintro ex wD ⟨⟨tS,bS,rfl,s1,s2,s3⟩,gD⟩;have FD:ag (Gw w1 wD):=(Gw.trans (by repeat (first | exact Gw.refl _ | exact And.left (by assumption) | exact ag.o (by assumption) | refine Gw.drew ?_ | refine Gw.drewN ?_ _)) gD);have HD:ag (Gw w wD):=G0.o.trans FD.o;have z0:wD.cell? ⟨bq,0,none⟩=some (AI 0):=(aj (L2.o wD FD.o) rfl);have y0:wD.frozen? ⟨bq,0,none⟩=false:=(bT (L2.o wD FD.o));have z1:wD.cell? ⟨bq,1,none⟩=some (AI 0):=(aj (L2.o wD FD.o) rfl);have y1:wD.frozen? ⟨bq,1,none⟩=false:=(bT (L2.o wD FD.o));have z2:wD.cell? ⟨bq,2,none⟩=some (AI 0):=(aj (L2.o wD FD.o) rfl);have y2:wD.frozen? ⟨bq,2,none⟩=false:=(bT (L2.o wD FD.o));have z3:wD.cell? ⟨bq,3,none⟩=some (AI 0):=(aj (L2.o wD FD.o) rfl);have y3:wD.frozen? ⟨bq,3,none⟩=false:=(bT (L2.o wD FD.o));have z4:wD.cell? ⟨bq,4,none⟩=some (.slice none 0 0):=(aj (L2.o wD FD.o) rfl);have y4:wD.frozen? ⟨bq,4,none⟩=false:=(bT (L2.o wD FD.o));have zl:=aC (L2.o wD FD.o);have SS:ag (eu rs tS/\wD.rowIs bS 3 tS (fun i=>AI (jt (rs.getD i none):Int))/\w1.heap.size<=bS):=⟨s1,s2,Nat.le_trans (Gw.size (show Gw w1 _ from (by repeat (first | exact Gw.refl _ | exact And.left (by assumption) | exact ag.o (by assumption) | refine Gw.drew ?_ | refine Gw.drewN ?_ _)))) s3⟩;clear s1 s2 s3 gD)))
 all_goals
  have T:=(kY (o:=4) (u:=(.slice (some ⟨bS,0,none⟩) tS tS)) (kY (o:=3) (u:=(AI W_)) (kY (o:=2) (u:=(AI B)) (kY (o:=1) (u:=(AI (ln:Int))) (kY (o:=0) (u:=(AI (live:Int))) (L2.o wD FD.o))))));have T0:(((((wD.setCell ⟨bq,0,none⟩ (AI (live:Int))).setCell ⟨bq,1,none⟩ (AI (ln:Int))).setCell ⟨bq,2,none⟩ (AI B)).setCell ⟨bq,3,none⟩ (AI W_)).setCell ⟨bq,4,none⟩ (.slice (some ⟨bS,0,none⟩) tS tS)).cell? ⟨bq,0,none⟩=some (AI (live:Int)):=aj T rfl;have T1:(((((wD.setCell ⟨bq,0,none⟩ (AI (live:Int))).setCell ⟨bq,1,none⟩ (AI (ln:Int))).setCell ⟨bq,2,none⟩ (AI B)).setCell ⟨bq,3,none⟩ (AI W_)).setCell ⟨bq,4,none⟩ (.slice (some ⟨bS,0,none⟩) tS tS)).cell? ⟨bq,1,none⟩=some (AI (ln:Int)):=aj T rfl;have T2:(((((wD.setCell ⟨bq,0,none⟩ (AI (live:Int))).setCell ⟨bq,1,none⟩ (AI (ln:Int))).setCell ⟨bq,2,none⟩ (AI B)).setCell ⟨bq,3,none⟩ (AI W_)).setCell ⟨bq,4,none⟩ (.slice (some ⟨bS,0,none⟩) tS tS)).cell? ⟨bq,2,none⟩=some (AI B):=aj T rfl;have T3:(((((wD.setCell ⟨bq,0,none⟩ (AI (live:Int))).setCell ⟨bq,1,none⟩ (AI (ln:Int))).setCell ⟨bq,2,none⟩ (AI B)).setCell ⟨bq,3,none⟩ (AI W_)).setCell ⟨bq,4,none⟩ (.slice (some ⟨bS,0,none⟩) tS tS)).cell? ⟨bq,3,none⟩=some (AI W_):=aj T rfl;have T4:(((((wD.setCell ⟨bq,0,none⟩ (AI (live:Int))).setCell ⟨bq,1,none⟩ (AI (ln:Int))).setCell ⟨bq,2,none⟩ (AI B)).setCell ⟨bq,3,none⟩ (AI W_)).setCell ⟨bq,4,none⟩ (.slice (some ⟨bS,0,none⟩) tS tS)).cell? ⟨bq,4,none⟩=some (.slice (some ⟨bS,0,none⟩) tS tS):=aj T rfl;have ak:ag (SZ (((((wD.setCell ⟨bq,0,none⟩ (AI (live:Int))).setCell ⟨bq,1,none⟩ (AI (ln:Int))).setCell ⟨bq,2,none⟩ (AI B)).setCell ⟨bq,3,none⟩ (AI W_)).setCell ⟨bq,4,none⟩ (.slice (some ⟨bS,0,none⟩) tS tS)) w.heap.size bS tS rs/\Gw w (((((wD.setCell ⟨bq,0,none⟩ (AI (live:Int))).setCell ⟨bq,1,none⟩ (AI (ln:Int))).setCell ⟨bq,2,none⟩ (AI B)).setCell ⟨bq,3,none⟩ (AI W_)).setCell ⟨bq,4,none⟩ (.slice (some ⟨bS,0,none⟩) tS tS))):=by
   have gz:Gx (fun q=>q=bq) wD (((((wD.setCell ⟨bq,0,none⟩ (AI (live:Int))).setCell ⟨bq,1,none⟩ (AI (ln:Int))).setCell ⟨bq,2,none⟩ (AI B)).setCell ⟨bq,3,none⟩ (AI W_)).setCell ⟨bq,4,none⟩ (.slice (some ⟨bS,0,none⟩) tS tS)):=(((((Gx.refl (fun q=>q=bq) wD).set (.inl rfl) _ _).set (.inl rfl) _ _).set (.inl rfl) _ _).set (.inl rfl) _ _).set (.inl rfl) _ _
   have z1:=aC (L2.o w1 (Gw.refl _));have z2:=G0.o.size;refine ⟨⟨SS.o.1,SS.o.2.1.of_block (gz.block bS SS.o.2.1.lt (fun e=>?_)),Nat.le_trans z2 SS.o.2.2⟩,Gx.gw HD.o gz (fun q hq=>by have:=BQ.o;omega)⟩
   have:=SS.o.2.2
   omega
  clear T;go_wp2_with fail;exact bodyPost_ret (v:=Hg live ln B W_ bS tS) (by simp [results,results14,go_sem,T0,T1,T2,T3,T4,Hg]) rfl ⟨⟨bS,tS,rfl,ak.o.1⟩,ak.o.2⟩
end Go.Proofs.YtcboobmfnmgldaaGreat
