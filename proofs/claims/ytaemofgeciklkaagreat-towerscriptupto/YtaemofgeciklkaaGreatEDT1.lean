import Derived.Test.YtaemofgeciklkaaGreatEDLv
import Derived.Test.YtaemofgeciklkaaGreatEUDoc
import Derived.Test.YtaemofgeciklkaaGreatEQRef
set_option linter.unusedVariables false
set_option maxHeartbeats 8000000
set_option maxRecDepth 20000
open Go.Proofs.Tryz
namespace Go.Proofs.YtaemofgeciklkaaGreat
open Go.RowKit
structure dq (w:World) (p:Nat) (F:Nat->Prop) (eps buf keys:Int) (l:List ah) (rs:List (Option Rn)) (B W:Int):Prop where
 lies:∃ pb Sb pc rb,w.heap[p]?=some (.cells #[By eps,By buf,By keys,IS pb,IS pc] 59 (0,0))/\HB 79 w pb Sb buf l/\aQ w pc rb rs eps buf B W/\(p≠pc/\p≠rb/\¬ Sb p/\¬ Sb pc/\¬ Sb rb)/\(∀ q,F q↔q=p\/q=pc\/q=rb\/Sb q)
 sep:∀ r,some r∈rs->∀ q,F q->¬ r.S q
section
variable {w w':World} {p:Nat} {F:Nat->Prop} {eps buf keys:Int} {l:List ah} {rs:List (Option Rn)} {B W:Int}
theorem dq.gx {G:Nat->Prop} (h:dq w p F eps buf keys l rs B W) (g:Gx G w w') (d:∀ q,G q->¬ F q) (d':∀ r,some r∈rs->∀ q,G q->¬ r.S q):dq w' p F eps buf keys l rs B W:=by obtain ⟨pb,Sb,pc,rb,h1,h2,h3,h4,h5⟩:=h.lies;exact ⟨⟨pb,Sb,pc,rb,(g.block p (ak h1) fun x=>d p x ((h5 p).2 (.inl rfl))).trans h1,h2.gx g fun q hq x=>d q x ((h5 q).2 (.inr (.inr (.inr hq)))),h3.gx g (fun x=>d pc x ((h5 pc).2 (.inr (.inl rfl)))) (fun x=>d rb x ((h5 rb).2 (.inr (.inr (.inl rfl))))) fun q x r hr=>d' r hr q x,h4,h5⟩,h.sep⟩
theorem dq.gw (h:dq w p F eps buf keys l rs B W) (g:Gw w w'):dq w' p F eps buf keys l rs B W:=h.gx (G:=fun _=>False) (g.gx _) (fun _ x=>x.elim) fun _ _ _ x=>x.elim
theorem dq.lt (h:dq w p F eps buf keys l rs B W):∀ q,(F q\/∃ r,some r∈rs/\r.S q)->q<w.heap.size:=fun q hq=>by
 obtain ⟨pb,Sb,pc,rb,h1,h2,h3,h4,h5⟩:=h.lies;rcases hq with x | ⟨r,hr,x⟩
 ·rcases (h5 q).1 x with e | e | e | e
  ·rw [e];exact ak h1
  ·rw [e];exact h3.plt
  ·rw [e];exact h3.blt
  ·exact h2.lt q e
 ·exact ba.kp.lt (h3.runs r hr).1.h q x
theorem dq.own (h:dq w p F eps buf keys l rs B W):F p:=h.lies.elim fun _ ⟨_,_,_,x⟩=>(x.2.2.2.2 p).2 (.inl rfl)
theorem dq.ra (h:dq w p F eps buf keys l rs B W):∀ r,some r∈rs->RA ba w r:=fun r hr=>h.lies.elim fun _ ⟨_,_,_,x⟩=>(x.2.2.1.runs r hr).1
end
def afd (w w':World) (ex:Ending) (eps buf keys:Int):Prop :=
 (¬ fR eps buf keys/\ex=π #[.pointer none,By 160])\/(fR eps buf keys/\∃ p F,ex=π #[IS p,By 0]/\dq w' p F eps buf keys [] (List.replicate 40 none) 0 0/\∀ q,F q->w.heap.size<=q)
variable {w:World}
theorem uy {b:Nat} {x0 y0 z0:Value} {t:TypeId} (h:w.heap[b]?=some (.cells #[x0,y0,z0] t (0,0))):w.cell? (φ b 0)=some x0/\w.cell? (φ b 1)=some y0/\w.cell? (φ b 2)=some z0/\b<w.heap.size:=⟨aj h rfl,aj h rfl,aj h rfl,ak h⟩
theorem afe (eps buf keys:Int) (w:World) :
  Calls prog 6 #[.agg #[By eps,By buf,By keys]] w fun e w'=>afd w w' e eps buf keys/\Gw w w':=by
 have b0:(w.alloc (.cells #[By eps,By buf,By keys] 23)).heap[w.heap.size]?=some (.cells #[By eps,By buf,By keys] 23 (0,0)):=Ω w _;have G0:ag (Gw w (w.alloc (.cells #[By eps,By buf,By keys] 23))):=(Gw.refl w).alloc _ _;obtain ⟨bq,aE⟩:=qbr w.heap.size;have BQ:ag (w.heap.size=bq):=aE;rw [aE] at b0;have CK:ag (∀ W,Calls prog 19 #[.agg #[By eps,By buf,By keys]] W fun e w'=>e=χ (By (fO eps buf keys))/\Gw W w'):=fun W=>Zi eps buf keys W
 clear aE;go_enter func6,ntmps6;go_wp2_with fail;rw [BQ.o];generalize w.alloc (.cells #[By eps,By buf,By keys] 23)=w0 at b0 G0 ⊢;refine (CK.o _).mono ?_;rintro e w1 ⟨rfl,g1⟩;have G1:ag (Gw w w1):=G0.o.trans g1;have B1:=(g1.below.block _ (ak b0)).trans b0;clear g1 b0 G0 CK;by_cases ok:fR eps buf keys
 ·have e0:fO eps buf keys=0:=Ym ok
  rw [e0];have OK:ag (fR eps buf keys):=ok;have KP:ag (∀ W,Gw w1 W->W.heap[bq]?=some (.cells #[By eps,By buf,By keys] 23 (0,0))):=fun W g=>(g.below.block _ (ak B1)).trans B1
  obtain ⟨c0,c1,c2,cl⟩:=uy B1;have n1:=ok.2.1.1;have n2:=ok.2.1.2;have NB:=ae8 buf n1 n2 w1;have NC:ag (∀ W,_):=fun W=>aeP eps buf W
  clear ok e0 n1 n2 B1;go_wp2_with fail;refine NB.mono ?_;rintro e w2 ⟨⟨rfl,jY⟩,g2⟩;obtain ⟨d0,d1,d2,dl⟩:=uy (KP.o w2 g2);have fX:ag (HB 79 w2 w1.heap.size (fun q=>q=w1.heap.size) buf []/\Gw w1 w2):=⟨jY,g2⟩
  obtain ⟨pb,nU⟩:=qbr w1.heap.size;have PB:ag (w1.heap.size=pb):=nU;rw [nU];clear g2 jY NB c0 c1 c2 cl nU;go_wp2_with fail;refine Calls.mono (NC.o w2) ?_;rintro e w3 ⟨no | ⟨_,pu,rb,rfl,u1,u2,hc⟩,g3⟩
  ·exact absurd ⟨OK.o.1,OK.o.2.1⟩ no.1
  obtain ⟨x0,x1,x2,xl⟩:=uy (KP.o w3 (fX.o.2.trans g3));have pX:=fX.o.1.gw g3;have z1:=G1.o.size;have z2:=fX.o.2.size;have z3:=fX.o.1.lt _ rfl;have gA:Gw w3 (w3.alloc (.cells #[By eps,By buf,By keys,IS pb,IS pu] 59)):=(Gw.refl w3).alloc _ _;rw [PB.o] at pX z1 z2 z3;have p1:=hc.plt;have p2:=hc.blt;have p3:=g3.size;have av:ag (dq (w3.alloc (.cells #[By eps,By buf,By keys,IS pb,IS pu] 59)) w3.heap.size (fun q=>q=w3.heap.size\/q=pu\/q=rb\/q=pb) eps buf keys [] (List.replicate 40 none) 0 0/\∀ q,(q=w3.heap.size\/q=pu\/q=rb\/q=pb)->w.heap.size<=q):=by
   refine ⟨⟨⟨pb,fun q=>q=pb,pu,rb,Ω w3 _,pX.gw gA,hc.gw gA,⟨ω,ω,ω,ω,ω⟩,fun q=>Iff.rfl⟩,fun r hr=>?_⟩,fun q hq=>ω⟩
   cases List.eq_of_mem_replicate hr
  have GE:ag (Gw w (w3.alloc (.cells #[By eps,By buf,By keys,IS pb,IS pu] 59))):=(G1.o.trans (fX.o.2.trans g3)).trans gA;clear g3 pX hc d0 d1 d2 dl NC z1 z2 z3 gA p1 p2 p3 u1 u2 KP;go_wp2_with fail;go_ret2;exact ⟨.inr ⟨OK.o,_,_,rfl,av.o.1,av.o.2⟩,GE.o⟩
 ·have e0:fO eps buf keys=160:=Yl ok
  rw [e0];have NO:ag (¬ fR eps buf keys):=ok;clear ok e0 B1;go_wp2_with fail;go_ret2;exact ⟨.inl ⟨NO.o,rfl⟩,G1.o⟩
structure LE (w0:World) (B:Nat) (w:World) (v:Value) (L:List (List ah)):Prop where
 row:∃ au,w.ownsRow B 72 1 v L.length au/\∀ i,i<L.length->∃ bo c,au[i]?=some (.slice bo (L.getD i []).length c)/\(L.getD i []).length<=c/\EL w0 bo (L.getD i [])/\(bo=none->(L.getD i []).length=0/\c=0)
theorem LE.nil (w0:World) (B:Nat) (w:World):LE w0 B w (.slice none 0 0) []:=⟨⟨[],qaL _ _ _ _,fun i hi=>by simp at hi⟩⟩
theorem LE.ev {w0:World} {B:Nat} {ao:Option Addr} {n c:Nat} {L:List (List ah)} (h:LE w0 B w (.slice ao n c) L) (hn:L.length=n) (g:Gw w0 w):EV w ao L:=by
 obtain ⟨au,r,p⟩:=h.row;refine ⟨fun h0=>?_⟩
 rcases r.2 with ⟨e,z⟩ | ⟨b,cap,cur,e,hb,hh,x⟩
 ·omega
 ·injection e with e1 e2 e3
  subst e1;refine ⟨b,0,rfl,(qab.1 hh).1,fun i hi=>?_⟩
  obtain ⟨bo,c',h1,h2,h3,h4⟩:=p i hi;refine ⟨bo,c',?_,h2,h3.gw g,h4⟩;rw [hn] at r;rw [qai,World.ownsRow.cellAt r i ω];exact h1
variable {l:List ah}
theorem LE.more {w0 w5:World} {B:Nat} {v v':Value} {L:List (List ah)} {bo:Option Addr} {c n k:Nat} {au:List Value} (r:w.ownsRow B 72 1 v n au) (ln:L.length=n) (lk:l.length=k) (p:∀ i,i<L.length->∃ bo c,au[i]?=some (.slice bo (L.getD i []).length c)/\(L.getD i []).length<=c/\EL w0 bo (L.getD i [])/\(bo=none->(L.getD i []).length=0/\c=0)) (hc:l.length<=c) (el:EL w0 bo l) (hn:bo=none->l.length=0/\c=0)
  (r1:w5.ownsRow B 72 1 v' (n+1) (au++[.slice bo k c])):LE w0 B w5 v' (L++[l]):=by
 subst ln;subst lk;have vl:au.length=L.length:=by have:=r.1;omega
 refine ⟨au++[.slice bo l.length c],by rw [Ψ];exact r1,fun i hi=>?_⟩
 by_cases e:i<L.length
 ·obtain ⟨b,c',h1,h2,h3,h4⟩:=p i e
  have eg:(L++[l]).getD i []=L.getD i []:=by rw [qag,qau e,<-List.getD_eq_getElem?_getD]
  rw [eg];exact ⟨b,c',by rw [qau ω];exact h1,h2,h3,h4⟩
 ·have ei:i=L.length:=by rw [Ψ] at hi;simp at hi;omega
  subst ei;have eg:(L++[l]).getD L.length []=l:=by simp [List.getD]
  rw [eg];exact ⟨bo,c,by rw [<-vl];simp,hc,el,hn⟩
theorem aff (l:List (Option Rn)) (i:Nat):tot (l.drop i)<=tot l:=by have:=pU l i;omega
theorem Kd:∀ l:List (Option Rn),(lists l).length<=l.length
 | []=>Yk _
 | none::l=>by have:=Kd l;show (lists l).length<=l.length+1;omega
 | some r::l=>by have:=Kd l;show (r.l::lists l).length<=l.length+1;rw [qak];omega
theorem Ke (L:List (List ah)):aN L.reverse=aN L:=by
 induction L with
 | nil=>rfl
 | cons x L ih=>rw [List.reverse_cons,rC,ih,jb,jb];show _+(x.length+0)=_;omega
def iA (l:List ah) (rs:List (Option Rn)):List ah:=bE ((lists rs).reverse++[l])
variable {rs:List (Option Rn)}
theorem afg (hl:∀ e∈l,e.ok) (hr:∀ r,some r∈rs->∀ e∈r.l,e.ok):∀ e∈iA l rs,e.ok:=fun e he=>by
 obtain ⟨x,hx,h⟩:=Vc he;rcases qaq.1 hx with q | q
 ·rw [List.mem_reverse,Du,List.mem_filterMap] at q
  obtain ⟨o,ho,z⟩:=q;obtain ⟨u,hu,rfl⟩:=qaA.1 ho;cases u with
  | none=>cases z
  | some r=>cases z;exact hr r hu e h
 ·rw [qbg.1 q] at h;exact hl e h
variable {p:Nat} {F:Nat->Prop} {eps buf keys B W_:Int}
theorem Kf (h:dq w p F eps buf keys l rs B W_) (few:l.length+tot rs<=2000000) :
  Calls prog 27 #[IS p] w fun e w'=>(∃ ob oc,e=χ (.slice ob (iA l rs).length oc)/\EL w' ob (iA l rs))/\Gw w w':=by
 obtain ⟨pb,Sb,pc,rb,h1,h2,h3,_,_⟩:=h.lies;obtain ⟨bv,k1,k2,_,_⟩:=h2.lies;obtain ⟨bo,bc,rfl,k3,k4⟩:=fg k2;obtain ⟨cc,Se,k5⟩:=h3.blk;have KP:ag (∀ W,Gw w W->(W.cell? (φ p 3)=some (IS pb)/\W.cell? (φ p 4)=some (IS pc)/\p<W.heap.size)/\(W.cell? (φ pc 2)=some (ψ rb 0 40 cc)/\pc<W.heap.size)/\W.cell? (φ pb 1)=some (.slice bo l.length bc)/\pb<W.heap.size):=fun W g=>by have a:=(g.below.block _ (ak h1)).trans h1;have b:=(g.below.block _ (ak k5)).trans k5;have c:=(g.below.block _ (ak k1)).trans k1;exact ⟨⟨aj a rfl,aj a rfl,ak a⟩,⟨aj b rfl,ak b⟩,aj c rfl,ak c⟩
 have RC_:ag (∀ W i,Gw w W->i<40->W.cell? (φ rb i)=some (ptr (rs.getD i none))/\rb<W.heap.size):=fun W i g hi=>⟨(h3.gw g).cell hi,(h3.gw g).blt⟩
 have Dt:ag (∀ r,some r∈rs->RA ba w r):=fun r hr=>(h3.runs r hr).1
 have RL:ag (rs.length=40):=h3.len;have BZ:ag (EL w bo l/\l.length<=bc/\(bo=none->l.length=0/\bc=0)):=⟨je k2 h2.ok,k3,k4⟩;have DA:ag (∀ e∈iA l rs,e.ok):=afg h2.ok fun r hr=>(h3.runs r hr).1.bd
 have SZ:ag (∀ i,aN (lists (rs.drop i)).reverse<=tot rs/\((lists (rs.drop i)).reverse).length<=40):=fun i=>by have a:=aff rs i;have c:=Kd (rs.drop i);have e:aN (lists (rs.drop i))=tot (rs.drop i):=rfl;rw [Ke,List.length_reverse];rw [qax,RL.o] at c;omega
 have mC:ag (l.length+tot rs<=2000000):=few;obtain ⟨jj,ka,jz,js,kg⟩:=info_parts Iv;obtain ⟨bn,uu⟩:=qbr l.length;have BN:ag (l.length=bn):=uu;rw [uu] at KP;have Vq:ag (LE w w.heap.size w (.slice none 0 0) (lists (rs.drop 40)).reverse/\((lists (rs.drop 40)).reverse).length=0):=by
  rw [qbp (by rw [RL.o];exact Yk _)]
  exact ⟨LE.nil w _ w,rfl⟩
 have G0:ag (Gw w w):=Gw.refl w;obtain ⟨⟨_,a4,al⟩,⟨a2,mA⟩,_,_⟩:=KP.o w G0.o;clear h h1 h2 h3 k1 k2 k3 k4 k5 Se uu few;go_enter func27,ntmps27;go_wp2_with fail;go_loopg [3,4] 40 (fun gg s3 s4 wr=>∃ (i m:Nat) (xo:Option Addr) (xc:Nat),s3=.slice xo m xc/\s4=By ((i:Int)-1)/\i<=40/\i<=gg/\ag (LE w w.heap.size wr (.slice xo m xc) (lists (rs.drop i)).reverse/\((lists (rs.drop i)).reverse).length=m)/\ag (Gw w wr))
 case atStart=>exact ⟨40,0,none,0,rfl,by go_num,Yk _,Yk _,Vq,G0⟩
 case round =>
  clear Vq G0 a4 al a2 mA;obtain ⟨i,m,xo,xc,rfl,rfl,i1,i2,LX,GX⟩:=hrel;obtain ⟨wS,aS⟩:=qbs wr;subst aS;obtain ⟨⟨a3,a4,al⟩,⟨a2,mA⟩,a1,qb⟩:=KP.o wS GX.o;have m40:m<=40:=by rw [<-LX.o.2];exact (SZ.o i).2
  obtain ⟨au,ro,rp⟩:=LX.o.1.row;rw [LX.o.2] at ro;have sq:ag (wS.ownsRow w.heap.size 72 1 (.slice xo m xc) m au):=ro;have RP:ag _:=rp;have gz:=GX.o.size;clear ro rp;by_cases i0:0<i
  ·obtain ⟨k,rfl⟩:∃ k,i=k+1:=⟨i-1,ω⟩
   have kc:((k+1:Nat):Int)-1=(k:Int):=ω;rw [kc];have IK:k<40:=ω;have ws:IntKind.i64.wrap ((k:Int)-1)=(k:Int)-1:=(by rw [Δ];omega);have kl:k<rs.length:=(by rw [RL.o];omega);obtain ⟨ck,Ra⟩:=RC_.o wS k GX.o IK;have DR:=rJ kl;clear kc;rcases jk rs k with e | ⟨r,e⟩
   ·rw [e] at ck DR
    have vY:wS.cell? (φ rb k)=some (.pointer none):=ck;have Kg:ag (LE w w.heap.size wS (.slice xo m xc) (lists (rs.drop k)).reverse/\((lists (rs.drop k)).reverse).length=m):=by have LK:lists (rs.drop k)=lists (rs.drop (k+1)):=(by rw [DR];rfl);rw [LK];exact LX
    clear ck e DR kl;go_wp2_with fail;go_roundg k
    case measure=>omega
    case rel=>exact ⟨k,m,xo,xc,rfl,by go_num,ω,Yk _,Kg,GX⟩
   ·rw [e] at ck DR
    have vY:wS.cell? (φ rb k)=some (IS (r.p)):=ck;have Vr:ag ((lists (rs.drop k)).reverse=(lists (rs.drop (k+1))).reverse++[r.l]):=(by show _=_;rw [DR];show (r.l::lists (rs.drop (k+1))).reverse=_;rw [List.reverse_cons]);obtain ⟨eo,ec,lo,lc,gR,zP,sp,oQ,_⟩:=(Dt.o r (kG kl e)).h.openS;have rV:=(GX.o.below.block _ (ak gR)).trans gR;have f0:wS.cell? (φ r.p 0)=some (.slice eo r.l.length ec):=(tE rV).1;have rl:=ak rV;have DB:ag (EL w eo r.l/\r.l.length<=ec/\(eo=none->r.l.length=0/\ec=0)):=⟨zP,oQ.1,oQ.2⟩;obtain ⟨rn,kH⟩:=qbr r.l.length;have RN:ag (r.l.length=rn):=kH;rw [kH] at f0;generalize r.p=rp' at vY f0 rl;clear ck e DR gR zP sp oQ rV kH kl;go_wp2_with (at_builtin;refine wpList_append_own _ rfl _ _ 101 rfl w.heap.size 72 jj (.slice none 0 0) 1 24 underlying101 ka jz js kg rfl γ _ m _ rfl (sq.o.alloc _) ⟨wS.heap.size,0,none⟩ 1 1 [(.slice eo rn ec)] rfl rfl (cell_one_new wS (.slice eo rn ec) 72) (fun u hu=>by simp at hu;subst hu;rfl) θ ω ζ ?_)
    intro v' w8 r1 r2 r3;obtain ⟨b8,cap8,rfl,_,_,_⟩:=cJ r1 (by simpa using r3)
    have G8:ag (Gw w w8):=(GX.o.alloc _ _).grown r2 (fun q hq=>(World.ownsRow.lt sq.o q hq).1)
    have Kg:ag (LE w w.heap.size w8 (ψ b8 0 (m+1) cap8) (lists (rs.drop k)).reverse/\((lists (rs.drop k)).reverse).length=m+1):=(by show _/\_;rw [Vr.o];exact ⟨LE.more sq.o LX.o.2 RN.o RP.o DB.o.2.1 DB.o.1 DB.o.2.2 r1,by rw [Ψ,LX.o.2];rfl⟩);clear r1 r2 r3 Vr LX sq RP RN DB vY f0 rl gz;go_wp2_with fail;go_roundg k
    case measure=>omega
    case rel=>exact ⟨k,m+1,some ⟨b8,0,none⟩,cap8,rfl,by go_num,ω,Yk _,Kg,G8⟩
  ·have ei:i=0:=(by omega);subst ei;rw [List.drop_zero] at LX RP;go_wp2_with (at_builtin;refine wpList_append_own _ rfl _ _ 101 rfl w.heap.size 72 jj (.slice none 0 0) 1 24 underlying101 ka jz js kg rfl γ _ m _ rfl (sq.o.alloc _) ⟨wS.heap.size,0,none⟩ 1 1 [(.slice bo bn bc)] rfl rfl (cell_one_new wS (.slice bo bn bc) 72) (fun u hu=>by simp at hu;subst hu;rfl) θ ω ζ ?_)
   intro v' w8 r1 r2 r3;obtain ⟨b8,cap8,rfl,_,_,_⟩:=cJ r1 (by simpa using r3)
   have G8:Gw w w8:=(GX.o.alloc _ _).grown r2 (fun q hq=>(World.ownsRow.lt sq.o q hq).1)
   have LM:((lists rs).reverse++[l]).length=m+1:=(by rw [Ψ,LX.o.2];rfl);have lx:EV w8 (some (φ b8 0)) ((lists rs).reverse++[l]):=(LE.more sq.o LX.o.2 BN.o RP.o BZ.o.2.1 BZ.o.1 BZ.o.2.2 r1).ev LM G8;have s0:aN ((lists rs).reverse++[l])<=2000000:=(by rw [rC,Ke,jb];have e:aN (lists rs)=tot rs:=rfl;have e2:aN ([]:List (List ah))=0:=rfl;have:=mC.o;omega);have LV:=aeM (some (φ b8 0)) cap8 _ (by rw [LM];omega) s0 w8 lx
   rw [LM] at LV;have G8':ag (Gw w w8):=G8;clear r1 r2 r3 LX sq RP a1 a2 a3 a4 al mA qb gz lx s0 LM G8;go_wp2_with fail;refine LV.mono ?_;rintro e w9 ⟨⟨ob,oc,rfl,eo⟩,g9⟩;have av:ag (EL w9 ob (iA l rs)/\Gw w w9):=⟨je eo DA.o,G8'.o.trans g9⟩;clear eo g9 LV;go_wp2_with fail;go_ret;exact ⟨⟨ob,oc,rfl,av.o.1⟩,av.o.2⟩
theorem afh (hl:aH ah.k l) (hr:∀ r,some r∈rs->aH ah.k r.l) (q:Int):(∀ j,j<(iA l rs).length->((iA l rs).getD j aq).k=q->bV l rs q=some ((iA l rs).getD j aq).v)/\((∀ j,j<(iA l rs).length->((iA l rs).getD j aq).k≠q)->bV l rs q=none):=by
 obtain ⟨a,_,c,_⟩:=U4 hl hr;refine ⟨fun j hj e=>?_,fun h=>?_⟩
 ·rw [<-c q,<-e]
  have m:(iA l rs).getD j aq∈iA l rs:=by rw [ji hj];exact qaz hj
  exact congrArg (Option.map ah.v) (Cy a m)
 ·rw [<-c q]
  cases x:look ah.k q (bE ((lists rs).reverse++[l])) with
  | none=>rfl
  | some e =>
   obtain ⟨m,k⟩:=vR x;obtain ⟨j,hj,rfl⟩:=List.mem_iff_getElem.1 m;exact absurd (by unfold iA;rw [ji hj];exact k) (h j hj)
theorem Kh (h:dq w p F eps buf keys l rs B W_) (few:l.length+tot rs<=2000000) (q:Int) :
  Calls prog 26 #[IS p,BY q] w fun e w'=>e=χ (qe (bV l rs q))/\Gw w w':=by
 have LV:=Kf h few;have hl:=afh (h.lies.elim fun _ ⟨_,_,_,x⟩=>x.2.1.rise) (fun r hr=>(h.ra r hr).ok.rise) q
 have HL:ag _:=hl;have LN:(iA l rs).length<=2000000:=by have a:=U' ((lists rs).reverse++[l]);rw [rC,Ke,jb] at a;have e:aN (lists rs)=tot rs:=rfl;have e2:aN ([]:List (List ah))=0:=rfl;show (bE _).length<=_;omega
 obtain ⟨L,hL⟩:=qbr (iA l rs);obtain ⟨ov,lL⟩:=qbr (bV l rs q);rw [hL,lL] at HL;rw [hL] at LV LN;rw [lL];obtain ⟨n,hn⟩:=qbr L.length;have NN:ag (L.length=n):=hn;rw [hn] at LV LN;clear h few hl hL lL hn;go_enter func26,ntmps26;go_wp2_with fail;refine LV.mono ?_;rintro e w1 ⟨⟨ob,oc,rfl,el⟩,g1⟩;have EA:ag (EL w1 ob L/\Gw w w1):=⟨el,g1⟩;clear LV el g1;go_wp2_with fail;go_loopg [7] n (fun gg s wr=>∃ j:Nat,s=By (j:Int)/\j<=n/\n-j<=gg/\ag (∀ i,i<j->(L.getD i aq).k≠q)/\wr=w1)
 case atStart=>exact ⟨0,rfl,Γ _,ω,(show ag _ from fun i hi=>ω),rfl⟩
 case round =>
  obtain ⟨j,rfl,a1,a2,NO,rfl⟩:=hrel;by_cases c:j<n
  ·obtain ⟨b,off,rfl,bl,hc⟩:=EA.o.1.cells (by rw [NN.o];omega)
   obtain ⟨x0,x1,_⟩:=hc j (by rw [NN.o];exact c)
   have c':decide ((j:Int)<n)=true:=(by simpa using c);clear hc;by_cases e:(L.getD j aq).k=q
   ·have av:ag (ov=some (L.getD j aq).v):=HL.o.1 j (by rw [NN.o];exact c) e
    rw [e] at x0;generalize (L.getD j aq).v=v at x1 av;clear e NO;go_wp2_with fail;go_ret2;exact ⟨by rw [av.o];rfl,EA.o.2⟩
   ·have Io:ag (∀ i,i<j+1->(L.getD i aq).k≠q):=fun i hi=>by
     by_cases x:i=j
     ·rw [x];exact e
     ·exact NO.o i ω
    have e':((L.getD j aq).k == q)=false:=(by simpa using e);generalize (L.getD j aq).k=k at x0 e';clear e NO x1;go_wp2_with fail;go_roundg (n-(j+1))
    case measure=>omega
    case rel=>exact ⟨j+1,by go_num,ω,Yk _,Io,rfl⟩
  ·have ej:j=n:=(by omega);subst ej;have av:ag (ov=none):=HL.o.2 fun i hi=>NO.o i (by rw [NN.o] at hi;exact hi)
   have c':decide ((j:Int)<j)=false:=ε;clear NO;go_wp2_with fail;go_ret2;exact ⟨by rw [av.o];rfl,EA.o.2⟩
def qs (w:World) (b t:Nat) (rs:List (Option Rn)):Prop:=cX rs t/\(∀ i,i<t->w.cell? (φ b i)=some (By (fQ (rs.getD i none):Int)))/\b<w.heap.size
theorem afi (h:dq w p F eps buf keys l rs B W_) (few:l.length+tot rs<=2000000) {live:Nat} (hl:(iA l rs).length=live) :
  Calls prog 32 #[IS p] w fun e w'=>(∃ b t c,e=χ (.agg #[By (live:Int),By (l.length:Int),By B,By W_,ψ b 0 t c])/\qs w' b t rs)/\Gw w w':=by
 obtain ⟨pb,Sb,pc,rb,h1,h2,h3,_,_⟩:=h.lies;obtain ⟨bv,k1,k2,_,_⟩:=h2.lies;obtain ⟨bo,bc,rfl,_,_⟩:=fg k2;have LV:ag (∀ W,Gw w W->Calls prog 27 #[IS p] W fun e w'=>(∃ ob oc,e=χ (.slice ob live oc))/\Gw W w'):=fun W g=>(Kf (h.gw g) few).mono fun e w' ⟨⟨ob,oc,x,_⟩,y⟩=>by rw [hl] at x;exact ⟨⟨ob,oc,x⟩,y⟩
 have SI:ag (∀ W,Gw w W->Calls prog 60 #[IS pc] W fun e w'=>(∃ b t c,e=χ (ψ b 0 t c)/\qs w' b t rs/\W.heap.size<=b)/\Gw W w'):=fun W g=>(ae2 (h3.gw g)).mono fun e w' ⟨⟨t,b,c,x1,x2,x3,x5,x4⟩,y⟩=>⟨⟨b,t,c,x1,⟨x2,x3,x4⟩,x5⟩,y⟩
 have HW:ag (∀ w':World,Gw w w'->Gw w w'/\(w'.cell? (φ p 3)=some (IS pb)/\w'.cell? (φ p 4)=some (IS pc))/\w'.cell? (φ pb 1)=some (.slice bo l.length bc)/\w'.cell? (φ pc 3)=some (By B)/\w'.cell? (φ pc 4)=some (By W_)/\p<w'.heap.size/\pb<w'.heap.size/\pc<w'.heap.size):=fun w' g=>by have a:=(g.below.block _ (ak h1)).trans h1;have c:=(g.below.block _ (ak k1)).trans k1;exact ⟨g,⟨aj a rfl,aj a rfl⟩,aj c rfl,(h3.gw g).c3,(h3.gw g).c4,ak a,ak c,(h3.gw g).plt⟩
 obtain ⟨ln,ax⟩:=qbr l.length;rw [ax] at HW ⊢;have b0:(w.alloc (.cells #[By 0,By 0,By 0,By 0,.slice none 0 0] 46)).heap[w.heap.size]?=some (.cells #[By 0,By 0,By 0,By 0,.slice none 0 0] 46 (0,0)):=Ω w _;have G0:Gw w (w.alloc (.cells #[By 0,By 0,By 0,By 0,.slice none 0 0] 46)):=(Gw.refl w).alloc _ _;obtain ⟨bq,aE⟩:=qbr w.heap.size;have BQ:ag (w.heap.size=bq):=aE;rw [aE] at b0;clear h h1 h2 h3 k1 k2 few hl ax aE;go_enter func32,ntmps32;go_wp2_with fail;rw [BQ.o];generalize w.alloc (.cells #[By 0,By 0,By 0,By 0,.slice none 0 0] 46)=w1 at b0 G0 ⊢;have G1:ag (Gw w w1):=G0;have L2:ag (∀ w',Gw w1 w'->w'.heap[bq]?=some (.cells #[By 0,By 0,By 0,By 0,.slice none 0 0] 46 (0,0))):=fun w' g=>(g.below.block _ (ak b0)).trans b0
 have L3:ag (∀ wD:World,wD.heap[bq]?=some (.cells #[By 0,By 0,By 0,By 0,.slice none 0 0] 46 (0,0))->(wD.cell? (φ bq 0)=some (By 0)/\wD.frozen? (φ bq 0)=false)/\(wD.cell? (φ bq 1)=some (By 0)/\wD.frozen? (φ bq 1)=false)/\(wD.cell? (φ bq 2)=some (By 0)/\wD.frozen? (φ bq 2)=false)/\(wD.cell? (φ bq 3)=some (By 0)/\wD.frozen? (φ bq 3)=false)/\(wD.cell? (φ bq 4)=some (.slice none 0 0)/\wD.frozen? (φ bq 4)=false)/\bq<wD.heap.size):=fun wD x=>⟨⟨aj x rfl,bC x⟩,⟨aj x rfl,bC x⟩,⟨aj x rfl,bC x⟩,⟨aj x rfl,bC x⟩,⟨aj x rfl,bC x⟩,ak x⟩
 have BS:ag (bq<w1.heap.size):=ak b0;clear G0 b0;go_region_held3 (fun w'=>Gw w w'/\(w'.cell? (φ p 3)=some (IS pb)/\w'.cell? (φ p 4)=some (IS pc))/\w'.cell? (φ pb 1)=some (.slice bo ln bc)/\w'.cell? (φ pc 3)=some (By B)/\w'.cell? (φ pc 4)=some (By W_)/\p<w'.heap.size/\pb<w'.heap.size/\pc<w'.heap.size)
  (((refine HW.o _ ?_;repeat (first | exact Ξ δ | exact ag.o δ | refine Gw.drew ?_ | refine Gw.setCell ?_ (qad BQ.o) _));done))
  ((
   first
   | (go_at_call 27;refine (LV.o _ (by repeat (first | exact Gw.refl _ | exact Ξ δ | exact ag.o δ | refine Gw.drew ?_ | refine Gw.drewN ?_ _))).mono ?_;rintro ex wA ⟨⟨yo,yc,rfl⟩,gA⟩;have FA:ag (Gw w1 wA):=(Gw.trans (by repeat (first | exact Gw.refl _ | exact Ξ δ | exact ag.o δ | refine Gw.drew ?_ | refine Gw.drewN ?_ _)) gA);have HA:ag (Gw w wA):=G1.o.trans FA.o;clear gA)
   | (go_at_call 60;refine (SI.o _ (by repeat (first | exact Gw.refl _ | exact Ξ δ | exact ag.o δ | refine Gw.drew ?_ | refine Gw.drewN ?_ _))).mono ?_;rintro ex wD ⟨⟨bS,tS,cS,rfl,sz,sb⟩,gD⟩;have FD:ag (Gw w1 wD):=(Gw.trans (by repeat (first | exact Gw.refl _ | exact Ξ δ | exact ag.o δ | refine Gw.drew ?_ | refine Gw.drewN ?_ _)) gD);have HD:ag (Gw w wD):=G1.o.trans FD.o;obtain ⟨⟨z0,y0⟩,⟨z1,y1⟩,⟨z2,y2⟩,⟨z3,y3⟩,⟨z4,y4⟩,zl⟩:=L3.o wD (L2.o wD FD.o);have SS:ag (qs wD bS tS rs/\w1.heap.size<=bS):=⟨sz,Φ (Gw.size (show Gw w1 _ from (by repeat (first | exact Gw.refl _ | exact Ξ δ | exact ag.o δ | refine Gw.drew ?_ | refine Gw.drewN ?_ _)))) sb⟩;clear sz sb gD)))
 all_goals
  obtain ⟨U,hU⟩:=qbr (((((wD.setCell (φ bq 0) (By (live:Int))).setCell (φ bq 1) (By (ln:Int))).setCell (φ bq 2) (By B)).setCell (φ bq 3) (By W_)).setCell (φ bq 4) (ψ bS 0 tS cS));have T:U.heap[bq]?=some (.cells #[By (live:Int),By (ln:Int),By B,By W_,ψ bS 0 tS cS] 46 (0,0)):=by rw [<-hU];exact ik (o:=4) (ik (o:=3) (ik (o:=2) (ik (o:=1) (ik (o:=0) (L2.o wD FD.o)))))
  have gz:Gx (fun q=>q=bq) wD U:=by rw [<-hU];exact (((((Gx.refl (fun q=>q=bq) wD).set (.inl rfl) _ _).set (.inl rfl) _ _).set (.inl rfl) _ _).set (.inl rfl) _ _).set (.inl rfl) _ _
  have av:ag (qs U bS tS rs/\Gw w U):=by
   have sz:=SS.o.1;have e:=gz.block bS sz.2.2 (fun e=>by have:=SS.o.2;have:=BS.o;omega)
   exact ⟨⟨sz.1,fun i hi=>(qba (a:=⟨bS,i,none⟩) e).trans (sz.2.1 i hi),Θ sz.2.2 gz.size⟩,Gx.gw HD.o gz (fun q hq=>by have:=BQ.o;omega)⟩
  have T0:U.cell? (φ bq 0)=some (By (live:Int)):=aj T rfl;have T1:U.cell? (φ bq 1)=some (By (ln:Int)):=aj T rfl;have T2:U.cell? (φ bq 2)=some (By B):=aj T rfl;have T3:U.cell? (φ bq 3)=some (By W_):=aj T rfl;have T4:U.cell? (φ bq 4)=some (ψ bS 0 tS cS):=aj T rfl;rw [hU];clear T gz hU;go_wp2_with fail;exact bodyPost_ret (v:=.agg #[By (live:Int),By (ln:Int),By B,By W_,ψ bS 0 tS cS]) (by simp [results,results32,go_sem,T0,T1,T2,T3,T4]) rfl ⟨⟨bS,tS,cS,rfl,av.o.1⟩,av.o.2⟩
theorem afj (h:dq w p F eps buf keys l rs B W_) (hn:l.length<=4000000) :
  Calls prog 8 #[IS p] w fun e w'=>(∃ p' F',e=χ (.pointer (some (φ p' 0)))/\dq w' p' F' eps buf keys l rs B W_/\∀ q,F' q->w.heap.size<=q)/\Gw w w':=by
 obtain ⟨pb,Sb,pc,rb,h1,h2,h3,_,_⟩:=h.lies;have C1:ag (∀ W,Gw w W->Calls prog 23 #[IS pb] W fun e w'=>(∃ p' S',e=χ (.pointer (some (φ p' 0)))/\HB 79 w' p' S' buf l/\∀ q,S' q->W.heap.size<=q)/\Gw W w'):=fun W g=>afc pb Sb buf l hn W (h2.gw g)
 have C2:ag (∀ W,Gw w W->Calls prog 24 #[IS pc] W fun e w'=>(∃ p' b',e=χ (.pointer (some (φ p' 0)))/\W.heap.size<=p'/\W.heap.size<=b'/\aQ w' p' b' rs eps buf B W_)/\Gw W w'):=fun W g=>aeZ (h3.gw g)
 have HW:ag (∀ w':World,Gw w w'->Gw w w'/\(w'.cell? (φ p 0)=some (By eps)/\w'.cell? (φ p 1)=some (By buf)/\w'.cell? (φ p 2)=some (By keys))/\w'.cell? (φ p 3)=some (IS pb)/\w'.cell? (φ p 4)=some (IS pc)/\p<w'.heap.size):=fun w' g=>by have a:=(g.below.block _ (ak h1)).trans h1;exact ⟨g,⟨aj a rfl,aj a rfl,aj a rfl⟩,aj a rfl,aj a rfl,ak a⟩
 have I0:ag (Gw w w):=Gw.refl w;have y9:ag (∀ r,some r∈rs->∀ q,r.S q->q<w.heap.size):=fun r hr q x=>h.lt q (.inr ⟨r,hr,x⟩)
 clear h h1 h2 h3 hn;go_enter func8,ntmps8;go_wp2_with fail;go_region_held3 (fun w'=>Gw w w'/\(w'.cell? (φ p 0)=some (By eps)/\w'.cell? (φ p 1)=some (By buf)/\w'.cell? (φ p 2)=some (By keys))/\w'.cell? (φ p 3)=some (IS pb)/\w'.cell? (φ p 4)=some (IS pc)/\p<w'.heap.size)
  (((refine HW.o _ ?_;repeat (first | exact Ξ δ | exact ag.o δ | refine Gw.drew ?_ | refine Gw.alloc ?_ _ _));done))
  ((
   first
   | (go_at_call 23;refine (C1.o _ (by repeat (first | exact Gw.refl _ | exact Ξ δ | exact ag.o δ | refine Gw.drew ?_ | refine Gw.drewN ?_ _))).mono ?_;rintro ex wA ⟨⟨pA,SA,rfl,mD,nA⟩,gA⟩;have FA:ag (Gw w wA):=(Gw.trans (by repeat (first | exact Gw.refl _ | exact Ξ δ | exact ag.o δ | refine Gw.drew ?_ | refine Gw.drewN ?_ _)) gA);have HA:ag (HB 79 wA pA SA buf l/\∀ q,SA q->w.heap.size<=q):=⟨mD,fun q hq=>Φ (Gw.size (show Gw w _ from (by repeat (first | exact Gw.refl _ | exact Ξ δ | exact ag.o δ | refine Gw.drew ?_ | refine Gw.drewN ?_ _)))) (nA q hq)⟩;clear gA mD nA)
   | (go_at_call 24;refine (C2.o _ (by repeat (first | exact Gw.refl _ | exact Ξ δ | exact ag.o δ | refine Gw.drew ?_ | refine Gw.drewN ?_ _))).mono ?_;rintro ex wB ⟨⟨pB,bB,rfl,nB,mB,zB⟩,gB⟩;have GB:ag (Gw wA wB):=(Gw.trans τ gB);have FB:ag (Gw w wB):=FA.o.trans GB.o;have qi:ag (aQ wB pB bB rs eps buf B W_/\wA.heap.size<=pB/\wA.heap.size<=bB):=⟨zB,nB,mB⟩;clear gB zB nB mB)))
 all_goals
  have av:ag ((dq (wB.alloc (.cells #[By eps,By buf,By keys,IS pA,IS pB] 59)) wB.heap.size (fun q=>q=wB.heap.size\/q=pB\/q=bB\/SA q) eps buf keys l rs B W_/\∀ q,(q=wB.heap.size\/q=pB\/q=bB\/SA q)->w.heap.size<=q)/\Gw w (wB.alloc (.cells #[By eps,By buf,By keys,IS pA,IS pB] 59))):=by
   have gN:Gw wB (wB.alloc (.cells #[By eps,By buf,By keys,IS pA,IS pB] 59)):=(Gw.refl wB).alloc _ _;have s1:=FA.o.size;have s2:=GB.o.size;have s3:=qi.o.1.plt;have s4:=qi.o.1.blt;have s5:=qi.o.2;have SL:∀ q,SA q->w.heap.size<=q/\q<wA.heap.size:=fun q hq=>⟨HA.o.2 q hq,HA.o.1.lt q hq⟩
   have nw:∀ q,(q=wB.heap.size\/q=pB\/q=bB\/SA q)->w.heap.size<=q:=fun q hq=>by
    rcases hq with x | x | x | x
    ·omega
    ·omega
    ·omega
    ·exact (SL q x).1
   exact ⟨⟨⟨⟨pA,SA,pB,bB,Ω wB _,(HA.o.1.gw GB.o).gw gN,qi.o.1.gw gN,⟨ω,ω,fun x=>by have:=SL _ x;omega,fun x=>by have:=SL _ x;omega,fun x=>by have:=SL _ x;omega⟩,fun q=>Iff.rfl⟩,fun r hr q hq x=>by have:=nw q hq;have:=y9.o r hr q x;omega⟩,nw⟩,FB.o.trans gN⟩
  generalize wB.heap.size=pN at av ⊢;generalize wB.alloc (.cells #[By eps,By buf,By keys,IS pA,IS pB] 59)=wN at av ⊢;go_wp2_with fail;go_ret;exact ⟨⟨pN,_,rfl,av.o.1.1,av.o.1.2⟩,av.o.2⟩
