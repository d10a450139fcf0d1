/- Package classes: taken, together, lay. -/
import Derived.Lib.MinMax
import Derived.Test.YtklkpldicbkjeaaGreatVUMem
set_option linter.unusedVariables false
set_option maxHeartbeats 4000000
set_option maxRecDepth 10000
open Go.Proofs.Tryz
namespace Go.Proofs.YtklkpldicbkjeaaGreat
open Go.RowKit
theorem EL.keep15 {w w':World} {bo:Option Addr} {l:List ah} (h:EL w bo l) (k:∀ a,bo=some a->0<l.length->w'.heap[a.block]?=w.heap[a.block]?):EL w' bo l :=
 ⟨fun h0=>by
  obtain ⟨b,off,e,hb,hc⟩:=h.cells h0;have kb:=k _ e h0;have cY:b<w'.heap.size:=by
   have tK:w'.heap[b]?=w.heap[b]?:=kb;rw [Array.getElem?_eq_getElem hb] at tK;exact (Array.getElem?_eq_some_iff.1 tK).1
  have eq:∀ o,w'.cell? ⟨b,o,none⟩=w.cell? ⟨b,o,none⟩:=fun o=>World.cell?_of_block (a:=⟨b,o,none⟩) kb
  exact ⟨b,off,e,cY,fun i hi=>⟨(eq _).trans (hc i hi).1,(eq _).trans (hc i hi).2.1,(eq _).trans (hc i hi).2.2⟩⟩,h.bd⟩
structure TL (w:World) (ob:Nat) (aj:List Value) (L:List (List ah)):Prop where
 len:aj.length=L.length
 row:∀ i,i<L.length->∃ bo c,aj[i]?=some (.slice bo (L.getD i []).length c)/\(L.getD i []).length<=c/\EL w bo (L.getD i [])/\(bo=none->(L.getD i []).length=0/\c=0)/\∀ a,bo=some a->0<(L.getD i []).length->a.block≠ob/\a.block<w.heap.size
theorem TL.gw {w w':World} {ob:Nat} {aj:List Value} {L:List (List ah)} (h:TL w ob aj L) (g:Gw w w'):TL w' ob aj L :=
 ⟨h.len,fun i hi=>by
  obtain ⟨bo,c,h1,h2,h3,h4,h5⟩:=h.row i hi;exact ⟨bo,c,h1,h2,h3.gw g,h4,fun a e z=>⟨(h5 a e z).1,Nat.lt_of_lt_of_le (h5 a e z).2 g.size⟩⟩⟩
theorem TL.more {w w8:World} {o:Obj} {ob iZ:Nat} {aj:List Value} {L:List (List ah)} {l:List ah} {bo:Option Addr} {c:Nat} (h:TL w ob aj L) (r2:(w.alloc o).grownBy w8 (some ob)) (o8:iZ=ob\/w.heap.size<=iZ) (hc:l.length<=c) (el:EL w bo l) (hn:bo=none->l.length=0/\c=0) (ha:∀ a,bo=some a->0<l.length->a.block≠ob/\a.block<w.heap.size):TL w8 iZ (aj++[.slice bo l.length c]) (L++[l]):=by
 have kp:∀ q,q<w.heap.size->q≠ob->w8.heap[q]?=w.heap[q]?:=fun q hq hn=>(r2.block q (by simp;omega) (fun e=>hn (by cases e;rfl))).trans (heap_alloc_old w _ hq)
 have lC:∀ q,q<w.heap.size->q≠ob->q<w8.heap.size:=fun q hq hn=>by
  have e:=kp q hq hn;rw [Array.getElem?_eq_getElem hq] at e;exact (Array.getElem?_eq_some_iff.1 e).1
 have mv:∀ (m:List ah) (bb:Option Addr),EL w bb m->(∀ a,bb=some a->0<m.length->a.block≠ob/\a.block<w.heap.size)->EL w8 bb m/\∀ a,bb=some a->0<m.length->a.block≠iZ/\a.block<w8.heap.size:=fun m bb e hb =>
  ⟨e.keep15 fun a x z=>kp _ (hb a x z).2 (hb a x z).1,fun a x z=>⟨by
   obtain ⟨q1,q2⟩:=hb a x z;rcases o8 with q | q
   ·rw [q];exact q1
   ·omega,lC _ (hb a x z).2 (hb a x z).1⟩⟩
 refine ⟨by rw [List.length_append,List.length_append,h.len];rfl,fun i hi=>?_⟩
 by_cases e:i<L.length
 ·obtain ⟨b,c,h1,h2,h3,h4,h5⟩:=h.row i e
  have eg:(L++[l]).getD i []=L.getD i []:=by
   rw [List.getD_eq_getElem?_getD,List.getElem?_append_left e,<-List.getD_eq_getElem?_getD]
  rw [eg];exact ⟨b,c,by rw [List.getElem?_append_left (by rw [h.len];exact e)];exact h1,h2,(mv _ _ h3 h5).1,h4,(mv _ _ h3 h5).2⟩
 ·have ei:i=L.length:=by
   rw [List.length_append] at hi;simp at hi;omega
  subst ei;have eg:(L++[l]).getD L.length []=l:=by simp [List.getD]
  rw [eg];exact ⟨bo,c,by rw [<-h.len];simp,hc,(mv _ _ el ha).1,hn,(mv _ _ el ha).2⟩
theorem TL.ev {w:World} {base ob n oc:Nat} {aj:List Value} {L:List (List ah)} (h:TL w ob aj L) (o:w.ownsRow base 35 1 (.slice (some ⟨ob,0,none⟩) n oc) n aj) (hn:L.length=n):EV w (some ⟨ob,0,none⟩) L :=
 ⟨fun h0=>⟨ob,0,rfl,(o.lt ob rfl).2,fun i hi=>by
  obtain ⟨bo,c,h1,h2,h3,h4,_⟩:=h.row i hi;refine ⟨bo,c,?_,h2,h3,h4⟩;rw [Nat.zero_add,World.ownsRow.cellAt o i (by omega)]
  exact h1⟩⟩
theorem cV.told {HR:aV} (H:cV HR) {w:World} {r:Rn} (h:RA HR w r) :
  Calls prog 50 #[.pointer (some ⟨r.p,0,none⟩)] w fun e w'=>(∃ bo c,e=.returned (.slice bo r.l.length c)/\EL w' bo r.l/\r.l.length<=c/\(bo=none->r.l.length=0/\c=0)/\∀ a,bo=some a->w.heap.size<=a.block/\a.block<w'.heap.size)/\Gw w w' :=
 (H.list h.h).mono fun e w' ⟨⟨bo,c,he,er⟩,gg⟩=>by
  refine ⟨⟨bo,c,he,Dw er (fun i hi=>by have:=h.bd _ (List.getElem_mem hi);rw [<-mD hi] at this;exact this),?_⟩,gg⟩
  rcases er.2 with ⟨e,z⟩ | ⟨b,cap,cur,e,hb,hh,hc,_⟩
  ·injection e with e1 e2 e3
   subst e1 e3;exact ⟨by omega,(fun _=>⟨z,rfl⟩),fun a x=>(by cases x)⟩
  ·injection e with e1 e2 e3
   subst e1 e3;exact ⟨hc,(fun x=>by cases x),fun a x=>(by cases x;exact ⟨hb,aE hh⟩)⟩
theorem abq {HR:aV} (H:cV HR) {w:World} {p:Nat} {rs:List (Option Rn)} {eps buf B W:Int} (h:au HR w p rs eps buf B W) (ao:Option Addr) (c:Nat) (l:List ah) (hl:EL w ao l) (hc:l.length<=c) (hz:ao=none->l.length=0/\c=0) (j:Nat) (hj:j<40) :
  Calls prog 28 #[.pointer (some ⟨p,0,none⟩),.slice ao l.length c,.int .i64 (j:Int)] w fun e w'=>(∃ ob m oc,e=.returned (.slice (some ⟨ob,0,none⟩) m oc)/\EV w' (some ⟨ob,0,none⟩) (l::lists (rs.take (j+1)))/\(l::lists (rs.take (j+1))).length=m/\m<=oc/\w.heap.size<=ob)/\Gw w w':=by
 have HC:ag (au HR w p rs eps buf B W):=h;have HH:ag (cV HR):=H;obtain ⟨n,hn⟩:∃ n,j+1=n:=⟨_,rfl⟩;have wn:IntKind.i64.wrap ((j:Int)+1)=(n:Int):=by rw [IntKind.wrap_i64];omega
 have n40:n<=40:=by omega
 have af3:(n:Int)<=40:=by omega
 rw [hn];obtain ⟨jj,kX,jz,js,kY⟩:=info_parts Nu;have R1:ag ((w.alloc (.cells #[.slice ao l.length c] 35)).ownsRow w.heap.size 35 1 (.slice (some ⟨w.heap.size,0,none⟩) 1 1) 1 [.slice ao l.length c]):=⟨rfl,.inr ⟨w.heap.size,1,_,rfl,Nat.le_refl _,heap_alloc_new w _,Nat.le_refl _,(by decide),rfl,rfl⟩⟩
 have K1:ag (TL (w.alloc (.cells #[.slice ao l.length c] 35)) w.heap.size [.slice ao l.length c] (l::lists (rs.take 0))):=by
  refine ⟨rfl,fun i hi=>?_⟩
  have bV:i<1:=hi;have e:i=0:=by omega
  subst e;refine ⟨ao,c,rfl,hc,hl.gw ((Gw.refl w).alloc _ _),hz,fun a e z=>?_⟩
  obtain ⟨b,off,e',hb,_⟩:=hl.cells z;rw [e] at e';cases e';exact ⟨Nat.ne_of_lt hb,Nat.lt_of_lt_of_le hb ((Gw.refl w).alloc _ _).size⟩
 have G1:ag (Gw w (w.alloc (.cells #[.slice ao l.length c] 35))):=(Gw.refl w).alloc _ _;have hp:=h.lt;obtain ⟨ll,vW⟩:∃ ll,l.length=ll:=⟨_,rfl⟩;rw [vW] at R1 K1 G1 ⊢;clear h H hl hc hz hn vW;go_enter func28,ntmps28;go_wp2_with fail;generalize w.alloc (.cells #[.slice ao ll c] 35)=w1 at R1 K1 G1 ⊢;go_loopg [7,19] n (fun gg s7 s19 wr=>∃ (i m ob oc:Nat) (aj:List Value),s7=.slice (some ⟨ob,0,none⟩) m oc/\s19=.int .i64 (i:Int)/\i<=n/\n-i<=gg/\m<=i+1/\ag ((l::lists (rs.take i)).length=m)/\ag (wr.ownsRow w.heap.size 35 1 (.slice (some ⟨ob,0,none⟩) m oc) m aj)/\ag (TL wr ob aj (l::lists (rs.take i)))/\ag (Gw w wr))
 case atStart=>exact ⟨0,1,w.heap.size,1,_,rfl,rfl,Nat.zero_le _,by omega,Nat.le_refl _,(by show _=_;rfl),R1,K1,G1⟩
 case round =>
  clear R1 K1 G1;obtain ⟨i,m,ob,oc,aj,rfl,rfl,a1,a2,a3,ML,R,KK,G⟩:=hrel;obtain ⟨wS,aZ⟩:∃ wx,wx=wr:=⟨_,rfl⟩;subst aZ;by_cases ak:i<n
  ·have dG:(i:Int)<(n:Int):=by omega
   have ci:=(HC.o.gw HH.o.kp G.o).cell (i:=i) (by omega)
   have pl:p<wS.heap.size:=Nat.lt_of_lt_of_le HC.o.lt G.o.size;have TK:=tO (rs:=rs) (i:=i) (by rw [HC.o.len];omega)
   rcases iJ rs i with e | ⟨r,e⟩
   ·rw [e] at ci TK
    have cu:wS.cell? ⟨p,2+i,none⟩=some (.pointer none):=ci;have LI:lists (rs.take (i+1))=lists (rs.take i):=by rw [TK,vR];exact List.append_nil _
    have rj:ag ((l::lists (rs.take (i+1))).length=m):=by rw [LI];exact ML
    have Ej:ag (TL wS ob aj (l::lists (rs.take (i+1)))):=by rw [LI];exact KK
    clear ci e TK LI ML KK;go_wp2_with fail;go_roundg (n-(i+1))
    case measure=>omega
    case rel=>exact ⟨i+1,m,ob,oc,aj,rfl,by go_num,by omega,Nat.le_refl _,by omega,rj,R,Ej,G⟩
   ·rw [e] at ci TK
    have cu:wS.cell? ⟨p,2+i,none⟩=some (.pointer (some ⟨r.p,0,none⟩)):=ci;have LI:ag (l::lists (rs.take (i+1))=(l::lists (rs.take i))++[r.l]):=by show _=_;rw [TK,vR];rfl
    have LT:ag (Calls prog 50 #[.pointer (some ⟨r.p,0,none⟩)] wS fun e w'=>(∃ bo c,e=.returned (.slice bo r.l.length c)/\EL w' bo r.l/\r.l.length<=c/\(bo=none->r.l.length=0/\c=0)/\∀ a,bo=some a->wS.heap.size<=a.block/\a.block<w'.heap.size)/\Gw wS w'):=HH.o.told ((HC.o.runs r (jN (by rw [HC.o.len];omega) e)).1.gw HH.o.kp G.o)
    generalize r.p=rp at cu LT;generalize r.l=rl at LI LT;clear ci e TK;go_wp2_with fail;refine Calls.mono LT.o ?_;rintro e u1 ⟨⟨bo,cc,rfl,el,gI,OL,aX⟩,gg⟩;have kA:=(R.o.lt ob rfl).2;have jO:ag (EL u1 bo rl/\rl.length<=cc/\(bo=none->rl.length=0/\cc=0)/\∀ a,bo=some a->0<rl.length->a.block≠ob/\a.block<u1.heap.size):=⟨el,gI,OL,fun a x _=>⟨by have:=(aX a x).1;omega,(aX a x).2⟩⟩
    have R6:ag (u1.ownsRow w.heap.size 35 1 (.slice (some ⟨ob,0,none⟩) m oc) m aj):=Nv R.o gg;have K6:ag (TL u1 ob aj (l::lists (rs.take i))):=KK.o.gw gg;have G6:ag (Gw w u1):=G.o.trans gg;have wz:=G6.o.size;obtain ⟨rn,mG⟩:∃ rn,rl.length=rn:=⟨_,rfl⟩;have RN:ag (rl.length=rn):=mG;rw [mG];clear gg el gI OL aX R KK LT mG;go_wp2_with (at_builtin;refine wpList_append_own_at _ rfl _ _ 76 rfl w.heap.size 35 jj (.slice none 0 0) 1 24 underlying76 kX jz js kY rfl (by decide) _ m _ rfl (R6.o.alloc _) ⟨u1.heap.size,0,none⟩ 1 1 [(.slice bo rn cc)] rfl rfl (zG u1 (.slice bo rn cc) 35) (fun u hu=>by simp at hu;subst hu;rfl) (by simp only [maxLen];omega) (by omega) (by simp;omega) ?_)
    intro v' w8 r1 r2 r3 r4;obtain ⟨b8,cap8,rfl,nT,_,_⟩:=cS r1 (by simpa using r3)
    have nU:b8=ob\/u1.heap.size<=b8:=by
     rcases r4 with q | q
     ·have q':b8=ob:=by simpa [Value.ownBlock] using q
      exact .inl q'
     ·have q':b8=u1.heap.size+1:=by simpa [Value.ownBlock] using q
      exact .inr (by omega)
    have gD:(u1.alloc (.cells #[(.slice bo rn cc)] 35)).grownBy w8 (some ob):=r2;have K8:ag (TL w8 b8 (aj++[(.slice bo rn cc)]) (l::lists (rs.take (i+1)))):=by
     rw [LI.o];have:=K6.o.more gD nU jO.o.2.1 jO.o.1 jO.o.2.2.1 jO.o.2.2.2;rw [RN.o] at this;exact this
    have G8:ag (Gw w w8):=(G6.o.alloc _ _).grown r2 (fun q hq=>(World.ownsRow.lt R6.o q hq).1)
    have R8:ag (w8.ownsRow w.heap.size 35 1 (.slice (some ⟨b8,0,none⟩) (m+1) cap8) (m+1) (aj++[(.slice bo rn cc)])):=r1;have rj:ag ((l::lists (rs.take (i+1))).length=m+1):=by show _=_;rw [LI.o,List.length_append,ML.o];rfl
    clear r1 r2 r3 r4 gD nT R6 K6 G6 jO;go_wp2_with fail;go_roundg (n-(i+1))
    case measure=>omega
    case rel=>exact ⟨i+1,m+1,b8,cap8,_,rfl,by go_num,by omega,Nat.le_refl _,by omega,rj,R8,K8,G8⟩
  ·have ei:i=n:=by omega
   subst ei;have X1:ag (EV wS (some ⟨ob,0,none⟩) (l::lists (rs.take i))):=KK.o.ev R.o ML.o;have moc:m<=oc:=(cS R.o (by simp)).elim fun _ ⟨_,ev,_,h,_⟩=>by cases ev;exact h
   have kA:w.heap.size<=ob:=(R.o.lt ob rfl).1;clear R KK;go_wp2_with fail;go_ret;exact ⟨⟨ob,m,oc,rfl,X1.o,ML.o,moc,kA⟩,G.o⟩
structure HV (w:World) (ao:Option Addr) (L:List (List ah)):Prop where
 cells:0<L.length->∃ b off,ao=some ⟨b,off,none⟩/\b<w.heap.size/\∀ i,i<L.length->∃ bo c,w.cell? ⟨b,off+i,none⟩=some (.slice bo (L.getD i []).length c)
theorem EV.hv {w:World} {ao:Option Addr} {L:List (List ah)} (h:EV w ao L):HV w ao L :=
 ⟨fun h0=>by
  obtain ⟨b,off,e,hb,hc⟩:=h.cells h0;exact ⟨b,off,e,hb,fun i hi=>by obtain ⟨bo,c,c1,_⟩:=hc i hi;exact ⟨bo,c,c1⟩⟩⟩
theorem HV.gx {F:Nat->Prop} {w w':World} {b:Nat} {L:List (List ah)} (h:HV w (some ⟨b,0,none⟩) L) (g:Gx F w w') (hb:¬ F b):HV w' (some ⟨b,0,none⟩) L :=
 ⟨fun h0=>by
  obtain ⟨b',off,e,cY,hc⟩:=h.cells h0;cases e;have eq:∀ o,w'.cell? ⟨b,o,none⟩=w.cell? ⟨b,o,none⟩:=fun o=>World.cell?_of_block (a:=⟨b,o,none⟩) (g.block b cY hb)
  exact ⟨b,0,rfl,Nat.lt_of_lt_of_le cY g.size,fun i hi=>by obtain ⟨bo,c,c1⟩:=hc i hi;exact ⟨bo,c,(eq _).trans c1⟩⟩⟩
theorem abr (ao:Option Addr) (c:Nat) (L:List (List ah)) (hL:L.length<=2000000) (hs:aN L<=2000000) (w:World) (h:HV w ao L) :
  Calls prog 34 #[.slice ao L.length c] w fun e w'=>e=.returned (.int .i64 (aN L:Nat))/\w'=w:=by
 have HE:ag _:=h;obtain ⟨n,hn⟩:∃ n,L.length=n:=⟨_,rfl⟩;have LN:ag _:=hn;have HS:ag _:=hs;obtain ⟨S,hS⟩:∃ S,aN L=S:=⟨_,rfl⟩;have SS:ag _:=hS;rw [hS];rw [hn] at hL ⊢;clear h hn hs hS;have TOT:ag (∀ i,i<L.length->aN (L.take (i+1))=aN (L.take i)+(L.getD i []).length/\aN (L.take (i+1))<=aN L):=fun i hi=>by
  have e:L.take (i+1)=L.take i++[L.getD i []]:=by
   rw [List.take_add_one,List.getElem?_eq_getElem hi,List.getD_eq_getElem?_getD,List.getElem?_eq_getElem hi];rfl
  have f:aN (L.take (i+1))+aN (L.drop (i+1))=aN L:=by rw [<-vH,List.take_append_drop]
  refine ⟨by rw [e,vH];simp [aN],by omega⟩
 go_enter func34,ntmps34;go_wp2_with fail;go_loopg [3,8] n (fun gg s3 s8 wr=>∃ i t:Nat,s3=.int .i64 (t:Int)/\s8=.int .i64 (i:Int)/\i<=n/\n-i<=gg/\t<=2000000/\ag (aN (L.take i)=t)/\wr=w)
 case atStart=>exact ⟨0,0,rfl,rfl,Nat.zero_le _,by omega,by omega,(by show _=_;rfl),rfl⟩
 case round =>
  obtain ⟨i,t,rfl,rfl,a1,a2,a3,T,hw⟩:=hrel;subst hw;by_cases ak:i<n
  ·have dG:(i:Int)<(n:Int):=by omega
   have hi:i<L.length:=by rw [LN.o];exact ak
   obtain ⟨b,off,rfl,hb,hc⟩:=HE.o.cells (by omega)
   obtain ⟨bo,cc,c1⟩:=hc i hi;obtain ⟨t1,t2⟩:=TOT.o i hi;rw [T.o] at t1;have t3:=HS.o;obtain ⟨m,hm⟩:∃ m,(L.getD i []).length=m:=⟨_,rfl⟩;rw [hm] at c1 t1;have T':ag _:=t1;have tm:t+m<=2000000:=by omega
   clear hc t1 t2 t3 hm T hi;go_wp2_with fail;go_roundg (n-(i+1))
   case measure=>omega
   case rel=>exact ⟨i+1,t+m,by go_num,by go_num,by omega,Nat.le_refl _,tm,T',rfl⟩
  ·have ei:i=n:=by omega
   subst ei;have e:S=t:=by rw [<-SS.o,<-T.o,List.take_of_length_le (by rw [LN.o];exact Nat.le_refl _)]
   subst e;clear T SS;go_wp2_with fail;go_ret;exact ⟨rfl,rfl⟩
theorem OM (ao bo:Option Addr) (ca cb:Nat) (l:List ah) (hn:l.length<=4000000) (w:World) (ha:EL w ao l) (hb:EL w bo l) :
  Calls prog 11 #[.slice ao l.length ca,.slice bo l.length cb] w fun e w'=>e=.returned (.bool true)/\Gw w w':=by
 have EA:ag _:=ha;have EB:ag _:=hb;obtain ⟨n,aA⟩:∃ n,l.length=n:=⟨_,rfl⟩;have LN:ag _:=aA;rw [aA] at hn ⊢;clear ha hb aA;go_enter func11,ntmps11;go_wp2_with fail;go_loopg [5] n (fun gg s5 wr=>∃ i:Nat,s5=.int .i64 i/\i<=n/\n-i<=gg/\ag (Gw w wr))
 case atStart=>exact ⟨0,rfl,Nat.zero_le _,by omega,(show ag _ from Gw.refl w)⟩
 case round =>
  obtain ⟨i,rfl,h1,h2,G⟩:=hrel;by_cases ak:i<n
  ·obtain ⟨ab,af,rfl,cO,pC⟩:=(EA.o.gw G.o).cells (by rw [LN.o];omega)
   obtain ⟨bb,bf,rfl,iY,vX⟩:=(EB.o.gw G.o).cells (by rw [LN.o];omega)
   obtain ⟨c0,c1,c2⟩:=pC i (by rw [LN.o];exact ak)
   obtain ⟨d0,d1,d2⟩:=vX i (by rw [LN.o];exact ak)
   have dG:(i:Int)<(n:Int):=by omega
   generalize (l.getD i aF).k=ki at c0 d0;generalize (l.getD i aF).v=vi at c1 d1;generalize (l.getD i aF).g=gi at c2 d2;clear pC vX;go_wp2_with fail;go_quiet (fail);go_wp2_with fail;go_roundg (n-(i+1))
   case measure=>omega
   case rel=>exact ⟨i+1,by go_num,by omega,Nat.le_refl _,(show ag _ from G.o.drewN _)⟩
  ·go_wp2_with fail
   go_ret
   exact ⟨rfl,G.o⟩
end Go.Proofs.YtklkpldicbkjeaaGreat
