/- lay: a point more, and those that it can't touch any more gone. -/
import Derived.Deep.AppendLies
import Derived.Deep.RegionLaw
import Derived.Test.YtcboobmfnmgldaaGreatBR4Add
import Derived.Test.YtcboobmfnmgldaaGreatBPCt
set_option linter.unusedVariables false
set_option maxHeartbeats 16000000
set_option maxRecDepth 10000
open Go.Proofs.Tryz
namespace Go.Proofs.YtcboobmfnmgldaaGreat
open Go.RowKit
def bV (w:World) (p:Nat) (B:Array Value) (t:TypeId):Prop:=w.heap[p]?=some (.cells B t (0,0))
variable {w:World} {p:Nat} {B:Array Value} {t:TypeId}
theorem bV.lt (h:bV w p B t):p<w.heap.size:=(Array.getElem?_eq_some_iff.1 h).1
variable {o:Nat} {v:Value}
theorem bV.cell (h:bV w p B t) (hv:B[o]?=some v):w.cell? ⟨p,o,none⟩=some v:=by unfold bV at h;simp [World.cell?,h,hv]
theorem bV.fz (h:bV w p B t) (o:Nat):w.frozen? ⟨p,o,none⟩=false:=by unfold bV at h;simp [World.frozen?,h]
variable {w':World}
theorem bV.gw (h:bV w p B t) (g:Gw w w'):bV w' p B t:=(g.below.block p h.lt).trans h
theorem bV.set (h:bV w p B t) (o:Nat) (v:Value):bV (w.setCell ⟨p,o,none⟩ v) p (B.setIfInBounds o v) t:=by
 unfold bV at h ⊢;simp [World.setCell,Array.getElem?_modify,h]
def bO (f:Nat->Int) (c:Nat->Nat) (h:Int):Nat->List Value
 | 0=>[]
 | m+1=>bO f c h m++[By (f (c m)),AI ((c m:Int)+h)]
theorem yj (f:Nat->Int) (c:Nat->Nat) (h:Int) (m:Nat):(bO f c h m).length=m*2:=by
 induction m with
 | zero=>rfl
 | succ m ih=>simp [bO,ih];omega
variable {m:Nat}
theorem ad3 (f:Nat->Int) (c:Nat->Nat) (h:Int) {k:Nat} (hk:k<=m):(bO f c h m).take (k*2)=bO f c h k:=by
 induction m with
 | zero =>
      have:k=0:=by omega
      subst this;rfl
 | succ m ih =>
  by_cases e:k=m+1
  ·subst e
   rw [<-yj f c h (m+1)];exact List.take_length
  ·have:=ih (by omega)
   rw [bO,List.take_append_of_le_length (by rw [yj];omega)]
   exact this
theorem Um (f:Nat->Int) (c:Nat->Nat) (h:Int) {i:Nat} (hi:i<m):(bO f c h m)[i*2]?=some (By (f (c i)))/\(bO f c h m)[i*2+1]?=some (AI ((c i:Int)+h)):=by
 induction m with
 | zero=>omega
 | succ m ih =>
  by_cases e:i=m
  ·subst e
   have l:=yj f c h i;constructor
   ·rw [bO,List.getElem?_append_right (by omega),l];simp
   ·rw [bO,List.getElem?_append_right (by omega),l];simp
  ·obtain ⟨h1,h2⟩:=ih (by omega)
   have l:=yj f c h m;constructor
   ·rw [bO,List.getElem?_append_left (by omega)];exact h1
   ·rw [bO,List.getElem?_append_left (by omega)];exact h2
variable {f:Nat->Int} {c:Nat->Nat}
theorem IE {f':Nat->Int} {c':Nat->Nat} (h:Int) (e:∀ i,i<m->f (c i)=f' (c' i)/\c i=c' i):bO f c h m=bO f' c' h m:=by
 induction m with
 | zero=>rfl
 | succ m ih =>
  obtain ⟨e1,e2⟩:=e m (by omega)
  rw [bO,bO,ih (fun i hi=>e i (by omega)),e1,e2]
variable {base g cap:Nat} {h:Int}
theorem IF (own:w.ownsRow base 250 2 (.slice (some ⟨g,0,none⟩) m cap) m (bO f c h m)):PS w g m (fun i=>f (c i)) (fun i=>(c i:Int)+h):=by
 have C:=own.cells (g:=g) rfl;refine ⟨(own.lt g rfl).2,fun i hi=>?_,fun i hi=>?_⟩
 ·have:=C (i*2) _ (Um f c h hi).1
  rw [Addr.add_lit] at this;simpa using this
 ·have:=C (i*2+1) _ (Um f c h hi).2
  rw [Addr.add_lit] at this;simpa using this
theorem ad4 {k:Nat} (own:w.ownsRow base 250 2 (.slice (some ⟨g,0,none⟩) m cap) m (bO f c h m)) (hk:k<=m):w.ownsRow base 250 2 (.slice (some ⟨g,0,none⟩) k cap) k (bO f c h k):=by
 refine ⟨yj f c h k,?_⟩;rcases own.2 with ⟨q,_⟩ | ⟨g',fJ,cur,ev,hb,hh,uM,Ms,cU,htk⟩
 ·cases q
 ·cases ev
  refine .inr ⟨g,cap,cur,rfl,hb,hh,by omega,Ms,cU,?_⟩
  rw [<-ad3 f c h hk,<-htk,List.take_take];congr 1;omega
variable {xs:List Value}
theorem ad5 (own:w.ownsRow base 250 2 (.slice (some ⟨g,0,none⟩) m cap) m xs):m<=cap:=by
 rcases own.2 with ⟨q,_⟩ | ⟨g',fJ,cur,ev,hb,hh,uM,_⟩
 ·cases q
 ·cases ev;exact uM
variable {n:Nat}
theorem kq {e size:Nat} (own:w.ownsRow base e size v n xs) (k:∀ q,v.ownBlock=some q->w'.heap[q]?=w.heap[q]?):w'.ownsRow base e size v n xs:=by
 refine ⟨own.1,?_⟩;rcases own.2 with q | ⟨g,cap,cur,rfl,hb,hh,r⟩
 ·exact .inl q
 ·exact .inr ⟨g,cap,cur,rfl,hb,(k g rfl).trans hh,r⟩
theorem Uo:(prog.info? 250).map (fun i=>(i.zero,i.size,i.bytes))=some (some (.agg #[By 0,AI 0]),2,16):=by kernel_rfl
structure iq (w wc:World) (p o:Nat) (B:Array Value) (T:TypeId) (v:Value) (m:Nat) (xs:List Value) (x y:Int):Prop where
 blk:bV wc p B T
 bo:B[o+1]?=some v
 own:wc.ownsRow 0 250 2 v m xs
 ne:v.ownBlock≠some p
 bx:Bx wc w.heap.size 250 (By x) (AI y)
 ml:m<=4000000
variable {wc:World} {T:TypeId} {x y:Int}
theorem iq.own1 (M:iq w wc p o B T v m xs x y):(wc.drew.alloc (.cells #[By x,AI y] 250)).ownsRow 0 250 2 v m xs :=
 kq M.own fun q hq=>heap_alloc_old wc.drew _ (M.own.lt q hq).2
theorem iq.news (M:iq w wc p o B T v m xs x y):∀ j u,[Value.int .u64 x,AI y][j]?=some u->(wc.drew.alloc (.cells #[By x,AI y] 250)).cell? ((⟨wc.heap.size,0,none⟩:Addr).add j)=some u:=by
 have hb:(wc.drew.alloc (.cells #[By x,AI y] 250)).heap[wc.heap.size]?=some (.cells #[By x,AI y] 250 (0,0)):=heap_alloc_new wc.drew _;exact World.news_of_block hb
variable {w7:World}
theorem iq.after (M:iq w wc p o B T v m xs x y) (g:(wc.drew.alloc (.cells #[By x,AI y] 250)).grownBy w7 v.ownBlock):bV w7 p B T:=by
 have l:=M.blk.lt;refine (g.block p (by simp;omega) (fun q=>M.ne q.symm)).trans ?_
 exact (heap_alloc_old wc.drew _ l).trans M.blk
variable {v0:Value}
theorem iq.gs (M:iq w wc p o B T v m xs x y) (G:Gs (fun q=>q=p\/v0.ownBlock=some q) w wc) (hv:v.ownBlock=v0.ownBlock) (g:(wc.drew.alloc (.cells #[By x,AI y] 250)).grownBy w7 v.ownBlock) (u:Value):Gs (fun q=>q=p\/v0.ownBlock=some q) w (w7.setCell ⟨p,o+1,none⟩ u):=by
 refine Gs.set ?_ (.inl rfl) _ _;have G1:Gs (fun q=>q=p\/v0.ownBlock=some q) w (wc.drew.alloc (.cells #[By x,AI y] 250)) :=
  ⟨G.os,G.tape,G.output,by have:=G.size;simp;omega,fun q hq hs=>(heap_alloc_old wc.drew _ (show q<wc.heap.size by have:=G.size;omega)).trans (G.block q hq hs)⟩
 exact G1.grown g (fun k hk=>.inr (by rw [<-hv];exact hk))
theorem Uq (x y:Int):∀ u∈[Value.int .u64 x,AI y],u.oneCell'=true:=by
 intro u hu;rcases List.mem_cons.1 hu with rfl | hu
 ·rfl
 ·rcases List.mem_cons.1 hu with rfl | hu
  ·rfl
  ·cases hu
theorem iq.len1 (M:iq w wc p o B T v m xs x y):m+1<=maxLen:=by have:=M.ml;simp [maxLen];omega
theorem iq.len2 (M:iq w wc p o B T v m xs x y):(m+1)*16<=140737488355328:=by have:=M.ml;omega
def Laid (w w':World) (p o:Nat) (B:Array Value) (T:TypeId) (v:Value) (f:Nat->Int) (n:Nat) (x s h:Int):Prop :=
 (∃ v' m' c',bV w' p (B.setIfInBounds (o+1) v') T/\w'.ownsRow 0 250 2 v' m' (bO (aD f n x) c' h m')/\du (aD f n x) (fun j=>s*(j:Int)) (n+1) m' c'/\(∀ q,v'.ownBlock=some q->(v.ownBlock=some q\/w.heap.size<=q)/\q≠p))/\Gs (fun q=>q=p\/v.ownBlock=some q) w w'
variable {s:Int}
theorem Ur {B2:Array Value} {c':Nat->Nat} (M:iq w wc p o B2 T v m xs x y) (G:Gs (fun q=>q=p\/v0.ownBlock=some q) w wc) (hv:v.ownBlock=v0.ownBlock)
  (q1:w7.ownsRow 0 250 2 (.slice (some ⟨g,0,none⟩) (m+1) cap) (m+1) (xs++[By x,AI y])) (q2:(wc.drew.alloc (.cells #[By x,AI y] 250)).grownBy w7 v.ownBlock) (q3:v.ownBlock=some g\/g=(wc.drew.alloc (.cells #[By x,AI y] 250)).heap.size)
  (hc:du (aD f n x) (fun j=>s*(j:Int)) (n+1) (m+1) c') (hp:xs++[By x,AI y]=bO (aD f n x) c' h (m+1)) (hB:∀ u,B2.setIfInBounds (o+1) u=B.setIfInBounds (o+1) u) :
  Laid w (w7.setCell ⟨p,o+1,none⟩ (.slice (some ⟨g,0,none⟩) (m+1) cap)) p o B T v0 f n x s h:=by
 have B7:=M.after q2;have gp:g≠p:=by
  rcases q3 with r | r
  ·intro e;rw [e] at r;exact M.ne r
  ·have:=M.blk.lt;simp at r;omega
 refine ⟨⟨.slice (some ⟨g,0,none⟩) (m+1) cap,m+1,c',?_,?_,hc,?_⟩,M.gs G hv q2 _⟩
 ·rw [<-hB];exact B7.set _ _
 ·rw [<-hp]
  refine kq q1 fun q hq=>?_
  cases hq
  exact Go.Deep.blk_setCell_other _ _ _ _ gp
 ·intro q hq
  cases hq
  refine ⟨?_,gp⟩;rcases q3 with r | r
  ·exact .inl (by rw [<-hv];exact r)
  ·right
   have:=G.size
   simp at r;show w.heap.size<=g;omega
theorem ad6 {w4:World} {t:Nat} (F1:bV w4 p B T) (F2:Bx w4 w.heap.size 250 (By x) (AI y)) (F3:w4.ownsRow 0 250 2 (.slice (some ⟨g,0,none⟩) m cap) m (bO f c h m)) (tm:t<m) (m4:m<=4000000) (gp:g≠p) (bo:∀ u:Value,(B.setIfInBounds (o+1) u)[o+1]?=some u) (lp:p<w.heap.size) :
  iq w (w4.setCell ⟨p,o+1,none⟩ (.slice (some ⟨g,0,none⟩) (t+1) cap)) p o (B.setIfInBounds (o+1) (.slice (some ⟨g,0,none⟩) (t+1) cap)) T (.slice (some ⟨g,0,none⟩) (t+1) cap) (t+1) (bO f c h (t+1)) x y :=
 ⟨F1.set _ _,bo _,kq (ad4 F3 (by omega)) (fun q hq=>by cases hq;exact Go.Deep.blk_setCell_other _ _ _ _ gp),(fun q=>by cases q;exact gp rfl),F2.far _ (by omega),by omega⟩
theorem Us (h0:-63<=h) (h1:h<=63) (x:Int) (x0:0<=x) (x1:x<18446744073709551616)
  (hb:bV w p B T) (sB:B[o+1]?=some (.slice none 0 0)) :
  Calls prog 163 #[.pointer (some ⟨p,o,none⟩),.agg #[By x,AI h]] w fun e w'=>e=.returned (.tuple #[])/\Laid w w' p o B T (.slice none 0 0) f 0 x s h:=by
 have M:iq w (w.alloc (.cells #[By x,AI h] 250)) p o B T (.slice none 0 0) 0 [] x h :=
  ⟨hb.gw ((Gw.refl w).alloc _ _),sB,World.ownsRow_nil _ _ _ _,by simp [Value.ownBlock],Bx.new _ _ _ _,by omega⟩
 have G0:Gs (fun q=>q=p\/(Value.slice none 0 0).ownBlock=some q) w (w.alloc (.cells #[By x,AI h] 250)):=((Gw.refl w).alloc _ _).gs _
 have PC:ag ([]++[By x,AI h]=bO (aD f 0 x) (fun _=>0) h (0+1)):=by
  show _=[]++[Value.int .u64 (aD f 0 x 0),AI (((0:Nat):Int)+h)];rw [dO];simp
 have c1:=hb.cell sB;have lp:=hb.lt;obtain ⟨ii,aQ,hz,hs,aR⟩:=info_parts Uo;clear hb;go_enter func163,ntmps163;go_wp2_with fail;generalize w.alloc (.cells #[By x,AI h] 250)=wc at M G0 ⊢;clear c1;have M':ag _:=M;have G':ag _:=G0;have d1:=M'.o.blk.cell M'.o.bo;have d2:=M'.o.bx.c0;have d3:=M'.o.bx.c1;have d4:=M'.o.blk.fz (o+1);have d5:=M'.o.blk.lt;have IG:ag _:=Uq x (h);clear M G0;go_region_law (refine step_append_lies _ rfl (.tmp 26) (.tmp 28) 216 rfl 0 250 ii _ 2 16 underlying216 aQ hz hs aR rfl (by decide) (.slice none 0 0) (0) ([]) (by simp [Act.eval]) M'.o.own1 ⟨wc.heap.size,0,none⟩ 1 1 [By x,AI (h)] (by simp [Act.eval]) rfl M'.o.news IG.o (by decide) (M'.o.len1) (M'.o.len2) (by omega) _ rfl ?_;intro g' fJ w7 q1 q2 q3 q4;have B7:ag (bV w7 p (B) T):=M'.o.after q2;have e1:=B7.o.cell M'.o.bo;have e2:=B7.o.fz (o+1);have aL:ag (Laid w (w7.setCell ⟨p,o+1,none⟩ (.slice (some ⟨g',0,none⟩) (0+1) fJ)) p o B T (Value.slice none 0 0) f (0) x s h):=(Ur M'.o G'.o rfl q1 q2 q3 (adR _ _) PC.o (fun _=>rfl));clear q1 q2 q3)
 all_goals
  clear d1 d2 d3 d4 d5;go_wp2;go_end0;exact ⟨rfl,aL.o⟩
theorem Ut (kb:KB f n) (hn:0<n) (gH:s=1\/s=-1) (h0:-63<=h) (h1:h<=63) (x:Int) (hx:f (n-1)<x) (x1:x<18446744073709551616)
  (hb:bV w p B T) (hB0:B[o]?=some (AI s)) (sB:B[o+1]?=some (.slice (some ⟨g,0,none⟩) m cap)) (own:w.ownsRow 0 250 2 (.slice (some ⟨g,0,none⟩) m cap) m (bO f c h m)) (gp:g≠p) (ch:du f (fun j=>s*(j:Int)) n m c) :
  Calls prog 163 #[.pointer (some ⟨p,o,none⟩),.agg #[By x,AI ((n:Int)+h)]] w fun e w'=>e=.returned (.tuple #[])/\Laid w w' p o B T (.slice (some ⟨g,0,none⟩) m cap) f n x s h:=by
 have nl:=kb.len;have CC:CH w p o g m cap s h f n c:=⟨hb.lt,hb.cell hB0,hb.cell sB,IF own,ch⟩;have TA:ag (∀ W,Gw w W->Calls prog 187 #[.pointer (some ⟨p,o,none⟩),.agg #[By x,AI ((n:Int)+h)]] W fun e w'=>(∃ t:Nat,e=.returned (AI t)/\jA f (fun j=>s*(j:Int)) m c x (s*(n:Int)) t)/\Gw W w'):=by
  show ∀ W,Gw w W->Calls prog 187 #[.pointer (some ⟨p,o,none⟩),.agg #[By x,AI ((n:Int)+h)]] W fun e w'=>(∃ t:Nat,e=.returned (AI t)/\jA f (fun j=>s*(j:Int)) m c x (s*(n:Int)) t)/\Gw W w'
  intro W G;have:=Uj kb gH h0 h1 x ((n:Int)+h) hx x1 (by omega) (by omega) W (CC.gw G)
  rw [show (n:Int)+h-h=n by omega] at this
  exact this
 have ML:=ad5 own;have m4:m<=4000000:=by have:=ch.len;omega
 have m0:0<m:=ch.pos;have FX:ag (∀ W,Gw (w.alloc (.cells #[By x,AI ((n:Int)+h)] 250)) W->bV W p B T/\Bx W w.heap.size 250 (By x) (AI ((n:Int)+h))/\W.ownsRow 0 250 2 (.slice (some ⟨g,0,none⟩) m cap) m (bO f c h m)/\Gw w W):=by
  intro W G;have G1:=((Gw.refl w).alloc #[By x,AI ((n:Int)+h)] 250).trans G;exact ⟨hb.gw G1,(Bx.new _ _ _ _).gw G,kq own fun q hq=>G1.below.block q (own.lt q hq).2,G1⟩
 have Uu:ag (∀ t,jA f (fun j=>s*(j:Int)) m c x (s*(n:Int)) t->du (aD f n x) (fun j=>s*(j:Int)) (n+1) (t+1+1) (lU c (t+1) n)/\bO f c h (t+1)++[By x,AI ((n:Int)+h)]=bO (aD f n x) (lU c (t+1) n) h (t+1+1)):=by
  intro t ht;refine ⟨ch.lay kb.up hx ht,?_⟩;have e:bO (aD f n x) (lU c (t+1) n) h (t+1+1)=bO (aD f n x) (lU c (t+1) n) h (t+1)++[By (aD f n x (lU c (t+1) n (t+1))),AI ((lU c (t+1) n (t+1):Int)+h)]:=rfl;rw [e,TY,dO];congr 1;refine IE h fun i hi=>?_
  have tl:=ht.lt;have bd:=ch.bd (show i<m by omega)
  rw [TZ hi,bH bd];exact ⟨rfl,rfl⟩
 have BO:ag (∀ u:Value,(B.setIfInBounds (o+1) u)[o+1]?=some u):=by
  intro u;have:o+1<B.size:=(Array.getElem?_eq_some_iff.1 sB).1;simp [this]
 have c1:=hb.cell sB;have lp:=hb.lt;have f1:=hb.fz (o+1);obtain ⟨ii,aQ,hz,hs,aR⟩:=info_parts Uo;have HH:ag (prog.info? 250=some ii/\ii.zero=some (.agg #[By 0,AI 0])/\ii.size=2/\ii.bytes=16):=⟨aQ,hz,hs,aR⟩;clear hb CC own ch aQ hz hs aR kb;go_enter func163,ntmps163;go_wp2_with fail;go_cut [] (fun wc=>∃ t:Nat,ag (jA f (fun j=>s*(j:Int)) m c x (s*(n:Int)) t)/\ag (iq w wc p o (B.setIfInBounds (o+1) (.slice (some ⟨g,0,none⟩) (t+1) cap)) T (.slice (some ⟨g,0,none⟩) (t+1) cap) (t+1) (bO f c h (t+1)) x ((n:Int)+h))/\ag (Gs (fun q=>q=p\/(Value.slice (some ⟨g,0,none⟩) m cap).ownBlock=some q) w wc))
 case first =>
  go_region_with (go_at_call 187;refine (TA.o _ ((Gw.refl w).alloc _ _).drew).mono ?_;rintro e w4 ⟨⟨t,rfl,ht⟩,g4⟩;obtain ⟨F1,F2,F3,F4⟩:=FX.o w4 ((Gw.drew (Gw.refl _)).trans g4);have j1:=F1.cell sB;have j2:=F1.fz (o+1);have j5:(t:Int)+1<=cap:=(by have:=ht.lt;omega);have j6:IntKind.i64.wrap ((t:Int)+1)=(t:Int)+1:=(by rw [IntKind.wrap_i64];have:=ht.lt;omega);have j7:0<=(t:Int)+1:=(by omega);have RR:ag (iq w (w4.setCell ⟨p,o+1,none⟩ (.slice (some ⟨g,0,none⟩) (t+1) cap)) p o (B.setIfInBounds (o+1) (.slice (some ⟨g,0,none⟩) (t+1) cap)) T (.slice (some ⟨g,0,none⟩) (t+1) cap) (t+1) (bO f c h (t+1)) x ((n:Int)+h)):=(ad6 F1 F2 F3 ht.lt m4 gp BO.o lp);have GG:ag (Gs (fun q=>q=p\/(Value.slice (some ⟨g,0,none⟩) m cap).ownBlock=some q) w (w4.setCell ⟨p,o+1,none⟩ (.slice (some ⟨g,0,none⟩) (t+1) cap))):=((F4.gs _).set (.inl rfl) _ _);have ID:ag (jA f (fun j=>s*(j:Int)) m c x (s*(n:Int)) t):=ht;clear F1 F2 F3 F4 ht g4)
  all_goals
   clear j1 j2 j5 j6 j7 c1 f1;go_wp2_with fail;go_meet
   case rel=>exact ⟨t,ID.o,RR.o,GG.o⟩
 case rest =>
  obtain ⟨wx,fB⟩:∃ wx,wx=wc:=⟨_,rfl⟩;subst fB;obtain ⟨t,ht,M,G0⟩:=hcut;obtain ⟨aQ,hz,hs,aR⟩:=HH.o;clear c1 f1;go_wp2_with fail;have BE:ag (∀ u,(B.setIfInBounds (o+1) (.slice (some ⟨g,0,none⟩) (t+1) cap)).setIfInBounds (o+1) u=B.setIfInBounds (o+1) u):=fun u=>by simp
  generalize B.setIfInBounds (o+1) (.slice (some ⟨g,0,none⟩) (t+1) cap)=B2 at M BE;have M':ag _:=M;have G':ag _:=G0;have d1:=M'.o.blk.cell M'.o.bo;have d2:=M'.o.bx.c0;have d3:=M'.o.bx.c1;have d4:=M'.o.blk.fz (o+1);have d5:=M'.o.blk.lt;have IG:ag _:=Uq x ((n:Int)+h);clear M G0;go_region_law (refine step_append_lies _ rfl (.tmp 26) (.tmp 28) 216 rfl 0 250 ii _ 2 16 underlying216 aQ hz hs aR rfl (by decide) (.slice (some ⟨g,0,none⟩) (t+1) cap) (t+1) (bO f c h (t+1)) (by simp [Act.eval]) M'.o.own1 ⟨wx.heap.size,0,none⟩ 1 1 [By x,AI ((n:Int)+h)] (by simp [Act.eval]) rfl M'.o.news IG.o (by decide) (M'.o.len1) (M'.o.len2) (by omega) _ rfl ?_;intro g' fJ w7 q1 q2 q3 q4;have B7:ag (bV w7 p (B2) T):=M'.o.after q2;have e1:=B7.o.cell M'.o.bo;have e2:=B7.o.fz (o+1);have aL:ag (Laid w (w7.setCell ⟨p,o+1,none⟩ (.slice (some ⟨g',0,none⟩) (t+1+1) fJ)) p o B T (Value.slice (some ⟨g,0,none⟩) m cap) f (n) x s h):=(Ur M'.o G'.o rfl q1 q2 q3 (Uu.o t ht.o).1 (Uu.o t ht.o).2 BE.o);clear q1 q2 q3)
  all_goals
   clear d1 d2 d3 d4 d5;go_wp2;go_end0;exact ⟨rfl,aL.o⟩
theorem ad7 (u v:Int):bM u v<0↔u<v:=by
 unfold bM;split
 ·simp [*]
 ·split<;>simp<;>omega
theorem Uv (u v:Int):0<bM u v↔v<u:=by
 unfold bM;split
 ·simp;omega
 ·split<;>simp<;>omega
def PL (e:Int) (f:Nat->Int) (n:Nat) (x xa ya:Int):Prop:=∃ t,t<n/\xa=f t/\ya=(t:Int)+e/\∀ j,j<n->((n:Int)-j-2*e)*(x-f t)<=((n:Int)-t-2*e)*(x-f j)
def PT (e:Int) (f:Nat->Int) (n:Nat) (x xa ya:Int):Prop:=∃ t,t<n/\xa=f t/\ya=(t:Int)-e/\∀ j,j<n->((n:Int)-t+2*e)*(x-f j)<=((n:Int)-j+2*e)*(x-f t)
variable {e:Int}
theorem PL.bd {xa ya:Int} (h:PL e f n x xa ya) (kb:KB f n) (hx:f (n-1)<x) (e1:1<=e) (e2:e<=63):0<=xa/\xa<x/\-10000000<=ya/\ya<=10000000:=by
 obtain ⟨t,ht,rfl,rfl,_⟩:=h;have b1:=kb.bd t ht;have b2:=kb.up.le (show t<=n-1 by omega) (by omega)
 have b3:=kb.len;omega
theorem PT.bd {xa ya:Int} (h:PT e f n x xa ya) (kb:KB f n) (hx:f (n-1)<x) (e1:1<=e) (e2:e<=63):0<=xa/\xa<x/\-10000000<=ya/\ya<=10000000:=by
 obtain ⟨t,ht,rfl,rfl,_⟩:=h;have b1:=kb.bd t ht;have b2:=kb.up.le (show t<=n-1 by omega) (by omega)
 have b3:=kb.len;omega
theorem ad8 (kb:KB f n) (hn:0<n) (e1:1<=e) (e2:e<=63) (x:Int) (hx:f (n-1)<x) (x1:x<18446744073709551616) (k:CH w p 8 g m cap 1 e f n c) :
  Calls prog 185 #[.pointer (some ⟨p,8,none⟩),.agg #[By x,AI ((n:Int)-e)]] w fun ex w'=>(∃ xa ya:Int,ex=.returned (.agg #[By xa,AI ya])/\PL e f n x xa ya)/\Gw w w':=by
 have nl:=kb.len;refine (Uk kb (.inl rfl) (by omega) e2 x ((n:Int)-e) hx x1 (by omega) (by omega) w k).mono ?_
 rintro ex w' ⟨⟨t,rfl,ht⟩,G⟩;rw [show (n:Int)-e-e=n-2*e by omega] at ht
 exact ⟨⟨_,_,rfl,c t,k.ch.bd ht.lt,rfl,rfl,adV k.ch kb.up hx ht⟩,G⟩
theorem ad9 (kb:KB f n) (hn:0<n) (e1:1<=e) (e2:e<=63) (x:Int) (hx:f (n-1)<x) (x1:x<18446744073709551616) (k:CH w p 6 g m cap (-1) (-e) f n c) :
  Calls prog 185 #[.pointer (some ⟨p,6,none⟩),.agg #[By x,AI ((n:Int)+e)]] w fun ex w'=>(∃ xa ya:Int,ex=.returned (.agg #[By xa,AI ya])/\PT e f n x xa ya)/\Gw w w':=by
 have nl:=kb.len;refine (Uk kb (.inr rfl) (by omega) (by omega) x ((n:Int)+e) hx x1 (by omega) (by omega) w k).mono ?_
 rintro ex w' ⟨⟨t,rfl,ht⟩,G⟩;rw [show (n:Int)+e - -e=n+2*e by omega] at ht
 exact ⟨⟨_,_,rfl,c t,k.ch.bd ht.lt,rfl,by omega,adW k.ch kb.up hx ht⟩,G⟩
theorem ad' (w:World) (t t':TypeId) (a0 a1 b0 b1:Value):Bw w ((w.alloc (.cells #[a0,a1] t)).alloc (.cells #[b0,b1] t')) a0 a1 b0 b1 :=
 ⟨((Gw.refl w).alloc _ _).alloc _ _,by simp [go_sem],by simp [go_sem],by simp [go_sem],by simp [go_sem],by simp [go_sem]⟩
variable {S:Nat->Prop}
theorem Gs.drew (h:Gs S w w'):Gs S w w'.drew:=⟨h.os,h.tape,h.output,h.size,h.block⟩
def df (e:Int) (n:Nat) (lr lf mr mf:Int) (v0 v1:Value):Array Value:=#[AI e,AI n,AI lr,By lf,AI mr,By mf,AI (-1),v0,AI 1,v1]
structure SB (lr lf mr mf:Int):Prop where
 l0:0<=lr
 l1:lr<=10000000
 l2:0<=lf
 l3:lf<18446744073709551616
 m0:0<=mr
 m1:mr<=10000000
 m2:0<=mf
 m3:mf<18446744073709551616
def IJ (w w':World) (p:Nat) (e:Int) (n:Nat) (f:Nat->Int) (x:Int) (v0 v1:Value) (ok:Bool):Prop :=
 (ok=true↔aY e (aD f n x) (aB (n+1)))/\(ok=false->Gw w w') /\
 (ok=true->(∃ lr lf mr mf,bV w' p (df e n lr lf mr mf v0 v1) 221/\fM e (aD f n x) (aB (n+1)) lr lf/\fN e (aD f n x) (aB (n+1)) mr mf/\SB lr lf mr mf)/\Gs (fun q=>q=p) w w')
variable {m0 m1:Nat} {lr lf mr mf:Int} {c0 c1:Nat->Nat}
theorem aea {g0 cJ g1 cG:Nat} (kb:KB f n) (hn:0<n) (xB:n<=3000000) (e1:1<=e) (e2:e<=63) (x:Int) (hx:f (n-1)<x) (x1:x<18446744073709551616)
  (hb:bV w p (df e n lr lf mr mf (.slice (some ⟨g0,0,none⟩) m0 cJ) (.slice (some ⟨g1,0,none⟩) m1 cG)) 221) (k0:CH w p 6 g0 m0 cJ (-1) (-e) f n c0) (k1:CH w p 8 g1 m1 cG 1 e f n c1)
  (low:fM e f (aB n) lr lf) (top:fN e f (aB n) mr mf) (sb:SB lr lf mr mf) :
  Calls prog 162 #[BY p,.agg #[By x,AI ((n:Int)-e)],.agg #[By x,AI ((n:Int)+e)]] w fun ex w'=>∃ ok:Bool,ex=.returned (.bool ok)/\IJ w w' p e n f x (.slice (some ⟨g0,0,none⟩) m0 cJ) (.slice (some ⟨g1,0,none⟩) m1 cG) ok:=by
 have T1:ag (∀ W,Gw w W->Calls prog 185 #[.pointer (some ⟨p,8,none⟩),.agg #[By x,AI ((n:Int)-e)]] W fun ex w'=>(∃ xa ya:Int,ex=.returned (.agg #[By xa,AI ya])/\PL e f n x xa ya)/\Gw W w'):=fun W G=>ad8 kb hn e1 e2 x hx x1 (k1.gw G)
 have T2:ag (∀ W,Gw w W->Calls prog 185 #[.pointer (some ⟨p,6,none⟩),.agg #[By x,AI ((n:Int)+e)]] W fun ex w'=>(∃ xa ya:Int,ex=.returned (.agg #[By xa,AI ya])/\PT e f n x xa ya)/\Gw W w'):=fun W G=>ad9 kb hn e1 e2 x hx x1 (k0.gw G)
 have B1:ag (∀ xa ya,PL e f n x xa ya->∀ W,Calls prog 184 #[.agg #[By xa,AI ya],.agg #[By x,AI ((n:Int)-e)]] W fun ex w'=>ex=.returned (.agg #[AI ((n:Int)-e-ya),By (x-xa)])/\Gw W w'):=by
  intro xa ya h W;obtain ⟨q1,q2,q3,q4⟩:=h.bd kb hx e1 e2;exact Bv xa ya x _ q1 q2 x1 (by omega) (by omega) (by omega) (by omega) W
 have B2:ag (∀ xa ya,PT e f n x xa ya->∀ W,Calls prog 184 #[.agg #[By xa,AI ya],.agg #[By x,AI ((n:Int)+e)]] W fun ex w'=>ex=.returned (.agg #[AI ((n:Int)+e-ya),By (x-xa)])/\Gw W w'):=by
  intro xa ya h W;obtain ⟨q1,q2,q3,q4⟩:=h.bd kb hx e1 e2;exact Bv xa ya x _ q1 q2 x1 (by omega) (by omega) (by omega) (by omega) W
 have HB:ag (bV w p (df e n lr lf mr mf (.slice (some ⟨g0,0,none⟩) m0 cJ) (.slice (some ⟨g1,0,none⟩) m1 cG)) 221):=hb;have LP:=hb.lt;have UP:ag (Up (aD f n x) (n+1)):=CQ kb.up (fun _=>hx)
 clear hb k0 k1;go_enter func162,ntmps162;go_wp2_with fail;have W0:Bw w (((w.alloc (.cells #[By x,AI ((n:Int)-e)] 250)).alloc (.cells #[By x,AI ((n:Int)+e)] 250))) (By x) (AI ((n:Int)-e)) (By x) (AI ((n:Int)+e)):=ad' w _ _ _ _ _ _;have iL:ag (Bw w (((w.alloc (.cells #[By x,AI ((n:Int)-e)] 250)).alloc (.cells #[By x,AI ((n:Int)+e)] 250))) (By x) (AI ((n:Int)-e)) (By x) (AI ((n:Int)+e))):=W0;clear W0;generalize ((w.alloc (.cells #[By x,AI ((n:Int)-e)] 250)).alloc (.cells #[By x,AI ((n:Int)+e)] 250))=W at iL ⊢;have a0:=iL.o.a0;have a1:=iL.o.a1;have BF:ag (∀ w',Gw W w'->w'.cell? ⟨w.heap.size,0,none⟩=some (By x)/\w'.cell? ⟨w.heap.size,1,none⟩=some (AI ((n:Int)-e))):=fun w' G=>⟨(G.cell _ _ (by rw [iL.o.size];omega)).trans iL.o.a0,(G.cell _ _ (by rw [iL.o.size];omega)).trans iL.o.a1⟩
 have a2:w.heap.size+1<W.heap.size:=by rw [iL.o.size];omega
 have a3:w.heap.size<W.heap.size:=by omega
 go_cut [7] (fun s7 wc=>∃ (b:Nat) (xq yq:Int),s7=BY b/\ag (Bx wc b 215 (AI ((n:Int)-e-yq)) (By (x-xq)))/\ag (PL e f n x xq yq)/\ag (W.heap.size<=b)/\ag (Gw W wc))
 case first =>
  go_region_with (first
   | (go_at_call 185;refine (T1.o _ (iL.o.gw.trans (by repeat (first | exact Gw.refl _ | refine Gw.drew ?_ | refine Gw.alloc ?_ _ _)))).mono ?_;rintro ex w4 ⟨⟨xq,yq,rfl,hP⟩,g4⟩;have G4:ag (Gw W w4):=(Gw.trans (by repeat (first | exact Gw.refl _ | refine Gw.drew ?_ | refine Gw.alloc ?_ _ _)) g4);obtain ⟨y0,y1⟩:=BF.o w4 G4.o;have y2:w.heap.size<w4.heap.size:=Nat.lt_of_lt_of_le a3 G4.o.size;have HP:ag (PL e f n x xq yq):=hP;(first | (have n4:Bx w4 W.heap.size 215 (AI 0) (By 0):=((Bx.new W 215 (AI 0) (By 0)).gw ((Gw.refl _).drew.trans g4));have N4:ag (Bx w4 W.heap.size 215 (AI 0) (By 0)):=n4;have z0:=n4.c0;have z1:=n4.c1;have z2:=n4.fz 0;have z3:=n4.fz 1;clear n4) | skip);clear g4 hP)
   | (go_at_call 184;refine (B1.o _ _ HP.o _).mono ?_;rintro ex w5 ⟨rfl,g5⟩;have G5:ag (Gw W w5):=(Gw.trans G4.o (Gw.trans (by repeat (first | exact Gw.refl _ | refine Gw.drew ?_ | refine Gw.alloc ?_ _ _)) g5));(first | (have N5:ag (Bx w5 W.heap.size 215 (AI 0) (By 0)):=(N4.o.gw g5);have IK:=N5.o.c0;have IL:=N5.o.c1;have IM:=N5.o.fz 0;have IP:=N5.o.fz 1) | (have N5:ag (Bx w5 w4.heap.size 215 (AI 0) (By 0)):=((Bx.new w4 215 (AI 0) (By 0)).gw g5);have IK:=N5.o.c0;have IL:=N5.o.c1;have IM:=N5.o.fz 0;have IP:=N5.o.fz 1) | skip);clear g5))
  all_goals
   go_wp2_with fail;go_meet
  all_goals
   case rel =>
    first
     | exact ⟨w5.heap.size,xq,yq,rfl,(show ag _ from Bx.new _ _ _ _),(show ag _ from HP.o),(show ag _ from G5.o.size),(show ag _ from G5.o.alloc _ _)⟩
     | exact ⟨w4.heap.size,xq,yq,rfl,(show ag _ from N5.o.set _ _),(show ag _ from HP.o),(show ag _ from G4.o.size),(show ag _ from (G5.o.setCell G4.o.size _).setCell G4.o.size _)⟩
     | exact ⟨W.heap.size,xq,yq,rfl,(show ag _ from N5.o.set _ _),(show ag _ from HP.o),(show ag _ from Nat.le_refl _),(show ag _ from (G5.o.setCell (Nat.le_refl _) _).setCell (Nat.le_refl _) _)⟩
 case rest =>
  obtain ⟨W1,fB⟩:∃ wx,wx=wc:=⟨_,rfl⟩;subst fB;obtain ⟨b7,xa,ya,rfl,IQ,BH,Uw,GA⟩:=hcut;have ie:ag (Gw w W1):=iL.o.gw.trans GA.o;have BJ:ag (∀ w',Gw W1 w'->w'.cell? ⟨w.heap.size+1,0,none⟩=some (By x)/\w'.cell? ⟨w.heap.size+1,1,none⟩=some (AI ((n:Int)+e))):=fun w' G=>⟨((GA.o.trans G).cell _ _ (by rw [iL.o.size];omega)).trans iL.o.b0,((GA.o.trans G).cell _ _ (by rw [iL.o.size];omega)).trans iL.o.b1⟩
  have a5:w.heap.size+1<W1.heap.size:=Nat.lt_of_lt_of_le a2 GA.o.size;have a6:=(BJ.o W1 (Gw.refl W1)).1;have a7:=(BJ.o W1 (Gw.refl W1)).2;clear a0 a1 BF;go_wp2_with fail;go_cut [8] (fun s7 wc=>∃ (b:Nat) (xq yq:Int),s7=BY b/\ag (Bx wc b 215 (AI ((n:Int)+e-yq)) (By (x-xq)))/\ag (PT e f n x xq yq)/\ag (W1.heap.size<=b)/\ag (Gw W1 wc))
  case first =>
   go_region_with (first
    | (go_at_call 185;refine (T2.o _ (ie.o.trans (by repeat (first | exact Gw.refl _ | refine Gw.drew ?_ | refine Gw.alloc ?_ _ _)))).mono ?_;rintro ex w4 ⟨⟨xq,yq,rfl,hP⟩,g4⟩;have G4:ag (Gw W1 w4):=(Gw.trans (by repeat (first | exact Gw.refl _ | refine Gw.drew ?_ | refine Gw.alloc ?_ _ _)) g4);obtain ⟨y0,y1⟩:=BJ.o w4 G4.o;have y2:w.heap.size+1<w4.heap.size:=Nat.lt_of_lt_of_le a5 G4.o.size;have HP:ag (PT e f n x xq yq):=hP;(first | (have n4:Bx w4 W1.heap.size 215 (AI 0) (By 0):=((Bx.new W1 215 (AI 0) (By 0)).gw ((Gw.refl _).drew.trans g4));have N4:ag (Bx w4 W1.heap.size 215 (AI 0) (By 0)):=n4;have z0:=n4.c0;have z1:=n4.c1;have z2:=n4.fz 0;have z3:=n4.fz 1;clear n4) | skip);clear g4 hP)
    | (go_at_call 184;refine (B2.o _ _ HP.o _).mono ?_;rintro ex w5 ⟨rfl,g5⟩;have G5:ag (Gw W1 w5):=(Gw.trans G4.o (Gw.trans (by repeat (first | exact Gw.refl _ | refine Gw.drew ?_ | refine Gw.alloc ?_ _ _)) g5));(first | (have N5:ag (Bx w5 W1.heap.size 215 (AI 0) (By 0)):=(N4.o.gw g5);have IK:=N5.o.c0;have IL:=N5.o.c1;have IM:=N5.o.fz 0;have IP:=N5.o.fz 1) | (have N5:ag (Bx w5 w4.heap.size 215 (AI 0) (By 0)):=((Bx.new w4 215 (AI 0) (By 0)).gw g5);have IK:=N5.o.c0;have IL:=N5.o.c1;have IM:=N5.o.fz 0;have IP:=N5.o.fz 1) | skip);clear g5))
   all_goals
    go_wp2_with fail;go_meet
   all_goals
    case rel =>
     first
      | exact ⟨w5.heap.size,xq,yq,rfl,(show ag _ from Bx.new _ _ _ _),(show ag _ from HP.o),(show ag _ from G5.o.size),(show ag _ from G5.o.alloc _ _)⟩
      | exact ⟨w4.heap.size,xq,yq,rfl,(show ag _ from N5.o.set _ _),(show ag _ from HP.o),(show ag _ from G4.o.size),(show ag _ from (G5.o.setCell G4.o.size _).setCell G4.o.size _)⟩
      | exact ⟨W1.heap.size,xq,yq,rfl,(show ag _ from N5.o.set _ _),(show ag _ from HP.o),(show ag _ from Nat.le_refl _),(show ag _ from (G5.o.setCell (Nat.le_refl _) _).setCell (Nat.le_refl _) _)⟩
  case rest =>
   obtain ⟨W2,fB⟩:∃ wx,wx=wc:=⟨_,rfl⟩;subst fB;obtain ⟨b8,xb,yb,rfl,Ux,Uy,Uz,GB⟩:=hcut;have IU:ag (Gw w W2):=ie.o.trans GB.o;have X7:ag (Bx W2 b7 215 (AI ((n:Int)-e-ya)) (By (x-xa))):=IQ.o.gw GB.o;have X8:ag (Bx W2 b8 215 (AI ((n:Int)+e-yb)) (By (x-xb))):=Ux.o;have L78:b7<b8:=Nat.lt_of_lt_of_le IQ.o.lt Uz.o;have UA:w.heap.size<=b7:=Nat.le_trans iL.o.gw.size Uw.o;have kQ:ag ((((n:Int)-e-ya)*lf<lr*(x-xa)->fM e (aD f n x) (aB (n+1)) lr lf)/\(lr*(x-xa)<=((n:Int)-e-ya)*lf->fM e (aD f n x) (aB (n+1)) ((n:Int)-e-ya) (x-xa))/\(-10000000<=(n:Int)-e-ya/\(n:Int)-e-ya<=10000000/\0<=x-xa/\x-xa<18446744073709551616)):=by
    obtain ⟨t,ht,q1,q2,q3⟩:=BH.o;have b1:=kb.bd t ht;have b2:=kb.up.le (show t<=n-1 by omega) (by omega)
    obtain ⟨m1,m2⟩:=adT UP.o low ht (show (n:Int)-e-ya=(n:Int)-t-2*e by omega) (show x-xa=x-f t by rw [q1]) (fun j hj=>by rw [q1,show (n:Int)-e-ya=(n:Int)-t-2*e by omega];exact q3 j hj)
    exact ⟨m1,fun q=>m2 (by omega),by omega,by omega,by omega,by omega⟩
   have lV:ag ((mr*(x-xb)<((n:Int)+e-yb)*mf->fN e (aD f n x) (aB (n+1)) mr mf)/\(((n:Int)+e-yb)*mf<=mr*(x-xb)->fN e (aD f n x) (aB (n+1)) ((n:Int)+e-yb) (x-xb))/\(0<=(n:Int)+e-yb/\(n:Int)+e-yb<=10000000/\0<=x-xb/\x-xb<18446744073709551616)):=by
    obtain ⟨t,ht,q1,q2,q3⟩:=Uy.o;have b1:=kb.bd t ht;have b2:=kb.up.le (show t<=n-1 by omega) (by omega)
    obtain ⟨m1,m2⟩:=adU (by omega) UP.o top ht (show (n:Int)+e-yb=(n:Int)-t+2*e by omega) (show x-xb=x-f t by rw [q1]) (fun j hj=>by rw [q1,show (n:Int)+e-yb=(n:Int)-t+2*e by omega];exact q3 j hj)
    exact ⟨m1,fun q=>m2 (by omega),by omega,by omega,by omega,by omega⟩
   clear IQ Ux BH Uy Uw Uz GA GB ie BJ a5 a6 a7 iL a2 a3 T1 T2 B1 B2;generalize (n:Int)-e-ya=r7 at X7 kQ;generalize x-xa=s7 at X7 kQ;generalize (n:Int)+e-yb=r8 at X8 lV;generalize x-xb=s8 at X8 lV;have C1:ag (∀ W,Calls prog 186 #[.agg #[AI r7,By s7],.agg #[AI lr,By lf]] W fun ex w'=>ex=.returned (AI (bM (r7*lf) (lr*s7)))/\Gw W w'):=fun W=>(by
    have q:=kQ.o.2.2;exact Bu r7 s7 lr lf (by omega) (by omega) (by omega) (by omega) (by have:=sb.l0;omega) (by have:=sb.l1;omega) sb.l2 sb.l3 W)
   have C2:ag (∀ W,Calls prog 186 #[.agg #[AI r8,By s8],.agg #[AI mr,By mf]] W fun ex w'=>ex=.returned (AI (bM (r8*mf) (mr*s8)))/\Gw W w'):=fun W=>(by
    have q:=lV.o.2.2;exact Bu r8 s8 mr mf (by omega) (by omega) (by omega) (by omega) (by have:=sb.m0;omega) (by have:=sb.m1;omega) sb.m2 sb.m3 W)
   have D1:ag (bM (r7*lf) (lr*s7)<0↔r7*lf<lr*s7):=ad7 _ _;have D2:ag (0<bM (r8*mf) (mr*s8)↔mr*s8<r8*mf):=Uv _ _;generalize bM (r7*lf) (lr*s7)=d1 at C1 D1;generalize bM (r8*mf) (mr*s8)=d2 at C2 D2;have F2:=HB.o.gw IU.o;have BG:ag (bV W2 p (df e n lr lf mr mf (.slice (some ⟨g0,0,none⟩) m0 cJ) (.slice (some ⟨g1,0,none⟩) m1 cG)) 221):=F2;have IV:=F2.lt;have k0:=GX.cell X7.o.c0 X7.o.lt;have k1:=GX.cell X7.o.c1 X7.o.lt;have k2:=GX.cell (F2.cell (o:=2) (v:=AI lr) rfl) IV;have k3:=GX.cell (F2.cell (o:=3) (v:=By lf) rfl) IV;have NN:=GX.some W2;clear F2;go_wp2_with fail;refine jc (by kernel_rfl) (by kernel_rfl) ?_
   repeat (go_big_quiet_step (fail))
   go_big_quiet_want;go_big_quiet_op
   go_big_quiet_call (exact eW (C1.o _))
   repeat (go_big_quiet_step (fail))
   refine wpQuiet_nil ?_;rintro _ ⟨gx,rfl⟩;clear k0 k1 k2 k3;obtain ⟨W3,ue⟩:∃ W3,W3=gx.1:=⟨_,rfl⟩;have G3:ag (Gw W2 W3):=by rw [ue];exact gx.2
   rw [<-ue];clear ue gx;go_upto_if 31 with fail;have sD:ag (Bx W3 b7 215 (AI r7) (By s7)):=X7.o.gw G3.o;have IW:ag (Bx W3 b8 215 (AI r8) (By s8)):=X8.o.gw G3.o;have IY:ag (Gw w W3):=IU.o.trans G3.o;have F3:ag (bV W3 p (df e n lr lf mr mf (.slice (some ⟨g0,0,none⟩) m0 cJ) (.slice (some ⟨g1,0,none⟩) m1 cG)) 221):=BG.o.gw G3.o;clear X7 X8 IU BG G3 NN IV;go_cut [] (fun wc=>∃ (ra sa:Int),ag (Bx wc b7 215 (AI ra) (By sa))/\ag (fM e (aD f n x) (aB (n+1)) ra sa/\0<=ra/\ra<=10000000/\0<=sa/\sa<18446744073709551616)/\ag (Bx wc b8 215 (AI r8) (By s8))/\ag (Gw w wc))
   case first =>
    by_cases hd:d1<0
    ·have q0:=sD.o.c0
     have q1:=sD.o.c1;have q2:=sD.o.fz 0;have q3:=sD.o.fz 1;have q4:=F3.o.cell (o:=2) (v:=AI lr) rfl;have q5:=F3.o.cell (o:=3) (v:=By lf) rfl;have LU:ag (fM e (aD f n x) (aB (n+1)) lr lf):=kQ.o.1 (D1.o.1 hd);have RR:ag (Bx ((W3.setCell ⟨b7,0,none⟩ (AI lr)).setCell ⟨b7,1,none⟩ (By lf)) b7 215 (AI lr) (By lf)/\Bx ((W3.setCell ⟨b7,0,none⟩ (AI lr)).setCell ⟨b7,1,none⟩ (By lf)) b8 215 (AI r8) (By s8)/\Gw w ((W3.setCell ⟨b7,0,none⟩ (AI lr)).setCell ⟨b7,1,none⟩ (By lf))):=⟨sD.o.set _ _,(IW.o.far _ (by omega)).far _ (by omega),(IY.o.setCell UA _).setCell UA _⟩
     clear C1 C2 kQ lV D1 D2 low top kb;go_wp2_with fail;go_meet
     case rel=>exact ⟨lr,lf,(show ag _ from RR.o.1),(show ag _ from ⟨LU.o,sb.l0,sb.l1,sb.l2,sb.l3⟩),(show ag _ from RR.o.2.1),(show ag _ from RR.o.2.2)⟩
    ·have LU:ag (fM e (aD f n x) (aB (n+1)) r7 s7):=kQ.o.2.1 (by have h2:¬ r7*lf<lr*s7:=fun q=>hd (D1.o.2 q);omega)
     have BB:ag (0<=r7/\r7<=10000000/\0<=s7/\s7<18446744073709551616):=⟨LU.o.a0,kQ.o.2.2.2.1,kQ.o.2.2.2.2⟩;clear C1 C2 kQ lV D1 D2 low top kb;go_wp2_with fail;go_meet
     case rel=>exact ⟨r7,s7,(show ag _ from sD.o),(show ag _ from ⟨LU.o,BB.o⟩),(show ag _ from IW.o),(show ag _ from IY.o)⟩
   case rest =>
    obtain ⟨W4,fB⟩:∃ wx,wx=wc:=⟨_,rfl⟩;subst fB;obtain ⟨ra,sa,UC,LL,uE,IZ⟩:=hcut;have F4:ag (bV W4 p (df e n lr lf mr mf (.slice (some ⟨g0,0,none⟩) m0 cJ) (.slice (some ⟨g1,0,none⟩) m1 cG)) 221):=HB.o.gw IZ.o;have ym:=F4.o.lt;have k0:=GX.cell uE.o.c0 uE.o.lt;have k1:=GX.cell uE.o.c1 uE.o.lt;have k2:=GX.cell (F4.o.cell (o:=4) (v:=AI mr) rfl) ym;have k3:=GX.cell (F4.o.cell (o:=5) (v:=By mf) rfl) ym;have NN:=GX.some W4;clear sD IW IY F3;go_wp2_with fail;refine jc (by kernel_rfl) (by kernel_rfl) ?_
    repeat (go_big_quiet_step (fail))
    go_big_quiet_want;go_big_quiet_op
    go_big_quiet_call (exact eW (C2.o _))
    repeat (go_big_quiet_step (fail))
    refine wpQuiet_nil ?_;rintro _ ⟨gx,rfl⟩;clear k0 k1 k2 k3;obtain ⟨W5,I8⟩:∃ W5,W5=gx.1:=⟨_,rfl⟩;have G5:ag (Gw W4 W5):=by rw [I8];exact gx.2
    rw [<-I8];clear I8 gx;go_upto_if 42 with fail;have I9:ag (Bx W5 b7 215 (AI ra) (By sa)):=UC.o.gw G5.o;have sE:ag (Bx W5 b8 215 (AI r8) (By s8)):=uE.o.gw G5.o;have I':ag (Gw w W5):=IZ.o.trans G5.o;have F5:ag (bV W5 p (df e n lr lf mr mf (.slice (some ⟨g0,0,none⟩) m0 cJ) (.slice (some ⟨g1,0,none⟩) m1 cG)) 221):=F4.o.gw G5.o;have UD:w.heap.size<=b8:=by omega
    clear UC uE IZ F4 G5 NN ym;go_cut [] (fun wc=>∃ (rb sc:Int),ag (Bx wc b8 215 (AI rb) (By sc))/\ag (fN e (aD f n x) (aB (n+1)) rb sc/\0<=rb/\rb<=10000000/\0<=sc/\sc<18446744073709551616)/\ag (Bx wc b7 215 (AI ra) (By sa))/\ag (Gw w wc))
    case first =>
     by_cases hd:0<d2
     ·have q0:=sE.o.c0
      have q1:=sE.o.c1;have q2:=sE.o.fz 0;have q3:=sE.o.fz 1;have q4:=F5.o.cell (o:=4) (v:=AI mr) rfl;have q5:=F5.o.cell (o:=5) (v:=By mf) rfl;have LU:ag (fN e (aD f n x) (aB (n+1)) mr mf):=lV.o.1 (D2.o.1 hd);have RR:ag (Bx ((W5.setCell ⟨b8,0,none⟩ (AI mr)).setCell ⟨b8,1,none⟩ (By mf)) b8 215 (AI mr) (By mf)/\Bx ((W5.setCell ⟨b8,0,none⟩ (AI mr)).setCell ⟨b8,1,none⟩ (By mf)) b7 215 (AI ra) (By sa)/\Gw w ((W5.setCell ⟨b8,0,none⟩ (AI mr)).setCell ⟨b8,1,none⟩ (By mf))):=⟨sE.o.set _ _,(I9.o.far _ (by omega)).far _ (by omega),(I'.o.setCell UD _).setCell UD _⟩
      clear C1 C2 kQ lV D1 D2 low top kb;go_wp2_with fail;go_meet
      case rel=>exact ⟨mr,mf,(show ag _ from RR.o.1),(show ag _ from ⟨LU.o,sb.m0,sb.m1,sb.m2,sb.m3⟩),(show ag _ from RR.o.2.1),(show ag _ from RR.o.2.2)⟩
     ·have LU:ag (fN e (aD f n x) (aB (n+1)) r8 s8):=lV.o.2.1 (by have h2:¬ mr*s8<r8*mf:=fun q=>hd (D2.o.2 q);omega)
      have BB:ag (0<=r8/\r8<=10000000/\0<=s8/\s8<18446744073709551616):=lV.o.2.2;clear C1 C2 kQ lV D1 D2 low top kb;go_wp2_with fail;go_meet
      case rel=>exact ⟨r8,s8,(show ag _ from sE.o),(show ag _ from ⟨LU.o,BB.o⟩),(show ag _ from I9.o),(show ag _ from I'.o)⟩
    case rest =>
     obtain ⟨W6,fB⟩:∃ wx,wx=wc:=⟨_,rfl⟩;subst fB;obtain ⟨rb,sc,Ja,TT,Jb,UG⟩:=hcut;have UH:sc≠0:=by
      rcases TT.o.1 with ⟨_,_,no⟩ | ⟨_,q,_⟩
      ·exact absurd ⟨hn,by omega⟩ (no 0 n)
      ·omega
     have FI:ag (ra*sc<=rb*sa↔aY e (aD f n x) (aB (n+1))):=adS (by omega) (sW UP.o) LL.o.1 TT.o.1 UH
     have C3:ag (∀ W,Calls prog 186 #[.agg #[AI ra,By sa],.agg #[AI rb,By sc]] W fun ex w'=>ex=.returned (AI (bM (ra*sc) (rb*sa)))/\Gw W w'):=fun W=>(by
      have q:=LL.o.2;have q':=TT.o.2;exact Bu ra sa rb sc (by omega) (by omega) (by omega) (by omega) (by omega) (by omega) (by omega) (by omega) W)
     have D3:ag (0<bM (ra*sc) (rb*sa)↔rb*sa<ra*sc):=Uv _ _;generalize bM (ra*sc) (rb*sa)=d3 at C3 D3;have F6:ag (bV W6 p (df e n lr lf mr mf (.slice (some ⟨g0,0,none⟩) m0 cJ) (.slice (some ⟨g1,0,none⟩) m1 cG)) 221):=HB.o.gw UG.o;have q0:=Ja.o.c0;have q1:=Ja.o.c1;have q2:=Jb.o.c0;have q3:=Jb.o.c1;clear I9 sE I' F5 C1 C2 kQ lV D1 D2 low top kb UH;go_wp2_with fail;refine (C3.o _).mono ?_;rintro ex W7 ⟨rfl,g7⟩;have UI:ag (Bx W7 b8 215 (AI rb) (By sc)):=Ja.o.gw g7;have UJ:ag (Bx W7 b7 215 (AI ra) (By sa)):=Jb.o.gw g7;have UK:ag (Gw w W7):=UG.o.trans g7;have F7:ag (bV W7 p (df e n lr lf mr mf (.slice (some ⟨g0,0,none⟩) m0 cJ) (.slice (some ⟨g1,0,none⟩) m1 cG)) 221):=F6.o.gw g7;clear q0 q1 q2 q3 g7 C3;by_cases hd:0<d3
     ·have NF:ag (¬ aY e (aD f n x) (aB (n+1))):=fun q=>(by have h1:=FI.o.2 q;have h2:=D3.o.1 hd;omega)
      clear FI D3;go_wp2_with fail;go_ret;exact ⟨false,by simp,⟨fun q=>Bool.noConfusion q,fun q=>absurd q NF.o⟩,fun _=>UK.o,fun q=>Bool.noConfusion q⟩
     ·have YF:ag (aY e (aD f n x) (aB (n+1))):=FI.o.1 (by have h2:¬ rb*sa<ra*sc:=fun q=>hd (D3.o.2 q);omega)
      have q0:=UI.o.c0;have q1:=UI.o.c1;have q2:=UJ.o.c0;have q3:=UJ.o.c1;have q4:=F7.o.cell (o:=2) (v:=AI lr) rfl;have q5:=F7.o.cell (o:=3) (v:=By lf) rfl;have q6:=F7.o.cell (o:=4) (v:=AI mr) rfl;have q7:=F7.o.cell (o:=5) (v:=By mf) rfl;have q8:=F7.o.fz 2;have q9:=F7.o.fz 3;have CY:=F7.o.fz 4;have CZ:=F7.o.fz 5;have n7:p≠b7:=by omega
      have n8:p≠b8:=by omega
      clear FI D3;go_wp2_with fail;go_region
      all_goals
       clear q0 q1 q2 q3 q4 q5 q6 q7 q8 q9 CY CZ;have FB:ag (bV ((((W7.setCell ⟨p,2,none⟩ (AI ra)).setCell ⟨p,3,none⟩ (By sa)).setCell ⟨p,4,none⟩ (AI rb)).setCell ⟨p,5,none⟩ (By sc)) p (df e n ra sa rb sc (.slice (some ⟨g0,0,none⟩) m0 cJ) (.slice (some ⟨g1,0,none⟩) m1 cG)) 221):=(((F7.o.set 2 _).set 3 _).set 4 _).set 5 _;have GB:ag (Gs (fun q=>q=p) w ((((W7.setCell ⟨p,2,none⟩ (AI ra)).setCell ⟨p,3,none⟩ (By sa)).setCell ⟨p,4,none⟩ (AI rb)).setCell ⟨p,5,none⟩ (By sc))):=((((UK.o.gs (fun q=>q=p)).set rfl _ _).set rfl _ _).set rfl _ _).set rfl _ _
       go_wp2_with fail;go_ret
       exact ⟨true,by simp,⟨fun _=>YF.o,fun _=>rfl⟩,fun q=>Bool.noConfusion q,fun _=>⟨⟨ra,sa,rb,sc,FB.o,LL.o.1,TT.o.1,⟨LL.o.2.1,LL.o.2.2.1,LL.o.2.2.2.1,LL.o.2.2.2.2,TT.o.2.1,TT.o.2.2.1,TT.o.2.2.2.1,TT.o.2.2.2.2⟩⟩,GB.o.drew⟩⟩
theorem du.congr {X X' g:Nat->Int} (h:du X g n m c) (e:∀ i,i<n->X i=X' i):du X' g n m c:=by
 refine ⟨h.pos,h.first,h.last,h.up,fun i j hi hj=>?_⟩
 have:=h.abv i j hi hj
 rw [e j hj,e (c i) (h.bd (by omega)),e (c (i+1)) (h.bd hi)] at this
 exact this
structure FT (w:World) (p:Nat) (v0 v1:Value) (e:Int) (n:Nat) (f:Nat->Int) (lr lf mr mf:Int) (m0 m1:Nat) (c0 c1:Nat->Nat):Prop where
 blk:bV w p (df e n lr lf mr mf v0 v1) 221
 own0:w.ownsRow 0 250 2 v0 m0 (bO f c0 (-e) m0)
 own1:w.ownsRow 0 250 2 v1 m1 (bO f c1 e m1)
 ne0:∀ q,v0.ownBlock=some q->q≠p
 ne1:∀ q,v1.ownBlock=some q->q≠p
 ne:∀ q,v0.ownBlock=some q->v1.ownBlock=some q->False
 z:n=0->v0=.slice none 0 0/\v1=.slice none 0 0
 ch0:0<n->du f (fun j=>-1*(j:Int)) n m0 c0
 ch1:0<n->du f (fun j=>1*(j:Int)) n m1 c1
 up:Up f n
 bd:∀ i,i<n->0<=f i/\f i<18446744073709551616
 low:fM e f (aB n) lr lf
 top:fN e f (aB n) mr mf
 fit:aY e f (aB n)
 e1:1<=e/\e<=63
 sb:SB lr lf mr mf
def iZ (p:Nat) (v0 v1:Value) (q:Nat):Prop:=q=p\/v0.ownBlock=some q\/v1.ownBlock=some q
def dN (w:World) (p:Nat) (S:Nat->Prop) (e:Int) (n:Nat) (f:Nat->Int):Prop :=
 ∃ v0 v1 lr lf mr mf m0 m1 c0 c1,FT w p v0 v1 e n f lr lf mr mf m0 m1 c0 c1/\∀ q,S q↔iZ p v0 v1 q
theorem UL {e size:Nat} (h:w.ownsRow base e size (.slice none 0 0) n xs):n=0:=by
 rcases h.2 with ⟨_,q⟩ | ⟨g,cap,cur,ev,_⟩
 ·exact q
 ·cases ev
theorem dN.keep (h:dN w p S e n f) (k:∀ q,S q->w'.heap[q]?=w.heap[q]?):dN w' p S e n f:=by
 obtain ⟨v0,v1,lr,lf,mr,mf,m0,m1,c0,c1,F,hS⟩:=h;exact ⟨v0,v1,lr,lf,mr,mf,m0,m1,c0,c1,{ F with blk:=(k p ((hS p).2 (.inl rfl))).trans F.blk,own0:=kq F.own0 fun q hq=>k q ((hS q).2 (.inr (.inl hq))),own1:=kq F.own1 fun q hq=>k q ((hS q).2 (.inr (.inr hq))) },hS⟩
theorem dN.lt (h:dN w p S e n f):∀ q,S q->q<w.heap.size:=by
 obtain ⟨v0,v1,lr,lf,mr,mf,m0,m1,c0,c1,F,hS⟩:=h;intro q hq;rcases (hS q).1 hq with rfl | r | r
 ·exact F.blk.lt
 ·exact (F.own0.lt q r).2
 ·exact (F.own1.lt q r).2
theorem dN.ext {g:Nat->Int} (h:dN w p S e n f) (k:∀ i,i<n->f i=g i):dN w p S e n g:=by
 obtain ⟨v0,v1,lr,lf,mr,mf,m0,m1,c0,c1,F,hS⟩:=h;have p0:bO f c0 (-e) m0=bO g c0 (-e) m0:=by
  by_cases hn:n=0
  ·have:=F.own0
   rw [(F.z hn).1] at this;have:=UL this;subst this;rfl
  ·exact IE _ fun i hi=>⟨k _ ((F.ch0 (by omega)).bd hi),rfl⟩
 have p1:bO f c1 e m1=bO g c1 e m1:=by
  by_cases hn:n=0
  ·have:=F.own1
   rw [(F.z hn).2] at this;have:=UL this;subst this;rfl
  ·exact IE _ fun i hi=>⟨k _ ((F.ch1 (by omega)).bd hi),rfl⟩
 have Jc:∀ i j,aB n i j->f j-f i=g j-g i:=fun i j s=>by rw [k j s.2,k i (by have:=s.1;have:=s.2;omega)]
 exact ⟨v0,v1,lr,lf,mr,mf,m0,m1,c0,c1,⟨F.blk,by rw [<-p0];exact F.own0,by rw [<-p1];exact F.own1,F.ne0,F.ne1,F.ne,F.z,fun hn=>(F.ch0 hn).congr k,fun hn=>(F.ch1 hn).congr k,
  fun j hj=>by rw [<-k j (by omega),<-k (j+1) hj];exact F.up j hj,fun i hi=>by rw [<-k i hi];exact F.bd i hi,F.low.congr (fun _ _=>Iff.rfl) Jc,F.top.congr (fun _ _=>Iff.rfl) Jc,F.fit.congr (fun _ _ s=>s) Jc,F.e1,F.sb⟩,hS⟩
theorem dN.facts (h:dN w p S e n f):Up f n/\(∀ i,i<n->0<=f i/\f i<18446744073709551616)/\aY e f (aB n)/\1<=e/\e<=63:=by
 obtain ⟨v0,v1,lr,lf,mr,mf,m0,m1,c0,c1,F,hS⟩:=h;exact ⟨F.up,F.bd,F.fit,F.e1.1,F.e1.2⟩
theorem aeb (eps:Int) (h:¬ (2<=eps/\eps<=64)) (w:World):Calls prog 120 #[AI eps] w fun ex w'=>ex=.returned (.tuple #[.pointer none,AI 1])/\Gw w w':=by
 have alt:eps<2\/(¬ eps<2/\64<eps):=by omega
 clear h;rcases alt with q | ⟨q,q'⟩
 ·go_enter func120,ntmps120
  go_wp2_with fail;go_ret2
  exact ⟨rfl,Gw.refl w⟩
 ·go_enter func120,ntmps120
  go_wp2_with fail;go_ret2
  exact ⟨rfl,Gw.refl w⟩
theorem aec (eps:Int) (h1:2<=eps) (h2:eps<=64) (w:World):Calls prog 120 #[AI eps] w fun ex w'=>(∃ p S,ex=.returned (.tuple #[BY p,AI 0])/\(∀ q,S q->w.heap.size<=q)/\dN w' p S (eps-1) 0 (fun _=>0))/\Gw w w':=by
 have z1:¬ eps<2:=by omega
 have z2:¬ 64<eps:=by omega
 have we:IntKind.i64.wrap (eps-1)=eps-1:=by rw [IntKind.wrap_i64];omega
 have aL:ag (dN (w.alloc (.cells (df (eps-1) 0 0 1 1 0 (.slice none 0 0) (.slice none 0 0)) 221)) w.heap.size (iZ w.heap.size (.slice none 0 0) (.slice none 0 0)) (eps-1) 0 (fun _=>0)):=by
  refine ⟨.slice none 0 0,.slice none 0 0,0,1,1,0,0,0,fun _=>0,fun _=>0,⟨heap_alloc_new w _,World.ownsRow_nil _ _ _ _,World.ownsRow_nil _ _ _ _,(fun q hq=>by cases hq),(fun q hq=>by cases hq),(fun q hq=>by cases hq),fun _=>⟨rfl,rfl⟩,(fun h=>by omega),(fun h=>by omega),(fun j hj=>by omega),(fun i hi=>by omega),?_,?_,?_,by omega,?_⟩,fun q=>Iff.rfl⟩
  ·exact ⟨by omega,by omega,fun i j s=>by have:=s.1;have:=s.2;omega,.inl rfl⟩
  ·exact .inl ⟨rfl,rfl,fun i j s=>by have:=s.1;have:=s.2;omega⟩
  ·intro i j i' j' s;have:=s.1;have:=s.2;omega
  ·exact ⟨by decide,by decide,by decide,by decide,by decide,by decide,by decide,by decide⟩
 have SS:ag (∀ q,iZ w.heap.size (.slice none 0 0) (.slice none 0 0) q->w.heap.size<=q):=by
  intro q hq;rcases hq with rfl | r | r
  ·exact Nat.le_refl _
  ·cases r
  ·cases r
 go_enter func120,ntmps120;go_wp2_with fail;go_ret2
 first
  | exact ⟨⟨w.heap.size,_,rfl,SS.o,aL.o⟩,(Gw.refl w).alloc _ _⟩
  | exact ⟨⟨w.heap.size,rfl,_,SS.o,aL.o⟩,(Gw.refl w).alloc _ _⟩
theorem UM {c g a:Int} (g0:0<g) (e:c*g=a) (c0:0<=c):c<=a:=by
 have:c*1<=c*g:=Int.mul_le_mul_of_nonneg_left (by omega) c0
 omega
theorem aed (h:dN w p S e n f) (hn:n<=3000001):Calls prog 145 #[BY p] w fun ex w'=>(∃ a b,ex=.returned (.agg #[By a,By b])/\bK e f (aB n) a b/\a<18446744073709551616/\b<18446744073709551616)/\Gw w w':=by
 obtain ⟨v0,v1,lr,lf,mr,mf,m0,m1,c0,c1,F,hS⟩:=h;have k2:=F.blk.cell (o:=2) (v:=AI lr) rfl;have k3:=F.blk.cell (o:=3) (v:=By lf) rfl;have lp:=F.blk.lt;have SL:ag (∀ W,Calls prog 164 #[.agg #[AI lr,By lf]] W fun ex w'=>(∃ a b,ex=.returned (.agg #[By a,By b])/\bK e f (aB n) a b/\a<18446744073709551616/\b<18446744073709551616)/\Gw W w'):=by
  intro W;have b1:=F.low.b1;have s1:=F.sb.l1;have s3:=F.sb.l3;refine (adZ lr lf F.low.a0 (by omega) (by omega) s3 W).mono ?_
  rintro ex w' ⟨⟨c,d,g,rfl,g0,ec,ed,hg⟩,G⟩;have L:=F.low.red g0 ec ed hg;have q1:=UM g0 ec L.a0;have q2:=UM g0 ed (by have:=L.b1;omega)
  exact ⟨⟨c,d,rfl,L,by omega,by omega⟩,G⟩
 clear F hS;go_enter func145,ntmps145;go_wp2_with fail;refine (SL.o _).mono ?_;rintro ex w1 ⟨⟨a,b,rfl,hL⟩,g1⟩;have X:ag (Bx w1 w.heap.size 198 (By 0) (By 0)):=(Bx.new w _ _ _).gw g1;have HL:ag _:=hL;have G1:ag (Gw w w1):=((Gw.refl w).alloc _ _).trans g1;have x0:=X.o.c0;have x1:=X.o.c1;have x2:=X.o.fz 0;have x3:=X.o.fz 1;clear g1 hL;go_wp2_with fail;have Y:=X.o.set (By a) (By b);have y0:=Y.c0;have y1:=Y.c1;clear x0 x1 x2 x3;refine bodyPost_ret (v:=.agg #[By a,By b]) (by simp [results,results145,go_sem,y0,y1]) rfl ⟨⟨a,b,rfl,HL.o⟩,?_⟩
 exact (G1.o.setCell (by simp) _).setCell (by simp) _
variable {v1:Value}
theorem UO {wa wb wd:World} {ir qi:Value} {jK rA:Nat} {lL ix:Nat->Nat}
  (o0:∀ q,v0.ownBlock=some q->q<w.heap.size/\q≠p) (o1:∀ q,v1.ownBlock=some q->q<w.heap.size/\q≠p) (ne:∀ q,v0.ownBlock=some q->v1.ownBlock=some q->False) (lp:p<w.heap.size)
  (Ga:Gs (fun q=>q=p) w wa)
  (Gb:Gs (fun q=>q=p\/v0.ownBlock=some q) wa wb) (O0:wb.ownsRow 0 250 2 ir jK (bO (aD f n x) lL (-e) jK)) (Q0:∀ q,ir.ownBlock=some q->(v0.ownBlock=some q\/wa.heap.size<=q)/\q≠p) (C0:du (aD f n x) (fun j=>-1*(j:Int)) (n+1) jK lL)
  (Gd:Gs (fun q=>q=p\/v1.ownBlock=some q) wb wd) (O1:wd.ownsRow 0 250 2 qi rA (bO (aD f n x) ix e rA)) (Q1:∀ q,qi.ownBlock=some q->(v1.ownBlock=some q\/wb.heap.size<=q)/\q≠p) (C1:du (aD f n x) (fun j=>1*(j:Int)) (n+1) rA ix)
  (hB:bV wd p (((df e n lr lf mr mf v0 v1).setIfInBounds (6+1) ir).setIfInBounds (8+1) qi) 221)
  (up:Up (aD f n x) (n+1)) (bd:∀ i,i<n+1->0<=aD f n x i/\aD f n x i<18446744073709551616) (low:fM e (aD f n x) (aB (n+1)) lr lf) (top:fN e (aD f n x) (aB (n+1)) mr mf) (fit:aY e (aD f n x) (aB (n+1))) (e1:1<=e/\e<=63) (sb:SB lr lf mr mf) :
  (∃ S',dN (wd.setCell ⟨p,1,none⟩ (AI ((n:Int)+1))) p S' e (n+1) (aD f n x)/\∀ q,S' q->iZ p v0 v1 q\/w.heap.size<=q)/\Gs (iZ p v0 v1) w (wd.setCell ⟨p,1,none⟩ (AI ((n:Int)+1))):=by
 have sa:=Ga.size;have sb':=Gb.size;have x0:∀ q,ir.ownBlock=some q->q<wb.heap.size/\q≠p/\v1.ownBlock≠some q:=by
  intro q hq;refine ⟨(O0.lt q hq).2,(Q0 q hq).2,fun r=>?_⟩
  rcases (Q0 q hq).1 with t | t
  ·exact ne q t r
  ·have:=(o1 q r).1;omega
 have blk:bV (wd.setCell ⟨p,1,none⟩ (AI ((n:Int)+1))) p (df e (n+1) lr lf mr mf ir qi) 221:=hB.set 1 _;refine ⟨⟨iZ p ir qi,⟨ir,qi,lr,lf,mr,mf,jK,rA,lL,ix,⟨blk,?_,?_,fun q hq=>(x0 q hq).2.1,fun q hq=>(Q1 q hq).2,?_,fun h=>by omega,fun _=>C0,fun _=>C1,up,bd,low,top,fit,e1,sb⟩,fun q=>Iff.rfl⟩,?_⟩,?_⟩
 ·refine kq O0 fun q hq=>?_
  obtain ⟨h1,h2,h3⟩:=x0 q hq;rw [Go.Deep.blk_setCell_other _ _ _ _ h2];exact Gd.block q h1 (fun r=>by rcases r with r | r;exact h2 r;exact h3 r)
 ·refine kq O1 fun q hq=>?_
  rw [Go.Deep.blk_setCell_other _ _ _ _ (Q1 q hq).2]
 ·intro q h0 h1
  obtain ⟨t1,t2,t3⟩:=x0 q h0;rcases (Q1 q h1).1 with r | r
  ·exact t3 r
  ·omega
 ·intro q hq
  rcases hq with rfl | r | r
  ·exact .inl (.inl rfl)
  ·rcases (Q0 q r).1 with t | t
   ·exact .inl (.inr (.inl t))
   ·exact .inr (by omega)
  ·rcases (Q1 q r).1 with t | t
   ·exact .inl (.inr (.inr t))
   ·exact .inr (by omega)
 ·refine Gs.set ?_ (.inl rfl) _ _
  refine ⟨Gd.os.trans (Gb.os.trans Ga.os),Gd.tape.trans (Gb.tape.trans Ga.tape),Gd.output.trans (Gb.output.trans Ga.output),by have:=Gd.size;omega,fun q hq hs=>?_⟩
  have n1:q≠p:=fun r=>hs (.inl r)
  have n2:¬ (v0.ownBlock=some q):=fun r=>hs (.inr (.inl r))
  have n3:¬ (v1.ownBlock=some q):=fun r=>hs (.inr (.inr r))
  rw [Gd.block q (by omega) (fun r=>by rcases r with r | r;exact n1 r;exact n3 r),Gb.block q (by omega) (fun r=>by rcases r with r | r;exact n1 r;exact n2 r),Ga.block q hq n1]
theorem Laid.undrew (k:Laid w.drew w' p o B T v f n x s h):Laid w w' p o B T v f n x s h :=
 ⟨k.1,k.2.os,k.2.tape,k.2.output,k.2.size,k.2.block⟩
theorem Bx.gs' {b:Nat} {u:Value} (h:Bx w b t u v) (g:Gs S w w') (n:¬ S b):Bx w' b t u v:=(g.block b h.lt n).trans h
theorem FT.chains (F:FT w p v0 v1 e n f lr lf mr mf m0 m1 c0 c1) (hn:0<n) :
  ∃ g0 cJ g1 cG,v0=.slice (some ⟨g0,0,none⟩) m0 cJ/\v1=.slice (some ⟨g1,0,none⟩) m1 cG/\CH w p 6 g0 m0 cJ (-1) (-e) f n c0/\CH w p 8 g1 m1 cG 1 e f n c1:=by
 obtain ⟨g0,cJ,e0,_,_⟩:=F.own0.form (F.ch0 hn).pos;obtain ⟨g1,cG,e1,_,_⟩:=F.own1.form (F.ch1 hn).pos;subst e0;subst e1;exact ⟨g0,cJ,g1,cG,rfl,rfl,⟨F.blk.lt,F.blk.cell rfl,F.blk.cell rfl,IF F.own0,F.ch0 hn⟩,⟨F.blk.lt,F.blk.cell rfl,F.blk.cell rfl,IF F.own1,F.ch1 hn⟩⟩
theorem aee (F:FT w p v0 v1 e n f lr lf mr mf m0 m1 c0 c1) (x:Int) (x0:0<=x) (x1:x<18446744073709551616) (xB:n<=3000000) (hn:0<n) (hx:x<=f (n-1)) :
  Calls prog 142 #[BY p,By x] w fun ex w'=>ex=.returned (.tuple #[.bool false,AI 40])/\Gw w w':=by
 have kb:KB f n:=⟨F.up,F.bd,by omega⟩
 obtain ⟨g0,cJ,g1,cG,_,_,k0,k1⟩:=F.chains hn;have LA:ag (Calls prog 161 #[.pointer (some ⟨p,6,none⟩)] w fun e' w'=>e'=.returned (.agg #[By (f (n-1)),AI (((n-1:Nat):Int)+-e)])/\Gw w w'):=Ul kb w k0
 have ix:=F.blk.cell (o:=1) (v:=AI n) rfl;have hni:(0:Int)<n:=by omega
 generalize f (n-1)=fl at LA hx;generalize ((n-1:Nat):Int)+-e=yl at LA;have tH:∀ W:World,(Instr.field 250 (.agg #[By fl,AI yl]) 0).run prog W=.ok (By fl) W:=fun _=>by kernel_rfl
 clear F k0 k1 kb;go_enter func142,ntmps142;go_wp2_with fail;refine LA.o.mono ?_;rintro ex w1 ⟨rfl,g1⟩;have G1:ag _:=g1;clear g1;go_wp2_with fail;go_ret2;exact ⟨rfl,G1.o⟩
theorem aef (F:FT w p v0 v1 e 0 f lr lf mr mf m0 m1 c0 c1) (x:Int) (x0:0<=x) (x1:x<18446744073709551616) :
  Calls prog 142 #[BY p,By x] w fun ex w'=>ex=.returned (.tuple #[.bool true,AI 0])/\(∃ S',dN w' p S' e 1 (aD f 0 x)/\∀ q,S' q->iZ p v0 v1 q\/w.heap.size<=q)/\Gs (iZ p v0 v1) w w':=by
 obtain ⟨z0,z1⟩:=F.z rfl;subst z0;subst z1;obtain ⟨e1,e2⟩:=F.e1;have HB:ag (bV w p (df e 0 lr lf mr mf (.slice none 0 0) (.slice none 0 0)) 221):=F.blk;have HF:ag (fM e (aD f 0 x) (aB (0+1)) lr lf/\fN e (aD f 0 x) (aB (0+1)) mr mf/\aY e (aD f 0 x) (aB (0+1))/\SB lr lf mr mf):=by
  refine ⟨F.low.congr (fun i j=>?_) (fun i j s=>by have:=s.1;have:=s.2;omega),F.top.congr (fun i j=>?_) (fun i j s=>by have:=s.1;have:=s.2;omega),fun i j i' j' s=>by have:=s.1;have:=s.2;omega,F.sb⟩
  ·unfold aB;omega
  ·unfold aB;omega
 have ix:=F.blk.cell (o:=1) (v:=AI 0) rfl;have lL:=F.blk.cell (o:=0) (v:=AI e) rfl;have lp:=F.blk.lt;have Jd:IntKind.i64.wrap (0-e)=-e:=by rw [IntKind.wrap_i64];omega
 have Je:IntKind.i64.wrap (-e)=-e:=by rw [IntKind.wrap_i64];omega
 clear F;go_enter func142,ntmps142;go_wp2_with fail;go_cut [7,8] (fun s7 s8 wc=>∃ (b7 b8:Nat),s7=BY b7/\s8=BY b8/\ag (Bx wc b7 250 (By x) (AI (-e)))/\ag (Bx wc b8 250 (By x) (AI (e)))/\ag (w.heap.size<=b7)/\ag (w.heap.size<=b8)/\ag (Gw w wc))
 case first =>
  go_region
  all_goals
   go_wp2_with fail;go_meet
  all_goals
   case rel =>
    first
     | exact ⟨w.heap.size,w.heap.size+1,rfl,rfl,(show ag _ from (Bx.new w _ _ _).alloc _),(show ag _ from (Bx.new _ _ _ _).at (by simp)),(show ag _ from Nat.le_refl _),(show ag _ from Nat.le_succ _),(show ag _ from (((Gw.refl w).alloc _ _).alloc _ _).drew)⟩
     | exact ⟨w.heap.size+1,w.heap.size,rfl,rfl,(show ag _ from (Bx.new _ _ _ _).at (by simp)),(show ag _ from (Bx.new w _ _ _).alloc _),(show ag _ from Nat.le_succ _),(show ag _ from Nat.le_refl _),(show ag _ from (((Gw.refl w).alloc _ _).alloc _ _).drew)⟩
 case rest =>
  obtain ⟨W1,fB⟩:∃ wx,wx=wc:=⟨_,rfl⟩;subst fB;obtain ⟨b7,b8,rfl,rfl,B7,B8,L7,L8,G1⟩:=hcut;have F1:ag (bV W1 p (df e 0 lr lf mr mf (.slice none 0 0) (.slice none 0 0)) 221):=HB.o.gw G1.o;have LA:ag (∀ W,Gw W1 W->Calls prog 163 #[.pointer (some ⟨p,6,none⟩),.agg #[By x,AI (-e)]] W fun ex w'=>ex=.returned (.tuple #[])/\Laid W w' p 6 (df e 0 lr lf mr mf (.slice none 0 0) (.slice none 0 0)) 221 (.slice none 0 0) f 0 x (-1) (-e)):=fun W G=>Us (by omega) (by omega) x x0 x1 (F1.o.gw G) rfl
  have d0:=B7.o.c0;have d1:=B7.o.c1;have d2:=F1.o.cell (o:=1) (v:=AI 0) rfl;clear ix lL Jd Je;go_wp2_with fail;go_cut [] (fun wc=>ag (Laid W1 wc p 6 (df e 0 lr lf mr mf (.slice none 0 0) (.slice none 0 0)) 221 (.slice none 0 0) f 0 x (-1) (-e)))
  case first =>
   go_region_with (go_at_call 163;refine (LA.o _ ((Gw.refl _).drew)).mono ?_;rintro ex w8 ⟨rfl,hL⟩;have HL:ag (Laid W1 w8 p 6 (df e 0 lr lf mr mf (.slice none 0 0) (.slice none 0 0)) 221 (.slice none 0 0) f 0 x (-1) (-e)):=hL.undrew;clear hL)
   all_goals
    go_wp2_with fail;go_meet
   all_goals
    case rel=>exact HL.o
  case rest =>
   obtain ⟨W2,fB⟩:∃ wx,wx=wc:=⟨_,rfl⟩;subst fB;obtain ⟨⟨ir,jK,lL,H1,lW,H3,H4⟩,H5⟩:=hcut.o;have D1:ag (bV W2 p ((df e 0 lr lf mr mf (.slice none 0 0) (.slice none 0 0)).setIfInBounds (6+1) ir) 221):=H1;have D2:ag _:=lW;have D3:ag _:=H3;have D4:ag _:=H4;have D5:ag _:=H5;have BM:ag (Bx W2 b8 250 (By x) (AI e)):=B8.o.gs' H5 (fun r=>by rcases r with r | r;(have:=L8.o;omega);cases r)
   clear H1 lW H3 H4 H5 hcut LA d0 d1 d2;have LA:ag (∀ W,Gw W2 W->Calls prog 163 #[.pointer (some ⟨p,8,none⟩),.agg #[By x,AI e]] W fun ex w'=>ex=.returned (.tuple #[])/\Laid W w' p 8 ((df e 0 lr lf mr mf (.slice none 0 0) (.slice none 0 0)).setIfInBounds (6+1) ir) 221 (.slice none 0 0) f 0 x 1 e):=fun W G=>Us (by omega) (by omega) x x0 x1 (D1.o.gw G) rfl
   have d0:=BM.o.c0;have d1:=BM.o.c1;go_wp2_with fail;go_cut [] (fun wc=>ag (Laid W2 wc p 8 ((df e 0 lr lf mr mf (.slice none 0 0) (.slice none 0 0)).setIfInBounds (6+1) ir) 221 (.slice none 0 0) f 0 x (1) (e)))
   case first =>
    go_region_with (go_at_call 163;refine (LA.o _ ((Gw.refl _).drew)).mono ?_;rintro ex w8 ⟨rfl,hL⟩;have HL:ag (Laid W2 w8 p 8 ((df e 0 lr lf mr mf (.slice none 0 0) (.slice none 0 0)).setIfInBounds (6+1) ir) 221 (.slice none 0 0) f 0 x (1) (e)):=hL.undrew;clear hL)
    all_goals
     go_wp2_with fail;go_meet
    all_goals
     case rel=>exact HL.o
   case rest =>
    obtain ⟨W3,fB⟩:∃ wx,wx=wc:=⟨_,rfl⟩;subst fB;obtain ⟨⟨qi,rA,ix,H1,lW,H3,H4⟩,H5⟩:=hcut.o;have aL:ag ((∃ S',dN (W3.setCell ⟨p,1,none⟩ (AI 1)) p S' e (0+1) (aD f 0 x)/\∀ q,S' q->iZ p (.slice none 0 0) (.slice none 0 0) q\/w.heap.size<=q)/\Gs (iZ p (.slice none 0 0) (.slice none 0 0)) w (W3.setCell ⟨p,1,none⟩ (AI 1))):=by
     refine UO (n:=0) (fun q hq=>by cases hq) (fun q hq=>by cases hq) (fun q hq=>by cases hq) lp (G1.o.gs _) D5.o D2.o D4.o D3.o H5 lW H4 H3 H1 (fun j hj=>by omega) (fun i hi=>?_) HF.o.1 HF.o.2.1 HF.o.2.2.1 ⟨e1,e2⟩ HF.o.2.2.2
     have:i=0:=by omega
     subst this;rw [dO];exact ⟨x0,x1⟩
    have q1:W3.cell? ⟨p,1,none⟩=some (AI 0):=H1.cell rfl;have q2:=H1.fz 1;clear H1 lW H3 H4 H5 hcut D1 D2 D3 D4 D5 LA d0 d1;go_wp2_with fail;go_ret2;exact ⟨rfl,aL.o.1,aL.o.2⟩
theorem aeg (F:FT w p v0 v1 e n f lr lf mr mf m0 m1 c0 c1) (x:Int) (x0:0<=x) (x1:x<18446744073709551616) (xB:n<=3000000) (hn:0<n) (hx:f (n-1)<x) :
  Calls prog 142 #[BY p,By x] w fun ex w'=>∃ ok:Bool,ex=.returned (.tuple #[.bool ok,AI 0])/\(ok=true↔aY e (aD f n x) (aB (n+1)))/\(ok=false->Gw w w')/\(ok=true->(∃ S',dN w' p S' e (n+1) (aD f n x)/\∀ q,S' q->iZ p v0 v1 q\/w.heap.size<=q)/\Gs (iZ p v0 v1) w w'):=by
 have kb:KB f n:=⟨F.up,F.bd,by omega⟩
 obtain ⟨e1,e2⟩:=F.e1;obtain ⟨g0,cJ,g1,cG,ev0,ev1,k0,k1⟩:=F.chains hn;subst ev0;subst ev1;have BP:ag (Calls prog 161 #[.pointer (some ⟨p,6,none⟩)] w fun e' w'=>e'=.returned (.agg #[By (f (n-1)),AI (((n-1:Nat):Int)+-e)])/\Gw w w'):=Ul kb w k0
 have NA:ag (∀ W,Gw w W->Calls prog 162 #[BY p,.agg #[By x,AI ((n:Int)-e)],.agg #[By x,AI ((n:Int)+e)]] W fun ex w'=>∃ ok:Bool,ex=.returned (.bool ok)/\IJ W w' p e n f x (.slice (some ⟨g0,0,none⟩) m0 cJ) (.slice (some ⟨g1,0,none⟩) m1 cG) ok):=fun W G=>aea kb hn xB e1 e2 x hx x1 (F.blk.gw G) (k0.gw G) (k1.gw G) F.low F.top F.sb
 have jB:ag (FT w p (.slice (some ⟨g0,0,none⟩) m0 cJ) (.slice (some ⟨g1,0,none⟩) m1 cG) e n f lr lf mr mf m0 m1 c0 c1):=F;have BV:ag (KB f n):=kb;have ix:=F.blk.cell (o:=1) (v:=AI n) rfl;have lp:=F.blk.lt;have hni:(0:Int)<n:=by omega
 have Jd:IntKind.i64.wrap ((n:Int)-e)=(n:Int)-e:=by rw [IntKind.wrap_i64];omega
 have Je:IntKind.i64.wrap ((n:Int)+e)=(n:Int)+e:=by rw [IntKind.wrap_i64];omega
 have HX:ag (f (n-1)<x):=hx;have fP:¬ x<=f (n-1):=by omega
 generalize f (n-1)=fl at BP fP;generalize ((n-1:Nat):Int)+-e=yl at BP;have tH:∀ W:World,(Instr.field 250 (.agg #[By fl,AI yl]) 0).run prog W=.ok (By fl) W:=fun _=>by kernel_rfl
 clear F k0 k1 kb hx;go_enter func142,ntmps142;go_wp2_with fail;refine BP.o.mono ?_;rintro ex wz ⟨rfl,gz⟩;have GZ:ag _:=gz;have zs:=(GZ.o.cell p 1 lp).trans ix;have lL:=(GZ.o.cell p 0 lp).trans (jB.o.blk.cell (o:=0) (v:=AI e) rfl);have lpz:p<wz.heap.size:=Nat.lt_of_lt_of_le lp GZ.o.size;clear gz BP;go_wp2_with fail;go_cut [7,8] (fun s7 s8 wc=>∃ (b7 b8:Nat),s7=BY b7/\s8=BY b8/\ag (Bx wc b7 250 (By x) (AI ((n:Int)-e)))/\ag (Bx wc b8 250 (By x) (AI ((n:Int)+e)))/\ag (wz.heap.size<=b7)/\ag (wz.heap.size<=b8)/\ag (Gw wz wc))
 case first =>
  go_region
  all_goals
   go_wp2_with fail;go_meet
  all_goals
   case rel =>
    first
     | exact ⟨wz.heap.size,wz.heap.size+1,rfl,rfl,(show ag _ from (Bx.new wz _ _ _).alloc _),(show ag _ from (Bx.new _ _ _ _).at (by simp)),(show ag _ from Nat.le_refl _),(show ag _ from Nat.le_succ _),(show ag _ from (((Gw.refl wz).alloc _ _).alloc _ _).drew)⟩
     | exact ⟨wz.heap.size+1,wz.heap.size,rfl,rfl,(show ag _ from (Bx.new _ _ _ _).at (by simp)),(show ag _ from (Bx.new wz _ _ _).alloc _),(show ag _ from Nat.le_succ _),(show ag _ from Nat.le_refl _),(show ag _ from (((Gw.refl wz).alloc _ _).alloc _ _).drew)⟩
 case rest =>
  obtain ⟨W1,fB⟩:∃ wx,wx=wc:=⟨_,rfl⟩;subst fB;obtain ⟨b7,b8,rfl,rfl,B7,B8,L7,L8,G1⟩:=hcut;have ie:ag (Gw w W1):=GZ.o.trans G1.o;have l7:w.heap.size<=b7:=Nat.le_trans GZ.o.size L7.o;have l8:w.heap.size<=b8:=Nat.le_trans GZ.o.size L8.o;have d0:=B7.o.c0;have d1:=B7.o.c1;have d2:=B8.o.c0;have d3:=B8.o.c1;have d4:=(ie.o.cell p 1 lp).trans ix;clear ix zs lL Jd Je fP lpz;go_wp2_with fail;refine (NA.o _ ie.o).mono ?_;rintro ex W2 ⟨ok,rfl,hN⟩;have HN:ag (IJ W1 W2 p e n f x (.slice (some ⟨g0,0,none⟩) m0 cJ) (.slice (some ⟨g1,0,none⟩) m1 cG) ok):=hN;clear hN NA d0 d1 d2 d3 d4;cases ok with
  | false =>
   go_wp2_with fail;go_ret2
   exact ⟨false,rfl,HN.o.1,fun _=>ie.o.trans (HN.o.2.1 rfl),fun q=>Bool.noConfusion q⟩
  | true =>
   have FI:ag _:=HN.o.1.1 rfl;obtain ⟨⟨jY,mX,mY,mZ,hB,hL,hT,hS⟩,hG⟩:=HN.o.2.2 rfl;have jw:ag (bV W2 p (df e n jY mX mY mZ (.slice (some ⟨g0,0,none⟩) m0 cJ) (.slice (some ⟨g1,0,none⟩) m1 cG)) 221):=hB;have SL:ag (fM e (aD f n x) (aB (n+1)) jY mX/\fN e (aD f n x) (aB (n+1)) mY mZ/\SB jY mX mY mZ):=⟨hL,hT,hS⟩;have GA:ag (Gs (fun q=>q=p) w W2):=⟨hG.os.trans ie.o.below.os,hG.tape.trans ie.o.below.tape,hG.output.trans ie.o.below.output,Nat.le_trans ie.o.size hG.size,fun q hq hs=>(hG.block q (Nat.lt_of_lt_of_le hq ie.o.size) hs).trans (ie.o.below.block q hq)⟩
   have Jf:ag (Bx W2 b7 250 (By x) (AI ((n:Int)-e))):=B7.o.gs' hG (fun r=>by have:b7=p:=r;omega)
   have BM:ag (Bx W2 b8 250 (By x) (AI ((n:Int)+e))):=B8.o.gs' hG (fun r=>by have:b8=p:=r;omega)
   have OW:ag ((g0<w.heap.size/\g0≠p)/\(g1<w.heap.size/\g1≠p)/\g0≠g1):=⟨⟨(jB.o.own0.lt g0 rfl).2,jB.o.ne0 g0 rfl⟩,⟨(jB.o.own1.lt g1 rfl).2,jB.o.ne1 g1 rfl⟩,fun q=>jB.o.ne g0 rfl (by rw [q];rfl)⟩
   have UQ:ag (W2.ownsRow 0 250 2 (.slice (some ⟨g0,0,none⟩) m0 cJ) m0 (bO f c0 (-e) m0)):=kq jB.o.own0 fun q hq=>GA.o.block q (jB.o.own0.lt q hq).2 (jB.o.ne0 q hq)
   have UR:ag (W2.ownsRow 0 250 2 (.slice (some ⟨g1,0,none⟩) m1 cG) m1 (bO f c1 e m1)):=kq jB.o.own1 fun q hq=>GA.o.block q (jB.o.own1.lt q hq).2 (jB.o.ne1 q hq)
   have LA:ag (∀ W,Gw W2 W->Calls prog 163 #[.pointer (some ⟨p,6,none⟩),.agg #[By x,AI ((n:Int)-e)]] W fun ex w'=>ex=.returned (.tuple #[])/\Laid W w' p 6 (df e n jY mX mY mZ (.slice (some ⟨g0,0,none⟩) m0 cJ) (.slice (some ⟨g1,0,none⟩) m1 cG)) 221 (.slice (some ⟨g0,0,none⟩) m0 cJ) f n x (-1) (-e)):=fun W G=>(by
    have:=Ut (o:=6) (s:=-1) (h:=-e) BV.o hn (.inr rfl) (by omega) (by omega) x HX.o x1 (jw.o.gw G) rfl rfl (kq UQ.o fun q hq=>G.below.block q (UQ.o.lt q hq).2) OW.o.1.2 (jB.o.ch0 hn)
    rw [show (n:Int)+-e=(n:Int)-e by omega] at this
    exact this)
   have d0:=Jf.o.c0;have d1:=Jf.o.c1;clear HN hB hL hT hS hG B7 B8 Jf ie GZ G1;go_wp2_with fail;go_cut [] (fun wc=>ag (Laid W2 wc p 6 (df e n jY mX mY mZ (.slice (some ⟨g0,0,none⟩) m0 cJ) (.slice (some ⟨g1,0,none⟩) m1 cG)) 221 (.slice (some ⟨g0,0,none⟩) m0 cJ) f n x (-1) (-e)))
   case first =>
    go_region_with (go_at_call 163;refine (LA.o _ ((Gw.refl _).drew)).mono ?_;rintro ex w8 ⟨rfl,hL⟩;have HL:ag (Laid W2 w8 p 6 (df e n jY mX mY mZ (.slice (some ⟨g0,0,none⟩) m0 cJ) (.slice (some ⟨g1,0,none⟩) m1 cG)) 221 (.slice (some ⟨g0,0,none⟩) m0 cJ) f n x (-1) (-e)):=hL.undrew;clear hL)
    all_goals
     go_wp2_with fail;go_meet
    all_goals
     case rel=>exact HL.o
   case rest =>
    obtain ⟨W3,fB⟩:∃ wx,wx=wc:=⟨_,rfl⟩;subst fB;obtain ⟨⟨ir,jK,lL,H1,lW,H3,H4⟩,H5⟩:=hcut.o;have D1:ag (bV W3 p ((df e n jY mX mY mZ (.slice (some ⟨g0,0,none⟩) m0 cJ) (.slice (some ⟨g1,0,none⟩) m1 cG)).setIfInBounds (6+1) ir) 221):=H1;have D2:ag _:=lW;have D3:ag _:=H3;have D4:ag _:=H4;have D5:ag _:=H5;have US:ag (Bx W3 b8 250 (By x) (AI ((n:Int)+e))):=BM.o.gs' H5 (fun r=>by
     rcases r with r | r
     ·have:b8=p:=r
      omega
     ·have r':some g0=some b8:=r
      have:=OW.o.1.1
      simp at r';omega)
    have UT:ag (W3.ownsRow 0 250 2 (.slice (some ⟨g1,0,none⟩) m1 cG) m1 (bO f c1 e m1)):=kq UR.o fun q hq=>(by
     have UW:=(UR.o.lt q hq).2;cases hq;exact H5.block _ UW (fun r=>by
      rcases r with r | r
      ·exact OW.o.2.1.2 r
      ·cases r
       exact OW.o.2.2 rfl))
    clear H1 lW H3 H4 H5 hcut LA d0 d1;have LA:ag (∀ W,Gw W3 W->Calls prog 163 #[.pointer (some ⟨p,8,none⟩),.agg #[By x,AI ((n:Int)+e)]] W fun ex w'=>ex=.returned (.tuple #[])/\Laid W w' p 8 ((df e n jY mX mY mZ (.slice (some ⟨g0,0,none⟩) m0 cJ) (.slice (some ⟨g1,0,none⟩) m1 cG)).setIfInBounds (6+1) ir) 221 (.slice (some ⟨g1,0,none⟩) m1 cG) f n x 1 e):=fun W G =>
     Ut (o:=8) (s:=1) (h:=e) BV.o hn (.inl rfl) (by omega) (by omega) x HX.o x1 (D1.o.gw G) rfl rfl (kq UT.o fun q hq=>G.below.block q (UT.o.lt q hq).2) OW.o.2.1.2 (jB.o.ch1 hn)
    have d0:=US.o.c0;have d1:=US.o.c1;go_wp2_with fail;go_cut [] (fun wc=>ag (Laid W3 wc p 8 ((df e n jY mX mY mZ (.slice (some ⟨g0,0,none⟩) m0 cJ) (.slice (some ⟨g1,0,none⟩) m1 cG)).setIfInBounds (6+1) ir) 221 (.slice (some ⟨g1,0,none⟩) m1 cG) f n x (1) (e)))
    case first =>
     go_region_with (go_at_call 163;refine (LA.o _ ((Gw.refl _).drew)).mono ?_;rintro ex w8 ⟨rfl,hL⟩;have HL:ag (Laid W3 w8 p 8 ((df e n jY mX mY mZ (.slice (some ⟨g0,0,none⟩) m0 cJ) (.slice (some ⟨g1,0,none⟩) m1 cG)).setIfInBounds (6+1) ir) 221 (.slice (some ⟨g1,0,none⟩) m1 cG) f n x (1) (e)):=hL.undrew;clear hL)
     all_goals
      go_wp2_with fail;go_meet
     all_goals
      case rel=>exact HL.o
    case rest =>
     obtain ⟨W4,fB⟩:∃ wx,wx=wc:=⟨_,rfl⟩;subst fB;obtain ⟨⟨qi,rA,ix,H1,lW,H3,H4⟩,H5⟩:=hcut.o;have aL:ag ((∃ S',dN (W4.setCell ⟨p,1,none⟩ (AI ((n:Int)+1))) p S' e (n+1) (aD f n x)/\∀ q,S' q->iZ p (.slice (some ⟨g0,0,none⟩) m0 cJ) (.slice (some ⟨g1,0,none⟩) m1 cG) q\/w.heap.size<=q)/\Gs (iZ p (.slice (some ⟨g0,0,none⟩) m0 cJ) (.slice (some ⟨g1,0,none⟩) m1 cG)) w (W4.setCell ⟨p,1,none⟩ (AI ((n:Int)+1)))):=by
      refine UO (n:=n) (fun q hq=>by cases hq;exact OW.o.1) (fun q hq=>by cases hq;exact OW.o.2.1) (fun q hq hr=>by cases hq;cases hr;exact OW.o.2.2 rfl) lp GA.o D5.o D2.o D4.o D3.o H5 lW H4 H3 H1 (CQ BV.o.up (fun _=>HX.o)) (fun i hi=>?_) SL.o.1 SL.o.2.1 FI.o ⟨e1,e2⟩ SL.o.2.2
      by_cases je:i=n
      ·rw [je,dO]
       exact ⟨x0,x1⟩
      ·rw [bH (by omega)]
       exact BV.o.bd i (by omega)
     have q1:W4.cell? ⟨p,1,none⟩=some (AI n):=H1.cell rfl;have q2:=H1.fz 1;have q3:IntKind.i64.wrap ((n:Int)+1)=(n:Int)+1:=by rw [IntKind.wrap_i64];omega
     clear H1 lW H3 H4 H5 hcut D1 D2 D3 D4 D5 LA d0 d1;go_wp2_with fail;go_ret2;exact ⟨true,rfl,⟨fun _=>FI.o,fun _=>rfl⟩,(fun q=>Bool.noConfusion q),fun _=>aL.o⟩
theorem aeh (h:dN w p S e n f) (x:Int) (x0:0<=x) (x1:x<18446744073709551616) (hn:n<=3000000) :
  Calls prog 142 #[BY p,By x] w fun ex w' =>
   (∃ (ok:Bool) (err:Int) (S':Nat->Prop),ex=.returned (.tuple #[.bool ok,AI err])/\CS e n f x ok err/\dN w' p S' e (if ok then n+1 else n) (if ok then aD f n x else f)/\∀ q,S' q->S q\/w.heap.size<=q)/\Gs S w w':=by
 have hk:=h;obtain ⟨v0,v1,lr,lf,mr,mf,m0,m1,c0,c1,F,hS⟩:=h;have UX:∀ w',Gw w w'->dN w' p S e n f:=fun w' G=>hk.keep fun q hq=>G.below.block q (hk.lt q hq)
 have GS:∀ w',Gs (iZ p v0 v1) w w'->Gs S w w':=fun w' g=>⟨g.os,g.tape,g.output,g.size,fun q hq hs=>g.block q hq (fun r=>hs ((hS q).2 r))⟩
 by_cases hx:0<n/\x<=f (n-1)
 ·refine (aee F x x0 x1 hn hx.1 hx.2).mono ?_
  rintro ex w' ⟨rfl,g⟩;exact ⟨⟨false,40,S,rfl,.inl ⟨hx.1,hx.2,rfl,rfl⟩,UX w' g,fun q hq=>.inl hq⟩,g.gs S⟩
 ·by_cases hz:n=0
  ·subst hz
   refine (aef F x x0 x1).mono ?_;rintro ex w' ⟨rfl,⟨S',hF,Jg⟩,g⟩;refine ⟨⟨true,0,S',rfl,.inr ⟨hx,rfl,⟨fun _=>?_,fun _=>rfl⟩⟩,hF,fun q hq=>?_⟩,GS w' g⟩
   ·intro i j i' j' s
    have:=s.1;have:=s.2;omega
   ·rcases Jg q hq with r | r
    ·exact .inl ((hS q).2 r)
    ·exact .inr r
  ·have fP:f (n-1)<x:=by
    rcases Int.lt_or_le (f (n-1)) x with q | q
    ·exact q
    ·exact absurd ⟨by omega,q⟩ hx
   refine (aeg F x x0 x1 hn (by omega) fP).mono ?_
   rintro ex w' ⟨ok,rfl,h1,h2,h3⟩;cases ok with
   | false=>exact ⟨⟨false,0,S,rfl,.inr ⟨hx,rfl,h1⟩,UX w' (h2 rfl),fun q hq=>.inl hq⟩,(h2 rfl).gs S⟩
   | true =>
    obtain ⟨⟨S',hF,Jg⟩,g⟩:=h3 rfl;refine ⟨⟨true,0,S',rfl,.inr ⟨hx,rfl,h1⟩,hF,fun q hq=>?_⟩,GS w' g⟩
    rcases Jg q hq with r | r
    ·exact .inl ((hS q).2 r)
    ·exact .inr r
theorem UY:nI dN where
 keep:=dN.keep
 lt:=dN.lt
 ext:=dN.ext
 facts:=dN.facts
 bad:=aeb
 new:=aec
 add:=aeh
 least:=aed
end Go.Proofs.YtcboobmfnmgldaaGreat
