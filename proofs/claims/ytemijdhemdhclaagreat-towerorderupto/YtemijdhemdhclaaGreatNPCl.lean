/- lay: a point more, and those that it can't touch any more gone. -/
import Derived.Deep.AppendLies
import Derived.Deep.RegionLaw
import Derived.Test.YtemijdhemdhclaaGreatNR4Add
import Derived.Test.YtemijdhemdhclaaGreatNPCt
set_option linter.unusedVariables false
set_option maxHeartbeats 8000000
open Go.Proofs.Tryz
namespace Go.Proofs.YtemijdhemdhclaaGreat
open Go.RowKit
def Blk (w:World) (p:Nat) (B:Array Value) (t:TypeId):Prop:=w.heap[p]?=some (.cells B t (0,0))
theorem Blk.lt {w:World} {p:Nat} {B:Array Value} {t:TypeId} (h:Blk w p B t):p<w.heap.size:=(Array.getElem?_eq_some_iff.1 h).1
theorem Blk.cell {w:World} {p:Nat} {B:Array Value} {t:TypeId} (h:Blk w p B t) {o:Nat} {v:Value} (hv:B[o]?=some v):w.cell? ⟨p,o,none⟩=some v:=by unfold Blk at h;simp [World.cell?,h,hv]
theorem Blk.fz {w:World} {p:Nat} {B:Array Value} {t:TypeId} (h:Blk w p B t) (o:Nat):w.frozen? ⟨p,o,none⟩=false:=by unfold Blk at h;simp [World.frozen?,h]
theorem Blk.gw {w w':World} {p:Nat} {B:Array Value} {t:TypeId} (h:Blk w p B t) (g:Gw w w'):Blk w' p B t:=(g.below.block p h.lt).trans h
theorem Blk.set {w:World} {p:Nat} {B:Array Value} {t:TypeId} (h:Blk w p B t) (o:Nat) (v:Value):Blk (w.setCell ⟨p,o,none⟩ v) p (B.setIfInBounds o v) t:=by
 unfold Blk at h ⊢;simp [World.setCell,Array.getElem?_modify,h]
def pcells (f:Nat->Int) (c:Nat->Nat) (h:Int):Nat->List Value
 | 0=>[]
 | m+1=>pcells f c h m++[.int .u64 (f (c m)),.int .i64 ((c m:Int)+h)]
theorem pcells_len (f:Nat->Int) (c:Nat->Nat) (h:Int) (m:Nat):(pcells f c h m).length=m*2:=by
 induction m with
 | zero=>rfl
 | succ m ih=>simp [pcells,ih];omega
theorem pcells_take (f:Nat->Int) (c:Nat->Nat) (h:Int) {k m:Nat} (hk:k<=m):(pcells f c h m).take (k*2)=pcells f c h k:=by
 induction m with
 | zero =>
      have:k=0:=by omega
      subst this;rfl
 | succ m ih =>
  by_cases e:k=m+1
  ·subst e
   rw [<-pcells_len f c h (m+1)];exact List.take_length
  ·have:=ih (by omega)
   rw [pcells,List.take_append_of_le_length (by rw [pcells_len];omega)]
   exact this
theorem pcells_get (f:Nat->Int) (c:Nat->Nat) (h:Int) {i m:Nat} (hi:i<m):(pcells f c h m)[i*2]?=some (.int .u64 (f (c i)))/\(pcells f c h m)[i*2+1]?=some (.int .i64 ((c i:Int)+h)):=by
 induction m with
 | zero=>omega
 | succ m ih =>
  by_cases e:i=m
  ·subst e
   have l:=pcells_len f c h i;constructor
   ·rw [pcells,List.getElem?_append_right (by omega),l];simp
   ·rw [pcells,List.getElem?_append_right (by omega),l];simp
  ·obtain ⟨h1,h2⟩:=ih (by omega)
   have l:=pcells_len f c h m;constructor
   ·rw [pcells,List.getElem?_append_left (by omega)];exact h1
   ·rw [pcells,List.getElem?_append_left (by omega)];exact h2
theorem pcells_congr {f f':Nat->Int} {c c':Nat->Nat} (h:Int) {m:Nat} (e:∀ i,i<m->f (c i)=f' (c' i)/\c i=c' i):pcells f c h m=pcells f' c' h m:=by
 induction m with
 | zero=>rfl
 | succ m ih =>
  obtain ⟨e1,e2⟩:=e m (by omega)
  rw [pcells,pcells,ih (fun i hi=>e i (by omega)),e1,e2]
theorem ps_own {w:World} {base g m cap:Nat} {f:Nat->Int} {c:Nat->Nat} {h:Int} (own:w.ownsRow base 231 2 (.slice (some ⟨g,0,none⟩) m cap) m (pcells f c h m)):PS w g m (fun i=>f (c i)) (fun i=>(c i:Int)+h):=by
 have C:=own.cells (g:=g) rfl;refine ⟨(own.lt g rfl).2,fun i hi=>?_,fun i hi=>?_⟩
 ·have:=C (i*2) _ (pcells_get f c h hi).1
  rw [Addr.add_lit] at this;simpa using this
 ·have:=C (i*2+1) _ (pcells_get f c h hi).2
  rw [Addr.add_lit] at this;simpa using this
theorem own_cut {w:World} {base g m cap k:Nat} {f:Nat->Int} {c:Nat->Nat} {h:Int} (own:w.ownsRow base 231 2 (.slice (some ⟨g,0,none⟩) m cap) m (pcells f c h m)) (hk:k<=m):w.ownsRow base 231 2 (.slice (some ⟨g,0,none⟩) k cap) k (pcells f c h k):=by
 refine ⟨pcells_len f c h k,?_⟩;rcases own.2 with ⟨q,_⟩ | ⟨g',cap',cur,ev,hb,hh,hnc,hcm,hsz,htk⟩
 ·cases q
 ·cases ev
  refine .inr ⟨g,cap,cur,rfl,hb,hh,by omega,hcm,hsz,?_⟩
  rw [<-pcells_take f c h hk,<-htk,List.take_take];congr 1;omega
theorem own_cap {w:World} {base g m cap:Nat} {xs:List Value} (own:w.ownsRow base 231 2 (.slice (some ⟨g,0,none⟩) m cap) m xs):m<=cap:=by
 rcases own.2 with ⟨q,_⟩ | ⟨g',cap',cur,ev,hb,hh,hnc,_⟩
 ·cases q
 ·cases ev;exact hnc
theorem own_keep {w w':World} {base e size n:Nat} {v:Value} {xs:List Value} (own:w.ownsRow base e size v n xs) (k:∀ q,v.ownBlock=some q->w'.heap[q]?=w.heap[q]?):w'.ownsRow base e size v n xs:=by
 refine ⟨own.1,?_⟩;rcases own.2 with q | ⟨g,cap,cur,rfl,hb,hh,r⟩
 ·exact .inl q
 ·exact .inr ⟨g,cap,cur,rfl,hb,(k g rfl).trans hh,r⟩
theorem info_pt:(prog.info? 231).map (fun i=>(i.zero,i.size,i.bytes))=some (some (.agg #[.int .u64 0,.int .i64 0]),2,16):=by kernel_rfl
structure Mid (w wc:World) (p o:Nat) (B:Array Value) (T:TypeId) (v:Value) (m:Nat) (xs:List Value) (x y:Int):Prop where
 blk:Blk wc p B T
 bo:B[o+1]?=some v
 own:wc.ownsRow 0 231 2 v m xs
 ne:v.ownBlock≠some p
 bx:Bx wc w.heap.size 231 (.int .u64 x) (.int .i64 y)
 ml:m<=4000000
theorem Mid.own1 {w wc:World} {p o:Nat} {B:Array Value} {T:TypeId} {v:Value} {m:Nat} {xs:List Value} {x y:Int} (M:Mid w wc p o B T v m xs x y):(wc.drew.alloc (.cells #[.int .u64 x,.int .i64 y] 231)).ownsRow 0 231 2 v m xs :=
 own_keep M.own fun q hq=>heap_alloc_old wc.drew _ (M.own.lt q hq).2
theorem Mid.news {w wc:World} {p o:Nat} {B:Array Value} {T:TypeId} {v:Value} {m:Nat} {xs:List Value} {x y:Int} (M:Mid w wc p o B T v m xs x y):∀ j u,[Value.int .u64 x,.int .i64 y][j]?=some u->(wc.drew.alloc (.cells #[.int .u64 x,.int .i64 y] 231)).cell? ((⟨wc.heap.size,0,none⟩:Addr).add j)=some u:=by
 have hb:(wc.drew.alloc (.cells #[.int .u64 x,.int .i64 y] 231)).heap[wc.heap.size]?=some (.cells #[.int .u64 x,.int .i64 y] 231 (0,0)):=heap_alloc_new wc.drew _;exact World.news_of_block hb
theorem Mid.after {w wc w7:World} {p o:Nat} {B:Array Value} {T:TypeId} {v:Value} {m:Nat} {xs:List Value} {x y:Int} (M:Mid w wc p o B T v m xs x y) (g:(wc.drew.alloc (.cells #[.int .u64 x,.int .i64 y] 231)).grownBy w7 v.ownBlock):Blk w7 p B T:=by
 have l:=M.blk.lt;refine (g.block p (by simp;omega) (fun q=>M.ne q.symm)).trans ?_
 exact (heap_alloc_old wc.drew _ l).trans M.blk
theorem Mid.gs {w wc w7:World} {p o:Nat} {B:Array Value} {T:TypeId} {v v0:Value} {m:Nat} {xs:List Value} {x y:Int} (M:Mid w wc p o B T v m xs x y) (G:Gs (fun q=>q=p\/v0.ownBlock=some q) w wc) (hv:v.ownBlock=v0.ownBlock) (g:(wc.drew.alloc (.cells #[.int .u64 x,.int .i64 y] 231)).grownBy w7 v.ownBlock) (u:Value):Gs (fun q=>q=p\/v0.ownBlock=some q) w (w7.setCell ⟨p,o+1,none⟩ u):=by
 refine Gs.set ?_ (.inl rfl) _ _;have G1:Gs (fun q=>q=p\/v0.ownBlock=some q) w (wc.drew.alloc (.cells #[.int .u64 x,.int .i64 y] 231)) :=
  ⟨G.os,G.tape,G.output,by have:=G.size;simp;omega,fun q hq hs=>(heap_alloc_old wc.drew _ (show q<wc.heap.size by have:=G.size;omega)).trans (G.block q hq hs)⟩
 exact G1.grown g (fun k hk=>.inr (by rw [<-hv];exact hk))
theorem pt_one (x y:Int):∀ u∈[Value.int .u64 x,.int .i64 y],u.oneCell'=true:=by
 intro u hu;rcases List.mem_cons.1 hu with rfl | hu
 ·rfl
 ·rcases List.mem_cons.1 hu with rfl | hu
  ·rfl
  ·cases hu
theorem Mid.len1 {w wc:World} {p o:Nat} {B:Array Value} {T:TypeId} {v:Value} {m:Nat} {xs:List Value} {x y:Int} (M:Mid w wc p o B T v m xs x y):m+1<=maxLen:=by have:=M.ml;simp [maxLen];omega
theorem Mid.len2 {w wc:World} {p o:Nat} {B:Array Value} {T:TypeId} {v:Value} {m:Nat} {xs:List Value} {x y:Int} (M:Mid w wc p o B T v m xs x y):(m+1)*16<=140737488355328:=by have:=M.ml;omega
def Laid (w w':World) (p o:Nat) (B:Array Value) (T:TypeId) (v:Value) (f:Nat->Int) (n:Nat) (x s h:Int):Prop :=
 (∃ v' m' c',Blk w' p (B.setIfInBounds (o+1) v') T/\w'.ownsRow 0 231 2 v' m' (pcells (upd f n x) c' h m')/\Chn (upd f n x) (fun j=>s*(j:Int)) (n+1) m' c'/\(∀ q,v'.ownBlock=some q->(v.ownBlock=some q\/w.heap.size<=q)/\q≠p))/\Gs (fun q=>q=p\/v.ownBlock=some q) w w'
theorem laid_mk {w wc w7:World} {p o:Nat} {B B2:Array Value} {T:TypeId} {v v0:Value} {m:Nat} {xs:List Value} {x y s h:Int} {f:Nat->Int} {n:Nat} {c':Nat->Nat} {g cap:Nat} (M:Mid w wc p o B2 T v m xs x y) (G:Gs (fun q=>q=p\/v0.ownBlock=some q) w wc) (hv:v.ownBlock=v0.ownBlock)
  (q1:w7.ownsRow 0 231 2 (.slice (some ⟨g,0,none⟩) (m+1) cap) (m+1) (xs++[.int .u64 x,.int .i64 y])) (q2:(wc.drew.alloc (.cells #[.int .u64 x,.int .i64 y] 231)).grownBy w7 v.ownBlock) (q3:v.ownBlock=some g\/g=(wc.drew.alloc (.cells #[.int .u64 x,.int .i64 y] 231)).heap.size)
  (hc:Chn (upd f n x) (fun j=>s*(j:Int)) (n+1) (m+1) c') (hp:xs++[.int .u64 x,.int .i64 y]=pcells (upd f n x) c' h (m+1)) (hB:∀ u,B2.setIfInBounds (o+1) u=B.setIfInBounds (o+1) u) :
  Laid w (w7.setCell ⟨p,o+1,none⟩ (.slice (some ⟨g,0,none⟩) (m+1) cap)) p o B T v0 f n x s h:=by
 have B7:=M.after q2;have gp:g≠p:=by
  rcases q3 with r | r
  ·intro e;rw [e] at r;exact M.ne r
  ·have:=M.blk.lt;simp at r;omega
 refine ⟨⟨.slice (some ⟨g,0,none⟩) (m+1) cap,m+1,c',?_,?_,hc,?_⟩,M.gs G hv q2 _⟩
 ·rw [<-hB];exact B7.set _ _
 ·rw [<-hp]
  refine own_keep q1 fun q hq=>?_
  cases hq
  exact Go.Deep.blk_setCell_other _ _ _ _ gp
 ·intro q hq
  cases hq
  refine ⟨?_,gp⟩;rcases q3 with r | r
  ·exact .inl (by rw [<-hv];exact r)
  ·right
   have:=G.size
   simp at r;show w.heap.size<=g;omega
theorem mid_cut {w w4:World} {p o g m cap t:Nat} {B:Array Value} {T:TypeId} {f:Nat->Int} {c:Nat->Nat} {x y h:Int} (F1:Blk w4 p B T) (F2:Bx w4 w.heap.size 231 (.int .u64 x) (.int .i64 y)) (F3:w4.ownsRow 0 231 2 (.slice (some ⟨g,0,none⟩) m cap) m (pcells f c h m)) (tm:t<m) (m4:m<=4000000) (gp:g≠p) (bo:∀ u:Value,(B.setIfInBounds (o+1) u)[o+1]?=some u) (lp:p<w.heap.size) :
  Mid w (w4.setCell ⟨p,o+1,none⟩ (.slice (some ⟨g,0,none⟩) (t+1) cap)) p o (B.setIfInBounds (o+1) (.slice (some ⟨g,0,none⟩) (t+1) cap)) T (.slice (some ⟨g,0,none⟩) (t+1) cap) (t+1) (pcells f c h (t+1)) x y :=
 ⟨F1.set _ _,bo _,own_keep (own_cut F3 (by omega)) (fun q hq=>by cases hq;exact Go.Deep.blk_setCell_other _ _ _ _ gp),(fun q=>by cases q;exact gp rfl),F2.far _ (by omega),by omega⟩
theorem lay_first {w:World} {p o:Nat} {B:Array Value} {T:TypeId} {s h:Int} {f:Nat->Int} (h0:-63<=h) (h1:h<=63) (x:Int) (x0:0<=x) (x1:x<18446744073709551616)
  (hb:Blk w p B T) (hB1:B[o+1]?=some (.slice none 0 0)) :
  Calls prog 158 #[.pointer (some ⟨p,o,none⟩),.agg #[.int .u64 x,.int .i64 h]] w fun e w'=>e=.returned (.tuple #[])/\Laid w w' p o B T (.slice none 0 0) f 0 x s h:=by
 have M:Mid w (w.alloc (.cells #[.int .u64 x,.int .i64 h] 231)) p o B T (.slice none 0 0) 0 [] x h :=
  ⟨hb.gw ((Gw.refl w).alloc _ _),hB1,World.ownsRow_nil _ _ _ _,by simp [Value.ownBlock],Bx.new _ _ _ _,by omega⟩
 have G0:Gs (fun q=>q=p\/(Value.slice none 0 0).ownBlock=some q) w (w.alloc (.cells #[.int .u64 x,.int .i64 h] 231)):=((Gw.refl w).alloc _ _).gs _
 have PC:Hid ([]++[.int .u64 x,.int .i64 h]=pcells (upd f 0 x) (fun _=>0) h (0+1)):=by
  show _=[]++[Value.int .u64 (upd f 0 x 0),.int .i64 (((0:Nat):Int)+h)];rw [upd_at];simp
 have c1:=hb.cell hB1;have lp:=hb.lt;obtain ⟨ii,hii,hz,hs,hby⟩:=info_parts info_pt;clear hb;go_enter func158,ntmps158;go_wp2_with fail;generalize w.alloc (.cells #[.int .u64 x,.int .i64 h] 231)=wc at M G0 ⊢;clear c1;have M':Hid _:=M;have G':Hid _:=G0;have d1:=M'.out.blk.cell M'.out.bo;have d2:=M'.out.bx.c0;have d3:=M'.out.bx.c1;have d4:=M'.out.blk.fz (o+1);have d5:=M'.out.blk.lt;have ONE:Hid _:=pt_one x (h);clear M G0;go_region_law (refine step_append_lies _ rfl (.tmp 26) (.tmp 28) 209 rfl 0 231 ii _ 2 16 underlying209 hii hz hs hby rfl (by decide) (.slice none 0 0) (0) ([]) (by simp [Act.eval]) M'.out.own1 ⟨wc.heap.size,0,none⟩ 1 1 [.int .u64 x,.int .i64 (h)] (by simp [Act.eval]) rfl M'.out.news ONE.out (by decide) (M'.out.len1) (M'.out.len2) (by omega) _ rfl ?_;intro g' cap' w7 q1 q2 q3 q4;have B7:Hid (Blk w7 p (B) T):=M'.out.after q2;have e1:=B7.out.cell M'.out.bo;have e2:=B7.out.fz (o+1);have FIN:Hid (Laid w (w7.setCell ⟨p,o+1,none⟩ (.slice (some ⟨g',0,none⟩) (0+1) cap')) p o B T (Value.slice none 0 0) f (0) x s h):=(laid_mk M'.out G'.out rfl q1 q2 q3 (chn_one _ _) PC.out (fun _=>rfl));clear q1 q2 q3)
 all_goals
  clear d1 d2 d3 d4 d5;go_wp2;go_end0;exact ⟨rfl,FIN.out⟩
theorem lay_more {w:World} {p o g m cap:Nat} {B:Array Value} {T:TypeId} {s h:Int} {f:Nat->Int} {n:Nat} {c:Nat->Nat} (kb:KB f n) (hn:0<n) (hs':s=1\/s=-1) (h0:-63<=h) (h1:h<=63) (x:Int) (hx:f (n-1)<x) (x1:x<18446744073709551616)
  (hb:Blk w p B T) (hB0:B[o]?=some (.int .i64 s)) (hB1:B[o+1]?=some (.slice (some ⟨g,0,none⟩) m cap)) (own:w.ownsRow 0 231 2 (.slice (some ⟨g,0,none⟩) m cap) m (pcells f c h m)) (gp:g≠p) (ch:Chn f (fun j=>s*(j:Int)) n m c) :
  Calls prog 158 #[.pointer (some ⟨p,o,none⟩),.agg #[.int .u64 x,.int .i64 ((n:Int)+h)]] w fun e w'=>e=.returned (.tuple #[])/\Laid w w' p o B T (.slice (some ⟨g,0,none⟩) m cap) f n x s h:=by
 have nl:=kb.len;have CC:CH w p o g m cap s h f n c:=⟨hb.lt,hb.cell hB0,hb.cell hB1,ps_own own,ch⟩;have TA:Hid (∀ W,Gw w W->Calls prog 171 #[.pointer (some ⟨p,o,none⟩),.agg #[.int .u64 x,.int .i64 ((n:Int)+h)]] W fun e w'=>(∃ t:Nat,e=.returned (.int .i64 t)/\Tch f (fun j=>s*(j:Int)) m c x (s*(n:Int)) t)/\Gw W w'):=by
  show ∀ W,Gw w W->Calls prog 171 #[.pointer (some ⟨p,o,none⟩),.agg #[.int .u64 x,.int .i64 ((n:Int)+h)]] W fun e w'=>(∃ t:Nat,e=.returned (.int .i64 t)/\Tch f (fun j=>s*(j:Int)) m c x (s*(n:Int)) t)/\Gw W w'
  intro W G;have:=touch_any kb hs' h0 h1 x ((n:Int)+h) hx x1 (by omega) (by omega) W (CC.gw G)
  rw [show (n:Int)+h-h=n by omega] at this
  exact this
 have ML:=own_cap own;have m4:m<=4000000:=by have:=ch.len;omega
 have m0:0<m:=ch.pos;have FX:Hid (∀ W,Gw (w.alloc (.cells #[.int .u64 x,.int .i64 ((n:Int)+h)] 231)) W->Blk W p B T/\Bx W w.heap.size 231 (.int .u64 x) (.int .i64 ((n:Int)+h))/\W.ownsRow 0 231 2 (.slice (some ⟨g,0,none⟩) m cap) m (pcells f c h m)/\Gw w W):=by
  intro W G;have G1:=((Gw.refl w).alloc #[.int .u64 x,.int .i64 ((n:Int)+h)] 231).trans G;exact ⟨hb.gw G1,(Bx.new _ _ _ _).gw G,own_keep own fun q hq=>G1.below.block q (own.lt q hq).2,G1⟩
 have CHN:Hid (∀ t,Tch f (fun j=>s*(j:Int)) m c x (s*(n:Int)) t->Chn (upd f n x) (fun j=>s*(j:Int)) (n+1) (t+1+1) (cput c (t+1) n)/\pcells f c h (t+1)++[.int .u64 x,.int .i64 ((n:Int)+h)]=pcells (upd f n x) (cput c (t+1) n) h (t+1+1)):=by
  intro t ht;refine ⟨ch.lay kb.up hx ht,?_⟩;have e:pcells (upd f n x) (cput c (t+1) n) h (t+1+1)=pcells (upd f n x) (cput c (t+1) n) h (t+1)++[.int .u64 (upd f n x (cput c (t+1) n (t+1))),.int .i64 ((cput c (t+1) n (t+1):Int)+h)]:=rfl;rw [e,cput_at,upd_at];congr 1;refine pcells_congr h fun i hi=>?_
  have tl:=ht.lt;have bd:=ch.bd (show i<m by omega)
  rw [cput_lo hi,upd_lo bd];exact ⟨rfl,rfl⟩
 have BO:Hid (∀ u:Value,(B.setIfInBounds (o+1) u)[o+1]?=some u):=by
  intro u;have:o+1<B.size:=(Array.getElem?_eq_some_iff.1 hB1).1;simp [this]
 have c1:=hb.cell hB1;have lp:=hb.lt;have f1:=hb.fz (o+1);obtain ⟨ii,hii,hz,hs,hby⟩:=info_parts info_pt;have HH:Hid (prog.info? 231=some ii/\ii.zero=some (.agg #[.int .u64 0,.int .i64 0])/\ii.size=2/\ii.bytes=16):=⟨hii,hz,hs,hby⟩;clear hb CC own ch hii hz hs hby kb;go_enter func158,ntmps158;go_wp2_with fail;go_cut [] (fun wc=>∃ t:Nat,Aside (Tch f (fun j=>s*(j:Int)) m c x (s*(n:Int)) t)/\Aside (Mid w wc p o (B.setIfInBounds (o+1) (.slice (some ⟨g,0,none⟩) (t+1) cap)) T (.slice (some ⟨g,0,none⟩) (t+1) cap) (t+1) (pcells f c h (t+1)) x ((n:Int)+h))/\Aside (Gs (fun q=>q=p\/(Value.slice (some ⟨g,0,none⟩) m cap).ownBlock=some q) w wc))
 case first =>
  go_region_with (go_at_call 171;refine (TA.out _ ((Gw.refl w).alloc _ _).drew).mono ?_;rintro e w4 ⟨⟨t,rfl,ht⟩,g4⟩;obtain ⟨F1,F2,F3,F4⟩:=FX.out w4 ((Gw.drew (Gw.refl _)).trans g4);have j1:=F1.cell hB1;have j2:=F1.fz (o+1);have j5:(t:Int)+1<=cap:=(by have:=ht.lt;omega);have j6:IntKind.i64.wrap ((t:Int)+1)=(t:Int)+1:=(by rw [IntKind.wrap_i64];have:=ht.lt;omega);have j7:0<=(t:Int)+1:=(by omega);have RR:Hid (Mid w (w4.setCell ⟨p,o+1,none⟩ (.slice (some ⟨g,0,none⟩) (t+1) cap)) p o (B.setIfInBounds (o+1) (.slice (some ⟨g,0,none⟩) (t+1) cap)) T (.slice (some ⟨g,0,none⟩) (t+1) cap) (t+1) (pcells f c h (t+1)) x ((n:Int)+h)):=(mid_cut F1 F2 F3 ht.lt m4 gp BO.out lp);have GG:Hid (Gs (fun q=>q=p\/(Value.slice (some ⟨g,0,none⟩) m cap).ownBlock=some q) w (w4.setCell ⟨p,o+1,none⟩ (.slice (some ⟨g,0,none⟩) (t+1) cap))):=((F4.gs _).set (.inl rfl) _ _);have ht':Hid (Tch f (fun j=>s*(j:Int)) m c x (s*(n:Int)) t):=ht;clear F1 F2 F3 F4 ht g4)
  all_goals
   clear j1 j2 j5 j6 j7 c1 f1;go_wp2_with fail;go_meet
   case rel=>exact ⟨t,ht'.out,RR.out,GG.out⟩
 case rest =>
  obtain ⟨wx,hwx⟩:∃ wx,wx=wc:=⟨_,rfl⟩;subst hwx;obtain ⟨t,ht,M,G0⟩:=hcut;obtain ⟨hii,hz,hs,hby⟩:=HH.out;clear c1 f1;go_wp2_with fail;have BE:Hid (∀ u,(B.setIfInBounds (o+1) (.slice (some ⟨g,0,none⟩) (t+1) cap)).setIfInBounds (o+1) u=B.setIfInBounds (o+1) u):=fun u=>by simp
  generalize B.setIfInBounds (o+1) (.slice (some ⟨g,0,none⟩) (t+1) cap)=B2 at M BE;have M':Hid _:=M;have G':Hid _:=G0;have d1:=M'.out.blk.cell M'.out.bo;have d2:=M'.out.bx.c0;have d3:=M'.out.bx.c1;have d4:=M'.out.blk.fz (o+1);have d5:=M'.out.blk.lt;have ONE:Hid _:=pt_one x ((n:Int)+h);clear M G0;go_region_law (refine step_append_lies _ rfl (.tmp 26) (.tmp 28) 209 rfl 0 231 ii _ 2 16 underlying209 hii hz hs hby rfl (by decide) (.slice (some ⟨g,0,none⟩) (t+1) cap) (t+1) (pcells f c h (t+1)) (by simp [Act.eval]) M'.out.own1 ⟨wx.heap.size,0,none⟩ 1 1 [.int .u64 x,.int .i64 ((n:Int)+h)] (by simp [Act.eval]) rfl M'.out.news ONE.out (by decide) (M'.out.len1) (M'.out.len2) (by omega) _ rfl ?_;intro g' cap' w7 q1 q2 q3 q4;have B7:Hid (Blk w7 p (B2) T):=M'.out.after q2;have e1:=B7.out.cell M'.out.bo;have e2:=B7.out.fz (o+1);have FIN:Hid (Laid w (w7.setCell ⟨p,o+1,none⟩ (.slice (some ⟨g',0,none⟩) (t+1+1) cap')) p o B T (Value.slice (some ⟨g,0,none⟩) m cap) f (n) x s h):=(laid_mk M'.out G'.out rfl q1 q2 q3 (CHN.out t ht.out).1 (CHN.out t ht.out).2 BE.out);clear q1 q2 q3)
  all_goals
   clear d1 d2 d3 d4 d5;go_wp2;go_end0;exact ⟨rfl,FIN.out⟩
theorem cmpi_neg (u v:Int):cmpi u v<0↔u<v:=by
 unfold cmpi;split
 ·simp [*]
 ·split<;>simp<;>omega
theorem cmpi_pos (u v:Int):0<cmpi u v↔v<u:=by
 unfold cmpi;split
 ·simp;omega
 ·split<;>simp<;>omega
def PL (e:Int) (f:Nat->Int) (n:Nat) (x xa ya:Int):Prop:=∃ t,t<n/\xa=f t/\ya=(t:Int)+e/\∀ j,j<n->((n:Int)-j-2*e)*(x-f t)<=((n:Int)-t-2*e)*(x-f j)
def PT (e:Int) (f:Nat->Int) (n:Nat) (x xa ya:Int):Prop:=∃ t,t<n/\xa=f t/\ya=(t:Int)-e/\∀ j,j<n->((n:Int)-t+2*e)*(x-f j)<=((n:Int)-j+2*e)*(x-f t)
theorem PL.bd {e:Int} {f:Nat->Int} {n:Nat} {x xa ya:Int} (h:PL e f n x xa ya) (kb:KB f n) (hx:f (n-1)<x) (e1:1<=e) (e2:e<=63):0<=xa/\xa<x/\-10000000<=ya/\ya<=10000000:=by
 obtain ⟨t,ht,rfl,rfl,_⟩:=h;have b1:=kb.bd t ht;have b2:=kb.up.le (show t<=n-1 by omega) (by omega)
 have b3:=kb.len;omega
theorem PT.bd {e:Int} {f:Nat->Int} {n:Nat} {x xa ya:Int} (h:PT e f n x xa ya) (kb:KB f n) (hx:f (n-1)<x) (e1:1<=e) (e2:e<=63):0<=xa/\xa<x/\-10000000<=ya/\ya<=10000000:=by
 obtain ⟨t,ht,rfl,rfl,_⟩:=h;have b1:=kb.bd t ht;have b2:=kb.up.le (show t<=n-1 by omega) (by omega)
 have b3:=kb.len;omega
theorem touched_low {w:World} {p g m cap:Nat} {e:Int} {f:Nat->Int} {n:Nat} {c:Nat->Nat} (kb:KB f n) (hn:0<n) (e1:1<=e) (e2:e<=63) (x:Int) (hx:f (n-1)<x) (x1:x<18446744073709551616) (k:CH w p 8 g m cap 1 e f n c) :
  Calls prog 169 #[.pointer (some ⟨p,8,none⟩),.agg #[.int .u64 x,.int .i64 ((n:Int)-e)]] w fun ex w'=>(∃ xa ya:Int,ex=.returned (.agg #[.int .u64 xa,.int .i64 ya])/\PL e f n x xa ya)/\Gw w w':=by
 have nl:=kb.len;refine (touched_any kb (.inl rfl) (by omega) e2 x ((n:Int)-e) hx x1 (by omega) (by omega) w k).mono ?_
 rintro ex w' ⟨⟨t,rfl,ht⟩,G⟩;rw [show (n:Int)-e-e=n-2*e by omega] at ht
 exact ⟨⟨_,_,rfl,c t,k.ch.bd ht.lt,rfl,rfl,touch_low k.ch kb.up hx ht⟩,G⟩
theorem touched_top {w:World} {p g m cap:Nat} {e:Int} {f:Nat->Int} {n:Nat} {c:Nat->Nat} (kb:KB f n) (hn:0<n) (e1:1<=e) (e2:e<=63) (x:Int) (hx:f (n-1)<x) (x1:x<18446744073709551616) (k:CH w p 6 g m cap (-1) (-e) f n c) :
  Calls prog 169 #[.pointer (some ⟨p,6,none⟩),.agg #[.int .u64 x,.int .i64 ((n:Int)+e)]] w fun ex w'=>(∃ xa ya:Int,ex=.returned (.agg #[.int .u64 xa,.int .i64 ya])/\PT e f n x xa ya)/\Gw w w':=by
 have nl:=kb.len;refine (touched_any kb (.inr rfl) (by omega) (by omega) x ((n:Int)+e) hx x1 (by omega) (by omega) w k).mono ?_
 rintro ex w' ⟨⟨t,rfl,ht⟩,G⟩;rw [show (n:Int)+e - -e=n+2*e by omega] at ht
 exact ⟨⟨_,_,rfl,c t,k.ch.bd ht.lt,rfl,by omega,touch_top k.ch kb.up hx ht⟩,G⟩
theorem two_new' (w:World) (t t':TypeId) (a0 a1 b0 b1:Value):Two w ((w.alloc (.cells #[a0,a1] t)).alloc (.cells #[b0,b1] t')) a0 a1 b0 b1 :=
 ⟨((Gw.refl w).alloc _ _).alloc _ _,by simp [go_sem],by simp [go_sem],by simp [go_sem],by simp [go_sem],by simp [go_sem]⟩
theorem Gs.drew {S:Nat->Prop} {w w':World} (h:Gs S w w'):Gs S w w'.drew:=⟨h.os,h.tape,h.output,h.size,h.block⟩
def fcells (e:Int) (n:Nat) (lr lf mr mf:Int) (v0 v1:Value):Array Value:=#[.int .i64 e,.int .i64 n,.int .i64 lr,.int .u64 lf,.int .i64 mr,.int .u64 mf,.int .i64 (-1),v0,.int .i64 1,v1]
structure SB (lr lf mr mf:Int):Prop where
 l0:0<=lr
 l1:lr<=10000000
 l2:0<=lf
 l3:lf<18446744073709551616
 m0:0<=mr
 m1:mr<=10000000
 m2:0<=mf
 m3:mf<18446744073709551616
def Narrowed (w w':World) (p:Nat) (e:Int) (n:Nat) (f:Nat->Int) (x:Int) (v0 v1:Value) (ok:Bool):Prop :=
 (ok=true↔FitsOn e (upd f n x) (Prs (n+1)))/\(ok=false->Gw w w') /\
 (ok=true->(∃ lr lf mr mf,Blk w' p (fcells e n lr lf mr mf v0 v1) 214/\LowU e (upd f n x) (Prs (n+1)) lr lf/\TopU e (upd f n x) (Prs (n+1)) mr mf/\SB lr lf mr mf)/\Gs (fun q=>q=p) w w')
theorem narrow_any {w:World} {p g0 m0 cap0 g1 m1 cap1:Nat} {e:Int} {n:Nat} {f:Nat->Int} {lr lf mr mf:Int} {c0 c1:Nat->Nat} (kb:KB f n) (hn:0<n) (hn':n<=3000000) (e1:1<=e) (e2:e<=63) (x:Int) (hx:f (n-1)<x) (x1:x<18446744073709551616)
  (hb:Blk w p (fcells e n lr lf mr mf (.slice (some ⟨g0,0,none⟩) m0 cap0) (.slice (some ⟨g1,0,none⟩) m1 cap1)) 214) (k0:CH w p 6 g0 m0 cap0 (-1) (-e) f n c0) (k1:CH w p 8 g1 m1 cap1 1 e f n c1)
  (low:LowU e f (Prs n) lr lf) (top:TopU e f (Prs n) mr mf) (sb:SB lr lf mr mf) :
  Calls prog 157 #[.pointer (some ⟨p,0,none⟩),.agg #[.int .u64 x,.int .i64 ((n:Int)-e)],.agg #[.int .u64 x,.int .i64 ((n:Int)+e)]] w fun ex w'=>∃ ok:Bool,ex=.returned (.bool ok)/\Narrowed w w' p e n f x (.slice (some ⟨g0,0,none⟩) m0 cap0) (.slice (some ⟨g1,0,none⟩) m1 cap1) ok:=by
 have T1:Hid (∀ W,Gw w W->Calls prog 169 #[.pointer (some ⟨p,8,none⟩),.agg #[.int .u64 x,.int .i64 ((n:Int)-e)]] W fun ex w'=>(∃ xa ya:Int,ex=.returned (.agg #[.int .u64 xa,.int .i64 ya])/\PL e f n x xa ya)/\Gw W w'):=fun W G=>touched_low kb hn e1 e2 x hx x1 (k1.gw G)
 have T2:Hid (∀ W,Gw w W->Calls prog 169 #[.pointer (some ⟨p,6,none⟩),.agg #[.int .u64 x,.int .i64 ((n:Int)+e)]] W fun ex w'=>(∃ xa ya:Int,ex=.returned (.agg #[.int .u64 xa,.int .i64 ya])/\PT e f n x xa ya)/\Gw W w'):=fun W G=>touched_top kb hn e1 e2 x hx x1 (k0.gw G)
 have B1:Hid (∀ xa ya,PL e f n x xa ya->∀ W,Calls prog 168 #[.agg #[.int .u64 xa,.int .i64 ya],.agg #[.int .u64 x,.int .i64 ((n:Int)-e)]] W fun ex w'=>ex=.returned (.agg #[.int .i64 ((n:Int)-e-ya),.int .u64 (x-xa)])/\Gw W w'):=by
  intro xa ya h W;obtain ⟨q1,q2,q3,q4⟩:=h.bd kb hx e1 e2;exact between_any xa ya x _ q1 q2 x1 (by omega) (by omega) (by omega) (by omega) W
 have B2:Hid (∀ xa ya,PT e f n x xa ya->∀ W,Calls prog 168 #[.agg #[.int .u64 xa,.int .i64 ya],.agg #[.int .u64 x,.int .i64 ((n:Int)+e)]] W fun ex w'=>ex=.returned (.agg #[.int .i64 ((n:Int)+e-ya),.int .u64 (x-xa)])/\Gw W w'):=by
  intro xa ya h W;obtain ⟨q1,q2,q3,q4⟩:=h.bd kb hx e1 e2;exact between_any xa ya x _ q1 q2 x1 (by omega) (by omega) (by omega) (by omega) W
 have HB:Hid (Blk w p (fcells e n lr lf mr mf (.slice (some ⟨g0,0,none⟩) m0 cap0) (.slice (some ⟨g1,0,none⟩) m1 cap1)) 214):=hb;have LP:=hb.lt;have UP:Hid (Up (upd f n x) (n+1)):=up_upd kb.up (fun _=>hx)
 clear hb k0 k1;go_enter func157,ntmps157;go_wp2_with fail;have W0:Two w (((w.alloc (.cells #[.int .u64 x,.int .i64 ((n:Int)-e)] 231)).alloc (.cells #[.int .u64 x,.int .i64 ((n:Int)+e)] 231))) (.int .u64 x) (.int .i64 ((n:Int)-e)) (.int .u64 x) (.int .i64 ((n:Int)+e)):=two_new' w _ _ _ _ _ _;have W0':Hid (Two w (((w.alloc (.cells #[.int .u64 x,.int .i64 ((n:Int)-e)] 231)).alloc (.cells #[.int .u64 x,.int .i64 ((n:Int)+e)] 231))) (.int .u64 x) (.int .i64 ((n:Int)-e)) (.int .u64 x) (.int .i64 ((n:Int)+e))):=W0;clear W0;generalize ((w.alloc (.cells #[.int .u64 x,.int .i64 ((n:Int)-e)] 231)).alloc (.cells #[.int .u64 x,.int .i64 ((n:Int)+e)] 231))=W at W0' ⊢;have a0:=W0'.out.a0;have a1:=W0'.out.a1;have BF:Hid (∀ w',Gw W w'->w'.cell? ⟨w.heap.size,0,none⟩=some (.int .u64 x)/\w'.cell? ⟨w.heap.size,1,none⟩=some (.int .i64 ((n:Int)-e))):=fun w' G=>⟨(G.cell _ _ (by rw [W0'.out.size];omega)).trans W0'.out.a0,(G.cell _ _ (by rw [W0'.out.size];omega)).trans W0'.out.a1⟩
 have a2:w.heap.size+1<W.heap.size:=by rw [W0'.out.size];omega
 have a3:w.heap.size<W.heap.size:=by omega
 go_cut [7] (fun s7 wc=>∃ (b:Nat) (xq yq:Int),s7=.pointer (some ⟨b,0,none⟩)/\Aside (Bx wc b 208 (.int .i64 ((n:Int)-e-yq)) (.int .u64 (x-xq)))/\Aside (PL e f n x xq yq)/\Aside (W.heap.size<=b)/\Aside (Gw W wc))
 case first =>
  go_region_with (first
   | (go_at_call 169;refine (T1.out _ (W0'.out.gw.trans (by repeat (first | exact Gw.refl _ | refine Gw.drew ?_ | refine Gw.alloc ?_ _ _)))).mono ?_;rintro ex w4 ⟨⟨xq,yq,rfl,hP⟩,g4⟩;have G4:Hid (Gw W w4):=(Gw.trans (by repeat (first | exact Gw.refl _ | refine Gw.drew ?_ | refine Gw.alloc ?_ _ _)) g4);obtain ⟨y0,y1⟩:=BF.out w4 G4.out;have y2:w.heap.size<w4.heap.size:=Nat.lt_of_lt_of_le a3 G4.out.size;have HP:Hid (PL e f n x xq yq):=hP;(first | (have n4:Bx w4 W.heap.size 208 (.int .i64 0) (.int .u64 0):=((Bx.new W 208 (.int .i64 0) (.int .u64 0)).gw ((Gw.refl _).drew.trans g4));have N4:Hid (Bx w4 W.heap.size 208 (.int .i64 0) (.int .u64 0)):=n4;have z0:=n4.c0;have z1:=n4.c1;have z2:=n4.fz 0;have z3:=n4.fz 1;clear n4) | skip);clear g4 hP)
   | (go_at_call 168;refine (B1.out _ _ HP.out _).mono ?_;rintro ex w5 ⟨rfl,g5⟩;have G5:Hid (Gw W w5):=(Gw.trans G4.out (Gw.trans (by repeat (first | exact Gw.refl _ | refine Gw.drew ?_ | refine Gw.alloc ?_ _ _)) g5));(first | (have N5:Hid (Bx w5 W.heap.size 208 (.int .i64 0) (.int .u64 0)):=(N4.out.gw g5);have z0':=N5.out.c0;have z1':=N5.out.c1;have z2':=N5.out.fz 0;have z3':=N5.out.fz 1) | (have N5:Hid (Bx w5 w4.heap.size 208 (.int .i64 0) (.int .u64 0)):=((Bx.new w4 208 (.int .i64 0) (.int .u64 0)).gw g5);have z0':=N5.out.c0;have z1':=N5.out.c1;have z2':=N5.out.fz 0;have z3':=N5.out.fz 1) | skip);clear g5))
  all_goals
   go_wp2_with fail;go_meet
  all_goals
   case rel =>
    first
     | exact ⟨w5.heap.size,xq,yq,rfl,(show Aside _ from Bx.new _ _ _ _),(show Aside _ from HP.out),(show Aside _ from G5.out.size),(show Aside _ from G5.out.alloc _ _)⟩
     | exact ⟨w4.heap.size,xq,yq,rfl,(show Aside _ from N5.out.set _ _),(show Aside _ from HP.out),(show Aside _ from G4.out.size),(show Aside _ from (G5.out.setCell G4.out.size _).setCell G4.out.size _)⟩
     | exact ⟨W.heap.size,xq,yq,rfl,(show Aside _ from N5.out.set _ _),(show Aside _ from HP.out),(show Aside _ from Nat.le_refl _),(show Aside _ from (G5.out.setCell (Nat.le_refl _) _).setCell (Nat.le_refl _) _)⟩
 case rest =>
  obtain ⟨W1,hwx⟩:∃ wx,wx=wc:=⟨_,rfl⟩;subst hwx;obtain ⟨b7,xa,ya,rfl,BX7,HPL,LB7,GA⟩:=hcut;have GW1:Hid (Gw w W1):=W0'.out.gw.trans GA.out;have BF2:Hid (∀ w',Gw W1 w'->w'.cell? ⟨w.heap.size+1,0,none⟩=some (.int .u64 x)/\w'.cell? ⟨w.heap.size+1,1,none⟩=some (.int .i64 ((n:Int)+e))):=fun w' G=>⟨((GA.out.trans G).cell _ _ (by rw [W0'.out.size];omega)).trans W0'.out.b0,((GA.out.trans G).cell _ _ (by rw [W0'.out.size];omega)).trans W0'.out.b1⟩
  have a5:w.heap.size+1<W1.heap.size:=Nat.lt_of_lt_of_le a2 GA.out.size;have a6:=(BF2.out W1 (Gw.refl W1)).1;have a7:=(BF2.out W1 (Gw.refl W1)).2;clear a0 a1 BF;go_wp2_with fail;go_cut [8] (fun s7 wc=>∃ (b:Nat) (xq yq:Int),s7=.pointer (some ⟨b,0,none⟩)/\Aside (Bx wc b 208 (.int .i64 ((n:Int)+e-yq)) (.int .u64 (x-xq)))/\Aside (PT e f n x xq yq)/\Aside (W1.heap.size<=b)/\Aside (Gw W1 wc))
  case first =>
   go_region_with (first
    | (go_at_call 169;refine (T2.out _ (GW1.out.trans (by repeat (first | exact Gw.refl _ | refine Gw.drew ?_ | refine Gw.alloc ?_ _ _)))).mono ?_;rintro ex w4 ⟨⟨xq,yq,rfl,hP⟩,g4⟩;have G4:Hid (Gw W1 w4):=(Gw.trans (by repeat (first | exact Gw.refl _ | refine Gw.drew ?_ | refine Gw.alloc ?_ _ _)) g4);obtain ⟨y0,y1⟩:=BF2.out w4 G4.out;have y2:w.heap.size+1<w4.heap.size:=Nat.lt_of_lt_of_le a5 G4.out.size;have HP:Hid (PT e f n x xq yq):=hP;(first | (have n4:Bx w4 W1.heap.size 208 (.int .i64 0) (.int .u64 0):=((Bx.new W1 208 (.int .i64 0) (.int .u64 0)).gw ((Gw.refl _).drew.trans g4));have N4:Hid (Bx w4 W1.heap.size 208 (.int .i64 0) (.int .u64 0)):=n4;have z0:=n4.c0;have z1:=n4.c1;have z2:=n4.fz 0;have z3:=n4.fz 1;clear n4) | skip);clear g4 hP)
    | (go_at_call 168;refine (B2.out _ _ HP.out _).mono ?_;rintro ex w5 ⟨rfl,g5⟩;have G5:Hid (Gw W1 w5):=(Gw.trans G4.out (Gw.trans (by repeat (first | exact Gw.refl _ | refine Gw.drew ?_ | refine Gw.alloc ?_ _ _)) g5));(first | (have N5:Hid (Bx w5 W1.heap.size 208 (.int .i64 0) (.int .u64 0)):=(N4.out.gw g5);have z0':=N5.out.c0;have z1':=N5.out.c1;have z2':=N5.out.fz 0;have z3':=N5.out.fz 1) | (have N5:Hid (Bx w5 w4.heap.size 208 (.int .i64 0) (.int .u64 0)):=((Bx.new w4 208 (.int .i64 0) (.int .u64 0)).gw g5);have z0':=N5.out.c0;have z1':=N5.out.c1;have z2':=N5.out.fz 0;have z3':=N5.out.fz 1) | skip);clear g5))
   all_goals
    go_wp2_with fail;go_meet
   all_goals
    case rel =>
     first
      | exact ⟨w5.heap.size,xq,yq,rfl,(show Aside _ from Bx.new _ _ _ _),(show Aside _ from HP.out),(show Aside _ from G5.out.size),(show Aside _ from G5.out.alloc _ _)⟩
      | exact ⟨w4.heap.size,xq,yq,rfl,(show Aside _ from N5.out.set _ _),(show Aside _ from HP.out),(show Aside _ from G4.out.size),(show Aside _ from (G5.out.setCell G4.out.size _).setCell G4.out.size _)⟩
      | exact ⟨W1.heap.size,xq,yq,rfl,(show Aside _ from N5.out.set _ _),(show Aside _ from HP.out),(show Aside _ from Nat.le_refl _),(show Aside _ from (G5.out.setCell (Nat.le_refl _) _).setCell (Nat.le_refl _) _)⟩
  case rest =>
   obtain ⟨W2,hwx⟩:∃ wx,wx=wc:=⟨_,rfl⟩;subst hwx;obtain ⟨b8,xb,yb,rfl,BX8,HPT,LB8,GB⟩:=hcut;have GW2:Hid (Gw w W2):=GW1.out.trans GB.out;have X7:Hid (Bx W2 b7 208 (.int .i64 ((n:Int)-e-ya)) (.int .u64 (x-xa))):=BX7.out.gw GB.out;have X8:Hid (Bx W2 b8 208 (.int .i64 ((n:Int)+e-yb)) (.int .u64 (x-xb))):=BX8.out;have L78:b7<b8:=Nat.lt_of_lt_of_le BX7.out.lt LB8.out;have LW7:w.heap.size<=b7:=Nat.le_trans W0'.out.gw.size LB7.out;have LMX:Hid ((((n:Int)-e-ya)*lf<lr*(x-xa)->LowU e (upd f n x) (Prs (n+1)) lr lf)/\(lr*(x-xa)<=((n:Int)-e-ya)*lf->LowU e (upd f n x) (Prs (n+1)) ((n:Int)-e-ya) (x-xa))/\(-10000000<=(n:Int)-e-ya/\(n:Int)-e-ya<=10000000/\0<=x-xa/\x-xa<18446744073709551616)):=by
    obtain ⟨t,ht,q1,q2,q3⟩:=HPL.out;have b1:=kb.bd t ht;have b2:=kb.up.le (show t<=n-1 by omega) (by omega)
    obtain ⟨m1,m2⟩:=low_more UP.out low ht (show (n:Int)-e-ya=(n:Int)-t-2*e by omega) (show x-xa=x-f t by rw [q1]) (fun j hj=>by rw [q1,show (n:Int)-e-ya=(n:Int)-t-2*e by omega];exact q3 j hj)
    exact ⟨m1,fun q=>m2 (by omega),by omega,by omega,by omega,by omega⟩
   have TMX:Hid ((mr*(x-xb)<((n:Int)+e-yb)*mf->TopU e (upd f n x) (Prs (n+1)) mr mf)/\(((n:Int)+e-yb)*mf<=mr*(x-xb)->TopU e (upd f n x) (Prs (n+1)) ((n:Int)+e-yb) (x-xb))/\(0<=(n:Int)+e-yb/\(n:Int)+e-yb<=10000000/\0<=x-xb/\x-xb<18446744073709551616)):=by
    obtain ⟨t,ht,q1,q2,q3⟩:=HPT.out;have b1:=kb.bd t ht;have b2:=kb.up.le (show t<=n-1 by omega) (by omega)
    obtain ⟨m1,m2⟩:=top_more (by omega) UP.out top ht (show (n:Int)+e-yb=(n:Int)-t+2*e by omega) (show x-xb=x-f t by rw [q1]) (fun j hj=>by rw [q1,show (n:Int)+e-yb=(n:Int)-t+2*e by omega];exact q3 j hj)
    exact ⟨m1,fun q=>m2 (by omega),by omega,by omega,by omega,by omega⟩
   clear BX7 BX8 HPL HPT LB7 LB8 GA GB GW1 BF2 a5 a6 a7 W0' a2 a3 T1 T2 B1 B2;generalize (n:Int)-e-ya=r7 at X7 LMX;generalize x-xa=s7 at X7 LMX;generalize (n:Int)+e-yb=r8 at X8 TMX;generalize x-xb=s8 at X8 TMX;have C1:Hid (∀ W,Calls prog 170 #[.agg #[.int .i64 r7,.int .u64 s7],.agg #[.int .i64 lr,.int .u64 lf]] W fun ex w'=>ex=.returned (.int .i64 (cmpi (r7*lf) (lr*s7)))/\Gw W w'):=fun W=>(by
    have q:=LMX.out.2.2;exact compare_any r7 s7 lr lf (by omega) (by omega) (by omega) (by omega) (by have:=sb.l0;omega) (by have:=sb.l1;omega) sb.l2 sb.l3 W)
   have C2:Hid (∀ W,Calls prog 170 #[.agg #[.int .i64 r8,.int .u64 s8],.agg #[.int .i64 mr,.int .u64 mf]] W fun ex w'=>ex=.returned (.int .i64 (cmpi (r8*mf) (mr*s8)))/\Gw W w'):=fun W=>(by
    have q:=TMX.out.2.2;exact compare_any r8 s8 mr mf (by omega) (by omega) (by omega) (by omega) (by have:=sb.m0;omega) (by have:=sb.m1;omega) sb.m2 sb.m3 W)
   have D1:Hid (cmpi (r7*lf) (lr*s7)<0↔r7*lf<lr*s7):=cmpi_neg _ _;have D2:Hid (0<cmpi (r8*mf) (mr*s8)↔mr*s8<r8*mf):=cmpi_pos _ _;generalize cmpi (r7*lf) (lr*s7)=d1 at C1 D1;generalize cmpi (r8*mf) (mr*s8)=d2 at C2 D2;have F2:=HB.out.gw GW2.out;have F2':Hid (Blk W2 p (fcells e n lr lf mr mf (.slice (some ⟨g0,0,none⟩) m0 cap0) (.slice (some ⟨g1,0,none⟩) m1 cap1)) 214):=F2;have lp2:=F2.lt;have k0:=GX.cell X7.out.c0 X7.out.lt;have k1:=GX.cell X7.out.c1 X7.out.lt;have k2:=GX.cell (F2.cell (o:=2) (v:=.int .i64 lr) rfl) lp2;have k3:=GX.cell (F2.cell (o:=3) (v:=.int .u64 lf) rfl) lp2;have NN:=GX.some W2;clear F2;go_wp2_with fail;refine wp_region_growx (by kernel_rfl) (by kernel_rfl) ?_
   repeat (go_big_quiet_step (fail))
   go_big_quiet_want;go_big_quiet_op
   go_big_quiet_call (exact growx_of (C1.out _))
   repeat (go_big_quiet_step (fail))
   refine wpQuiet_nil ?_;rintro _ ⟨gx,rfl⟩;clear k0 k1 k2 k3;obtain ⟨W3,hW3⟩:∃ W3,W3=gx.1:=⟨_,rfl⟩;have G3:Hid (Gw W2 W3):=by rw [hW3];exact gx.2
   rw [<-hW3];clear hW3 gx;go_upto_if 31 with fail;have X73:Hid (Bx W3 b7 208 (.int .i64 r7) (.int .u64 s7)):=X7.out.gw G3.out;have X83:Hid (Bx W3 b8 208 (.int .i64 r8) (.int .u64 s8)):=X8.out.gw G3.out;have GW3:Hid (Gw w W3):=GW2.out.trans G3.out;have F3:Hid (Blk W3 p (fcells e n lr lf mr mf (.slice (some ⟨g0,0,none⟩) m0 cap0) (.slice (some ⟨g1,0,none⟩) m1 cap1)) 214):=F2'.out.gw G3.out;clear X7 X8 GW2 F2' G3 NN lp2;go_cut [] (fun wc=>∃ (ra sa:Int),Aside (Bx wc b7 208 (.int .i64 ra) (.int .u64 sa))/\Aside (LowU e (upd f n x) (Prs (n+1)) ra sa/\0<=ra/\ra<=10000000/\0<=sa/\sa<18446744073709551616)/\Aside (Bx wc b8 208 (.int .i64 r8) (.int .u64 s8))/\Aside (Gw w wc))
   case first =>
    by_cases hd:d1<0
    ·have q0:=X73.out.c0
     have q1:=X73.out.c1;have q2:=X73.out.fz 0;have q3:=X73.out.fz 1;have q4:=F3.out.cell (o:=2) (v:=.int .i64 lr) rfl;have q5:=F3.out.cell (o:=3) (v:=.int .u64 lf) rfl;have LU:Hid (LowU e (upd f n x) (Prs (n+1)) lr lf):=LMX.out.1 (D1.out.1 hd);have RR:Hid (Bx ((W3.setCell ⟨b7,0,none⟩ (.int .i64 lr)).setCell ⟨b7,1,none⟩ (.int .u64 lf)) b7 208 (.int .i64 lr) (.int .u64 lf)/\Bx ((W3.setCell ⟨b7,0,none⟩ (.int .i64 lr)).setCell ⟨b7,1,none⟩ (.int .u64 lf)) b8 208 (.int .i64 r8) (.int .u64 s8)/\Gw w ((W3.setCell ⟨b7,0,none⟩ (.int .i64 lr)).setCell ⟨b7,1,none⟩ (.int .u64 lf))):=⟨X73.out.set _ _,(X83.out.far _ (by omega)).far _ (by omega),(GW3.out.setCell LW7 _).setCell LW7 _⟩
     clear C1 C2 LMX TMX D1 D2 low top kb;go_wp2_with fail;go_meet
     case rel=>exact ⟨lr,lf,(show Aside _ from RR.out.1),(show Aside _ from ⟨LU.out,sb.l0,sb.l1,sb.l2,sb.l3⟩),(show Aside _ from RR.out.2.1),(show Aside _ from RR.out.2.2)⟩
    ·have LU:Hid (LowU e (upd f n x) (Prs (n+1)) r7 s7):=LMX.out.2.1 (by have h2:¬ r7*lf<lr*s7:=fun q=>hd (D1.out.2 q);omega)
     have BB:Hid (0<=r7/\r7<=10000000/\0<=s7/\s7<18446744073709551616):=⟨LU.out.a0,LMX.out.2.2.2.1,LMX.out.2.2.2.2⟩;clear C1 C2 LMX TMX D1 D2 low top kb;go_wp2_with fail;go_meet
     case rel=>exact ⟨r7,s7,(show Aside _ from X73.out),(show Aside _ from ⟨LU.out,BB.out⟩),(show Aside _ from X83.out),(show Aside _ from GW3.out)⟩
   case rest =>
    obtain ⟨W4,hwx⟩:∃ wx,wx=wc:=⟨_,rfl⟩;subst hwx;obtain ⟨ra,sa,X74,LL,X84,GW4⟩:=hcut;have F4:Hid (Blk W4 p (fcells e n lr lf mr mf (.slice (some ⟨g0,0,none⟩) m0 cap0) (.slice (some ⟨g1,0,none⟩) m1 cap1)) 214):=HB.out.gw GW4.out;have lp4:=F4.out.lt;have k0:=GX.cell X84.out.c0 X84.out.lt;have k1:=GX.cell X84.out.c1 X84.out.lt;have k2:=GX.cell (F4.out.cell (o:=4) (v:=.int .i64 mr) rfl) lp4;have k3:=GX.cell (F4.out.cell (o:=5) (v:=.int .u64 mf) rfl) lp4;have NN:=GX.some W4;clear X73 X83 GW3 F3;go_wp2_with fail;refine wp_region_growx (by kernel_rfl) (by kernel_rfl) ?_
    repeat (go_big_quiet_step (fail))
    go_big_quiet_want;go_big_quiet_op
    go_big_quiet_call (exact growx_of (C2.out _))
    repeat (go_big_quiet_step (fail))
    refine wpQuiet_nil ?_;rintro _ ⟨gx,rfl⟩;clear k0 k1 k2 k3;obtain ⟨W5,hW5⟩:∃ W5,W5=gx.1:=⟨_,rfl⟩;have G5:Hid (Gw W4 W5):=by rw [hW5];exact gx.2
    rw [<-hW5];clear hW5 gx;go_upto_if 42 with fail;have X75:Hid (Bx W5 b7 208 (.int .i64 ra) (.int .u64 sa)):=X74.out.gw G5.out;have X85:Hid (Bx W5 b8 208 (.int .i64 r8) (.int .u64 s8)):=X84.out.gw G5.out;have GW5:Hid (Gw w W5):=GW4.out.trans G5.out;have F5:Hid (Blk W5 p (fcells e n lr lf mr mf (.slice (some ⟨g0,0,none⟩) m0 cap0) (.slice (some ⟨g1,0,none⟩) m1 cap1)) 214):=F4.out.gw G5.out;have LW8:w.heap.size<=b8:=by omega
    clear X74 X84 GW4 F4 G5 NN lp4;go_cut [] (fun wc=>∃ (rb sc:Int),Aside (Bx wc b8 208 (.int .i64 rb) (.int .u64 sc))/\Aside (TopU e (upd f n x) (Prs (n+1)) rb sc/\0<=rb/\rb<=10000000/\0<=sc/\sc<18446744073709551616)/\Aside (Bx wc b7 208 (.int .i64 ra) (.int .u64 sa))/\Aside (Gw w wc))
    case first =>
     by_cases hd:0<d2
     ·have q0:=X85.out.c0
      have q1:=X85.out.c1;have q2:=X85.out.fz 0;have q3:=X85.out.fz 1;have q4:=F5.out.cell (o:=4) (v:=.int .i64 mr) rfl;have q5:=F5.out.cell (o:=5) (v:=.int .u64 mf) rfl;have LU:Hid (TopU e (upd f n x) (Prs (n+1)) mr mf):=TMX.out.1 (D2.out.1 hd);have RR:Hid (Bx ((W5.setCell ⟨b8,0,none⟩ (.int .i64 mr)).setCell ⟨b8,1,none⟩ (.int .u64 mf)) b8 208 (.int .i64 mr) (.int .u64 mf)/\Bx ((W5.setCell ⟨b8,0,none⟩ (.int .i64 mr)).setCell ⟨b8,1,none⟩ (.int .u64 mf)) b7 208 (.int .i64 ra) (.int .u64 sa)/\Gw w ((W5.setCell ⟨b8,0,none⟩ (.int .i64 mr)).setCell ⟨b8,1,none⟩ (.int .u64 mf))):=⟨X85.out.set _ _,(X75.out.far _ (by omega)).far _ (by omega),(GW5.out.setCell LW8 _).setCell LW8 _⟩
      clear C1 C2 LMX TMX D1 D2 low top kb;go_wp2_with fail;go_meet
      case rel=>exact ⟨mr,mf,(show Aside _ from RR.out.1),(show Aside _ from ⟨LU.out,sb.m0,sb.m1,sb.m2,sb.m3⟩),(show Aside _ from RR.out.2.1),(show Aside _ from RR.out.2.2)⟩
     ·have LU:Hid (TopU e (upd f n x) (Prs (n+1)) r8 s8):=TMX.out.2.1 (by have h2:¬ mr*s8<r8*mf:=fun q=>hd (D2.out.2 q);omega)
      have BB:Hid (0<=r8/\r8<=10000000/\0<=s8/\s8<18446744073709551616):=TMX.out.2.2;clear C1 C2 LMX TMX D1 D2 low top kb;go_wp2_with fail;go_meet
      case rel=>exact ⟨r8,s8,(show Aside _ from X85.out),(show Aside _ from ⟨LU.out,BB.out⟩),(show Aside _ from X75.out),(show Aside _ from GW5.out)⟩
    case rest =>
     obtain ⟨W6,hwx⟩:∃ wx,wx=wc:=⟨_,rfl⟩;subst hwx;obtain ⟨rb,sc,X86,TT,X76,GW6⟩:=hcut;have sc0:sc≠0:=by
      rcases TT.out.1 with ⟨_,_,no⟩ | ⟨_,q,_⟩
      ·exact absurd ⟨hn,by omega⟩ (no 0 n)
      ·omega
     have FI:Hid (ra*sc<=rb*sa↔FitsOn e (upd f n x) (Prs (n+1))):=fitsU (by omega) (prs_pairs UP.out) LL.out.1 TT.out.1 sc0
     have C3:Hid (∀ W,Calls prog 170 #[.agg #[.int .i64 ra,.int .u64 sa],.agg #[.int .i64 rb,.int .u64 sc]] W fun ex w'=>ex=.returned (.int .i64 (cmpi (ra*sc) (rb*sa)))/\Gw W w'):=fun W=>(by
      have q:=LL.out.2;have q':=TT.out.2;exact compare_any ra sa rb sc (by omega) (by omega) (by omega) (by omega) (by omega) (by omega) (by omega) (by omega) W)
     have D3:Hid (0<cmpi (ra*sc) (rb*sa)↔rb*sa<ra*sc):=cmpi_pos _ _;generalize cmpi (ra*sc) (rb*sa)=d3 at C3 D3;have F6:Hid (Blk W6 p (fcells e n lr lf mr mf (.slice (some ⟨g0,0,none⟩) m0 cap0) (.slice (some ⟨g1,0,none⟩) m1 cap1)) 214):=HB.out.gw GW6.out;have q0:=X86.out.c0;have q1:=X86.out.c1;have q2:=X76.out.c0;have q3:=X76.out.c1;clear X75 X85 GW5 F5 C1 C2 LMX TMX D1 D2 low top kb sc0;go_wp2_with fail;refine (C3.out _).mono ?_;rintro ex W7 ⟨rfl,g7⟩;have X87:Hid (Bx W7 b8 208 (.int .i64 rb) (.int .u64 sc)):=X86.out.gw g7;have X77:Hid (Bx W7 b7 208 (.int .i64 ra) (.int .u64 sa)):=X76.out.gw g7;have GW7:Hid (Gw w W7):=GW6.out.trans g7;have F7:Hid (Blk W7 p (fcells e n lr lf mr mf (.slice (some ⟨g0,0,none⟩) m0 cap0) (.slice (some ⟨g1,0,none⟩) m1 cap1)) 214):=F6.out.gw g7;clear q0 q1 q2 q3 g7 C3;by_cases hd:0<d3
     ·have NF:Hid (¬ FitsOn e (upd f n x) (Prs (n+1))):=fun q=>(by have h1:=FI.out.2 q;have h2:=D3.out.1 hd;omega)
      clear FI D3;go_wp2_with fail;go_ret;exact ⟨false,by simp,⟨fun q=>Bool.noConfusion q,fun q=>absurd q NF.out⟩,fun _=>GW7.out,fun q=>Bool.noConfusion q⟩
     ·have YF:Hid (FitsOn e (upd f n x) (Prs (n+1))):=FI.out.1 (by have h2:¬ rb*sa<ra*sc:=fun q=>hd (D3.out.2 q);omega)
      have q0:=X87.out.c0;have q1:=X87.out.c1;have q2:=X77.out.c0;have q3:=X77.out.c1;have q4:=F7.out.cell (o:=2) (v:=.int .i64 lr) rfl;have q5:=F7.out.cell (o:=3) (v:=.int .u64 lf) rfl;have q6:=F7.out.cell (o:=4) (v:=.int .i64 mr) rfl;have q7:=F7.out.cell (o:=5) (v:=.int .u64 mf) rfl;have q8:=F7.out.fz 2;have q9:=F7.out.fz 3;have q10:=F7.out.fz 4;have q11:=F7.out.fz 5;have n7:p≠b7:=by omega
      have n8:p≠b8:=by omega
      clear FI D3;go_wp2_with fail;go_region
      all_goals
       clear q0 q1 q2 q3 q4 q5 q6 q7 q8 q9 q10 q11;have FB:Hid (Blk ((((W7.setCell ⟨p,2,none⟩ (.int .i64 ra)).setCell ⟨p,3,none⟩ (.int .u64 sa)).setCell ⟨p,4,none⟩ (.int .i64 rb)).setCell ⟨p,5,none⟩ (.int .u64 sc)) p (fcells e n ra sa rb sc (.slice (some ⟨g0,0,none⟩) m0 cap0) (.slice (some ⟨g1,0,none⟩) m1 cap1)) 214):=(((F7.out.set 2 _).set 3 _).set 4 _).set 5 _;have GB:Hid (Gs (fun q=>q=p) w ((((W7.setCell ⟨p,2,none⟩ (.int .i64 ra)).setCell ⟨p,3,none⟩ (.int .u64 sa)).setCell ⟨p,4,none⟩ (.int .i64 rb)).setCell ⟨p,5,none⟩ (.int .u64 sc))):=((((GW7.out.gs (fun q=>q=p)).set rfl _ _).set rfl _ _).set rfl _ _).set rfl _ _
       go_wp2_with fail;go_ret
       exact ⟨true,by simp,⟨fun _=>YF.out,fun _=>rfl⟩,fun q=>Bool.noConfusion q,fun _=>⟨⟨ra,sa,rb,sc,FB.out,LL.out.1,TT.out.1,⟨LL.out.2.1,LL.out.2.2.1,LL.out.2.2.2.1,LL.out.2.2.2.2,TT.out.2.1,TT.out.2.2.1,TT.out.2.2.2.1,TT.out.2.2.2.2⟩⟩,GB.out.drew⟩⟩
end Go.Proofs.YtemijdhemdhclaaGreat
