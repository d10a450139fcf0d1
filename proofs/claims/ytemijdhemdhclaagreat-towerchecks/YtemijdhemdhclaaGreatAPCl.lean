/- lay: a point more, and those that it can't touch any more gone. -/
import Derived.Deep.AppendLies
import Derived.Deep.RegionLaw
import Derived.Test.YtemijdhemdhclaaGreatAR4Add
import Derived.Test.YtemijdhemdhclaaGreatAPCt
set_option linter.unusedVariables false
set_option maxHeartbeats 8000000
open Go.Proofs.Tryz
namespace Go.Proofs.YtemijdhemdhclaaGreat
open Go.RowKit
def Blk (w:World) (p:Nat) (B:Array Value) (t:TypeId):Prop:=w.heap[p]?=some (.cells B t (0,0))
theorem Blk.lt {w:World} {p:Nat} {B:Array Value} {t:TypeId} (h:Blk w p B t):p<w.heap.size:=(Array.getElem?_eq_some_iff.1 h).1
theorem Blk.cell {w:World} {p:Nat} {B:Array Value} {t:TypeId} (h:Blk w p B t) {o:Nat} {v:Value} (hv:B[o]?=some v):w.cell? ⟨p,o,none⟩=some v:=by unfold Blk at h;simp [World.cell?,h,hv]
theorem Blk.fz {w:World} {p:Nat} {B:Array Value} {t:TypeId} (h:Blk w p B t) (o:Nat):w.frozen? ⟨p,o,none⟩=false:=by unfold Blk at h;simp [World.frozen?,h]
theorem Blk.gw {w w':World} {p:Nat} {B:Array Value} {t:TypeId} (h:Blk w p B t) (g:Gw w w'):Blk w' p B t:=(g.below.block p h.lt).trans h
theorem Blk.set {w:World} {p:Nat} {B:Array Value} {t:TypeId} (h:Blk w p B t) (o:Nat) (v:Value):Blk (w.setCell ⟨p,o,none⟩ v) p (B.setIfInBounds o v) t:=by
 unfold Blk at h ⊢;simp [World.setCell,Array.getElem?_modify,h]
def pcells (f:Nat->Int) (c:Nat->Nat) (h:Int):Nat->List Value
 | 0=>[]
 | m+1=>pcells f c h m++[.int .u64 (f (c m)),.int .i64 ((c m:Int)+h)]
theorem pcells_len (f:Nat->Int) (c:Nat->Nat) (h:Int) (m:Nat):(pcells f c h m).length=m*2:=by
 induction m with
 | zero=>rfl
 | succ m ih=>simp [pcells,ih];omega
theorem pcells_take (f:Nat->Int) (c:Nat->Nat) (h:Int) {k m:Nat} (hk:k<=m):(pcells f c h m).take (k*2)=pcells f c h k:=by
 induction m with
 | zero =>
      have:k=0:=by omega
      subst this;rfl
 | succ m ih =>
  by_cases e:k=m+1
  ·subst e
   rw [<-pcells_len f c h (m+1)];exact List.take_length
  ·have:=ih (by omega)
   rw [pcells,List.take_append_of_le_length (by rw [pcells_len];omega)]
   exact this
theorem pcells_get (f:Nat->Int) (c:Nat->Nat) (h:Int) {i m:Nat} (hi:i<m):(pcells f c h m)[i*2]?=some (.int .u64 (f (c i)))/\(pcells f c h m)[i*2+1]?=some (.int .i64 ((c i:Int)+h)):=by
 induction m with
 | zero=>omega
 | succ m ih =>
  by_cases e:i=m
  ·subst e
   have l:=pcells_len f c h i;constructor
   ·rw [pcells,List.getElem?_append_right (by omega),l];simp
   ·rw [pcells,List.getElem?_append_right (by omega),l];simp
  ·obtain ⟨h1,h2⟩:=ih (by omega)
   have l:=pcells_len f c h m;constructor
   ·rw [pcells,List.getElem?_append_left (by omega)];exact h1
   ·rw [pcells,List.getElem?_append_left (by omega)];exact h2
theorem pcells_congr {f f':Nat->Int} {c c':Nat->Nat} (h:Int) {m:Nat} (e:∀ i,i<m->f (c i)=f' (c' i)/\c i=c' i):pcells f c h m=pcells f' c' h m:=by
 induction m with
 | zero=>rfl
 | succ m ih =>
  obtain ⟨e1,e2⟩:=e m (by omega)
  rw [pcells,pcells,ih (fun i hi=>e i (by omega)),e1,e2]
theorem ps_own {w:World} {base g m cap:Nat} {f:Nat->Int} {c:Nat->Nat} {h:Int} (own:w.ownsRow base 231 2 (.slice (some ⟨g,0,none⟩) m cap) m (pcells f c h m)):PS w g m (fun i=>f (c i)) (fun i=>(c i:Int)+h):=by
 have C:=own.cells (g:=g) rfl;refine ⟨(own.lt g rfl).2,fun i hi=>?_,fun i hi=>?_⟩
 ·have:=C (i*2) _ (pcells_get f c h hi).1
  rw [Addr.add_lit] at this;simpa using this
 ·have:=C (i*2+1) _ (pcells_get f c h hi).2
  rw [Addr.add_lit] at this;simpa using this
theorem own_cut {w:World} {base g m cap k:Nat} {f:Nat->Int} {c:Nat->Nat} {h:Int} (own:w.ownsRow base 231 2 (.slice (some ⟨g,0,none⟩) m cap) m (pcells f c h m)) (hk:k<=m):w.ownsRow base 231 2 (.slice (some ⟨g,0,none⟩) k cap) k (pcells f c h k):=by
 refine ⟨pcells_len f c h k,?_⟩;rcases own.2 with ⟨q,_⟩ | ⟨g',cap',cur,ev,hb,hh,hnc,hcm,hsz,htk⟩
 ·cases q
 ·cases ev
  refine .inr ⟨g,cap,cur,rfl,hb,hh,by omega,hcm,hsz,?_⟩
  rw [<-pcells_take f c h hk,<-htk,List.take_take];congr 1;omega
theorem own_cap {w:World} {base g m cap:Nat} {xs:List Value} (own:w.ownsRow base 231 2 (.slice (some ⟨g,0,none⟩) m cap) m xs):m<=cap:=by
 rcases own.2 with ⟨q,_⟩ | ⟨g',cap',cur,ev,hb,hh,hnc,_⟩
 ·cases q
 ·cases ev;exact hnc
theorem own_keep {w w':World} {base e size n:Nat} {v:Value} {xs:List Value} (own:w.ownsRow base e size v n xs) (k:∀ q,v.ownBlock=some q->w'.heap[q]?=w.heap[q]?):w'.ownsRow base e size v n xs:=by
 refine ⟨own.1,?_⟩;rcases own.2 with q | ⟨g,cap,cur,rfl,hb,hh,r⟩
 ·exact .inl q
 ·exact .inr ⟨g,cap,cur,rfl,hb,(k g rfl).trans hh,r⟩
theorem info_pt:(prog.info? 231).map (fun i=>(i.zero,i.size,i.bytes))=some (some (.agg #[.int .u64 0,.int .i64 0]),2,16):=by kernel_rfl
structure Mid (w wc:World) (p o:Nat) (B:Array Value) (T:TypeId) (v:Value) (m:Nat) (xs:List Value) (x y:Int):Prop where
 blk:Blk wc p B T
 bo:B[o+1]?=some v
 own:wc.ownsRow 0 231 2 v m xs
 ne:v.ownBlock≠some p
 bx:Bx wc w.heap.size 231 (.int .u64 x) (.int .i64 y)
 ml:m<=4000000
theorem Mid.own1 {w wc:World} {p o:Nat} {B:Array Value} {T:TypeId} {v:Value} {m:Nat} {xs:List Value} {x y:Int} (M:Mid w wc p o B T v m xs x y):(wc.drew.alloc (.cells #[.int .u64 x,.int .i64 y] 231)).ownsRow 0 231 2 v m xs :=
 own_keep M.own fun q hq=>heap_alloc_old wc.drew _ (M.own.lt q hq).2
theorem Mid.news {w wc:World} {p o:Nat} {B:Array Value} {T:TypeId} {v:Value} {m:Nat} {xs:List Value} {x y:Int} (M:Mid w wc p o B T v m xs x y):∀ j u,[Value.int .u64 x,.int .i64 y][j]?=some u->(wc.drew.alloc (.cells #[.int .u64 x,.int .i64 y] 231)).cell? ((⟨wc.heap.size,0,none⟩:Addr).add j)=some u:=by
 have hb:(wc.drew.alloc (.cells #[.int .u64 x,.int .i64 y] 231)).heap[wc.heap.size]?=some (.cells #[.int .u64 x,.int .i64 y] 231 (0,0)):=heap_alloc_new wc.drew _;exact World.news_of_block hb
theorem Mid.after {w wc w7:World} {p o:Nat} {B:Array Value} {T:TypeId} {v:Value} {m:Nat} {xs:List Value} {x y:Int} (M:Mid w wc p o B T v m xs x y) (g:(wc.drew.alloc (.cells #[.int .u64 x,.int .i64 y] 231)).grownBy w7 v.ownBlock):Blk w7 p B T:=by
 have l:=M.blk.lt;refine (g.block p (by simp;omega) (fun q=>M.ne q.symm)).trans ?_
 exact (heap_alloc_old wc.drew _ l).trans M.blk
theorem Mid.gs {w wc w7:World} {p o:Nat} {B:Array Value} {T:TypeId} {v v0:Value} {m:Nat} {xs:List Value} {x y:Int} (M:Mid w wc p o B T v m xs x y) (G:Gs (fun q=>q=p\/v0.ownBlock=some q) w wc) (hv:v.ownBlock=v0.ownBlock) (g:(wc.drew.alloc (.cells #[.int .u64 x,.int .i64 y] 231)).grownBy w7 v.ownBlock) (u:Value):Gs (fun q=>q=p\/v0.ownBlock=some q) w (w7.setCell ⟨p,o+1,none⟩ u):=by
 refine Gs.set ?_ (.inl rfl) _ _;have G1:Gs (fun q=>q=p\/v0.ownBlock=some q) w (wc.drew.alloc (.cells #[.int .u64 x,.int .i64 y] 231)) :=
  ⟨G.os,G.tape,G.output,by have:=G.size;simp;omega,fun q hq hs=>(heap_alloc_old wc.drew _ (show q<wc.heap.size by have:=G.size;omega)).trans (G.block q hq hs)⟩
 exact G1.grown g (fun k hk=>.inr (by rw [<-hv];exact hk))
theorem pt_one (x y:Int):∀ u∈[Value.int .u64 x,.int .i64 y],u.oneCell'=true:=by
 intro u hu;rcases List.mem_cons.1 hu with rfl | hu
 ·rfl
 ·rcases List.mem_cons.1 hu with rfl | hu
  ·rfl
  ·cases hu
theorem Mid.len1 {w wc:World} {p o:Nat} {B:Array Value} {T:TypeId} {v:Value} {m:Nat} {xs:List Value} {x y:Int} (M:Mid w wc p o B T v m xs x y):m+1<=maxLen:=by have:=M.ml;simp [maxLen];omega
theorem Mid.len2 {w wc:World} {p o:Nat} {B:Array Value} {T:TypeId} {v:Value} {m:Nat} {xs:List Value} {x y:Int} (M:Mid w wc p o B T v m xs x y):(m+1)*16<=140737488355328:=by have:=M.ml;omega
def Laid (w w':World) (p o:Nat) (B:Array Value) (T:TypeId) (v:Value) (f:Nat->Int) (n:Nat) (x s h:Int):Prop :=
 (∃ v' m' c',Blk w' p (B.setIfInBounds (o+1) v') T/\w'.ownsRow 0 231 2 v' m' (pcells (upd f n x) c' h m')/\Chn (upd f n x) (fun j=>s*(j:Int)) (n+1) m' c'/\(∀ q,v'.ownBlock=some q->(v.ownBlock=some q\/w.heap.size<=q)/\q≠p))/\Gs (fun q=>q=p\/v.ownBlock=some q) w w'
theorem laid_mk {w wc w7:World} {p o:Nat} {B B2:Array Value} {T:TypeId} {v v0:Value} {m:Nat} {xs:List Value} {x y s h:Int} {f:Nat->Int} {n:Nat} {c':Nat->Nat} {g cap:Nat} (M:Mid w wc p o B2 T v m xs x y) (G:Gs (fun q=>q=p\/v0.ownBlock=some q) w wc) (hv:v.ownBlock=v0.ownBlock)
  (q1:w7.ownsRow 0 231 2 (.slice (some ⟨g,0,none⟩) (m+1) cap) (m+1) (xs++[.int .u64 x,.int .i64 y])) (q2:(wc.drew.alloc (.cells #[.int .u64 x,.int .i64 y] 231)).grownBy w7 v.ownBlock) (q3:v.ownBlock=some g\/g=(wc.drew.alloc (.cells #[.int .u64 x,.int .i64 y] 231)).heap.size)
  (hc:Chn (upd f n x) (fun j=>s*(j:Int)) (n+1) (m+1) c') (hp:xs++[.int .u64 x,.int .i64 y]=pcells (upd f n x) c' h (m+1)) (hB:∀ u,B2.setIfInBounds (o+1) u=B.setIfInBounds (o+1) u) :
  Laid w (w7.setCell ⟨p,o+1,none⟩ (.slice (some ⟨g,0,none⟩) (m+1) cap)) p o B T v0 f n x s h:=by
 have B7:=M.after q2;have gp:g≠p:=by
  rcases q3 with r | r
  ·intro e;rw [e] at r;exact M.ne r
  ·have:=M.blk.lt;simp at r;omega
 refine ⟨⟨.slice (some ⟨g,0,none⟩) (m+1) cap,m+1,c',?_,?_,hc,?_⟩,M.gs G hv q2 _⟩
 ·rw [<-hB];exact B7.set _ _
 ·rw [<-hp]
  refine own_keep q1 fun q hq=>?_
  cases hq
  exact Go.Deep.blk_setCell_other _ _ _ _ gp
 ·intro q hq
  cases hq
  refine ⟨?_,gp⟩;rcases q3 with r | r
  ·exact .inl (by rw [<-hv];exact r)
  ·right
   have:=G.size
   simp at r;show w.heap.size<=g;omega
theorem mid_cut {w w4:World} {p o g m cap t:Nat} {B:Array Value} {T:TypeId} {f:Nat->Int} {c:Nat->Nat} {x y h:Int} (F1:Blk w4 p B T) (F2:Bx w4 w.heap.size 231 (.int .u64 x) (.int .i64 y)) (F3:w4.ownsRow 0 231 2 (.slice (some ⟨g,0,none⟩) m cap) m (pcells f c h m)) (tm:t<m) (m4:m<=4000000) (gp:g≠p) (bo:∀ u:Value,(B.setIfInBounds (o+1) u)[o+1]?=some u) (lp:p<w.heap.size) :
  Mid w (w4.setCell ⟨p,o+1,none⟩ (.slice (some ⟨g,0,none⟩) (t+1) cap)) p o (B.setIfInBounds (o+1) (.slice (some ⟨g,0,none⟩) (t+1) cap)) T (.slice (some ⟨g,0,none⟩) (t+1) cap) (t+1) (pcells f c h (t+1)) x y :=
 ⟨F1.set _ _,bo _,own_keep (own_cut F3 (by omega)) (fun q hq=>by cases hq;exact Go.Deep.blk_setCell_other _ _ _ _ gp),(fun q=>by cases q;exact gp rfl),F2.far _ (by omega),by omega⟩
theorem lay_first {w:World} {p o:Nat} {B:Array Value} {T:TypeId} {s h:Int} {f:Nat->Int} (h0:-63<=h) (h1:h<=63) (x:Int) (x0:0<=x) (x1:x<18446744073709551616)
  (hb:Blk w p B T) (hB1:B[o+1]?=some (.slice none 0 0)) :
  Calls prog 158 #[.pointer (some ⟨p,o,none⟩),.agg #[.int .u64 x,.int .i64 h]] w fun e w'=>e=.returned (.tuple #[])/\Laid w w' p o B T (.slice none 0 0) f 0 x s h:=by
 have M:Mid w (w.alloc (.cells #[.int .u64 x,.int .i64 h] 231)) p o B T (.slice none 0 0) 0 [] x h :=
  ⟨hb.gw ((Gw.refl w).alloc _ _),hB1,World.ownsRow_nil _ _ _ _,by simp [Value.ownBlock],Bx.new _ _ _ _,by omega⟩
 have G0:Gs (fun q=>q=p\/(Value.slice none 0 0).ownBlock=some q) w (w.alloc (.cells #[.int .u64 x,.int .i64 h] 231)):=((Gw.refl w).alloc _ _).gs _
 have PC:Hid ([]++[.int .u64 x,.int .i64 h]=pcells (upd f 0 x) (fun _=>0) h (0+1)):=by
  show _=[]++[Value.int .u64 (upd f 0 x 0),.int .i64 (((0:Nat):Int)+h)];rw [upd_at];simp
 have c1:=hb.cell hB1;have lp:=hb.lt;obtain ⟨ii,hii,hz,hs,hby⟩:=info_parts info_pt;clear hb;go_enter func158,ntmps158;go_wp2_with fail;generalize w.alloc (.cells #[.int .u64 x,.int .i64 h] 231)=wc at M G0 ⊢;clear c1;have M':Hid _:=M;have G':Hid _:=G0;have d1:=M'.out.blk.cell M'.out.bo;have d2:=M'.out.bx.c0;have d3:=M'.out.bx.c1;have d4:=M'.out.blk.fz (o+1);have d5:=M'.out.blk.lt;have ONE:Hid _:=pt_one x (h);clear M G0;go_region_law (refine step_append_lies _ rfl (.tmp 26) (.tmp 28) 209 rfl 0 231 ii _ 2 16 underlying209 hii hz hs hby rfl (by decide) (.slice none 0 0) (0) ([]) (by simp [Act.eval]) M'.out.own1 ⟨wc.heap.size,0,none⟩ 1 1 [.int .u64 x,.int .i64 (h)] (by simp [Act.eval]) rfl M'.out.news ONE.out (by decide) (M'.out.len1) (M'.out.len2) (by omega) _ rfl ?_;intro g' cap' w7 q1 q2 q3 q4;have B7:Hid (Blk w7 p (B) T):=M'.out.after q2;have e1:=B7.out.cell M'.out.bo;have e2:=B7.out.fz (o+1);have FIN:Hid (Laid w (w7.setCell ⟨p,o+1,none⟩ (.slice (some ⟨g',0,none⟩) (0+1) cap')) p o B T (Value.slice none 0 0) f (0) x s h):=(laid_mk M'.out G'.out rfl q1 q2 q3 (chn_one _ _) PC.out (fun _=>rfl));clear q1 q2 q3)
 all_goals
  clear d1 d2 d3 d4 d5;go_wp2;go_end0;exact ⟨rfl,FIN.out⟩
theorem lay_more {w:World} {p o g m cap:Nat} {B:Array Value} {T:TypeId} {s h:Int} {f:Nat->Int} {n:Nat} {c:Nat->Nat} (kb:KB f n) (hn:0<n) (hs':s=1\/s=-1) (h0:-63<=h) (h1:h<=63) (x:Int) (hx:f (n-1)<x) (x1:x<18446744073709551616)
  (hb:Blk w p B T) (hB0:B[o]?=some (.int .i64 s)) (hB1:B[o+1]?=some (.slice (some ⟨g,0,none⟩) m cap)) (own:w.ownsRow 0 231 2 (.slice (some ⟨g,0,none⟩) m cap) m (pcells f c h m)) (gp:g≠p) (ch:Chn f (fun j=>s*(j:Int)) n m c) :
  Calls prog 158 #[.pointer (some ⟨p,o,none⟩),.agg #[.int .u64 x,.int .i64 ((n:Int)+h)]] w fun e w'=>e=.returned (.tuple #[])/\Laid w w' p o B T (.slice (some ⟨g,0,none⟩) m cap) f n x s h:=by
 have nl:=kb.len;have CC:CH w p o g m cap s h f n c:=⟨hb.lt,hb.cell hB0,hb.cell hB1,ps_own own,ch⟩;have TA:Hid (∀ W,Gw w W->Calls prog 171 #[.pointer (some ⟨p,o,none⟩),.agg #[.int .u64 x,.int .i64 ((n:Int)+h)]] W fun e w'=>(∃ t:Nat,e=.returned (.int .i64 t)/\Tch f (fun j=>s*(j:Int)) m c x (s*(n:Int)) t)/\Gw W w'):=by
  show ∀ W,Gw w W->Calls prog 171 #[.pointer (some ⟨p,o,none⟩),.agg #[.int .u64 x,.int .i64 ((n:Int)+h)]] W fun e w'=>(∃ t:Nat,e=.returned (.int .i64 t)/\Tch f (fun j=>s*(j:Int)) m c x (s*(n:Int)) t)/\Gw W w'
  intro W G;have:=touch_any kb hs' h0 h1 x ((n:Int)+h) hx x1 (by omega) (by omega) W (CC.gw G)
  rw [show (n:Int)+h-h=n by omega] at this
  exact this
 have ML:=own_cap own;have m4:m<=4000000:=by have:=ch.len;omega
 have m0:0<m:=ch.pos;have FX:Hid (∀ W,Gw (w.alloc (.cells #[.int .u64 x,.int .i64 ((n:Int)+h)] 231)) W->Blk W p B T/\Bx W w.heap.size 231 (.int .u64 x) (.int .i64 ((n:Int)+h))/\W.ownsRow 0 231 2 (.slice (some ⟨g,0,none⟩) m cap) m (pcells f c h m)/\Gw w W):=by
  intro W G;have G1:=((Gw.refl w).alloc #[.int .u64 x,.int .i64 ((n:Int)+h)] 231).trans G;exact ⟨hb.gw G1,(Bx.new _ _ _ _).gw G,own_keep own fun q hq=>G1.below.block q (own.lt q hq).2,G1⟩
 have CHN:Hid (∀ t,Tch f (fun j=>s*(j:Int)) m c x (s*(n:Int)) t->Chn (upd f n x) (fun j=>s*(j:Int)) (n+1) (t+1+1) (cput c (t+1) n)/\pcells f c h (t+1)++[.int .u64 x,.int .i64 ((n:Int)+h)]=pcells (upd f n x) (cput c (t+1) n) h (t+1+1)):=by
  intro t ht;refine ⟨ch.lay kb.up hx ht,?_⟩;have e:pcells (upd f n x) (cput c (t+1) n) h (t+1+1)=pcells (upd f n x) (cput c (t+1) n) h (t+1)++[.int .u64 (upd f n x (cput c (t+1) n (t+1))),.int .i64 ((cput c (t+1) n (t+1):Int)+h)]:=rfl;rw [e,cput_at,upd_at];congr 1;refine pcells_congr h fun i hi=>?_
  have tl:=ht.lt;have bd:=ch.bd (show i<m by omega)
  rw [cput_lo hi,upd_lo bd];exact ⟨rfl,rfl⟩
 have BO:Hid (∀ u:Value,(B.setIfInBounds (o+1) u)[o+1]?=some u):=by
  intro u;have:o+1<B.size:=(Array.getElem?_eq_some_iff.1 hB1).1;simp [this]
 have c1:=hb.cell hB1;have lp:=hb.lt;have f1:=hb.fz (o+1);obtain ⟨ii,hii,hz,hs,hby⟩:=info_parts info_pt;have HH:Hid (prog.info? 231=some ii/\ii.zero=some (.agg #[.int .u64 0,.int .i64 0])/\ii.size=2/\ii.bytes=16):=⟨hii,hz,hs,hby⟩;clear hb CC own ch hii hz hs hby kb;go_enter func158,ntmps158;go_wp2_with fail;go_cut [] (fun wc=>∃ t:Nat,Aside (Tch f (fun j=>s*(j:Int)) m c x (s*(n:Int)) t)/\Aside (Mid w wc p o (B.setIfInBounds (o+1) (.slice (some ⟨g,0,none⟩) (t+1) cap)) T (.slice (some ⟨g,0,none⟩) (t+1) cap) (t+1) (pcells f c h (t+1)) x ((n:Int)+h))/\Aside (Gs (fun q=>q=p\/(Value.slice (some ⟨g,0,none⟩) m cap).ownBlock=some q) w wc))
 case first =>
  go_region_with (go_at_call 171;refine (TA.out _ ((Gw.refl w).alloc _ _).drew).mono ?_;rintro e w4 ⟨⟨t,rfl,ht⟩,g4⟩;obtain ⟨F1,F2,F3,F4⟩:=FX.out w4 ((Gw.drew (Gw.refl _)).trans g4);have j1:=F1.cell hB1;have j2:=F1.fz (o+1);have j5:(t:Int)+1<=cap:=(by have:=ht.lt;omega);have j6:IntKind.i64.wrap ((t:Int)+1)=(t:Int)+1:=(by rw [IntKind.wrap_i64];have:=ht.lt;omega);have j7:0<=(t:Int)+1:=(by omega);have RR:Hid (Mid w (w4.setCell ⟨p,o+1,none⟩ (.slice (some ⟨g,0,none⟩) (t+1) cap)) p o (B.setIfInBounds (o+1) (.slice (some ⟨g,0,none⟩) (t+1) cap)) T (.slice (some ⟨g,0,none⟩) (t+1) cap) (t+1) (pcells f c h (t+1)) x ((n:Int)+h)):=(mid_cut F1 F2 F3 ht.lt m4 gp BO.out lp);have GG:Hid (Gs (fun q=>q=p\/(Value.slice (some ⟨g,0,none⟩) m cap).ownBlock=some q) w (w4.setCell ⟨p,o+1,none⟩ (.slice (some ⟨g,0,none⟩) (t+1) cap))):=((F4.gs _).set (.inl rfl) _ _);have ht':Hid (Tch f (fun j=>s*(j:Int)) m c x (s*(n:Int)) t):=ht;clear F1 F2 F3 F4 ht g4)
  all_goals
   clear j1 j2 j5 j6 j7 c1 f1;go_wp2_with fail;go_meet
   case rel=>exact ⟨t,ht'.out,RR.out,GG.out⟩
 case rest =>
  obtain ⟨wx,hwx⟩:∃ wx,wx=wc:=⟨_,rfl⟩;subst hwx;obtain ⟨t,ht,M,G0⟩:=hcut;obtain ⟨hii,hz,hs,hby⟩:=HH.out;clear c1 f1;go_wp2_with fail;have BE:Hid (∀ u,(B.setIfInBounds (o+1) (.slice (some ⟨g,0,none⟩) (t+1) cap)).setIfInBounds (o+1) u=B.setIfInBounds (o+1) u):=fun u=>by simp
  generalize B.setIfInBounds (o+1) (.slice (some ⟨g,0,none⟩) (t+1) cap)=B2 at M BE;have M':Hid _:=M;have G':Hid _:=G0;have d1:=M'.out.blk.cell M'.out.bo;have d2:=M'.out.bx.c0;have d3:=M'.out.bx.c1;have d4:=M'.out.blk.fz (o+1);have d5:=M'.out.blk.lt;have ONE:Hid _:=pt_one x ((n:Int)+h);clear M G0;go_region_law (refine step_append_lies _ rfl (.tmp 26) (.tmp 28) 209 rfl 0 231 ii _ 2 16 underlying209 hii hz hs hby rfl (by decide) (.slice (some ⟨g,0,none⟩) (t+1) cap) (t+1) (pcells f c h (t+1)) (by simp [Act.eval]) M'.out.own1 ⟨wx.heap.size,0,none⟩ 1 1 [.int .u64 x,.int .i64 ((n:Int)+h)] (by simp [Act.eval]) rfl M'.out.news ONE.out (by decide) (M'.out.len1) (M'.out.len2) (by omega) _ rfl ?_;intro g' cap' w7 q1 q2 q3 q4;have B7:Hid (Blk w7 p (B2) T):=M'.out.after q2;have e1:=B7.out.cell M'.out.bo;have e2:=B7.out.fz (o+1);have FIN:Hid (Laid w (w7.setCell ⟨p,o+1,none⟩ (.slice (some ⟨g',0,none⟩) (t+1+1) cap')) p o B T (Value.slice (some ⟨g,0,none⟩) m cap) f (n) x s h):=(laid_mk M'.out G'.out rfl q1 q2 q3 (CHN.out t ht.out).1 (CHN.out t ht.out).2 BE.out);clear q1 q2 q3)
  all_goals
   clear d1 d2 d3 d4 d5;go_wp2;go_end0;exact ⟨rfl,FIN.out⟩
theorem cmpi_neg (u v:Int):cmpi u v<0↔u<v:=by
 unfold cmpi;split
 ·simp [*]
 ·split<;>simp<;>omega
theorem cmpi_pos (u v:Int):0<cmpi u v↔v<u:=by
 unfold cmpi;split
 ·simp;omega
 ·split<;>simp<;>omega
def PL (e:Int) (f:Nat->Int) (n:Nat) (x xa ya:Int):Prop:=∃ t,t<n/\xa=f t/\ya=(t:Int)+e/\∀ j,j<n->((n:Int)-j-2*e)*(x-f t)<=((n:Int)-t-2*e)*(x-f j)
def PT (e:Int) (f:Nat->Int) (n:Nat) (x xa ya:Int):Prop:=∃ t,t<n/\xa=f t/\ya=(t:Int)-e/\∀ j,j<n->((n:Int)-t+2*e)*(x-f j)<=((n:Int)-j+2*e)*(x-f t)
theorem PL.bd {e:Int} {f:Nat->Int} {n:Nat} {x xa ya:Int} (h:PL e f n x xa ya) (kb:KB f n) (hx:f (n-1)<x) (e1:1<=e) (e2:e<=63):0<=xa/\xa<x/\-10000000<=ya/\ya<=10000000:=by
 obtain ⟨t,ht,rfl,rfl,_⟩:=h;have b1:=kb.bd t ht;have b2:=kb.up.le (show t<=n-1 by omega) (by omega)
 have b3:=kb.len;omega
theorem PT.bd {e:Int} {f:Nat->Int} {n:Nat} {x xa ya:Int} (h:PT e f n x xa ya) (kb:KB f n) (hx:f (n-1)<x) (e1:1<=e) (e2:e<=63):0<=xa/\xa<x/\-10000000<=ya/\ya<=10000000:=by
 obtain ⟨t,ht,rfl,rfl,_⟩:=h;have b1:=kb.bd t ht;have b2:=kb.up.le (show t<=n-1 by omega) (by omega)
 have b3:=kb.len;omega
theorem touched_low {w:World} {p g m cap:Nat} {e:Int} {f:Nat->Int} {n:Nat} {c:Nat->Nat} (kb:KB f n) (hn:0<n) (e1:1<=e) (e2:e<=63) (x:Int) (hx:f (n-1)<x) (x1:x<18446744073709551616) (k:CH w p 8 g m cap 1 e f n c) :
  Calls prog 169 #[.pointer (some ⟨p,8,none⟩),.agg #[.int .u64 x,.int .i64 ((n:Int)-e)]] w fun ex w'=>(∃ xa ya:Int,ex=.returned (.agg #[.int .u64 xa,.int .i64 ya])/\PL e f n x xa ya)/\Gw w w':=by
 have nl:=kb.len;refine (touched_any kb (.inl rfl) (by omega) e2 x ((n:Int)-e) hx x1 (by omega) (by omega) w k).mono ?_
 rintro ex w' ⟨⟨t,rfl,ht⟩,G⟩;rw [show (n:Int)-e-e=n-2*e by omega] at ht
 exact ⟨⟨_,_,rfl,c t,k.ch.bd ht.lt,rfl,rfl,touch_low k.ch kb.up hx ht⟩,G⟩
theorem touched_top {w:World} {p g m cap:Nat} {e:Int} {f:Nat->Int} {n:Nat} {c:Nat->Nat} (kb:KB f n) (hn:0<n) (e1:1<=e) (e2:e<=63) (x:Int) (hx:f (n-1)<x) (x1:x<18446744073709551616) (k:CH w p 6 g m cap (-1) (-e) f n c) :
  Calls prog 169 #[.pointer (some ⟨p,6,none⟩),.agg #[.int .u64 x,.int .i64 ((n:Int)+e)]] w fun ex w'=>(∃ xa ya:Int,ex=.returned (.agg #[.int .u64 xa,.int .i64 ya])/\PT e f n x xa ya)/\Gw w w':=by
 have nl:=kb.len;refine (touched_any kb (.inr rfl) (by omega) (by omega) x ((n:Int)+e) hx x1 (by omega) (by omega) w k).mono ?_
 rintro ex w' ⟨⟨t,rfl,ht⟩,G⟩;rw [show (n:Int)+e - -e=n+2*e by omega] at ht
 exact ⟨⟨_,_,rfl,c t,k.ch.bd ht.lt,rfl,by omega,touch_top k.ch kb.up hx ht⟩,G⟩
theorem two_new' (w:World) (t t':TypeId) (a0 a1 b0 b1:Value):Two w ((w.alloc (.cells #[a0,a1] t)).alloc (.cells #[b0,b1] t')) a0 a1 b0 b1 :=
 ⟨((Gw.refl w).alloc _ _).alloc _ _,by simp [go_sem],by simp [go_sem],by simp [go_sem],by simp [go_sem],by simp [go_sem]⟩
theorem Gs.drew {S:Nat->Prop} {w w':World} (h:Gs S w w'):Gs S w w'.drew:=⟨h.os,h.tape,h.output,h.size,h.block⟩
def fcells (e:Int) (n:Nat) (lr lf mr mf:Int) (v0 v1:Value):Array Value:=#[.int .i64 e,.int .i64 n,.int .i64 lr,.int .u64 lf,.int .i64 mr,.int .u64 mf,.int .i64 (-1),v0,.int .i64 1,v1]
structure SB (lr lf mr mf:Int):Prop where
 l0:0<=lr
 l1:lr<=10000000
 l2:0<=lf
 l3:lf<18446744073709551616
 m0:0<=mr
 m1:mr<=10000000
 m2:0<=mf
 m3:mf<18446744073709551616
def Narrowed (w w':World) (p:Nat) (e:Int) (n:Nat) (f:Nat->Int) (x:Int) (v0 v1:Value) (ok:Bool):Prop :=
 (ok=true↔FitsOn e (upd f n x) (Prs (n+1)))/\(ok=false->Gw w w') /\
 (ok=true->(∃ lr lf mr mf,Blk w' p (fcells e n lr lf mr mf v0 v1) 214/\LowU e (upd f n x) (Prs (n+1)) lr lf/\TopU e (upd f n x) (Prs (n+1)) mr mf/\SB lr lf mr mf)/\Gs (fun q=>q=p) w w')
end Go.Proofs.YtemijdhemdhclaaGreat
