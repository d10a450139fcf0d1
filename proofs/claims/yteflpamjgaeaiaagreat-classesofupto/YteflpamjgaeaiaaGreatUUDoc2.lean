/- The document's layer 15: Get, live. -/
import Derived.Test.YteflpamjgaeaiaaGreatUUDoc
set_option linter.unusedVariables false
set_option maxHeartbeats 16000000
set_option maxRecDepth 20000
open Go.Proofs.Tryz
namespace Go.Proofs.YteflpamjgaeaiaaGreat
open Go.RowKit
def lvB (up:List (Option Rn)) (e:Ent):Bool:=e.g&&liveQ up e.k
def lvK (up:List (Option Rn)) (l:List Ent):List Int:=(l.filter (lvB up)).map Ent.k
def u64d (A:List Int):List Value:=A.map (Value.int .u64)
theorem lvK_len (up:List (Option Rn)) (l:List Ent):(lvK up l).length<=l.length:=by unfold lvK;rw [List.length_map];exact List.length_filter_le ..
theorem lvK_app (up:List (Option Rn)) (l:List Ent) (e:Ent):lvK up (l++[e])=lvK up l++(if lvB up e=true then [e.k] else []):=by
 unfold lvK;rw [List.filter_append,List.map_append,List.filter_cons];split<;>rfl
theorem lv_sift (up:List (Option Rn)) (l:List Ent):l.filter (keep13 (lvK up l).length (fun i=>(lvK up l).getD i 0))=l.filter (keepP (liveQ up)):=by
 refine List.filter_congr fun e he=>?_
 unfold keep13 keepP;cases hg:e.g with
 | false=>rfl
 | true =>
  show liveB _ _ e.k=liveQ up e.k;unfold liveB;cases hl:liveQ up e.k with
  | true =>
   have hm:e.k∈lvK up l:=by
    unfold lvK;refine List.mem_map.2 ⟨e,List.mem_filter.2 ⟨he,?_⟩,rfl⟩;unfold lvB;rw [hg,hl];rfl
   obtain ⟨i,hi,ei⟩:=List.mem_iff_getElem.1 hm;rw [List.any_eq_true];exact ⟨i,List.mem_range.2 hi,by simp [List.getD,hi,ei]⟩
  | false =>
   rw [List.any_eq_false];intro i hi;have hi':=List.mem_range.1 hi;have e2:(lvK up l).getD i 0=(lvK up l)[i]:=by simp [List.getD,hi']
   show ¬ ((lvK up l).getD i 0 == e.k)=true;rw [e2];intro q;have q':(lvK up l)[i]=e.k:=by simpa using q
   have hm:e.k∈lvK up l:=by rw [<-q'];exact List.getElem_mem hi'
   unfold lvK at hm;obtain ⟨e',he',ek'⟩:=List.mem_map.1 hm;have:=(List.mem_filter.1 he').2;unfold lvB at this;rw [ek',hl,Bool.and_false] at this;cases this
theorem rlive15 {w:World} {p rb:Nat} {rs:List (Option Rn)} {eps buf B W:Int} (h:HDl w p rb rs eps buf B W) (ao:Option Addr) (c:Nat) (l:List Ent) (hl:EL w ao l) (hn:l.length<=2000000) (j:Nat) (hj:j<40) :
  Calls prog 57 #[.pointer (some ⟨p,0,none⟩),.slice ao l.length c,.int .i64 (j:Int)] w fun e w'=>(∃ ob m oc,e=.returned (.slice (some ⟨ob,0,none⟩) m oc)/\(lvK (rs.drop (j+1)) l).length=m/\KS w' (some ⟨ob,0,none⟩) m (fun i=>(lvK (rs.drop (j+1)) l).getD i 0))/\Gw w w':=by
 have HE:Aside (EL w ao l):=hl;have HC:Aside (HDl w p rb rs eps buf B W):=h;obtain ⟨n,hln⟩:∃ n,l.length=n:=⟨_,rfl⟩;have LN:Aside (l.length=n):=hln;rw [hln] at hn ⊢;obtain ⟨up,hup⟩:∃ up,rs.drop (j+1)=up:=⟨_,rfl⟩;have UP:Aside (rs.drop (j+1)=up):=hup;rw [hup];have NW:Hid (∀ W' q,Gw w W'->Calls prog 59 #[.pointer (some ⟨p,0,none⟩),.int .i64 ((j+1:Nat):Int),.int .u64 q] W' fun e w'=>e=.returned (.tuple #[(lookV (nw q up)).1,.bool (lookV (nw q up)).2])/\Gw W' w'):=fun W' q gg=>by
  have:=rnewest15 (h.gw gg) (j+1) (by omega) q
  rw [hup] at this;exact this
 obtain ⟨k1,hk1⟩:∃ k1,j+1=k1:=⟨_,rfl⟩;rw [hk1] at NW;have wk:IntKind.i64.wrap ((j:Int)+1)=(k1:Int):=by rw [IntKind.wrap_i64];omega
 obtain ⟨ii,hii,hz',hs',hby⟩:=info_parts info_k;have O1:Aside ((w.alloc (.cells #[] 34)).ownsRow w.heap.size 34 1 (.slice (some ⟨w.heap.size,0,none⟩) 0 0) 0 (u64d (lvK up (l.take 0)))):=World.ownsRow_made w #[] 0 (Nat.le_refl _) (Nat.zero_le _) rfl;have G1:Aside (Gw w (w.alloc (.cells #[] 34))):=(Gw.refl w).alloc _ _;clear h hl hln hup hk1;go_enter func57,ntmps57;go_wp2_with fail;generalize w.alloc (.cells #[] 34)=w1 at O1 G1 ⊢;go_loopg [7,8] n (fun gg s7 s8 wr=>∃ (i m ob oc:Nat),s7=.slice (some ⟨ob,0,none⟩) m oc/\s8=.int .i64 (i:Int)/\i<=n/\n-i<=gg/\m<=i/\Aside ((lvK up (l.take i)).length=m)/\Aside (wr.ownsRow w.heap.size 34 1 (.slice (some ⟨ob,0,none⟩) m oc) m (u64d (lvK up (l.take i))))/\Aside (Gw w wr))
 case atStart=>exact ⟨0,0,w.heap.size,0,rfl,rfl,Nat.zero_le _,by omega,Nat.le_refl _,(show Aside _ from rfl),O1,G1⟩
 case round =>
  clear O1 G1;obtain ⟨i,m,ob,oc,rfl,rfl,a1,a2,a3,ML,O,G⟩:=hrel;obtain ⟨wS,hwS⟩:∃ wx,wx=wr:=⟨_,rfl⟩;subst hwS;by_cases hlt:i<n
  ·have hlt':(i:Int)<(n:Int):=by omega
   have hi:i<l.length:=by rw [LN.out];exact hlt
   obtain ⟨lb,lf,rfl,hlb,hlc⟩:=(HE.out.gw G.out).cells (by omega)
   obtain ⟨c0,c1,c2⟩:=hlc i hi;have TK:l.take (i+1)=l.take i++[l.getD i ent0]:=by rw [List.take_add_one,List.getElem?_eq_getElem hi,getD_lt hi];rfl
   have LK:=lvK_app up (l.take i) (l.getD i ent0);rw [<-TK] at LK;have bd:=(HE.out.ok hi).1;obtain ⟨x,hx⟩:∃ x,l.getD i ent0=x:=⟨_,rfl⟩;rw [hx] at c0 c1 c2 LK bd;obtain ⟨xk,xv,xg⟩:=x;have d0:wS.cell? ⟨lb,lf+i*3,none⟩=some (.int .u64 xk):=c0;have d2:wS.cell? ⟨lb,lf+i*3+2,none⟩=some (.bool xg):=c2;obtain ⟨a,b,z,t,f1,f2,f3⟩:=lookV_form (nw xk up);have NQ:Hid (Calls prog 59 #[.pointer (some ⟨p,0,none⟩),.int .i64 (k1:Int),.int .u64 xk] wS fun e w'=>e=.returned (.tuple #[.agg #[.int .u64 a,.int .u64 b,.bool z],.bool t])/\Gw wS w'):=by
    have:=NW.out wS xk G.out
    rw [f1] at this;exact this
   have LKA:Aside (lvK up (l.take (i+1))=lvK up (l.take i)++(if (xg&&(t&&!z))=true then [xk] else [])):=by
    show _=_;rw [LK];have e:lvB up ⟨xk,xv,xg⟩=(xg&&(t&&!z)):=by
     show (xg&&liveO (nw xk up))=_;rw [f3]
    rw [e]
   have BD:Aside (0<=xk/\xk<18446744073709551616):=bd;have CE:Hid (∀ W',Gw wS W'->W'.cell? ⟨lb,lf+i*3,none⟩=some (.int .u64 xk)/\W'.cell? ⟨lb,lf+i*3+2,none⟩=some (.bool xg)/\lb<W'.heap.size):=fun W' gg=>⟨(gg.cell _ _ hlb).trans d0,(gg.cell _ _ hlb).trans d2,Nat.lt_of_lt_of_le hlb gg.size⟩
   clear hlc c0 c1 c2 TK LK hx f1 f2 f3 hi bd;go_wp2_with fail;refine Calls.mono NQ.out ?_;rintro e u1 ⟨rfl,gg⟩;obtain ⟨bx,hbx⟩:∃ b,u1.heap.size=b:=⟨_,rfl⟩;have BX:Aside (u1.heap.size=bx):=hbx;have E1:(u1.alloc (.cells #[.int .u64 a,.int .u64 b,.bool z] 40)).heap[bx]?=some (.cells #[.int .u64 a,.int .u64 b,.bool z] 40 (0,0)):=by rw [<-hbx];exact heap_alloc_new _ _
   have GU:Aside (Gw wS (u1.alloc (.cells #[.int .u64 a,.int .u64 b,.bool z] 40))):=gg.alloc _ _;clear gg NQ hbx;go_upto_region 6 with fail;rw [BX.out];generalize u1.alloc (.cells #[.int .u64 a,.int .u64 b,.bool z] 40)=U at E1 GU ⊢;obtain ⟨x0,x1,x2,_,_,_,bl,_⟩:=box_facts E1;obtain ⟨g0,g2,gl⟩:=CE.out U GU.out;have OU:Aside (U.ownsRow w.heap.size 34 1 (.slice (some ⟨ob,0,none⟩) m oc) m (u64d (lvK up (l.take i)))):=orow13' O.out GU.out;have GW':Aside (Gw w U):=G.out.trans GU.out;have wz:=GW'.out.size;clear E1 O CE GU d0 d2;by_cases yes:xg=true/\t=true/\z=false
   ·obtain ⟨rfl,rfl,rfl⟩:=yes
    go_wp2_with (at_builtin;refine wpList_append_own _ rfl _ _ 112 rfl w.heap.size 34 ii (.int .u64 0) 1 8 underlying112 hii hz' hs' hby rfl (by decide) _ m _ rfl (OU.out.alloc _) ⟨U.heap.size,0,none⟩ 1 1 [.int .u64 xk] rfl rfl (new_one U xk) (fun u hu=>by simp at hu;subst hu;rfl) (by simp only [maxLen];omega) (by omega) (by simp;omega) ?_)
    intro v6 w6 r1 r2 r3;obtain ⟨b6,c6,rfl,hb6,_,_⟩:=own_slice r1 (by simpa using r3)
    have G6:Aside (Gw w w6):=(GW'.out.alloc _ _).grown r2 (fun q hq=>(World.ownsRow.lt OU.out q hq).1)
    have LE:lvK up (l.take (i+1))=lvK up (l.take i)++[xk]:=LKA.out;have O6:Aside (w6.ownsRow w.heap.size 34 1 (.slice (some ⟨b6,0,none⟩) (m+1) c6) (m+1) (u64d (lvK up (l.take (i+1))))):=by
     show World.ownsRow _ _ _ _ _ _ _;rw [LE];unfold u64d at r1 ⊢;rw [List.map_append];exact r1
    have M6:Aside ((lvK up (l.take (i+1))).length=m+1):=by show _=_;rw [LE,List.length_append,ML.out];rfl
    clear r1 r2 r3 hb6 LE OU LKA ML;go_wp2_with fail;go_roundg (n-(i+1))
    case measure=>omega
    case rel=>exact ⟨i+1,m+1,b6,c6,rfl,by go_num,by omega,Nat.le_refl _,by omega,M6,O6,G6⟩
   ·have no:(xg&&(t&&!z))=false:=by
     cases xg<;>cases t<;>cases z<;>simp_all
    have LE:lvK up (l.take (i+1))=lvK up (l.take i):=by rw [LKA.out,if_neg (by rw [no];decide),List.append_nil]
    have O6:Aside (U.ownsRow w.heap.size 34 1 (.slice (some ⟨ob,0,none⟩) m oc) m (u64d (lvK up (l.take (i+1))))):=by rw [LE];exact OU
    have M6:Aside ((lvK up (l.take (i+1))).length=m):=by rw [LE];exact ML
    clear LE OU LKA ML yes;cases xg with
    | false =>
     clear no;go_wp2_with fail;go_roundg (n-(i+1))
     case measure=>omega
     case rel=>exact ⟨i+1,m,ob,oc,rfl,by go_num,by omega,Nat.le_refl _,by omega,M6,O6,GW'⟩
    | true =>
     cases t with
     | false =>
      clear no;go_wp2_with fail;go_roundg (n-(i+1))
      case measure=>omega
      case rel=>exact ⟨i+1,m,ob,oc,rfl,by go_num,by omega,Nat.le_refl _,by omega,M6,O6,GW'⟩
     | true =>
      cases z with
      | false=>cases no
      | true =>
       clear no;go_wp2_with fail;go_roundg (n-(i+1))
       case measure=>omega
       case rel=>exact ⟨i+1,m,ob,oc,rfl,by go_num,by omega,Nat.le_refl _,by omega,M6,O6,GW'⟩
  ·have ei:i=n:=by omega
   subst ei;have TT:l.take i=l:=List.take_of_length_le (by rw [LN.out];exact Nat.le_refl _)
   rw [TT] at ML O;have RES:Aside ((lvK up l).length=m/\KS wS (some ⟨ob,0,none⟩) m (fun i=>(lvK up l).getD i 0)):=by
    refine ⟨ML.out,ks_own O.out (Nat.le_refl _) (fun k hk=>?_) (fun k hk=>?_)⟩
    ·have hk':k<(lvK up l).length:=by rw [ML.out];exact hk
     unfold u64d;simp [List.getD,hk']
    ·have hk':k<(lvK up l).length:=by rw [ML.out];exact hk
     have e2:(lvK up l).getD k 0=(lvK up l)[k]:=by simp [List.getD,hk']
     show 0<=(lvK up l).getD k 0/\(lvK up l).getD k 0<18446744073709551616;rw [e2];have hm:=List.getElem_mem hk';unfold lvK at hm;obtain ⟨e',he',ek'⟩:=List.mem_map.1 hm;have:=(HE.out.all e' (List.mem_filter.1 he').1).1;rw [ek'] at this;exact this
   clear ML O TT;go_wp2_with fail;go_ret;exact ⟨⟨ob,m,oc,rfl,RES.out.1,RES.out.2⟩,G.out⟩
theorem free_ge {rs:List (Option Rn)} (l:rs.length=40) (h:∀ i,i<39->∃ r,rs.getD i none=some r):freeC rs=39:=by
 have:39<=free rs:=Nat.le_of_not_lt fun q=>by
  have e:=free_none (rs:=rs) (by omega)
  obtain ⟨r,hr⟩:=h _ q;rw [List.getD_eq_getElem?_getD,e] at hr;cases hr
 unfold freeC;omega
theorem free_is {rs:List (Option Rn)} {j:Nat} (l:rs.length=40) (hj:j<39) (h:∀ i,i<j->∃ r,rs.getD i none=some r) (n:rs.getD j none=none):freeC rs=j:=by
 have e:free rs=j:=free_at (fun i hi=>by
  obtain ⟨r,hr⟩:=h i hi;have hl:i<rs.length:=by omega
  exact ⟨r,by rw [List.getElem?_eq_getElem hl,<-getD_rs hl,hr]⟩) (.inl (by
  have hl:j<rs.length:=by omega
  rw [List.getElem?_eq_getElem hl,<-getD_rs hl,n]))
 unfold freeC;omega
def NB (rb:Nat) (vals:List Value) (L:List (List Ent)):Prop:=∀ i,i<L.length->∀ bo c,vals[i]?=some (.slice bo (L.getD i []).length c)->∀ a,bo=some a->0<(L.getD i []).length->a.block≠rb
theorem NB.more {rb:Nat} {vals:List Value} {L:List (List Ent)} {l:List Ent} {bo:Option Addr} {c:Nat} (h:NB rb vals L) (hl:vals.length=L.length) (ha:∀ a,bo=some a->0<l.length->a.block≠rb):NB rb (vals++[.slice bo l.length c]) (L++[l]):=by
 intro i hi;by_cases e:i<L.length
 ·rw [show (L++[l]).getD i []=L.getD i [] by rw [List.getD_eq_getElem?_getD,List.getElem?_append_left e,<-List.getD_eq_getElem?_getD],List.getElem?_append_left (by rw [hl];exact e)]
  exact h i e
 ·have ei:i=L.length:=by rw [List.length_append] at hi;simp at hi;omega
  subst ei;rw [show (L++[l]).getD L.length []=l by simp [List.getD]]
  intro bo' c' hv;rw [<-hl] at hv;simp at hv;obtain ⟨rfl,_⟩:=hv;exact ha
theorem TL.set {w:World} {ob rb o:Nat} {v:Value} {vals:List Value} {L:List (List Ent)} (h:TL w ob vals L) (nb:NB rb vals L):TL (w.setCell ⟨rb,o,none⟩ v) ob vals L :=
 ⟨h.len,fun i hi=>by
  obtain ⟨bo,c,h1,h2,h3,h4,h5⟩:=h.row i hi;exact ⟨bo,c,h1,h2,h3.keep15 (fun a e z=>Go.Deep.blk_setCell_other _ _ _ _ (nb i hi bo c h1 a e z)),h4,fun a e z=>⟨(h5 a e z).1,by simpa [World.setCell] using (h5 a e z).2⟩⟩⟩
theorem HDoc.openS {w:World} {p:Nat} {S:Nat->Prop} {eps:Int} {k v:Nat->Int} {g:Nat->Bool} {n:Nat} {L:List (List Sg)} (h:HDoc w p S eps k v g n L):∃ eo ec lo lc,w.heap[p]?=some (.cells #[.slice eo n ec,.int .i64 eps,.slice lo L.length lc] 109 (0,0))/\ES w eo n k v g/\S p/\(n<=ec/\(eo=none->n=0/\ec=0))/\∀ a,eo=some a->0<n->S a.block:=by
 obtain ⟨u,base,ko,kc,lo,lc,h1,h2,h3,h4,h5,h6,h7,h8,h9⟩:=h.lies;have pu:p<u.heap.size:=(Array.getElem?_eq_some_iff.1 h4).1;refine ⟨ko,kc,lo,lc,(h3 p h5 pu).trans h4,h6.kept h7 h2 h3,(h1 p).2 ⟨h5,pu⟩,h9,fun a e z=>?_⟩
 obtain ⟨b,off,e',hb,_⟩:=h6.cells z;have:=h7 a e;rw [e] at e';cases e';exact (h1 b).2 ⟨this,hb⟩
section
variable {w:World} {p b:Nat} {rs:List (Option Rn)} {eps buf B W:Int}
theorem HDl.put (h:HDl w p b rs eps buf B W) {i:Nat} (hi:i<40) (o:Option Rn) (ho:∀ r,o=some r->RA HDoc w r/\¬ r.S p/\¬ r.S b):HDl (w.setCell ⟨b,i,none⟩ (ptr o)) p b (rs.set i o) eps buf B W:=by
 have gx:Gx (fun q=>q=b) w (w.setCell ⟨b,i,none⟩ (ptr o)):=(Gx.refl (fun q=>q=b) w).set (.inl rfl) i _
 have mv:∀ r,RA HDoc w r/\¬ r.S p/\¬ r.S b->RA HDoc (w.setCell ⟨b,i,none⟩ (ptr o)) r/\¬ r.S p/\¬ r.S b:=fun r ⟨q1,q2,q3⟩=>⟨q1.gx HDoc.kp gx (fun q hq=>by rw [hq];exact q3),q2,q3⟩
 refine ⟨(gx.block p (blkl h.blk) (fun e=>h.ne e.symm)).trans h.blk,?_,by rw [List.length_set];exact h.len,fun r hr=>?_,h.ne,h.e0,h.e1,h.b0,h.b1⟩
 ·rw [blk_set15 h.row,List.setIfInBounds_toArray,<-List.map_set]
 ·rcases List.mem_or_eq_of_mem_set hr with q | q
  ·exact mv r (h.runs r q)
  ·exact mv r (ho r q.symm)
theorem HDl.put3 (h:HDl w p b rs eps buf B W) (B':Int):HDl (w.setCell ⟨p,3,none⟩ (.int .i64 B')) p b rs eps buf B' W:=by
 have gx:Gx (fun q=>q=p) w (w.setCell ⟨p,3,none⟩ (.int .i64 B')):=(Gx.refl (fun q=>q=p) w).set (.inl rfl) 3 _
 refine ⟨by rw [blk_set15 h.blk];rfl,(gx.block b (blkl h.row) (fun e=>h.ne e)).trans h.row,h.len,fun r hr=>?_,h.ne,h.e0,h.e1,h.b0,h.b1⟩
 obtain ⟨q1,q2,q3⟩:=h.runs r hr;exact ⟨q1.gx HDoc.kp gx (fun q hq=>by rw [hq];exact q2),q2,q3⟩
theorem HDl.put4 (h:HDl w p b rs eps buf B W) (W':Int):HDl (w.setCell ⟨p,4,none⟩ (.int .i64 W')) p b rs eps buf B W':=by
 have gx:Gx (fun q=>q=p) w (w.setCell ⟨p,4,none⟩ (.int .i64 W')):=(Gx.refl (fun q=>q=p) w).set (.inl rfl) 4 _
 refine ⟨by rw [blk_set15 h.blk];rfl,(gx.block b (blkl h.row) (fun e=>h.ne e)).trans h.row,h.len,fun r hr=>?_,h.ne,h.e0,h.e1,h.b0,h.b1⟩
 obtain ⟨q1,q2,q3⟩:=h.runs r hr;exact ⟨q1.gx HDoc.kp gx (fun q hq=>by rw [hq];exact q2),q2,q3⟩
theorem HDl.apart (h:HDl w p b rs eps buf B W) {ao:Option Addr} {l:List Ent} (hl:EL w ao l):∀ a,ao=some a->0<l.length->a.block≠p/\a.block≠b:=by
 intro a e z;obtain ⟨q,off,e',hq,hc⟩:=hl.cells z;rw [e] at e';cases e';have c0:=(hc 0 z).1;rw [Nat.zero_mul,Nat.add_zero] at c0;refine ⟨fun x=>?_,fun x=>?_⟩
 ·have x':q=p:=x
  subst x';rw [World.cell?] at c0;simp [h.blk] at c0
  match off,c0 with
  | 0,c0=>simp at c0
  | 1,c0=>simp at c0
  | 2,c0=>simp at c0
  | 3,c0=>simp at c0
  | 4,c0=>simp at c0
  | n+5,c0=>simp at c0
 ·have x':q=b:=x
  subst x';have ec:w.cell? ⟨q,off,none⟩=(rs.map ptr).toArray[off]?:=by simp [World.cell?,h.row]
  rw [ec,List.getElem?_toArray,List.getElem?_map] at c0;cases hr:rs[off]? with
  | none=>rw [hr] at c0;cases c0
  | some o=>rw [hr] at c0;cases o<;>cases c0
end
theorem rep_set {rs:List (Option Rn)} {i:Nat} (hi:i<rs.length):(List.replicate i (none:Option Rn)++rs.drop i).set i none=List.replicate (i+1) none++rs.drop (i+1):=by
 rw [List.set_append_right _ _ (by simp),List.length_replicate,Nat.sub_self,List.drop_eq_getElem_cons hi,List.set_cons_zero,List.replicate_succ',List.append_assoc]
 rfl
theorem topR_none {rs:List (Option Rn)} {i t:Nat} (hi:i<rs.length) (h:TopR (rs.take i) t) (e:rs.getD i none=none):TopR (rs.take (i+1)) t:=by
 have g:∀ k,(rs.take (i+1)).getD k none=(rs.take i).getD k none:=fun k=>by
  rw [take_rs hi,e,List.getD_eq_getElem?_getD,List.getD_eq_getElem?_getD];by_cases q:k<(rs.take i).length
  ·rw [List.getElem?_append_left q]
  ·rw [List.getElem?_append_right (by omega),List.getElem?_eq_none (l:=rs.take i) (by omega)]
   match k-(rs.take i).length with
   | 0=>rfl
   | _+1=>rfl
 have l1:(rs.take i).length<=(rs.take (i+1)).length:=by rw [List.length_take,List.length_take];omega
 refine ⟨Nat.le_trans h.le l1,fun k hk=>by rw [g];exact h.no k hk,?_⟩
 rcases h.is with x | ⟨r,x⟩
 ·exact .inl x
 ·exact .inr ⟨r,by rw [g];exact x⟩
theorem topR_some {rs:List (Option Rn)} {i:Nat} {r:Rn} (hi:i<rs.length) (e:rs.getD i none=some r):TopR (rs.take (i+1)) (i+1):=by
 refine ⟨by rw [List.length_take];omega,fun k hk=>?_,.inr ⟨r,?_⟩⟩
 ·rw [List.getD_eq_getElem?_getD,List.getElem?_eq_none (by rw [List.length_take];omega)]
  rfl
 ·rw [Nat.add_sub_cancel,List.getD_eq_getElem?_getD,List.getElem?_take,if_pos (by omega),<-List.getD_eq_getElem?_getD,e]
def szs (rs:List (Option Rn)):List Value:=rs.map fun o=>.int .i64 (sizeO o:Int)
theorem rsizes15 {w:World} {p rb:Nat} {rs:List (Option Rn)} {eps buf B W:Int} (h:HDl w p rb rs eps buf B W) :
  Calls prog 67 #[.pointer (some ⟨p,0,none⟩)] w fun e w'=>(∃ t b c,e=.returned (.slice (some ⟨b,0,none⟩) t c)/\TopR rs t/\(∀ i,i<t->w'.cell? ⟨b,i,none⟩=some (.int .i64 (sizeO (rs.getD i none):Int)))/\b<w'.heap.size)/\Gw w w':=by
 have HC:Aside _:=h;obtain ⟨ii,hii,hz',hs',hby⟩:=info_parts info_i;have O1:Aside ((w.alloc (.cells #[] 3)).ownsRow w.heap.size 3 1 (.slice (some ⟨w.heap.size,0,none⟩) 0 0) 0 (szs (rs.take 0))):=World.ownsRow_made w #[] 0 (Nat.le_refl _) (Nat.zero_le _) rfl;have G1:Aside (Gw w (w.alloc (.cells #[] 3))):=(Gw.refl w).alloc _ _;clear h;go_enter func67,ntmps67;go_wp2_with fail;generalize w.alloc (.cells #[] 3)=w1 at O1 G1 ⊢;go_loopg [3,4,5] 40 (fun gg s3 s4 s5 wr=>∃ (i t ob oc:Nat),s3=.slice (some ⟨ob,0,none⟩) i oc/\s4=.int .i64 (t:Int)/\s5=.int .i64 (i:Int)/\i<=40/\40-i<=gg/\Aside (TopR (rs.take i) t)/\Aside (wr.ownsRow w.heap.size 3 1 (.slice (some ⟨ob,0,none⟩) i oc) i (szs (rs.take i)))/\Aside (Gw w wr))
 case atStart=>exact ⟨0,0,w.heap.size,0,rfl,rfl,rfl,Nat.zero_le _,by omega,(show Aside _ from ⟨Nat.zero_le _,fun i _=>by simp,.inl rfl⟩),O1,G1⟩
 case round =>
  clear O1 G1;obtain ⟨i,t,ob,oc,rfl,rfl,rfl,a1,a2,TP,O,G⟩:=hrel;obtain ⟨wS,hwS⟩:∃ wx,wx=wr:=⟨_,rfl⟩;subst hwS;by_cases hlt:i<40
  ·have hlt':(i:Int)<40:=by omega
   have hi:i<rs.length:=by rw [HC.out.len];exact hlt
   have HD:=HC.out.gw G.out;have c2:=HD.c2;have pl:=HD.plt;have bl:=HD.blt;have ci:=HD.cell hlt;have TK:=take_rs hi;have wz:=G.out.size;have NXT:Hid (∀ (t' n:Nat),sizeO (rs.getD i none)=n->TopR (rs.take (i+1)) t'->∀ (v':Value) (w8:World),w8.ownsRow w.heap.size 3 1 v' (i+1) (szs (rs.take i)++[.int .i64 (n:Int)])->w8.ownsRow w.heap.size 3 1 v' (i+1) (szs (rs.take (i+1)))):=fun t' n e _ v' w8 r1=>by
    have:szs (rs.take (i+1))=szs (rs.take i)++[.int .i64 (n:Int)]:=by unfold szs;rw [TK,List.map_append,<-e];rfl
    rw [this];exact r1
   rcases cases_rs rs i with e | ⟨r,e⟩
   ·rw [e] at ci NXT
    have ci':wS.cell? ⟨rb,i,none⟩=some (.pointer none):=ci;have T':Aside _:=topR_none hi TP.out e;clear ci e TK HD TP hi;go_wp2_with (at_builtin;refine wpList_append_own _ rfl _ _ 94 rfl w.heap.size 3 ii (.int .i64 0) 1 8 underlying94 hii hz' hs' hby rfl (by decide) _ i _ rfl (O.out.alloc _) ⟨wS.heap.size,0,none⟩ 1 1 [.int .i64 0] rfl rfl (new_v13' wS (.int .i64 0) 3) (fun u hu=>by simp at hu;subst hu;rfl) (by simp only [maxLen];omega) (by omega) (by simp;omega) ?_)
    intro v' w8 r1 r2 r3;obtain ⟨b8,c8,rfl,_,_,_⟩:=own_slice r1 (by simpa using r3)
    have G8:Aside (Gw w w8):=(G.out.alloc _ _).grown r2 (fun q hq=>(World.ownsRow.lt O.out q hq).1)
    have O8:Aside (w8.ownsRow w.heap.size 3 1 (.slice (some ⟨b8,0,none⟩) (i+1) c8) (i+1) (szs (rs.take (i+1)))):=NXT.out t 0 rfl T'.out _ _ r1;clear r1 r2 r3 O NXT;go_wp2_with fail;go_roundg (40-(i+1))
    case measure=>omega
    case rel=>exact ⟨i+1,t,b8,c8,rfl,rfl,by go_num,by omega,Nat.le_refl _,T',O8,G8⟩
   ·have RR:=(HD.runs r (mem_rs hi e)).1
    obtain ⟨eo,ec,lo,lc,hb,_⟩:=RR.h.openS;obtain ⟨f0,f1,f2⟩:=dc_cells hb;have rl:=(Array.getElem?_eq_some_iff.1 hb).1;rw [e] at ci NXT;have ci':wS.cell? ⟨rb,i,none⟩=some (.pointer (some ⟨r.p,0,none⟩)):=ci;have T':Aside _:=topR_some hi e;have SZ:Aside (sizeO (some r)=r.l.length):=rfl;generalize r.p=rp at ci' f0 rl;generalize r.l.length=rn at f0 SZ;clear ci e TK HD TP hi RR hb f1 f2;go_wp2_with (at_builtin;refine wpList_append_own _ rfl _ _ 94 rfl w.heap.size 3 ii (.int .i64 0) 1 8 underlying94 hii hz' hs' hby rfl (by decide) _ i _ rfl (O.out.alloc _) ⟨wS.heap.size,0,none⟩ 1 1 [.int .i64 (rn:Int)] rfl rfl (new_v13' wS (.int .i64 (rn:Int)) 3) (fun u hu=>by simp at hu;subst hu;rfl) (by simp only [maxLen];omega) (by omega) (by simp;omega) ?_)
    intro v' w8 r1 r2 r3;obtain ⟨b8,c8,rfl,_,_,_⟩:=own_slice r1 (by simpa using r3)
    have G8:Aside (Gw w w8):=(G.out.alloc _ _).grown r2 (fun q hq=>(World.ownsRow.lt O.out q hq).1)
    have O8:Aside (w8.ownsRow w.heap.size 3 1 (.slice (some ⟨b8,0,none⟩) (i+1) c8) (i+1) (szs (rs.take (i+1)))):=NXT.out (i+1) rn SZ.out T'.out _ _ r1;clear r1 r2 r3 O NXT;go_wp2_with fail;go_roundg (40-(i+1))
    case measure=>omega
    case rel=>exact ⟨i+1,i+1,b8,c8,rfl,by go_num,by go_num,by omega,Nat.le_refl _,T',O8,G8⟩
  ·have ei:i=40:=by omega
   subst ei;have TT:rs.take 40=rs:=List.take_of_length_le (by rw [HC.out.len];exact Nat.le_refl _)
   rw [TT] at TP O;have tle:t<=40:=by have:=TP.out.le;rw [HC.out.len] at this;exact this
   have hcap:40<=oc:=(own_slice O.out (by simp)).elim fun _ ⟨_,ev,_,h,_⟩=>by cases ev;exact h
   have obl:=(O.out.lt ob rfl).2;have CE:Aside (∀ i,i<t->wS.cell? ⟨ob,i,none⟩=some (.int .i64 (sizeO (rs.getD i none):Int))):=fun i hi=>by
    have hi':i<rs.length:=by rw [HC.out.len];omega
    rw [World.ownsRow.cellAt O.out i (by omega)]
    unfold szs;rw [List.getElem?_map,List.getElem?_eq_getElem hi',getD_rs hi'];rfl
   have h1:(t:Int)<=(oc:Int):=by omega
   clear TT O;go_wp2_with fail;go_ret;exact ⟨⟨t,ob,oc,rfl,TP.out,CE.out,obl⟩,G.out⟩
theorem alike15 {HR:HRt} (H:RunC HR) {w:World} {p px rb:Nat} {rs rs':List (Option Rn)} {eps buf B W:Int} (h:HCl HR w p rs eps buf B W) (hd:HDl w px rb rs' eps buf B W) (al:Al rs rs') :
  Calls prog 22 #[.pointer (some ⟨p,0,none⟩),.pointer (some ⟨px,0,none⟩)] w fun e w'=>e=.returned (.bool true)/\Gw w w':=by
 have HH:Aside _:=H;have HC:Aside _:=h;have HD:Aside _:=hd;have AL:Aside (Al rs rs'):=al;have RU:Hid _:=runs15 h;have SI:Hid (∀ W,Gw w W->Calls prog 41 #[.pointer (some ⟨p,0,none⟩)] W fun e w'=>(∃ (t b:Nat),e=.returned (.slice (some ⟨b,0,none⟩) t t)/\TopR rs t/\w'.rowIs b 3 t (fun i=>.int .i64 (sizeO (rs.getD i none):Int))/\W.heap.size<=b)/\Gw W w'):=fun W g=>sizes15 H (h.gw H.kp g)
 have SD:Hid (∀ W,Gw w W->Calls prog 67 #[.pointer (some ⟨px,0,none⟩)] W fun e w'=>(∃ t b c,e=.returned (.slice (some ⟨b,0,none⟩) t c)/\TopR rs' t/\(∀ i,i<t->w'.cell? ⟨b,i,none⟩=some (.int .i64 (sizeO (rs'.getD i none):Int)))/\b<w'.heap.size)/\Gw W w'):=fun W g=>rsizes15 (hd.gw g)
 clear h hd al H;go_enter func22,ntmps22;go_wp2_with fail;refine Calls.mono RU.out ?_;rintro e w1 ⟨⟨t,lb,lc,rfl,tp,ro⟩,g1⟩;have G1:Aside _:=g1;have TP:Aside (TopR rs t):=tp;have RO1:Aside (RO w1 w.heap.size (.slice (some ⟨lb,0,none⟩) t lc) (rs.take t)):=ro;clear g1 tp ro RU;go_wp2_with fail;refine Calls.mono (SI.out w1 G1.out) ?_;rintro e w2 ⟨⟨t2,sb,rfl,tp,rw2,_⟩,g2⟩;obtain rfl:t2=t:=tp.one TP.out;have G2:Aside _:=G1.out.trans g2;have RO2:Aside (RO w2 w.heap.size (.slice (some ⟨lb,0,none⟩) t2 lc) (rs.take t2)):=RO1.out.gw g2;have RW2:Aside (w2.rowIs sb 3 t2 (fun i=>.int .i64 (sizeO (rs.getD i none):Int))):=rw2
 clear g2 tp rw2 SI RO1 G1;go_wp2_with fail;refine Calls.mono (SD.out w2 G2.out) ?_;rintro e w3 ⟨⟨t,wb,wc,rfl,tp,cw,wbl⟩,g3⟩;obtain rfl:t=t2:=tp.one (AL.out.top TP.out);have G3:Aside _:=G2.out.trans g3;have PRL:Aside (∀ W,Gw w3 W->∀ i,i<t->W.cell? ⟨lb,i,none⟩=some (ptr (rs.getD i none))/\lb<W.heap.size/\W.cell? ⟨sb,i,none⟩=some (.int .i64 (sizeO (rs.getD i none):Int))/\sb<W.heap.size/\W.cell? ⟨wb,i,none⟩=some (.int .i64 (sizeO (rs.getD i none):Int))/\wb<W.heap.size):=fun W g i hi=>by
  have t40:t<=rs.length:=TP.out.le;have lt:(rs.take t).length=t:=by rw [List.length_take];omega
  have r3:W.ownsRow w.heap.size 57 1 (.slice (some ⟨lb,0,none⟩) t lc) t ((rs.take t).map ptr):=by
   have:=RO2.out.gw (g3.trans g)
   unfold RO at this;rw [lt] at this;exact this
  have e1:(rs.take t).getD i none=rs.getD i none:=by rw [List.getD_eq_getElem?_getD,List.getElem?_take,if_pos hi,<-List.getD_eq_getElem?_getD]
  have hi':i<(rs.take t).length:=by omega
  refine ⟨?_,?_,?_,?_,?_,Nat.lt_of_lt_of_le wbl g.size⟩
  ·have:=World.ownsRow.cellAt r3 i (by omega)
   rw [this,List.getElem?_map,List.getElem?_eq_getElem hi',<-getD_rs hi',e1];rfl
  ·exact (World.ownsRow.lt r3 lb rfl).2
  ·exact ((g3.trans g).cell _ _ RW2.out.lt).trans (RW2.out.cell hi)
  ·exact Nat.lt_of_lt_of_le RW2.out.lt (g3.trans g).size
  ·rw [AL.out.size]
   exact (g.cell _ _ wbl).trans (cw i hi)
 clear g3 tp cw wbl SD RO2 RW2 G2;have HC3:=HC.out.gw HH.out.kp G3.out;have HD3:=HD.out.gw G3.out;have x3:=GX.cell HD3.c3 HD3.plt;have x4:=GX.cell HD3.c4 HD3.plt;have BU:Hid (∀ g:GX w3,Calls prog 42 #[.pointer (some ⟨p,0,none⟩)] g.1 fun e w'=>e=.returned (.int .i64 B)/\Gw g.1 w'):=fun g=>(builds15 (HC3.gw HH.out.kp g.gw)).mono fun e w' ⟨a,b⟩=>⟨a,by rw [b];exact Gw.refl _⟩
 have WR:Hid (∀ g:GX w3,Calls prog 43 #[.pointer (some ⟨p,0,none⟩)] g.1 fun e w'=>e=.returned (.int .i64 W)/\Gw g.1 w'):=fun g=>(written15 (HC3.gw HH.out.kp g.gw)).mono fun e w' ⟨a,b⟩=>⟨a,by rw [b];exact Gw.refl _⟩
 have ne:=GX.some w3;have t40:t<=40:=by have:=TP.out.le;rw [HC.out.len] at this;exact this
 clear HC3 HD3;go_upto_region 4 with fail;refine wp_region_growx (by kernel_rfl) (by kernel_rfl) ?_
 repeat (go_big_quiet_step (fail))
 go_big_quiet_want;go_big_quiet_op
 go_big_quiet_call (exact growx_of (BU.out _))
 repeat (go_big_quiet_step (fail))
 go_big_quiet_want;go_big_quiet_op
 go_big_quiet_call (exact growx_of (WR.out _))
 repeat (go_big_quiet_step (fail))
 refine wpQuiet_nil ?_;rintro _ ⟨gu,rfl⟩;obtain ⟨w4,hw4⟩:∃ w4,gu.1=w4:=⟨_,rfl⟩;have G34:Aside (Gw w3 w4):=by rw [<-hw4];exact gu.gw
 rw [hw4];clear x3 x4 BU WR ne hw4;go_wp2_with fail;go_loopg [8] t (fun gg s8 wr=>∃ i:Nat,s8=.int .i64 (i:Int)/\i<=t/\t-i<=gg/\Aside (Gw w3 wr))
 case atStart=>exact ⟨0,rfl,Nat.zero_le _,by omega,G34⟩
 case round =>
  clear G34;obtain ⟨i,rfl,a1,a2,G⟩:=hrel;obtain ⟨wS,hwS⟩:∃ wx,wx=wr:=⟨_,rfl⟩;subst hwS;by_cases hlt:i<t
  ·have hlt':(i:Int)<(t:Int):=by omega
   have i40:i<40:=by omega
   have i40':(i:Int)<40:=by omega
   obtain ⟨k1,l1,k2,l2,k3,l3⟩:=PRL.out wS G.out i hlt;have HDS:=HD.out.gw (G3.out.trans G.out);have c2:=HDS.c2;have pl:=HDS.plt;have bl:=HDS.blt;have ci:=HDS.cell i40;rcases cases_rs rs i with e | ⟨r,e⟩
   ·rw [AL.out.no e] at ci
    rw [e] at k1 k2 k3;have ci':wS.cell? ⟨rb,i,none⟩=some (.pointer none):=ci;have k1':wS.cell? ⟨lb,i,none⟩=some (.pointer none):=k1;generalize sizeO none=sz at k2 k3;clear ci e k1 HDS;go_upto_region 10 with fail;go_quiet (fail);go_upto_region 12 with fail;have ne:=GX.some (wS.drewN nq);refine wp_region_growx (by kernel_rfl) (by kernel_rfl) ?_
    repeat (go_big_quiet_step (fail))
    refine wpQuiet_nil ?_;rintro _ ⟨gv,rfl⟩;have G2:Aside (Gw w3 gv.1):=(G.out.drewN _).trans gv.gw;go_wp2_with fail;go_roundg (t-(i+1))
    case measure=>omega
    case rel=>exact ⟨i+1,by go_num,by omega,Nat.le_refl _,G2⟩
   ·obtain ⟨r',e',y1,y2,y3⟩:=AL.out.is e
    rw [e'] at ci;rw [e] at k1 k2 k3;have ci':wS.cell? ⟨rb,i,none⟩=some (.pointer (some ⟨r'.p,0,none⟩)):=ci;have k1':wS.cell? ⟨lb,i,none⟩=some (.pointer (some ⟨r.p,0,none⟩)):=k1;have RR:=(HC.out.runs r (mem_rs (by rw [HC.out.len];exact i40) e)).1.gw HH.out.kp (G3.out.trans G.out)
    have RD:=(HDS.runs r' (mem_rs (by rw [HDS.len];exact i40) e')).1
    have few:=RR.few;obtain ⟨pp,Sp,cp0,hpi,hSp⟩:=HH.out.pile RR.h;have rl:=HH.out.lt RR.h r.p (HH.out.own RR.h);obtain ⟨eo,ec,lo,lc',x1,xe,xv⟩:=RD.h.opened;obtain ⟨d0,d1,d2⟩:=dc_cells x1;have xl:r'.p<wS.heap.size:=(Array.getElem?_eq_some_iff.1 x1).1;have SHO:=RD.h.sh;rw [y2] at d0;have xe':EL wS eo r.l:=by have:=xe;rw [y2] at this;exact this
    rw [y1] at d1;rw [y3] at d2 xv SHO;have XE:Aside (EL wS eo r.l/\VS wS lo r.L/\Short r.L):=⟨xe',xv,SHO⟩;have EP:Hid (∀ W,Gw wS W->Calls prog 68 #[.pointer (some ⟨pp,0,none⟩)] W fun e w'=>e=.returned (.int .i64 r.eps)/\w'=W):=fun W gg=>pl_eps (hpi.keep fun q hq=>gg.below.block q (HH.out.lt RR.h q (hSp q hq)))
    have LT:Hid (∀ W,Gw wS W->Calls prog 69 #[.pointer (some ⟨r.p,0,none⟩)] W fun e w'=>(∃ bo c,e=.returned (.slice bo r.l.length c)/\EL w' bo r.l)/\Gw W w'):=fun W gg=>(HH.out.told (RR.gw HH.out.kp gg)).mono fun e w' ⟨⟨bo,c,a,b,_⟩,g⟩=>⟨⟨bo,c,a,b⟩,g⟩
    have LV:Hid (∀ W,Gw wS W->Calls prog 71 #[.pointer (some ⟨r.p,0,none⟩)] W fun e w'=>(∃ mo mc,e=.returned (.slice mo r.L.length mc)/\VS w' mo r.L)/\Gw W w'):=fun W gg=>(HH.out.levels (RR.gw HH.out.kp gg).h).mono fun e w' ⟨⟨mo,mc,vals,a,ow,lok,hl⟩,b⟩=>⟨⟨mo,mc,a,(ow.vsf lok).vs⟩,b⟩
    have SL:Hid (∀ (W:World) (xo:Option Addr) (xc:Nat),Gw wS W->EL W xo r.l->Calls prog 14 #[.slice xo r.l.length xc,.slice eo r.l.length ec] W fun e w'=>e=.returned (.bool true)/\Gw W w'):=fun W xo xc gg hx=>same15 xo eo xc ec r.l (by omega) W hx (XE.out.1.gw gg)
    have ML:Hid (∀ (W:World) (mo:Option Addr) (mc:Nat),Gw wS W->VS W mo r.L->Calls prog 70 #[.slice mo r.L.length mc,.slice lo r.L.length lc'] W fun e w'=>e=.returned (.bool true)/\Gw W w'):=fun W mo mc gg hv=>same15_lev mo lo mc lc' r.L (by have:=XE.out.2.2.1;omega) (fun i hi=>by have:=XE.out.2.2.2 i hi;omega) W hv (XE.out.2.1.gw gg)
    obtain ⟨rl',hrl⟩:∃ x,r.l=x:=⟨_,rfl⟩;obtain ⟨rL,hrL⟩:∃ x,r.L=x:=⟨_,rfl⟩;rw [hrl] at d0 LT SL few;rw [hrL] at d2 LV ML;obtain ⟨rn,hrn⟩:∃ x,rl'.length=x:=⟨_,rfl⟩;obtain ⟨rh,hrh⟩:∃ x,rL.length=x:=⟨_,rfl⟩;rw [hrn] at d0 LT SL few;rw [hrh] at d2 LV ML;generalize r.eps=re at d1 EP;generalize r.p=rp at k1' cp0 rl LT LV;generalize r'.p=rx at ci' d0 d1 d2 xl;have HW:Hid (∀ w',Gw wS w'->Gw wS w'/\w'.cell? ⟨lb,i,none⟩=some (.pointer (some ⟨rp,0,none⟩))/\w'.cell? ⟨rp,0,none⟩=some (.pointer (some ⟨pp,0,none⟩))/\w'.cell? ⟨rx,0,none⟩=some (.slice eo rn ec)/\w'.cell? ⟨rx,1,none⟩=some (.int .i64 re)/\w'.cell? ⟨rx,2,none⟩=some (.slice lo rh lc')):=fun w' gg=>⟨gg,(gg.cell _ _ l1).trans k1',(gg.cell _ _ rl).trans cp0,(gg.cell _ _ xl).trans d0,(gg.cell _ _ xl).trans d1,(gg.cell _ _ xl).trans d2⟩
    generalize sizeO (some r)=sz at k2 k3;clear ci e e' y1 y2 y3 k1 HDS RR RD hpi hSp x1 xe xe' xv SHO hrl hrL hrn hrh d0 d1 d2 cp0 xl rl;go_upto_region 10 with fail;go_quiet (fail);go_upto_region 12 with fail;have G0:Hid (Gw wS (wS.drewN nq)):=(Gw.refl wS).drewN _;generalize wS.drewN nq=wD at G0 ⊢;clear c2 pl bl ci' k1' l1 k2 l2 k3 l3;go_region_held3 (fun w'=>Gw wS w'/\w'.cell? ⟨lb,i,none⟩=some (.pointer (some ⟨rp,0,none⟩))/\w'.cell? ⟨rp,0,none⟩=some (.pointer (some ⟨pp,0,none⟩))/\w'.cell? ⟨rx,0,none⟩=some (.slice eo rn ec)/\w'.cell? ⟨rx,1,none⟩=some (.int .i64 re)/\w'.cell? ⟨rx,2,none⟩=some (.slice lo rh lc'))
     ((refine HW.out _ ?_;(repeat (first | exact Gw.refl _ | exact And.left (by assumption) | exact Hid.out (by assumption) | refine Gw.drew ?_ | refine Gw.trans ?_ (by assumption)));done))
     ((
      first
      | (go_at_call 68;refine (EP.out _ (by repeat (first | exact Gw.refl _ | exact And.left (by assumption) | exact Hid.out (by assumption) | refine Gw.drew ?_ | refine Gw.drewN ?_ _))).mono ?_;rintro ex w5 ⟨rfl,rfl⟩)
      | (go_at_call 69;refine (LT.out _ (by repeat (first | exact Gw.refl _ | exact And.left (by assumption) | exact Hid.out (by assumption) | refine Gw.drew ?_ | refine Gw.drewN ?_ _))).mono ?_;rintro ex w7 ⟨⟨bo,bc,rfl,es7⟩,g7⟩;have E7:Aside (EL w7 bo rl'):=es7;have G7:Hid (Gw wS w7):=(Gw.trans (by repeat (first | exact Gw.refl _ | exact And.left (by assumption) | exact Hid.out (by assumption) | refine Gw.drew ?_ | refine Gw.drewN ?_ _)) g7);clear g7 es7)
      | (go_at_call 14;refine (SL.out w7 bo bc G7.out E7.out).mono ?_;rintro ex w8 ⟨rfl,g8⟩;have G8:Hid (Gw wS w8):=G7.out.trans g8;clear g8)
      | (go_at_call 71;refine (LV.out w8 G8.out).mono ?_;rintro ex w9 ⟨⟨mo,mc,rfl,vs9⟩,g9⟩;have V9:Aside (VS w9 mo rL):=vs9;have G9:Hid (Gw wS w9):=G8.out.trans g9;clear g9 vs9)
      | (go_at_call 70;refine (ML.out w9 mo mc G9.out V9.out).mono ?_;rintro ex wZ ⟨rfl,gZ⟩;have GZ:Hid (Gw wS wZ):=G9.out.trans gZ;clear gZ)))
    all_goals
     have G2:Aside _:=G.out.trans GZ.out;go_wp2_with fail;go_roundg (t-(i+1))
     case measure=>omega
     case rel=>exact ⟨i+1,by go_num,by omega,Nat.le_refl _,G2⟩
  ·have ei:i=t:=by omega
   subst ei;go_wp2_with fail;go_ret;exact ⟨rfl,G3.out.trans G.out⟩
end Go.Proofs.YteflpamjgaeaiaaGreat
