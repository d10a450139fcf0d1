/- The document's layer 13: Entries. -/
import Derived.Test.YteflpamjgaeaiaaGreatUZPile
import Derived.Test.YteflpamjgaeaiaaGreatUGEnt
import Derived.Test.YteflpamjgaeaiaaGreatUGRef
set_option linter.unusedVariables false
set_option maxHeartbeats 8000000
set_option maxRecDepth 10000
open Go.Proofs.Tryz
namespace Go.Proofs.YteflpamjgaeaiaaGreat
open Go.RowKit
theorem KS.keep {w w':World} {rb n:Nat} {f:Nat->Int} (h:KS w (some ⟨rb,0,none⟩) n f) (hb:rb<w'.heap.size) (k:w'.heap[rb]?=w.heap[rb]?):KS w' (some ⟨rb,0,none⟩) n f :=
 ⟨fun h0=>by
  obtain ⟨b,off,e,_,hc⟩:=h.cells h0;cases e;refine ⟨rb,0,rfl,hb,fun i hi=>?_⟩
  have:=hc i hi
  simp only [World.cell?] at this ⊢;rw [k];exact this,h.bd⟩
structure KI (w:World) (ob:Nat) (vals:List Value) (K:List (List Int)):Prop where
 len:vals.length=K.length
 row:∀ i,i<K.length->∃ rb rc,vals[i]?=some (.slice (some ⟨rb,0,none⟩) (K.getD i []).length rc)/\rb≠ob/\rb<w.heap.size/\KS w (some ⟨rb,0,none⟩) (K.getD i []).length (fun j=>(K.getD i []).getD j 0)
theorem KI.gw {w w':World} {ob:Nat} {vals:List Value} {K:List (List Int)} (h:KI w ob vals K) (g:Gw w w'):KI w' ob vals K :=
 ⟨h.len,fun i hi=>by
  obtain ⟨rb,rc,h1,h2,h3,h4⟩:=h.row i hi;exact ⟨rb,rc,h1,h2,Nat.lt_of_lt_of_le h3 g.size,h4.gw g⟩⟩
theorem KI.more {w w8:World} {o:Obj} {ob ob':Nat} {vals:List Value} {K:List (List Int)} {row:List Int} {rb rc:Nat} (h:KI w ob vals K) (r2:(w.alloc o).grownBy w8 (some ob)) (o8:ob'=ob\/w.heap.size<=ob') (rn:rb≠ob) (rl:rb<w.heap.size) (ks:KS w (some ⟨rb,0,none⟩) row.length (fun j=>row.getD j 0)):KI w8 ob' (vals++[.slice (some ⟨rb,0,none⟩) row.length rc]) (K++[row]):=by
 have kp:∀ q,q<w.heap.size->q≠ob->w8.heap[q]?=w.heap[q]?:=fun q hq hn=>(r2.block q (by simp;omega) (fun e=>hn (by cases e;rfl))).trans (heap_alloc_old w _ hq)
 have lt8:∀ q,q<w.heap.size->q≠ob->q<w8.heap.size:=fun q hq hn=>by
  have e:=kp q hq hn;rw [Array.getElem?_eq_getElem hq] at e;exact (Array.getElem?_eq_some_iff.1 e).1
 refine ⟨by rw [List.length_append,List.length_append,h.len];rfl,fun i hi=>?_⟩
 by_cases e:i<K.length
 ·obtain ⟨b,c,h1,h2,h3,h4⟩:=h.row i e
  have eg:(K++[row]).getD i []=K.getD i []:=by
   rw [List.getD_eq_getElem?_getD,List.getElem?_append_left e,<-List.getD_eq_getElem?_getD]
  rw [eg];refine ⟨b,c,by rw [List.getElem?_append_left (by rw [h.len];exact e)];exact h1,?_,lt8 b h3 h2,h4.keep (lt8 b h3 h2) (kp b h3 h2)⟩
  rcases o8 with q | q
  ·rw [q];exact h2
  ·omega
 ·have ei:i=K.length:=by
   rw [List.length_append] at hi;simp at hi;omega
  subst ei;have eg:(K++[row]).getD K.length []=row:=by simp [List.getD]
  rw [eg];refine ⟨rb,rc,by rw [<-h.len];simp,?_,lt8 rb rl rn,ks.keep (lt8 rb rl rn) (kp rb rl rn)⟩
  rcases o8 with q | q
  ·rw [q];exact rn
  ·omega
theorem KI.kv {w:World} {base ob n oc:Nat} {vals:List Value} {K:List (List Int)} (h:KI w ob vals K) (o:w.ownsRow base 112 1 (.slice (some ⟨ob,0,none⟩) n oc) n vals) (hn:K.length=n):KV w (some ⟨ob,0,none⟩) K :=
 ⟨fun h0=>⟨ob,0,rfl,(o.lt ob rfl).2,fun i hi=>by
  obtain ⟨rb,rc,h1,_,_,h4⟩:=h.row i hi;refine ⟨some ⟨rb,0,none⟩,rc,?_,h4⟩;rw [Nat.zero_add,World.ownsRow.cellAt o i (by omega)]
  exact h1⟩⟩
theorem sizes_map {α β:Type} (f:α->β) (L:List (List α)):sizes (L.map (List.map f))=sizes L:=by
 unfold sizes;rw [List.map_map];congr 1;exact List.map_congr_left fun l _=>by simp
theorem sizes_froms {α:Type} (L:List (List α)) (d:α):sizes (froms L.length (fun i=>(L.getD i []).length) (fun _=>0))=sizes L:=by
 have:=congrArg sizes (froms_map L d)
 rwa [sizes_map] at this
theorem info_ks13:(prog.info? 112).map (fun i=>(i.zero,i.size,i.bytes))=some (some (.slice none 0 0),1,24):=by kernel_rfl
theorem orow13 {w w':World} {base e size n:Nat} {v:Value} {xs:List Value} (h:w.ownsRow base e size v n xs) (g:Gw w w'):w'.ownsRow base e size v n xs:=by
 refine ⟨h.1,?_⟩;rcases h.2 with q | ⟨b,cap,cur,rfl,hb,hh,r⟩
 ·exact .inl q
 ·exact .inr ⟨b,cap,cur,rfl,hb,(g.below.block b (Array.getElem?_eq_some_iff.1 hh).1).trans hh,r⟩
theorem new_v13 (w:World) (x:Value) (t:TypeId):∀ j u,[x][j]?=some u->(w.alloc (.cells #[x] t)).cell? ((⟨w.heap.size,0,none⟩:Addr).add j)=some u:=by
 intro j u hu;cases j with
 | zero =>
  simp only [List.getElem?_cons_zero,Option.some.injEq] at hu;subst hu;simp [Addr.add,go_sem]
 | succ j=>simp at hu
def keysL (L:List (List Ent)):List (List Int):=L.map (List.map Ent.k)
theorem keysL_len (L:List (List Ent)):(keysL L).length=L.length:=by simp [keysL]
theorem keysL_at (L:List (List Ent)) {i:Nat} (hi:i<L.length):(keysL L).getD i []=(L.getD i []).map Ent.k:=by simp [keysL,List.getD,hi]
theorem keysL_lenK (L:List (List Ent)):∀ i,i<L.length->lenK (keysL L) i=(L.getD i []).length:=fun i hi=>by unfold lenK;rw [keysL_at L hi];simp
theorem told_of {L:List (List Ent)} {P:List (Nat×Nat)} (h:Mg (keyP (keysL L)) (froms (keysL L).length (lenK (keysL L)) fun _=>0) P):Mg Ent.k L (P.map fun p=>(L.getD p.1 []).getD p.2 ent0):=by
 have e1:froms (keysL L).length (lenK (keysL L)) (fun _=>0)=froms L.length (fun i=>(L.getD i []).length) (fun _=>0):=by
  unfold froms;rw [keysL_len];refine List.map_congr_left fun i hi=>?_
  unfold frow;rw [keysL_lenK L i (List.mem_range.1 hi)]
 rw [e1] at h;have hk:∀ p:Nat×Nat,p.1<L.length/\p.2<(L.getD p.1 []).length->((L.getD p.1 []).getD p.2 ent0).k=keyP (keysL L) p:=fun p hp=>by
  unfold keyP;rw [keysL_at L hp.1];have h2:=hp.2;generalize L.getD p.1 []=l at h2 ⊢;simp [List.getD,h2]
 have:=h.map' (fun p=>(L.getD p.1 []).getD p.2 ent0) Ent.k (S:=fun p=>p.1<L.length/\p.2<(L.getD p.1 []).length) hk (fun l hl p hp=>by
  obtain ⟨i,hi,rfl⟩:=List.mem_map.1 hl;have hi':=List.mem_range.1 hi;obtain ⟨j,hj,rfl⟩:=List.mem_map.1 hp;rw [List.mem_range'_1] at hj;have h9:j<0+((L.getD i []).length-0):=hj.2;exact ⟨hi',by show j<(L.getD i []).length;omega⟩)
 rwa [froms_map] at this
theorem rentries13 (ao:Option Addr) (c:Nat) (L:List (List Ent)) (hl:L.length<=2000000) (hs:∀ i,i<L.length->(L.getD i []).length<=2000000) (hN:sizes L<=2000000) (w:World) (h:EV w ao L) :
  Calls prog 55 #[.slice ao L.length c] w fun e w'=>(∃ ob oc o,e=.returned (.slice (some ⟨ob,0,none⟩) o.length oc)/\EO w' w.heap.size (.slice (some ⟨ob,0,none⟩) o.length oc) o/\Mg Ent.k L o)/\Gw w w':=by
 have HE:Aside (EV w ao L):=h;have HS:Aside (∀ i,i<L.length->(L.getD i []).length<=2000000):=hs;have RM:Hid (∀ (W:World) (ko:Option Addr) (kc:Nat),KV W ko (keysL L)->Calls prog 105 #[.slice ko L.length kc] W fun e w'=>(∃ ob oc P,e=.returned (.slice (some ⟨ob,0,none⟩) P.length oc)/\PL13 w' (W.heap.size+1) (.slice (some ⟨ob,0,none⟩) P.length oc) P/\Mg Ent.k L (P.map fun p=>(L.getD p.1 []).getD p.2 ent0)/\(∀ p∈P,p.1<L.length/\p.2<(L.getD p.1 []).length)/\P.length<=2000000)/\Gw W w'):=fun W ko kc hk=>by
  have e:=keysL_len L;have e1:sizes (froms (keysL L).length (lenK (keysL L)) fun _=>0)<=2000000:=by
   have:=sizes_froms (keysL L) 0
   have q:sizes (keysL L)=sizes L:=sizes_map Ent.k L;have:sizes (froms (keysL L).length (lenK (keysL L)) fun _=>0)=sizes (keysL L):=this
   omega
  have:=rmerge13 ko kc (keysL L) (by omega) (fun i hi=>by rw [keysL_lenK L i (by omega)];exact hs i (by omega)) e1 W hk
  rw [e] at this;refine this.mono fun e' w' ⟨⟨ob,oc,P,a1,a2,a3,a4⟩,g⟩=>⟨⟨ob,oc,P,a1,a2,?_,fun p hp=>?_,?_⟩,g⟩
  ·rw [<-e] at a3
   exact told_of a3
  ·obtain ⟨x,y⟩:=a4 p hp
   exact ⟨x,by rw [keysL_lenK L _ x] at y;exact y⟩
  ·have:=a3.few
   rw [e] at e1;omega
 obtain ⟨ln,hln⟩:∃ ln,L.length=ln:=⟨_,rfl⟩;have LN:Aside (L.length=ln):=hln;rw [hln] at hl RM HS ⊢;clear h hs hln hN;obtain ⟨jj,hjj,jz,js,jby⟩:=info_parts info_ks13;obtain ⟨kk,hkk,kz,ks',kby⟩:=info_parts info_k;obtain ⟨ii,hii,hz,hs',hby⟩:=info_parts info_e;have R1:Aside ((w.alloc (.cells #[] 112)).ownsRow w.heap.size 112 1 (.slice (some ⟨w.heap.size,0,none⟩) 0 0) 0 []):=World.ownsRow_made w #[] 0 (Nat.le_refl _) (Nat.zero_le _) rfl;have K1:Aside (KI (w.alloc (.cells #[] 112)) w.heap.size [] ((keysL L).take 0)):=⟨by simp,fun i hi=>by simp at hi⟩
 have G1:Aside (Gw w (w.alloc (.cells #[] 112))):=(Gw.refl w).alloc _ _;go_enter func55,ntmps55;go_wp2_with fail;generalize w.alloc (.cells #[] 112)=w1 at R1 K1 G1 ⊢;go_loopg [3,4] ln (fun gg s3 s4 wr=>∃ (i ob oc:Nat) (vals:List Value),s3=.slice (some ⟨ob,0,none⟩) i oc/\s4=.int .i64 (i:Int)/\i<=ln/\ln-i<=gg/\Aside (wr.ownsRow w.heap.size 112 1 (.slice (some ⟨ob,0,none⟩) i oc) i vals)/\Aside (KI wr ob vals ((keysL L).take i))/\Aside (Gw w wr))
 case atStart=>exact ⟨0,w.heap.size,0,[],rfl,rfl,Nat.zero_le _,by omega,R1,K1,G1⟩
 case round =>
  clear R1 K1 G1;obtain ⟨i,ob,oc,vals,rfl,rfl,a1,a2,R,KK,G⟩:=hrel;by_cases ilt:i<ln
  ·have ilt':(i:Int)<(ln:Int):=by omega
   obtain ⟨wS,hwS⟩:∃ wx,wx=wr:=⟨_,rfl⟩;subst hwS;have TK:Aside ((keysL L).take (i+1)=(keysL L).take i++[(L.getD i []).map Ent.k]):=by
    show _=_;have hi:i<(keysL L).length:=by rw [keysL_len,LN.out];exact ilt
    rw [<-keysL_at L (by rw [LN.out];exact ilt),List.take_add_one,List.getElem?_eq_getElem hi,List.getD_eq_getElem?_getD,List.getElem?_eq_getElem hi]
    rfl
   have lb1:=HS.out i ilt;obtain ⟨l,hl'⟩:∃ l,L.getD i []=l:=⟨_,rfl⟩;have HL:Aside (L.getD i []=l):=hl';rw [hl'] at TK lb1;obtain ⟨n,hn⟩:∃ n,l.length=n:=⟨_,rfl⟩;have LL:Aside (l.length=n):=hn;rw [hn] at lb1;clear hl' hn;have Q2:Aside ((wS.alloc (.cells #[] 34)).ownsRow wS.heap.size 34 1 (.slice (some ⟨wS.heap.size,0,none⟩) 0 0) 0 ((List.range 0).map fun j=>Value.int .u64 (l.getD j ent0).k)):=World.ownsRow_made wS #[] 0 (Nat.le_refl _) (Nat.zero_le _) rfl
   have G2:Aside (Gw wS (wS.alloc (.cells #[] 34))):=(Gw.refl wS).alloc _ _;go_wp2_with fail;generalize wS.alloc (.cells #[] 34)=w2 at Q2 G2 ⊢;obtain ⟨rb0,hrb⟩:∃ x,wS.heap.size=x:=⟨_,rfl⟩;have RB:Aside (wS.heap.size=rb0):=hrb;rw [hrb] at Q2 ⊢;clear hrb;go_loopg [5,6] n (fun gg s5 s6 wr=>∃ (j rb rc:Nat),s5=.slice (some ⟨rb,0,none⟩) j rc/\s6=.int .i64 (j:Int)/\j<=n/\n-j<=gg/\Aside (rb0<=rb)/\Aside (wr.ownsRow rb0 34 1 (.slice (some ⟨rb,0,none⟩) j rc) j ((List.range j).map fun t=>Value.int .u64 (l.getD t ent0).k))/\Aside (Gw wS wr))
   case atStart=>exact ⟨0,rb0,0,rfl,rfl,Nat.zero_le _,by omega,(show Aside _ from Nat.le_refl _),Q2,G2⟩
   case round =>
    clear Q2 G2;obtain ⟨j,rb,rc,rfl,rfl,b1,b2,RBB,Q,GG⟩:=hrel;obtain ⟨lb,loff,rfl,hlb,hlc⟩:=((HE.out.gw G.out).gw GG.out).cells (by rw [LN.out];omega)
    obtain ⟨eo,ec,p1,p2,p3,_⟩:=hlc i (by rw [LN.out];exact ilt)
    rw [HL.out,LL.out] at p1 p2;rw [HL.out] at p3;have E3:Aside (EL wr eo l):=p3;clear hlc p3;by_cases jlt:j<n
    ·have jlt':(j:Int)<(n:Int):=by omega
     obtain ⟨eb,eoff,rfl,heb,hec⟩:=E3.out.cells (by rw [LL.out];omega)
     have kc:=(hec j (by rw [LL.out];exact jlt)).1
     obtain ⟨xk,hxk⟩:∃ x,(l.getD j ent0).k=x:=⟨_,rfl⟩;have XK:Aside ((l.getD j ent0).k=xk):=hxk;have kc':wr.cell? ⟨eb,eoff+j*3,none⟩=some (.int .u64 xk):=by rw [<-hxk];exact kc
     have wz:=GG.out.size;have rbe:=RB.out;clear hec hxk kc;go_wp2_with (at_builtin;refine wpList_append_own _ rfl _ _ 112 rfl rb0 34 kk (.int .u64 0) 1 8 underlying112 hkk kz ks' kby rfl (by decide) _ j _ rfl (Q.out.alloc _) ⟨wr.heap.size,0,none⟩ 1 1 [.int .u64 xk] rfl rfl (new_one wr xk) (ints_oneCell .u64 [xk]) (by simp only [maxLen];omega) (by omega) (by simp;omega) ?_)
     intro v' w5 r1 r2 r3;obtain ⟨b5,cap5,rfl,hb5,_,_⟩:=own_slice r1 (by simpa using r3)
     have Q5:Aside (w5.ownsRow rb0 34 1 (.slice (some ⟨b5,0,none⟩) (j+1) cap5) (j+1) ((List.range (j+1)).map fun t=>Value.int .u64 (l.getD t ent0).k)):=by
      have:=r1
      rw [<-XK.out] at this;rw [List.range_succ,List.map_append];exact this
     have G5:Aside (Gw wS w5):=(GG.out.alloc _ _).grown r2 (fun q hq=>by have:=(World.ownsRow.lt Q.out q hq).1;have:=RB.out;omega)
     have B5:Aside (rb0<=b5):=hb5;clear r1 r2 r3 Q GG RBB kc' heb hb5 XK E3 p1 hlb;go_wp2_with fail;go_roundg (n-(j+1))
     case measure=>omega
     case rel=>exact ⟨j+1,b5,cap5,rfl,by go_num,by omega,Nat.le_refl _,B5,Q5,G5⟩
    ·have ej:j=n:=by omega
     subst ej;have KR:Aside (KS wr (some ⟨rb,0,none⟩) (l.map Ent.k).length (fun t=>(l.map Ent.k).getD t 0)):=by
      have e:(l.map Ent.k).length=j:=by rw [List.length_map,LL.out]
      rw [e];refine ks_own Q.out (Nat.le_refl _) (fun t ht=>?_) (fun t ht=>?_)
      ·have:(l.map Ent.k).getD t 0=(l.getD t ent0).k:=by
        have ht':t<l.length:=by rw [LL.out];exact ht
        simp [List.getD,ht']
       rw [this];simp [ht]
      ·have ht':t<l.length:=by rw [LL.out];exact ht
       have:(l.map Ent.k).getD t 0=(l.getD t ent0).k:=by simp [List.getD,ht']
       rw [this];exact (E3.out.ok ht').1
     have obl:=(R.out.lt ob rfl).2;have rbl:=(World.ownsRow.lt Q.out rb rfl).2;have rbo:rb≠ob:=by have:=RBB.out;have:=RB.out;omega
     have R4:Aside (wr.ownsRow w.heap.size 112 1 (.slice (some ⟨ob,0,none⟩) i oc) i vals):=orow13 R.out GG.out;have K4:Aside (KI wr ob vals ((keysL L).take i)):=KK.out.gw GG.out;have G4:Aside (Gw w wr):=G.out.trans GG.out;have wz:=G4.out.size;clear Q E3 R KK RBB p2;go_wp2_with (at_builtin;refine wpList_append_own_at _ rfl _ _ 163 rfl w.heap.size 112 jj (.slice none 0 0) 1 24 underlying163 hjj jz js jby rfl (by decide) _ i _ rfl (R4.out.alloc _) ⟨wr.heap.size,0,none⟩ 1 1 [(.slice (some ⟨rb,0,none⟩) j rc)] rfl rfl (new_v13 wr (.slice (some ⟨rb,0,none⟩) j rc) 112) (fun u hu=>by simp at hu;subst hu;rfl) (by simp only [maxLen];omega) (by omega) (by simp;omega) ?_)
     intro v' w8 r1 r2 r3 r4;obtain ⟨b8,cap8,rfl,hb8,_,_⟩:=own_slice r1 (by simpa using r3)
     have ob8:b8=ob\/wr.heap.size<=b8:=by
      rcases r4 with q | q
      ·have q':b8=ob:=by simpa [Value.ownBlock] using q
       exact .inl q'
      ·have q':b8=wr.heap.size+1:=by simpa [Value.ownBlock] using q
       exact .inr (by omega)
     have r2':(wr.alloc (.cells #[(.slice (some ⟨rb,0,none⟩) j rc)] 112)).grownBy w8 (some ob):=r2;have K8:Aside (KI w8 b8 (vals++[(.slice (some ⟨rb,0,none⟩) j rc)]) ((keysL L).take (i+1))):=by
      rw [TK.out];have:=K4.out.more (rc:=rc) r2' ob8 rbo rbl KR.out;rw [List.length_map,LL.out] at this;exact this
     have G8:Aside (Gw w w8):=(G4.out.alloc _ _).grown r2 (fun q hq=>(World.ownsRow.lt R4.out q hq).1)
     have R8:Aside (w8.ownsRow w.heap.size 112 1 (.slice (some ⟨b8,0,none⟩) (i+1) cap8) (i+1) (vals++[(.slice (some ⟨rb,0,none⟩) j rc)])):=r1;clear r1 r2 r3 r4 r2' hb8 R4 K4 G4 KR;go_wp2_with fail;go_roundg (ln-(i+1))
     case measure=>omega
     case rel=>exact ⟨i+1,b8,cap8,_,rfl,by go_num,by omega,Nat.le_refl _,R8,K8,G8⟩
  ·have ei:i=ln:=by omega
   subst ei;have KV1:Aside (KV wr (some ⟨ob,0,none⟩) (keysL L)):=by
    have t:(keysL L).take i=keysL L:=List.take_of_length_le (by rw [keysL_len,LN.out];exact Nat.le_refl _)
    have:=KK.out
    rw [t] at this;exact this.kv R.out (by rw [keysL_len,LN.out])
   clear R KK;go_wp2_with fail;refine Calls.mono (RM.out _ _ _ KV1.out) ?_;rintro e w3 ⟨⟨tb,tc,P,rfl,pl,mg,pb,pn⟩,g3⟩;have MGG:Aside (Mg Ent.k L (P.map fun p=>(L.getD p.1 []).getD p.2 ent0)):=mg
   have PB:Aside (∀ p∈P,p.1<i/\p.2<(L.getD p.1 []).length):=pb;have P3:Aside (PL13 w3 (wr.heap.size+1) (.slice (some ⟨tb,0,none⟩) P.length tc) P):=pl;have G3:Aside (Gw w w3):=G.out.trans g3;obtain ⟨pm,hpm⟩:∃ pm,P.length=pm:=⟨_,rfl⟩;have PM:Aside (P.length=pm):=hpm;rw [hpm] at pn ⊢;clear hpm pl mg pb g3 G KV1 RM;have E4:Aside (EO (w3.alloc (.cells #[] 40)) w3.heap.size (.slice (some ⟨w3.heap.size,0,none⟩) 0 0) ((P.take 0).map fun p=>(L.getD p.1 []).getD p.2 ent0)):=eo_new w3 _ (Nat.le_refl _)
   have G4:Aside (Gw w3 (w3.alloc (.cells #[] 40))):=(Gw.refl w3).alloc _ _;go_wp2_with fail;generalize w3.alloc (.cells #[] 40)=w4 at E4 G4 ⊢;go_loopg [8,9] pm (fun gg s8 s9 wr=>∃ (j ob oc:Nat),s8=.slice (some ⟨ob,0,none⟩) j oc/\s9=.int .i64 (j:Int)/\j<=pm/\pm-j<=gg/\Aside (EO wr w3.heap.size (.slice (some ⟨ob,0,none⟩) j oc) ((P.take j).map fun p=>(L.getD p.1 []).getD p.2 ent0))/\Aside (Gw w3 wr))
   case atStart=>exact ⟨0,w3.heap.size,0,rfl,rfl,Nat.zero_le _,by omega,E4,G4⟩
   case round =>
    clear E4 G4;obtain ⟨j,ob,oc,rfl,rfl,b1,b2,E,GG⟩:=hrel;by_cases jlt:j<pm
    ·have jlt':(j:Int)<(pm:Int):=by omega
     have tbl:tb<w3.heap.size:=(World.ownsRow.lt P3.out tb rfl).2;obtain ⟨t0,t1⟩:=pl_cells13 (pl_gw P3.out GG.out) (i:=j) (by rw [PM.out];exact jlt)
     have tbr:tb<wr.heap.size:=Nat.lt_of_lt_of_le tbl GG.out.size;obtain ⟨q1,q2⟩:=PB.out (P.getD j (0,0)) (by rw [List.getD_eq_getElem?_getD,List.getElem?_eq_getElem (by rw [PM.out];exact jlt)];exact List.getElem_mem _)
     have TK:Aside ((P.take (j+1)).map (fun p=>(L.getD p.1 []).getD p.2 ent0)=(P.take j).map (fun p=>(L.getD p.1 []).getD p.2 ent0)++[(L.getD (P.getD j (0,0)).1 []).getD (P.getD j (0,0)).2 ent0]):=by
      show _=_;have hj:j<P.length:=by rw [PM.out];exact jlt
      have e:P.getD j (0,0)=P[j]:=by simp [List.getD,hj]
      rw [e,List.take_add_one,List.getElem?_eq_getElem hj,List.map_append];rfl
     obtain ⟨⟨u,x⟩,hux⟩:∃ p,P.getD j (0,0)=p:=⟨_,rfl⟩;rw [hux] at t0 t1 q1 q2 TK;have t0':wr.cell? ⟨tb,j*2,none⟩=some (.int .i64 (u:Int)):=t0;have t1':wr.cell? ⟨tb,j*2+1,none⟩=some (.int .i64 (x:Int)):=t1;have q1':u<i:=q1;have q2':x<(L.getD u []).length:=q2;have ul':(u:Int)<(i:Int):=by omega
     clear t0 t1 q1 q2 hux;have HSu:=HS.out u q1';obtain ⟨lb,loff,rfl,hlb,hlc⟩:=((HE.out.gw G3.out).gw GG.out).cells (by rw [LN.out];omega)
     obtain ⟨eo,ec,p1,p2,p3,_⟩:=hlc u (by rw [LN.out];exact q1')
     obtain ⟨n,hn⟩:∃ n,(L.getD u []).length=n:=⟨_,rfl⟩;obtain ⟨eb,eoff,rfl,heb,hec⟩:=p3.cells (by omega)
     obtain ⟨c0,c1,c2⟩:=hec x q2';have TK':Aside ((P.take (j+1)).map (fun p=>(L.getD p.1 []).getD p.2 ent0)=(P.take j).map (fun p=>(L.getD p.1 []).getD p.2 ent0)++[(L.getD u []).getD x ent0]):=TK
     rw [hn] at p1 p2 q2' HSu;obtain ⟨y,hy⟩:∃ y,(L.getD u []).getD x ent0=y:=⟨_,rfl⟩;rw [hy] at c0 c1 c2 TK';obtain ⟨xk,xv,xg⟩:=y;have d0:wr.cell? ⟨eb,eoff+x*3,none⟩=some (.int .u64 xk):=c0;have d1:wr.cell? ⟨eb,eoff+x*3+1,none⟩=some (.int .u64 xv):=c1;have d2:wr.cell? ⟨eb,eoff+x*3+2,none⟩=some (.bool xg):=c2;have xl':(x:Int)<(n:Int):=by omega
     have lbl3:lb<w3.heap.size:=by
      obtain ⟨_,_,e,h3,_⟩:=(HE.out.gw G3.out).cells (by rw [LN.out];omega)
      cases e
      exact h3
     have ebl3:eb<w3.heap.size:=by
      obtain ⟨_,_,e,_,h3⟩:=(HE.out.gw G3.out).cells (by rw [LN.out];omega)
      cases e
      obtain ⟨eo',ec',p1',_,p3',_⟩:=h3 u (by rw [LN.out];exact q1')
      have p1'':=(GG.out.cell _ _ lbl3).trans p1';rw [p1] at p1'';cases p1'';obtain ⟨_,_,e,h4,_⟩:=p3'.cells (by omega)
      cases e
      exact h4
     clear hlc hec c0 c1 c2 hy TK p3 hn p2;obtain ⟨w5,hw5⟩:∃ wx,wx=wr:=⟨_,rfl⟩;subst hw5;have obg:w3.heap.size<=ob:=(World.ownsRow.lt E.out ob rfl).1;have HX:Hid (∀ w':World,(∀ q,q<w5.heap.size->q≠ob->w'.heap[q]?=w5.heap[q]?)->(∀ q,q<w5.heap.size->q≠ob->w'.heap[q]?=w5.heap[q]?)/\w'.cell? ⟨tb,j*2,none⟩=some (.int .i64 (u:Int))/\w'.cell? ⟨tb,j*2+1,none⟩=some (.int .i64 (x:Int))/\w'.cell? ⟨lb,loff+u,none⟩=some (.slice (some ⟨eb,eoff,none⟩) n ec)/\w'.cell? ⟨eb,eoff+x*3,none⟩=some (.int .u64 xk)/\w'.cell? ⟨eb,eoff+x*3+1,none⟩=some (.int .u64 xv)/\w'.cell? ⟨eb,eoff+x*3+2,none⟩=some (.bool xg)):=fun w' h=>by
      have ce:∀ b o,b<w5.heap.size->b≠ob->w'.cell? ⟨b,o,none⟩=w5.cell? ⟨b,o,none⟩:=fun b o hb hn=>by simp [World.cell?,h b hb hn]
      exact ⟨h,(ce _ _ tbr (by omega)).trans t0',(ce _ _ tbr (by omega)).trans t1',(ce _ _ hlb (by omega)).trans p1,(ce _ _ heb (by omega)).trans d0,(ce _ _ heb (by omega)).trans d1,(ce _ _ heb (by omega)).trans d2⟩
     have H0:Hid (∀ q,q<w5.heap.size->q≠ob->w5.heap[q]?=w5.heap[q]?):=fun _ _ _=>rfl
     have EOW:Aside ((w5.alloc (.cells #[.int .u64 xk,.int .u64 xv,.bool xg] 40)).drew.ownsRow w3.heap.size 40 3 (.slice (some ⟨ob,0,none⟩) j oc) j (((P.take j).map fun p=>(L.getD p.1 []).getD p.2 ent0).flatMap ent3)):=by
      have:=E.out
      unfold EO at this;rw [List.length_map,List.length_take,PM.out,Nat.min_eq_left (by omega)] at this
      exact World.ownsRow.alloc this _
     have NS:Aside (∀ j u,(ent3 ⟨xk,xv,xg⟩)[j]?=some u->(w5.alloc (.cells #[.int .u64 xk,.int .u64 xv,.bool xg] 40)).drew.cell? ((⟨w5.heap.size,0,none⟩:Addr).add j)=some u):=new_ent w5 ⟨xk,xv,xg⟩;have gsz:=GG.out.size;have GV:Aside (Gw w3 w5):=GG;have LJ:Aside (((P.take j).map fun p=>(L.getD p.1 []).getD p.2 ent0).length=j):=by show _=_;rw [List.length_map,List.length_take,PM.out,Nat.min_eq_left (by omega)]
     clear t0' t1' p1 d0 d1 d2;go_wp2_with fail;go_region_held3 (fun w'=>(∀ q,q<w5.heap.size->q≠ob->w'.heap[q]?=w5.heap[q]?)/\w'.cell? ⟨tb,j*2,none⟩=some (.int .i64 (u:Int))/\w'.cell? ⟨tb,j*2+1,none⟩=some (.int .i64 (x:Int))/\w'.cell? ⟨lb,loff+u,none⟩=some (.slice (some ⟨eb,eoff,none⟩) n ec)/\w'.cell? ⟨eb,eoff+x*3,none⟩=some (.int .u64 xk)/\w'.cell? ⟨eb,eoff+x*3+1,none⟩=some (.int .u64 xv)/\w'.cell? ⟨eb,eoff+x*3+2,none⟩=some (.bool xg))
      ((refine HX.out _ ?_;(first | exact And.left (by assumption) | exact Hid.out (by assumption) | (intro q hq hn;rfl) | (intro q hq hn;exact heap_alloc_old _ _ hq));done))
      (first | (refine step_append_any _ rfl (.tmp 51) (.tmp 67) 35 rfl w3.heap.size 40 ii _ 3 24 underlying35 hii hz hs' hby rfl (by decide) ob j oc (((P.take j).map fun p=>(L.getD p.1 []).getD p.2 ent0).flatMap ent3) (by simp [Act.eval]) EOW.out (some ⟨w5.heap.size,0,none⟩) 1 1 (ent3 ⟨xk,xv,xg⟩) (by simp [Act.eval]) (fun q=>by cases q) rfl (fun ad e'=>(by cases e';exact NS.out)) (ent3_one _) (by simp only [maxLen];omega) (by omega) (by simp<;>omega) ?_;intro b7 cap7 w7 r1 r2 r3 r4;have X7:Hid (∀ q,q<w5.heap.size->q≠ob->w7.heap[q]?=w5.heap[q]?):=(fun q hq hn=>(r2.block q (by simp;omega) (fun e=>hn (by cases e;rfl))).trans (heap_alloc_old _ _ hq));have Q7:Hid (Gw w3 w7/\EO w7 w3.heap.size (.slice (some ⟨b7,0,none⟩) (j+1) cap7) ((P.take (j+1)).map fun p=>(L.getD p.1 []).getD p.2 ent0)):=⟨(GV.out.alloc _ _).drew.grown r2 (fun k' hk=>by have e:ob=k':=(by simpa using hk);omega),(by rw [TK'.out];exact eo_more (by rw [LJ.out];exact r1))⟩;clear r1 r2 r3))
     all_goals go_wp2_with fail
     all_goals go_roundg (pm-(j+1))
     all_goals first
      | (case measure=>omega)
      | (case rel=>exact ⟨j+1,b7,cap7,rfl,by go_num,by omega,Nat.le_refl _,(show Aside _ from Q7.out.2),(show Aside _ from Q7.out.1)⟩)
    ·have ej:j=pm:=by omega
     subst ej;have TT:P.take j=P:=List.take_of_length_le (by rw [PM.out];exact Nat.le_refl _)
     rw [TT] at E;have EL5:((P.map fun p=>(L.getD p.1 []).getD p.2 ent0)).length=j:=by rw [List.length_map,PM.out]
     have E5:Aside (EO wr w.heap.size (.slice (some ⟨ob,0,none⟩) (P.map fun p=>(L.getD p.1 []).getD p.2 ent0).length oc) (P.map fun p=>(L.getD p.1 []).getD p.2 ent0)):=by
      rw [EL5];exact eo_base E.out G3.out.size
     have EL6:Aside ((P.map fun p=>(L.getD p.1 []).getD p.2 ent0).length=j):=EL5
     clear E TT EL5;go_wp2_with fail;refine bodyPost_ret (v:=.slice (some ⟨ob,0,none⟩) j oc) (by simp [results,results55,go_sem]) rfl ⟨⟨ob,oc,_,by rw [EL6.out],E5.out,MGG.out⟩,G3.out.trans GG.out⟩
def keepP (p:Int->Bool) (e:Ent):Bool:=!e.g||p e.k
theorem Mg.oks {L:List (List Ent)} {o:List Ent} (h:Mg Ent.k L o) (ok:∀ l∈L,∀ e∈l,e.ok):∀ e∈o,e.ok:=by
 induction h using Mg.ind with
 | done _=>intro e he;cases he
 | @step ls x out e r ih =>
  obtain ⟨a,l,b,el,_,_⟩:=least_some e;intro y hy;rcases List.mem_cons.1 hy with rfl | q
  ·exact ok (y::l) (by rw [el];simp) y (List.mem_cons_self ..)
  ·refine ih (fun l' hl' z hz=>?_) y q
   obtain ⟨l0,hl0,rfl⟩:=List.mem_map.1 hl';exact ok l0 hl0 z (pass_mem hz)
theorem EV.oks {w:World} {ao:Option Addr} {L:List (List Ent)} (h:EV w ao L):∀ l∈L,∀ e∈l,e.ok:=by
 intro l hl;obtain ⟨i,hi,rfl⟩:=List.mem_iff_getElem.1 hl;obtain ⟨_,_,_,_,hc⟩:=h.cells (by omega)
 obtain ⟨bo,c,_,_,h3,_⟩:=hc i hi;have e:L.getD i []=L[i]:=by simp [List.getD,hi]
 rw [e] at h3;exact h3.all
theorem rows_le {L:List (List Ent)} {i:Nat} (hi:i<L.length):(L.getD i []).length<=sizes L:=by
 have e:L.getD i []=L[i]:=by simp [List.getD,hi]
 rw [e];have:∀ (L:List (List Ent)) (l:List Ent),l∈L->l.length<=sizes L:=by
  intro L;induction L with
  | nil=>intro l hl;cases hl
  | cons a L ih =>
   intro l hl;rw [sizes_cons];rcases List.mem_cons.1 hl with rfl | q
   ·omega
   ·have:=ih l q;omega
 exact this _ _ (List.getElem_mem hi)
structure Rn where
 p:Nat
 S:Nat->Prop
 eps:Int
 l:List Ent
 L:List (List Sg)
def ek (l:List Ent) (i:Nat):Int:=(l.getD i ent0).k
def ev (l:List Ent) (i:Nat):Int:=(l.getD i ent0).v
def eg (l:List Ent) (i:Nat):Bool:=(l.getD i ent0).g
def EOk (l:List Ent):Prop:=ChkR (ek l) (ev l) (eg l) l.length 0
theorem getD_lt {l:List Ent} {i:Nat} (hi:i<l.length):l.getD i ent0=l[i]:=by simp [List.getD,hi]
theorem EOk.iff {l:List Ent}:EOk l↔Rise Ent.k l/\∀ e∈l,¬ (e.g=true/\e.v≠0):=by
 unfold EOk;rw [show ChkR (ek l) (ev l) (eg l) l.length 0↔_ from ⟨fun h=>(ChkR.zero h).1 rfl,fun h=>ChkR.ok h.1 h.2⟩]
 refine and_congr rise_up.symm ⟨fun h e he=>?_,fun h j hj=>?_⟩
 ·obtain ⟨i,hi,rfl⟩:=List.mem_iff_getElem.1 he
  have:=h i hi
  unfold eg ev at this;rwa [getD_lt hi] at this
 ·unfold eg ev
  rw [getD_lt hj];exact h _ (List.getElem_mem hj)
theorem EOk.rise {l:List Ent} (h:EOk l):Rise Ent.k l:=(EOk.iff.1 h).1
theorem EOk.up {l:List Ent} (h:EOk l):Up (ek l) l.length:=rise_up.1 h.rise
theorem look_mem {l:List Ent} (h:Rise Ent.k l) {e:Ent} (he:e∈l):look Ent.k e.k l=some e:=by
 induction l with
 | nil=>cases he
 | cons z o ih =>
  obtain ⟨z1,z2⟩:=List.pairwise_cons.1 h;rw [look_cons];rcases List.mem_cons.1 he with rfl | q
  ·rw [if_pos rfl]
  ·have:=z1 e q
   rw [if_neg (by omega)]
   exact ih z2 q
theorem look_in {l:List Ent} {q:Int} {e:Ent} (h:look Ent.k q l=some e):e∈l/\e.k=q:=⟨List.mem_of_find?_eq_some h,look_key h⟩
def lookV (o:Option Ent):Value×Bool:=match o with
 | some e=>(entV e.k e.v e.g,true)
 | none=>(entV 0 0 false,false)
theorem getV_look {l:List Ent} (h:Rise Ent.k l) (q:Int):getV (ek l) (ev l) (eg l) l.length q=lookV (look Ent.k q l):=by
 have u:Up (ek l) l.length:=rise_up.1 h;unfold getV;cases hl:look Ent.k q l with
 | some e =>
  obtain ⟨he,hk⟩:=look_in hl;obtain ⟨i,hi,ei⟩:=List.mem_iff_getElem.1 he;have k1:ek l i=q:=by unfold ek;rw [getD_lt hi,ei,hk]
  have c:cntb (ek l) q l.length=i:=by rw [<-k1];exact cntb_key u hi
  rw [c,if_pos ⟨hi,k1⟩];unfold ek ev eg lookV;rw [getD_lt hi,ei]
 | none =>
  rw [if_neg]
  ·rfl
  ·rintro ⟨a,b⟩
   have hm:=List.getElem_mem a;have:=look_mem h hm;rw [show (l[cntb (ek l) q l.length]).k=q from by rw [<-getD_lt a];exact b] at this
   rw [this] at hl;cases hl
def ptr (o:Option Rn):Value:=match o with
 | some r=>.pointer (some ⟨r.p,0,none⟩)
 | none=>.pointer none
def lists (rs:List (Option Rn)):List (List Ent):=rs.filterMap (Option.map Rn.l)
theorem lists_some (r:Rn) (rs:List (Option Rn)):lists (some r::rs)=r.l::lists rs:=rfl
theorem lists_app (a b:List (Option Rn)):lists (a++b)=lists a++lists b:=List.filterMap_append
def tot (rs:List (Option Rn)):Nat:=sizes (lists rs)
theorem tot_none (rs:List (Option Rn)):tot (none::rs)=tot rs:=rfl
theorem tot_some (r:Rn) (rs:List (Option Rn)):tot (some r::rs)=r.l.length+tot rs:=by unfold tot;rw [lists_some,sizes_cons]
theorem tot_app (a b:List (Option Rn)):tot (a++b)=tot a+tot b:=by unfold tot;rw [lists_app,sizes_app]
theorem tot_take (rs:List (Option Rn)) (j:Nat):tot (rs.take j)+tot (rs.drop j)=tot rs:=by rw [<-tot_app,List.take_append_drop]
theorem lists_mem {rs:List (Option Rn)} {l:List Ent} (h:l∈lists rs):∃ r,some r∈rs/\r.l=l:=by
 obtain ⟨o,ho,e⟩:=List.mem_filterMap.1 h;cases o with
 | none=>cases e
 | some r=>exact ⟨r,ho,Option.some.inj e⟩
def nw (q:Int) (rs:List (Option Rn)):Option Ent:=firstOf Ent.k q (lists rs)
theorem nw_none (q:Int) (rs:List (Option Rn)):nw q (none::rs)=nw q rs:=rfl
theorem nw_some (q:Int) (r:Rn) (rs:List (Option Rn)):nw q (some r::rs)=(look Ent.k q r.l).or (nw q rs):=by
 unfold nw;rw [lists_some];simp only [firstOf];cases look Ent.k q r.l<;>rfl
def liveO (o:Option Ent):Bool:=match o with
 | some e=>!e.g
 | none=>false
def liveQ (rs:List (Option Rn)) (q:Int):Bool:=liveO (nw q rs)
def free:List (Option Rn)->Nat
 | []=>0
 | none::_=>0
 | some _::rs=>free rs+1
theorem free_at {rs:List (Option Rn)} {i:Nat} (h:∀ j,j<i->∃ r,rs[j]?=some (some r)) (hn:rs[i]?=some none\/rs.length=i):free rs=i:=by
 induction rs generalizing i with
 | nil =>
  rcases hn with q | q
  ·simp at q
  ·simpa [free] using q
 | cons o rs ih =>
  cases i with
  | zero =>
   rcases hn with q | q
   ·simp at q;subst q;rfl
   ·simp at q
  | succ i =>
   obtain ⟨r,hr⟩:=h 0 (by omega)
   simp at hr;subst hr;simp only [free];rw [ih (i:=i) (fun j hj=>by simpa using h (j+1) (by omega)) (by simpa using hn)]
theorem free_none {rs:List (Option Rn)} (h:free rs<rs.length):rs[free rs]?=some none:=by
 induction rs with
 | nil=>simp at h
 | cons o rs ih =>
  cases o with
  | none=>rfl
  | some x=>simp only [free,List.length_cons] at h ⊢;simpa using ih (by omega)
def freeC (rs:List (Option Rn)):Nat:=min (free rs) 39
structure TakeR (rs:List (Option Rn)) (l:List Ent) (o kept:List Ent):Prop where
 mg:Mg Ent.k (l::lists (rs.take (freeC rs+1))) o
 kp:kept=o.filter (keepP (liveQ (rs.drop (freeC rs+1))))
theorem TakeR.one {rs:List (Option Rn)} {l o o' k k':List Ent} (h:TakeR rs l o k) (h':TakeR rs l o' k'):k=k':=by
 rw [h.kp,h'.kp,h.mg.one h'.mg]
def took (rs:List (Option Rn)) (l:List Ent):Nat:=l.length+tot (rs.take (freeC rs+1))
def laid (rs:List (Option Rn)) (r:Option Rn):List (Option Rn):=List.replicate (freeC rs) none++r::rs.drop (freeC rs+1)
section
variable {rs:List (Option Rn)} {l o kept:List Ent}
theorem TakeR.facts (h:TakeR rs l o kept) (hl:EOk l) (hr:∀ r,some r∈rs->EOk r.l):EOk o/\EOk kept:=by
 have ha:∀ m∈l::lists (rs.take (freeC rs+1)),EOk m:=fun m hm=>by
  rcases List.mem_cons.1 hm with rfl | q
  ·exact hl
  ·obtain ⟨r,h1,rfl⟩:=lists_mem q
   exact hr r (List.mem_of_mem_take h1)
 obtain ⟨r1,r2⟩:=h.mg.once (fun m hm=>(ha m hm).rise)
 have ho:EOk o:=EOk.iff.2 ⟨r1,fun e he=>by
  have q:=look_mem r1 he;rw [r2] at q;have:∀ ls:List (List Ent),(∀ m∈ls,EOk m)->firstOf Ent.k e.k ls=some e->¬ (e.g=true/\e.v≠0):=by
   intro ls;induction ls with
   | nil=>intro _ h;cases h
   | cons m ls ih =>
    intro hm hf;simp only [firstOf] at hf;cases hk:look Ent.k e.k m with
    | some x =>
     rw [hk] at hf;cases hf;exact (EOk.iff.1 (hm m (List.mem_cons_self ..))).2 e (look_in hk).1
    | none =>
     rw [hk] at hf;exact ih (fun m h=>hm m (List.mem_cons_of_mem _ h)) hf
  exact this _ ha q⟩
 refine ⟨ho,?_⟩;rw [h.kp];exact EOk.iff.2 ⟨ho.rise.filter _,fun e he=>(EOk.iff.1 ho).2 e (List.mem_filter.1 he).1⟩
theorem TakeR.few (h:TakeR rs l o kept):kept.length<=took rs l/\o.length<=took rs l:=by
 have a:=h.mg.few;rw [sizes_cons] at a;have b:kept.length<=o.length:=by rw [h.kp];exact List.length_filter_le ..
 unfold took tot;omega
end
end Go.Proofs.YteflpamjgaeaiaaGreat
