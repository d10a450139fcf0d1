/- The document's Build of layer 8. -/
import Derived.Maps.AppendAt
import Derived.Test.YtklkpldicbkjeaaGreatVPE3
set_option linter.unusedVariables false
set_option maxHeartbeats 8000000
set_option maxRecDepth 10000
open Go.Proofs.Tryz
namespace Go.Proofs.YtklkpldicbkjeaaGreat
open Go.RowKit
attribute [local go_sem] fZ
def VI (w:World) (base ob:Nat) (aj:List Value) (L:List (List Sg)):Prop :=
 aj.length=L.length/\∀ i,i<L.length->∃ g cap,aj[i]?=some (.slice (some ⟨g,0,none⟩) (L.getD i []).length cap)/\(L.getD i []).length<=cap/\g≠ob/\(base<=g/\g<w.heap.size)/\GS w (some ⟨g,0,none⟩) (L.getD i [])
theorem VI.gw {w w':World} {base ob:Nat} {aj:List Value} {L:List (List Sg)} (h:VI w base ob aj L) (g:Gw w w'):VI w' base ob aj L :=
 ⟨h.1,fun i hi=>by
  obtain ⟨a,cap,h1,h2,h3,h4,h5⟩:=h.2 i hi;exact ⟨a,cap,h1,h2,h3,⟨h4.1,Nat.lt_of_lt_of_le h4.2 g.size⟩,h5.gw g⟩⟩
theorem zr {w w':World} {g:Nat} {l:List Sg} (h:GS w (some ⟨g,0,none⟩) l) (hb:w'.heap[g]?=w.heap[g]?) (hs:w.heap.size<=w'.heap.size):GS w' (some ⟨g,0,none⟩) l :=
 ⟨fun h0=>by
  obtain ⟨b,off,e,hl,hc⟩:=h.cells h0;cases e;have cc:∀ o,w'.cell? ⟨g,o,none⟩=w.cell? ⟨g,o,none⟩:=fun o=>by unfold World.cell?;rw [hb]
  exact ⟨g,0,rfl,by omega,fun i hi=>⟨(cc _).trans (hc i hi).c0,(cc _).trans (hc i hi).c1,(cc _).trans (hc i hi).c2,(cc _).trans (hc i hi).c3,(cc _).trans (hc i hi).c4⟩⟩,h.ok⟩
theorem VI.more {w w':World} {o:Obj} {base ob iZ:Nat} {aj:List Value} {L:List (List Sg)} {l:List Sg} {g cap:Nat} (h:VI w base ob aj L) (r:(w.alloc o).grownBy w' (some ob)) (ho:iZ=ob\/w.heap.size<=iZ) (gl:GS w (some ⟨g,0,none⟩) l) (gc:l.length<=cap) (gn:g≠ob) (gb:base<=g) (gw:g<w.heap.size):VI w' base iZ (aj++[.slice (some ⟨g,0,none⟩) l.length cap]) (L++[l]):=by
 have keep:∀ q,q<w.heap.size->q≠ob->w'.heap[q]?=w.heap[q]?:=fun q hq hn=>(r.block q (by simp;omega) (by simpa using hn)).trans (heap_alloc_old w o hq)
 have sz:w.heap.size<=w'.heap.size:=by have:=r.size;simp at this;omega
 refine ⟨by simp [h.1],fun i hi=>?_⟩
 by_cases e:i<L.length
 ·obtain ⟨a,c,h1,h2,h3,h4,h5⟩:=h.2 i e
  have gd:(L++[l]).getD i []=L.getD i []:=by simp [List.getD,List.getElem?_append_left e]
  rw [gd];exact ⟨a,c,by rw [List.getElem?_append_left (by rw [h.1];exact e)];exact h1,h2,by omega,⟨h4.1,by omega⟩,zr h5 (keep a h4.2 h3) sz⟩
 ·have ei:i=L.length:=by simp at hi;omega
  have gd:(L++[l]).getD i []=l:=by subst ei;simp [List.getD]
  rw [gd];exact ⟨g,cap,by rw [List.getElem?_append_right (by rw [h.1];omega),h.1,ei];simp,gc,by omega,⟨gb,by omega⟩,zr gl (keep g gw gn) sz⟩
theorem MC {w w':World} {base e size n:Nat} {v:Value} {xs:List Value} (h:w.ownsRow base e size v n xs) (g:Gw w w'):w'.ownsRow base e size v n xs:=by
 refine ⟨h.1,?_⟩;rcases h.2 with q | ⟨b,cap,cur,rfl,hb,hh,r⟩
 ·exact .inl q
 ·exact .inr ⟨b,cap,cur,rfl,hb,(g.below.block b (Array.getElem?_eq_some_iff.1 hh).1).trans hh,r⟩
theorem Di (w:World) (v:Value) (t:TypeId):∀ j u,[v][j]?=some u->(w.alloc (.cells #[v] t)).cell? ((⟨w.heap.size,0,none⟩:Addr).add j)=some u:=by
 intro j u hu;have h:=heap_alloc_new w (.cells #[v] t);rw [Addr.add_lit,Nat.zero_add];simp only [World.cell?,h];simpa using hu
theorem MF {eps fr:Int} {h:Nat->Int} {N:Nat} {k:Int} {s ic:Nat} {F T er:Int} (S:fF eps fr h N k s ic F T er) (e:2<=eps/\eps<=64) (n0:0<N) (u:Up h N) (ft:aQ (eps-1) h (ay N)) (f0:0<=fr) (f1:fr+N<=4294967296):er=0:=by
 have z:∀ {a b c x:Int},dP eps h N a b c x->x=0:=fun o=>by
  rcases o with ⟨q,_⟩ | ⟨_,q,_⟩ | ⟨_,_,q,_⟩ | ⟨_,_,_,_,_,q⟩
  ·exact absurd q (by omega)
  ·exact absurd ⟨n0,u⟩ q
  ·exact absurd ft q
  ·exact q
 rcases S with ⟨a,b,c,o,ne,_⟩ | ⟨a,b,c,o,nb,_⟩ | ⟨a,b,c,o,_,_,_,_,_,_,_,q⟩
 ·exact absurd (z o) ne
 ·exact absurd ⟨f0,f1⟩ nb
 ·exact q
theorem aau (O5:l6) (eps:Int) (ao:Option Addr) (n cp:Nat) (f:Nat->Int) (e0:-9223372036854775808<=eps) (e1:eps<9223372036854775808) (hn:n<=2000000) (cZ:n<=cp) (w:World) (h:KS w ao n f) :
  Calls prog 57 #[.slice ao n cp,.int .i64 eps] w fun ex w'=>Zt w.heap.size w' ex eps f n/\Gw w w':=by
 have HK:ag (KS w ao n f):=h;clear h;by_cases k0:¬ (2<=eps/\eps<=64)
 ·have R:ag (oQ eps f n [] 1):=.inl ⟨k0,rfl,rfl⟩
  by_cases h2:eps<2
  ·have t1:decide (eps<2)=true:=by simpa using h2
   clear k0 h2 O5;go_enter func57,ntmps57;go_wp2_with fail;exact bodyPost_ret (v:=.tuple #[.slice none 0 0,.int .i64 1]) (by simp [results,results57,go_sem]) rfl ⟨⟨none,0,[],1,rfl,R.o,⟨fun h0=>by simp at h0⟩,Nat.le_refl _⟩,Gw.refl w⟩
  ·have t1:decide (eps<2)=false:=by simpa using h2
   have t2:decide (64<eps)=true:=by simp;omega
   clear k0 h2 O5;go_enter func57,ntmps57;go_wp2_with fail;exact bodyPost_ret (v:=.tuple #[.slice none 0 0,.int .i64 1]) (by simp [results,results57,go_sem]) rfl ⟨⟨none,0,[],1,rfl,R.o,⟨fun h0=>by simp at h0⟩,Nat.le_refl _⟩,Gw.refl w⟩
 ·have KE:ag (2<=eps/\eps<=64):=Classical.not_not.1 k0
  have t1:decide (eps<2)=false:=by have:=KE.o;simp;omega
  have t2:decide (64<eps)=false:=by have:=KE.o;simp;omega
  have RI:ag (∀ W,KS W ao n f->_):=fun W h=>Cj ao n cp f (by omega) W h
  have HO:ag l6:=O5;clear O5 k0;go_enter func57,ntmps57;go_wp2_with fail;refine (RI.o _ HK.o).mono ?_;rintro ex w1 ⟨⟨r,rfl,hr⟩,g1⟩;have G1:ag (Gw w w1):=g1;have HR:ag (r=true↔Up f n):=hr;clear hr g1;cases r with
  | false =>
   have R:ag (oQ eps f n [] 80):=.inr (.inl ⟨KE.o,fun q=>by have:=HR.o.2 q;simp at this,rfl,rfl⟩)
   go_wp2_with fail;exact bodyPost_ret (v:=.tuple #[.slice none 0 0,.int .i64 80]) (by simp [results,results57,go_sem]) rfl ⟨⟨none,0,[],80,rfl,R.o,⟨fun h0=>by simp at h0⟩,Nat.le_refl _⟩,G1.o⟩
  | true =>
   have UP:ag (Up f n):=HR.o.1 rfl;obtain ⟨jj,kX,jz,js,kY⟩:=info_parts yY;obtain ⟨ii,aM,hz,hs,aL⟩:=info_parts yX;have G2:ag (Gw w (w1.alloc (.cells #[] 126))):=G1.o.alloc _ _;have R2:ag ((w1.alloc (.cells #[] 126)).ownsRow w.heap.size 126 1 (.slice (some ⟨w1.heap.size,0,none⟩) 0 0) 0 []):=World.ownsRow_made w1 #[] 0 G1.o.size (Nat.zero_le _) rfl;have V2:ag (VI (w1.alloc (.cells #[] 126)) w.heap.size w1.heap.size [] []):=⟨rfl,fun i hi=>by simp at hi⟩
   have k2:=KE.o.1;have k3:=KE.o.2;have K2:ag (KS (w1.alloc (.cells #[] 126)) ao n f):=HK.o.gw G2.o;have UPF:ag (Up f n):=UP.o;clear HR G1 HK RI;go_wp2_with fail;generalize w1.alloc (.cells #[] 126)=w2 at G2 R2 V2 K2 ⊢;generalize w1.heap.size=vv at R2 V2 ⊢;go_loopg [0,6,7] n (fun gg s0 s6 s7 wr=>∃ (m c ob oc nn:Nat) (bo:Option Addr) (g:Nat->Int) (L:List (List Sg)) (aj:List Value),s0=.slice bo m c/\s6=.slice (some ⟨ob,0,none⟩) L.length oc/\s7=.int .i64 nn/\m<=2000000/\m<=c/\nn<=gg/\(nn=m\/nn+1=m)/\L.length+nn<=n/\ag (KS wr bo m g)/\ag (Up g m)/\ag (wr.ownsRow w.heap.size 126 1 (.slice (some ⟨ob,0,none⟩) L.length oc) L.length aj)/\ag (VI wr w.heap.size ob aj L)/\ag ((0<nn->∀ r,cU eps g m r->cU eps f n (L++r))/\(nn=0->cU eps f n L))/\ag (Gw w wr))
   case atStart=>exact ⟨n,cp,vv,0,n,ao,f,[],[],rfl,rfl,rfl,hn,cZ,Nat.le_refl _,.inl rfl,by simp,K2,UP,R2,V2,(show ag _ from ⟨fun _ r h=>h,fun h=>h⟩),G2⟩
   case round =>
    clear G2 R2 V2 K2 UP;obtain ⟨m,c,ob,oc,nn,bo,g,L,aj,rfl,rfl,rfl,h3,h4,h5,h6,h7,K,U,R,V,BR,G⟩:=hrel;by_cases n0:0<nn
    ·have tn:decide ((0:Int)<(nn:Int))=true:=by simp;omega
     have m0:0<m:=by omega
     obtain ⟨bk,off,rfl,iD,cQ⟩:=K.o.cells m0;clear cQ;obtain ⟨wS,aZ⟩:∃ wx,wx=wr:=⟨_,rfl⟩;subst aZ;go_wp2_with fail;refine (Z' eps _ m c g e0 e1 h3 _ K.o).mono ?_;rintro ex w3 ⟨⟨v3,es,err,rfl,hE,hI⟩,g3⟩;have EA:cT (eps-1) g m 0 es:=by
      rcases hE with ⟨q,_⟩ | ⟨_,q,_⟩ | ⟨_,_,q,_⟩
      ·exact absurd KE.o q
      ·exact absurd U.o q
      ·exact q
     have ED:ag (cT (eps-1) g m 0 es):=EA;have zs:=EA.len;obtain ⟨eo,ec,rfl,vw,vx⟩:=Md hI;have pe:0<es.length:=List.length_pos_iff.2 (EA.nonempty m0);cases eo with
     | none=>have:=(vw rfl).1;rw [this] at pe;simp at pe
     | some ea =>
      obtain ⟨eb,rfl,_,jF,kZ⟩:=vx ea rfl;have EC:ag (∀ W,Gw w3 W->∀ i,i<es.length->W.cell? ⟨eb,i,none⟩=some (.int .i64 ((es.getD i 0:Nat):Int))/\eb<W.heap.size):=fun W gW i hi=>⟨(gW.cell _ _ jF).trans (kZ i hi),Nat.lt_of_lt_of_le jF gW.size⟩
      have MH:ag (Gw wS w3):=g3;clear hE EA hI vw vx kZ g3;have zt:ag (SR (w3.alloc (.cells #[] 129)) w3.heap.size (.slice (some ⟨w3.heap.size,0,none⟩) 0 0) []):=Zu w3 w3.heap.size (Nat.le_refl _);have Dj:ag (Gw wS (w3.alloc (.cells #[] 129))):=MH.o.alloc _ _;have Dk:ag (Gw w3 (w3.alloc (.cells #[] 129))):=(Gw.refl w3).alloc _ _;obtain ⟨en,my⟩:∃ en,es.length=en:=⟨_,rfl⟩;have EN:ag (es.length=en):=my;rw [my] at zs pe ⊢;clear my jF;go_wp2_with fail;generalize w3.alloc (.cells #[] 129)=w4 at zt Dj Dk ⊢;obtain ⟨jG,pf⟩:∃ jG,w3.heap.size=jG:=⟨_,rfl⟩;have L0:ag (wS.heap.size<=jG):=by rw [<-pf];exact MH.o.size
      have L0':ag (w3.heap.size<=jG):=by rw [<-pf];exact Nat.le_refl _
      rw [pf] at zt ⊢;clear pf;go_loopg [10,11,12] en (fun gg iV nP vy wr=>∃ (i fr lb lc:Nat) (lv:List Sg),iV=.slice (some ⟨lb,0,none⟩) i lc/\nP=.int .i64 fr/\vy=.int .i64 i/\i<=en/\en-i<=gg/\ag (lv.length=i)/\ag (fr=kP 0 es i)/\ag (SR wr jG (.slice (some ⟨lb,0,none⟩) i lc) lv)/\ag (∀ j,j<lv.length->(lv.getD j az).ok)/\ag (∀ l',cH eps g m fr l'->cH eps g m 0 (lv++l'))/\ag (Gw wS wr)/\ag (Gw w3 wr))
      case atStart=>exact ⟨0,0,jG,0,[],rfl,rfl,rfl,Nat.zero_le _,by omega,(show ag _ from rfl),(show ag _ from rfl),zt,(show ag _ from fun j hj=>by simp at hj),(show ag _ from fun l' h=>h),Dj,Dk⟩
      case round =>
       clear zt Dj Dk;obtain ⟨i,fr,lb,lc,lv,rfl,rfl,rfl,j1,j2,LI,FR,k6,pg,dW,lj,qQ⟩:=hrel;by_cases dJ:i<en
       ·have ST:=ED.o.step i (by rw [EN.o];exact dJ)
        rw [<-FR.o] at ST;obtain ⟨vz,Dl⟩:=EC.o _ qQ.o i (by rw [EN.o];exact dJ)
        obtain ⟨ei,qR⟩:∃ ei,es.getD i 0=ei:=⟨_,rfl⟩;rw [qR] at ST vz;obtain ⟨s1,s2,s3,s4,_⟩:=ST;have FN:ag (kP 0 es (i+1)=ei):=qR;clear qR;have tc:ei<=c:=by omega
        have cf:¬ c=fr:=by omega
        have fc:¬ fr=c:=by omega
        have i1:(0:Int)<=(fr:Int):=by omega
        have i2:(fr:Int)<=(ei:Int):=by omega
        have i3:(ei:Int)<=(c:Int):=by omega
        have fe:fr<=ei:=by omega
        go_wp2_with fail;refine (Zb HO.o eps fr _ (ei-fr) (c-fr) (sh g fr) e0 e1 (by omega) (by omega) (by omega) _ (CU ((K.o.gw lj.o)) s2)).mono ?_
        rintro ex w5 ⟨⟨k5,bM,bN,F5,T5,er5,rfl,nR⟩,g5⟩;obtain rfl:=MF nR KE.o (by omega) (oJ U.o s2) s3 (by omega) (by omega)
        have vA:∀ t,t<ei-fr->0<=sh g fr t/\sh g fr t<18446744073709551616:=fun t ht=>K.o.bd (fr+t) (by omega)
        have SA:ag (oP eps g fr ei (Sg.mk k5 bM bN F5 T5)):=nR;have SO:ag (Sg.ok (Sg.mk k5 bM bN F5 T5)):=nR.ok (by omega) vA
        have zu:ag (Gw wS (w5.alloc (.cells #[.int .u64 k5,.float .f64 bM,.float .f64 bN,.int .i64 F5,.int .i64 T5] 129))):=(lj.o.trans g5).alloc _ _;have vB:ag (Gw w3 (w5.alloc (.cells #[.int .u64 k5,.float .f64 bM,.float .f64 bN,.int .i64 F5,.int .i64 T5] 129))):=(qQ.o.trans g5).alloc _ _;have zw:ag (SR (w5.alloc (.cells #[.int .u64 k5,.float .f64 bM,.float .f64 bN,.int .i64 F5,.int .i64 T5] 129)) jG (.slice (some ⟨lb,0,none⟩) i lc) lv):=yZ (yZ k6.o g5) ((Gw.refl w5).alloc _ _);have Dm:ag (Sb (w5.alloc (.cells #[.int .u64 k5,.float .f64 bM,.float .f64 bN,.int .i64 F5,.int .i64 T5] 129)) w5.heap.size k5 bM bN F5 T5):=heap_alloc_new w5 _;have ec5:=EC.o _ vB.o i (by rw [EN.o];exact dJ)
        have bZ:(w5.alloc (.cells #[.int .u64 k5,.float .f64 bM,.float .f64 bN,.int .i64 F5,.int .i64 T5] 129)).heap.size=w5.heap.size+1:=by simp
        have NS:ag (∀ j u,(cI (Sg.mk k5 bM bN F5 T5))[j]?=some u->((w5.alloc (.cells #[.int .u64 k5,.float .f64 bM,.float .f64 bN,.int .i64 F5,.int .i64 T5] 129)).alloc (.cells #[.int .u64 k5,.float .f64 bM,.float .f64 bN,.int .i64 F5,.int .i64 T5] 129)).cell? ((⟨w5.heap.size+1,0,none⟩:Addr).add j)=some u):=by
         have:=Zv (w5.alloc (.cells #[.int .u64 k5,.float .f64 bM,.float .f64 bN,.int .i64 F5,.int .i64 T5] 129)) (Sg.mk k5 bM bN F5 T5)
         rw [bZ] at this;exact this
        have MJ:ag ((w5.alloc (.cells #[.int .u64 k5,.float .f64 bM,.float .f64 bN,.int .i64 F5,.int .i64 T5] 129)).ownsRow jG 129 5 (.slice (some ⟨lb,0,none⟩) i lc) i (lv.flatMap cI)):=by
         have:=zw.o
         unfold SR at this;rw [LI.o] at this;exact this
        have lz:jG<=w5.heap.size+1:=by have:=(kh zw.o lb rfl);rw [bZ] at this;omega
        have Dn:jG<=lb:=(kh zw.o lb rfl).1;clear nR vA g5 lj qQ k6 vz Dl zw ec5;obtain ⟨z0,z1,z2,z3,z4⟩:=Dm.o.cells;have zl:=Dm.o.lt;go_wp2_with (at_builtin;refine wpList_append_own _ rfl _ _ 126 rfl jG 129 ii (.agg #[.int .u64 0,.float .f64 0,.float .f64 0,.int .i64 0,.int .i64 0]) 5 40 underlying126 aM hz hs aL rfl (by decide) _ i _ rfl (MJ.o.alloc _) ⟨w5.heap.size+1,0,none⟩ 1 1 (cI (Sg.mk k5 bM bN F5 T5)) rfl rfl NS.o (Lp _) (by simp only [maxLen];omega) (by omega) (by simp;omega) ?_)
        intro v' w7 r1 r2 r3;obtain ⟨b7,vC,rfl,hb7,_,_⟩:=cS r1 (by simpa using r3)
        have GS7:ag (Gw wS w7):=(zu.o.alloc _ _).grown r2 (fun k' hk=>by have e:lb=k':=(by simpa [Value.ownBlock] using hk);have:=L0.o;omega)
        have MK:ag (Gw w3 w7):=(vB.o.alloc _ _).grown r2 (fun k' hk=>by have e:lb=k':=(by simpa [Value.ownBlock] using hk);have:=L0'.o;omega)
        have tF:ag ((lv++[(Sg.mk k5 bM bN F5 T5)]).length=i+1):=by show (lv++[_]).length=i+1;rw [List.length_append,LI.o];rfl
        have SR7:ag (SR w7 jG (.slice (some ⟨b7,0,none⟩) (i+1) vC) (lv++[(Sg.mk k5 bM bN F5 T5)])):=by
         show World.ownsRow _ _ _ _ _ _ _;rw [tF.o,Lq];exact r1
        have Dp:ag (∀ j,j<(lv++[(Sg.mk k5 bM bN F5 T5)]).length->((lv++[(Sg.mk k5 bM bN F5 T5)]).getD j az).ok):=fun j hj=>by
         rw [tF.o] at hj;by_cases x:j<lv.length
         ·rw [show (lv++[(Sg.mk k5 bM bN F5 T5)]).getD j az=lv.getD j az by simp [List.getD,List.getElem?_append_left x]]
          exact pg.o j x
         ·have e:j=lv.length:=by have:=LI.o;omega
          rw [show (lv++[(Sg.mk k5 bM bN F5 T5)]).getD j az=(Sg.mk k5 bM bN F5 T5) by subst e;simp [List.getD]]
          exact SO.o
        have Dq:ag (∀ l',cH eps g m ei l'->cH eps g m 0 ((lv++[(Sg.mk k5 bM bN F5 T5)])++l')):=fun l' h=>by
         rw [List.append_assoc];exact dW.o ((Sg.mk k5 bM bN F5 T5)::l') ⟨ei,⟨s1,s2,s3,s4⟩,SA.o,h⟩
        have Dr:ag (ei=kP 0 es (i+1)):=FN.o.symm;obtain ⟨q7,q8⟩:=EC.o _ MK.o i (by rw [EN.o];exact dJ)
        rw [show es.getD i 0=ei from FN.o] at q7;clear r1 r2 r3 hb7 s3 s4 Dm zu vB NS MJ z0 z1 z2 z3 z4 zl pg dW SA;go_wp2_with fail;go_roundg (en-(i+1))
        case measure=>omega
        case rel=>exact ⟨i+1,ei,b7,vC,lv++[(Sg.mk k5 bM bN F5 T5)],rfl,rfl,by go_num,by omega,Nat.le_refl _,tF,Dr,SR7,Dp,Dq,GS7,MK⟩
       ·have ei:i=en:=by omega
        subst ei;have vD:fr=m:=by
         rw [FR.o];obtain ⟨i',bV⟩:∃ i',i=i'+1:=⟨i-1,by omega⟩
         have:=(ED.o.last i' (by rw [EN.o];omega)).2 (by rw [EN.o];omega)
         rw [bV];exact this
        have hJ:cH eps g m 0 lv:=by
         have:=dW.o [] vD
         rwa [List.append_nil] at this
        have lk:=LI.o;have GL:GS wr (some ⟨lb,0,none⟩) lv:=CW (by rw [lk];exact k6.o) pg.o
        have ilc:i<=lc:=by
         have:=k6.o
         unfold SR at this;rw [lk] at this;exact (cS this (by simp)).elim fun _ ⟨_,ev,_,h,_⟩=>by cases ev;exact h
        have Dn:jG<=lb/\lb<wr.heap.size:=kh k6.o lb rfl;have obw:w.heap.size<=ob/\ob<wS.heap.size:=R.o.lt ob rfl;have MP:lb≠ob:=by have:=L0.o;omega
        have R6:ag (wr.ownsRow w.heap.size 126 1 (.slice (some ⟨ob,0,none⟩) L.length oc) L.length aj):=MC R.o lj.o;have V6:ag (VI wr w.heap.size ob aj L):=V.o.gw lj.o;have G6:ag (Gw w wr):=G.o.trans lj.o;have FW:=hJ.few (by omega) m0 h3 K.o.bd U.o
        have Ds:=hJ.len h3 K.o.bd;obtain ⟨u1,_,u3⟩:=nJ U.o (hJ.tiles h3 K.o.bd) (hJ.keys h3 K.o.bd);have UN:ag (Up (aW lv) i):=by have:=u1;rw [lk] at this;exact this
        have ms:i<=nn/\i-1<nn:=by
         rw [lk] at FW Ds;rcases h6 with h6 | h6
         ·omega
         ·by_cases x:i=1
          ·omega
          ·have:=oO (e:=eps.toNat) (by omega) (FW.2 x)
           have:=FW.1
           omega
        have MQ:ag ((0<i-1->∀ r,cU eps (aW lv) i r->cU eps f n ((L++[lv])++r))/\(i-1=0->cU eps f n (L++[lv]))):=by
         refine ⟨fun h r hr=>?_,fun h=>?_⟩
         ·rw [List.append_assoc]
          exact BR.o.1 n0 (lv::r) ⟨m0,hJ,by rw [if_neg (by omega),lk];exact hr⟩
         ·exact BR.o.1 n0 [lv] ⟨m0,hJ,by rw [if_pos (by omega)]⟩
        have Dt:ag (GS wr (some ⟨lb,0,none⟩) lv):=GL;have LK:ag (lv.length=i):=lk;have zz:=G6.o.size;clear hJ u1 u3 FW dW k6 pg GL lk FR vD R V G BR ED EC EN;go_wp2_with (at_builtin;refine wpList_append_own_at _ rfl _ _ 85 rfl w.heap.size 126 jj (.slice none 0 0) 1 24 underlying85 kX jz js kY rfl (by decide) _ L.length _ rfl (R6.o.alloc _) ⟨wr.heap.size,0,none⟩ 1 1 [(.slice (some ⟨lb,0,none⟩) i lc)] rfl rfl (Di wr (.slice (some ⟨lb,0,none⟩) i lc) 126) (fun u hu=>by simp at hu;subst hu;rfl) (by simp only [maxLen];omega) (by omega) (by simp;omega) ?_)
        intro v' w8 r1 r2 r3 r4;obtain ⟨b8,cap8,rfl,nT,_,_⟩:=cS r1 (by simpa using r3)
        have nU:b8=ob\/wr.heap.size<=b8:=by
         rcases r4 with q | q
         ·have q':b8=ob:=by simpa [Value.ownBlock] using q
          exact .inl q'
         ·have q':b8=wr.heap.size+1:=by simpa [Value.ownBlock] using q
          exact .inr (by omega)
        have gD:(wr.alloc (.cells #[(.slice (some ⟨lb,0,none⟩) i lc)] 126)).grownBy w8 (some ob):=r2;have V8:ag (VI w8 w.heap.size b8 (aj++[(.slice (some ⟨lb,0,none⟩) i lc)]) (L++[lv])):=by
         have:=V6.o.more gD nU Dt.o (by rw [LK.o];exact ilc) MP (by have:=L0.o;omega) Dn.2
         rw [LK.o] at this;exact this
        have G8:ag (Gw w w8):=(G6.o.alloc _ _).grown r2 (fun k' hk=>by have e:ob=k':=(by simpa [Value.ownBlock] using hk);omega)
        have MR:ag (GS w8 (some ⟨lb,0,none⟩) lv):=zr Dt.o ((gD.block lb (by simp;omega) (by simpa using MP)).trans (heap_alloc_old wr _ Dn.2)) (by have:=gD.size;simp at this;omega)
        have L8:(L++[lv]).length=L.length+1:=by simp
        have R8:ag (w8.ownsRow w.heap.size 126 1 (.slice (some ⟨b8,0,none⟩) (L++[lv]).length cap8) (L++[lv]).length (aj++[(.slice (some ⟨lb,0,none⟩) i lc)])):=by
         rw [L8];exact r1
        have FI:ag (∀ W,GS W (some ⟨lb,0,none⟩) lv->Calls prog 88 #[.slice (some ⟨lb,0,none⟩) i lc] W fun e w'=>(∃ b cap,e=.returned (.slice (some ⟨b,0,none⟩) i cap)/\W.heap.size<=b/\i<=cap/\KS w' (some ⟨b,0,none⟩) i (aW lv))/\Gw W w'):=fun W h=>by
         have:=Zo (some ⟨lb,0,none⟩) lc lv (by rw [LK.o];omega) W h
         rw [LK.o] at this;exact this
        have wi:IntKind.i64.wrap ((i:Int)-1)=((i-1:Nat):Int):=by rw [IntKind.wrap_i64];omega
        obtain ⟨n8,Du⟩:∃ n8,i-1=n8:=⟨_,rfl⟩;rw [Du] at wi ms MQ;have N8:ag (i-1=n8):=Du;clear r1 r2 r3 r4 gD nT R6 V6 G6 Dt Du;go_wp2_with fail;refine (FI.o _ MR.o).mono ?_;rintro e w9 ⟨⟨fb,fc,rfl,_,hfc,hk⟩,g9⟩;have G9:ag (Gw w w9):=G8.o.trans g9;have K9:ag (KS w9 (some ⟨fb,0,none⟩) i (aW lv)):=hk;have R9:ag (w9.ownsRow w.heap.size 126 1 (.slice (some ⟨b8,0,none⟩) (L++[lv]).length cap8) (L++[lv]).length (aj++[(.slice (some ⟨lb,0,none⟩) i lc)])):=MC R8.o g9;have V9:ag (VI w9 w.heap.size b8 (aj++[(.slice (some ⟨lb,0,none⟩) i lc)]) (L++[lv])):=V8.o.gw g9;clear g9 hk R8 V8 G8 MR FI;go_wp2_with fail;go_roundg n8
        case measure=>omega
        case rel=>exact ⟨i,fc,b8,cap8,n8,some ⟨fb,0,none⟩,aW lv,L++[lv],aj++[(.slice (some ⟨lb,0,none⟩) i lc)],rfl,by rw [L8],rfl,by omega,hfc,Nat.le_refl _,.inr (by have:=N8.o;omega),(by rw [L8];have:=N8.o;omega),K9,UN,R9,V9,MQ,G9⟩
    ·have e0':nn=0:=by omega
     subst e0';have RR:ag (oQ eps f n L 0):=.inr (.inr ⟨KE.o,UPF.o,BR.o.2 rfl,rfl⟩);have VV:ag (gE wr w.heap.size (some ⟨ob,0,none⟩) L):=by
      refine ⟨fun _=>⟨ob,0,rfl,(R.o.lt ob rfl),fun i hi=>?_⟩⟩
      obtain ⟨g',fQ,v1,v2,_,v4,v5⟩:=V.o.2 i hi;refine ⟨some ⟨g',0,none⟩,fQ,?_,v2,(fun e=>by cases e),v5,fun a e=>by cases e;exact v4⟩
      rw [Nat.zero_add,R.o.cellAt i (by omega)]
      exact v1
     have oc1:L.length<=oc:=(cS R.o (by simp)).elim fun _ ⟨_,ev,_,h,_⟩=>by cases ev;exact h
     go_wp2_with fail;exact bodyPost_ret (v:=.tuple #[.slice (some ⟨ob,0,none⟩) L.length oc,.int .i64 0]) (by simp [results,results57,go_sem]) rfl ⟨⟨_,oc,L,0,rfl,RR.o,VV.o,oc1⟩,G.o⟩
end Go.Proofs.YtklkpldicbkjeaaGreat
namespace Go.Proofs.YtklkpldicbkjeaaGreat
open Go.RowKit
def kt (k v:Nat->Int) (g:Nat->Bool) (n:Nat):List Value:=(List.range (n*3)).map (jD k v g)
theorem Dv (k v:Nat->Int) (g:Nat->Bool) (n:Nat):(kt k v g n).length=n*3:=by simp [kt]
theorem MT (k v:Nat->Int) (g:Nat->Bool) {n j:Nat} (h:j<n*3):(kt k v g n)[j]?=some (jD k v g j):=by simp [kt,h]
theorem MU (k v:Nat->Int) (g:Nat->Bool) (n:Nat):∀ u∈kt k v g n,u.oneCell'=true:=by
 intro u hu;obtain ⟨j,_,rfl⟩:=List.mem_map.1 hu;exact aaj k v g j
theorem MW {w:World} {ao:Option Addr} {n:Nat} {k v:Nat->Int} {g:Nat->Bool} (h:ES w ao n k v g):∀ ad,ao=some ad->∀ j u,(kt k v g n)[j]?=some u->w.cell? (ad.add j)=some u:=by
 intro ad e j u hu;have hj:j<n*3:=by
  have:=(List.getElem?_eq_some_iff.1 hu).1
  rwa [Dv] at this
 obtain ⟨b,off,e',_,hc⟩:=h.flat (by omega)
 rw [e] at e';cases e';rw [Addr.add_lit,hc j hj,<-MT k v g hj];exact hu
def ER (w:World) (base:Nat) (x:Value) (k v:Nat->Int) (g:Nat->Bool) (n:Nat):Prop:=w.ownsRow base 40 3 x n (kt k v g n)
theorem Dw {w:World} {base:Nat} {ao:Option Addr} {cap n:Nat} {k v:Nat->Int} {g:Nat->Bool} (h:ER w base (.slice ao n cap) k v g n) (bd:∀ i,i<n->(0<=k i/\k i<18446744073709551616)/\(0<=v i/\v i<18446744073709551616)):ES w ao n k v g:=by
 refine ⟨fun h0=>?_,bd⟩
 rcases h.2 with ⟨e,z⟩ | ⟨b,fQ,cur,e,hb,hh,r⟩
 ·omega
 ·cases e
  have h':w.ownsRow base 40 3 (.slice (some ⟨b,0,none⟩) n cap) n (kt k v g n):=h;have ce:∀ j,j<n*3->w.cell? ⟨b,j,none⟩=some (jD k v g j):=fun j hj=>by
   rw [h'.cellAt j hj,MT k v g hj]
  refine ⟨b,0,rfl,(Array.getElem?_eq_some_iff.1 hh).1,fun i hi=>⟨?_,?_,?_⟩⟩
  ·rw [Nat.zero_add,ce _ (by omega),aag]
  ·rw [Nat.zero_add,ce _ (by omega),aah]
  ·rw [Nat.zero_add,ce _ (by omega),aai]
theorem Dx {w:World} {base:Nat} {x:Value} {k v:Nat->Int} {g:Nat->Bool} {n:Nat} (h:ER w base x k v g n):∃ bo c,x=.slice bo n c/\n<=c/\∀ a,bo=some a->base<=a.block/\a.block<w.heap.size:=by
 rcases h.2 with ⟨e,z⟩ | ⟨b,cap,cur,e,hb,hh,hc,_⟩
 ·exact ⟨none,0,by rw [e,z],by omega,fun a q=>by cases q⟩
 ·exact ⟨some ⟨b,0,none⟩,cap,e,hc,fun a q=>by cases q;exact ⟨hb,(Array.getElem?_eq_some_iff.1 hh).1⟩⟩
theorem aav {w:World} {base n c:Nat} {bo:Option Addr} {k v:Nat->Int} {g:Nat->Bool} (h:ER w base (.slice bo n c) k v g n):n<=c/\(bo=none->n=0/\c=0):=by
 rcases h.2 with ⟨e,z⟩ | ⟨b,cap,cur,e,hb,hh,hc,_⟩
 ·injection e with e1 e2 e3
  exact ⟨by omega,fun _=>⟨z,e3⟩⟩
 ·injection e with e1 e2 e3
  subst e1 e3;exact ⟨hc,fun x=>by cases x⟩
theorem gE.low {w:World} {base ph:Nat} {ao:Option Addr} {L:List (List Sg)} (h:gE w base ao L) (hb:ph<=base):gE w ph ao L :=
 ⟨fun h0=>by
  obtain ⟨b,off,e,x,hc⟩:=h.cells h0;refine ⟨b,off,e,⟨Nat.le_trans hb x.1,x.2⟩,fun i hi=>?_⟩
  obtain ⟨bo,c,y1,y2,y3,y4,y5⟩:=hc i hi;exact ⟨bo,c,y1,y2,y3,y4,fun a ea=>⟨Nat.le_trans hb (y5 a ea).1,(y5 a ea).2⟩⟩⟩
def lu (eps:Int) (k v:Nat->Int) (g:Nat->Bool) (n:Nat) (E:Int):Prop:=(¬ (2<=eps/\eps<=64)/\E=1)\/((2<=eps/\eps<=64)/\dS k v g n E)
theorem lu.one {eps:Int} {k v:Nat->Int} {g:Nat->Bool} {n:Nat} {E E':Int} (h:lu eps k v g n E) (h':lu eps k v g n E'):E=E':=by
 rcases h with ⟨a,rfl⟩ | ⟨a,c⟩
 ·rcases h' with ⟨_,rfl⟩ | ⟨b,_⟩
  ·rfl
  ·exact absurd b a
 ·rcases h' with ⟨b,_⟩ | ⟨_,d⟩
  ·exact absurd a b
  ·exact c.one d
def OfE (eps:Int) (k v:Nat->Int) (g:Nat->Bool) (n:Nat) (L:List (List Sg)) (E:Int):Prop:=∃ r,lu eps k v g n r/\((r≠0/\E=r)\/(r=0/\iU eps k n L E))
theorem lu.up {eps:Int} {k v:Nat->Int} {g:Nat->Bool} {n:Nat} (h:lu eps k v g n 0):(2<=eps/\eps<=64)/\Up k n:=by
 rcases h with ⟨_,e⟩ | ⟨a,⟨_,u,_⟩ | ⟨e,_⟩ | ⟨e,_⟩⟩
 ·cases e
 ·exact ⟨a,u⟩
 ·cases e
 ·cases e
def tG (HR:World->Nat->(Nat->Prop)->Int->(Nat->Int)->(Nat->Int)->(Nat->Bool)->Nat->List (List Sg)->Prop) (w w':World) (ex:Ending) (eps:Int) (k v:Nat->Int) (g:Nat->Bool) (n:Nat):Prop :=
 ∃ E,lu eps k v g n E/\((E≠0/\ex=.returned (.tuple #[.pointer none,.int .i64 E]))\/(E=0/\∃ p S L,ex=.returned (.tuple #[.pointer (some ⟨p,0,none⟩),.int .i64 0])/\(∀ q,S q->w.heap.size<=q)/\cU eps k n L/\HR w' p S eps k v g n L))
def Dy (HR:World->Nat->(Nat->Prop)->Int->(Nat->Int)->(Nat->Int)->(Nat->Bool)->Nat->List (List Sg)->Prop) (w w':World) (ex:Ending) (eps:Int) (k v:Nat->Int) (g:Nat->Bool) (n:Nat) (L:List (List Sg)):Prop :=
 ∃ E,OfE eps k v g n L E/\((E≠0/\ex=.returned (.tuple #[.pointer none,.int .i64 E]))\/(E=0/\∃ p S,ex=.returned (.tuple #[.pointer (some ⟨p,0,none⟩),.int .i64 0])/\(∀ q,S q->w.heap.size<=q)/\HR w' p S eps k v g n L))
theorem cU.fine {eps:Int} {f:Nat->Int} {n:Nat} {L:List (List Sg)} (e0:2<=eps) (n1:n<=2000000) (bd:∀ t,t<n->0<=f t/\f t<18446744073709551616) (u:Up f n) (b:cU eps f n L):kT L:=by
 refine ⟨?_,fun i hi=>by have:=b.short n1 bd u i hi;omega⟩
 have a:=b.low e0 n1 bd u;have c:=Lm (e:=eps.toNat) (by omega) n
 omega
theorem aaw (O5:l6) (eps:Int) (ao:Option Addr) (n cp:Nat) (k v:Nat->Int) (g:Nat->Bool) (e0:-9223372036854775808<=eps) (e1:eps<9223372036854775808) (hn:n<=2000000) (cZ:n<=cp) (hz:ao=none->n=0/\cp=0) (w:World) (h:ES w ao n k v g) :
  Calls prog 21 #[.slice ao n cp,.int .i64 eps] w fun ex w'=>tG aR w w' ex eps k v g n/\Gw w w':=by
 have HE:ag _:=h;have HZ:ag _:=hz;have KB:ag (∀ t,t<n->0<=k t/\k t<18446744073709551616):=fun t ht=>(h.bd t ht).1
 clear hz;by_cases b:2<=eps/\eps<=64
 ·have t1:decide (eps<2)=false:=by simp;omega
  have t2:decide (64<eps)=false:=by simp;omega
  have CK:ag _:=MA ao n cp k v g (by omega) w h
  have BN:ag (2<=eps/\eps<=64):=b;clear h b;go_enter func21,ntmps21;go_wp2_with fail;refine Calls.mono CK.o ?_;rintro e w1 ⟨⟨r,rfl,cr⟩,g1⟩;have CR:ag (dS k v g n r):=cr;have G1:ag _:=g1;clear CK cr g1;by_cases r0:r=0
  ·subst r0
   go_wp2_with fail;refine Calls.mono (aaq ao n cp k v g (by omega) w1 (HE.o.gw G1.o)) ?_
   rintro e w2 ⟨⟨kb,kc,rfl,fT,own⟩,g2⟩;have G2:ag _:=G1.o.trans g2;have K2:ag (KS w2 (some ⟨kb,0,none⟩) n k/\n<=kc):=⟨uB own (Nat.le_refl _) (fun i hi=>by simp [hi]) KB.o,by rcases own.2 with ⟨e,_⟩ | ⟨_,_,_,e,_,_,hc,_⟩;cases e;cases e;exact hc⟩
   clear own g2 fT G1;go_wp2_with fail;refine Calls.mono (aau O5 eps _ n kc k e0 e1 hn K2.o.2 w2 K2.o.1) ?_;rintro e w3 ⟨⟨lo,lc,L,err,rfl,be,vs,bP⟩,g3⟩;have tH:ag (cU eps k n L/\err=0):=by
    rcases be with ⟨x,_⟩ | ⟨_,x,_⟩ | ⟨_,_,x,y⟩
    ·exact absurd BN.o x
    ·exact absurd (lu.up (.inr ⟨BN.o,CR.o⟩)).2 x
    ·exact ⟨x,y⟩
   obtain rfl:err=0:=tH.o.2;have G3:ag _:=G2.o.trans g3;have MZ:ag _:=vs;have Z2:ag _:=G2.o.size;obtain ⟨ln,aA⟩:∃ ln,L.length=ln:=⟨_,rfl⟩;have LN:ag _:=aA;rw [aA];clear be vs bP g3 G2 K2 aA O5;obtain ⟨ii,aM,iz,is,iby⟩:=info_parts qN;have O0:ag ((w3.alloc (.cells #[] 40)).ownsRow w3.heap.size 40 3 (.slice (some ⟨w3.heap.size,0,none⟩) 0 0) 0 []):=World.ownsRow_made w3 #[] 0 (Nat.le_refl _) (Nat.zero_le _) rfl;have NW:ag (∀ ad,ao=some ad->∀ j u,(kt k v g n)[j]?=some u->(w3.alloc (.cells #[] 40)).cell? (ad.add j)=some u):=MW (HE.o.gw (G3.o.alloc _ _));go_wp2_with (at_builtin;refine sJ _ rfl _ _ 35 rfl w3.heap.size 40 ii (.agg #[.int .u64 0,.int .u64 0,.bool false]) 3 24 underlying35 aM iz is iby rfl (by decide) _ 0 [] rfl O0.o ao n cp (kt k v g n) rfl HZ.o (Dv k v g n) NW.o (MU k v g n) (by simp only [maxLen];omega) (by omega) (by simp) ?_)
   intro v' w5 q1 q2 q3;have R5:ER w5 w3.heap.size v' k v g n:=by show World.ownsRow _ _ _ _ _ _ _;simpa using q1
   have zx:ag (Gw w3 w5):=((Gw.refl w3).alloc _ _).grown q2 (fun j hj=>by cases hj;exact Nat.le_refl _)
   obtain ⟨bo,bc,rfl,_,aX⟩:=Dx R5;have E5:ag (ES w5 bo n k v g/\∀ a,bo=some a->w3.heap.size<=a.block/\a.block<w5.heap.size):=⟨Dw R5 HE.o.bd,aX⟩;have M3:ag _:=aav R5;clear q1 q2 q3 O0 NW R5 aX;have aK:ag (tG aR w (w5.alloc (.cells #[.slice bo n bc,.int .i64 eps,.slice lo ln lc] 87)) (.returned (.tuple #[.pointer (some ⟨w5.heap.size,0,none⟩),.int .i64 0])) eps k v g n):=by
    have zz:=zx.o.size;have z3:=G3.o.size;have gA:Gw w5 (w5.alloc (.cells #[.slice bo n bc,.int .i64 eps,.slice lo ln lc] 87)):=(Gw.refl w5).alloc _ _;refine ⟨0,.inr ⟨BN.o,CR.o⟩,.inr ⟨rfl,w5.heap.size,fun q=>w.heap.size<=q/\q<w5.heap.size+1,L,rfl,fun q hq=>hq.1,tH.o.1,⟨⟨_,w.heap.size,bo,bc,lo,lc,fun q=>by simp,Nat.le_refl _,fun _ _ _=>rfl,by rw [LN.o];exact heap_alloc_new w5 _,by omega,E5.o.1.gw gA,fun a ea=>by have:=(E5.o.2 a ea).1;omega,((MZ.o.gw zx.o).gw gA).low Z2.o,M3.o⟩,hn,tH.o.1.fine BN.o.1 hn KB.o (lu.up (.inr ⟨BN.o,CR.o⟩)).2⟩⟩⟩
   have G5:ag _:=G3.o.trans zx.o;clear E5 zx MZ tH LN CR M3;go_wp2_with fail;go_ret2;exact ⟨aK.o,G5.o.alloc _ _⟩
  ·have vE:(r != 0)=true:=by simpa using r0
   have R0:ag _:=r0;clear r0;go_wp2_with fail;go_ret2;exact ⟨⟨r,.inr ⟨BN.o,CR.o⟩,.inl ⟨R0.o,rfl⟩⟩,G1.o⟩
 ·have BN:ag (¬ (2<=eps/\eps<=64)):=b
  clear h;by_cases c:eps<2
  ·have t1:decide (eps<2)=true:=by simpa using c
   clear b c;go_enter func21,ntmps21;go_wp2_with fail;go_ret2;exact ⟨⟨1,.inl ⟨BN.o,rfl⟩,.inl ⟨by decide,rfl⟩⟩,Gw.refl w⟩
  ·have t1:decide (eps<2)=false:=by simpa using c
   have t2:decide (64<eps)=true:=by simp;omega
   clear b c;go_enter func21,ntmps21;go_wp2_with fail;go_ret2;exact ⟨⟨1,.inl ⟨BN.o,rfl⟩,.inl ⟨by decide,rfl⟩⟩,Gw.refl w⟩
end Go.Proofs.YtklkpldicbkjeaaGreat
