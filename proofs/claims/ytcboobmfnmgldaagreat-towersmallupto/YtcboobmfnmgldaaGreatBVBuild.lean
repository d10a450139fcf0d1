/- The document's Build of layer 8. -/
import Derived.Maps.AppendAt
import Derived.Test.YtcboobmfnmgldaaGreatBR1Doc
set_option linter.unusedVariables false
set_option maxHeartbeats 8000000
set_option maxRecDepth 10000
open Go.Proofs.Tryz
namespace Go.Proofs.YtcboobmfnmgldaaGreat
open Go.RowKit
attribute [local go_sem] iy
def VI (w:World) (base ob:Nat) (az:List Value) (L:List (List Sg)):Prop :=
 az.length=L.length/\∀ i,i<L.length->∃ g cap,az[i]?=some (.slice (some ⟨g,0,none⟩) (L.getD i []).length cap)/\(L.getD i []).length<=cap/\g≠ob/\(base<=g/\g<w.heap.size)/\GS w (some ⟨g,0,none⟩) (L.getD i [])
variable {w w':World} {base:Nat} {L:List (List Sg)}
theorem VI.gw {ob:Nat} {az:List Value} (h:VI w base ob az L) (g:Gw w w'):VI w' base ob az L :=
 ⟨h.1,fun i hi=>by
  obtain ⟨a,cap,h1,h2,h3,h4,h5⟩:=h.2 i hi;exact ⟨a,cap,h1,h2,h3,⟨h4.1,Nat.lt_of_lt_of_le h4.2 g.size⟩,h5.gw g⟩⟩
theorem zW {g:Nat} {l:List Sg} (h:GS w (some ⟨g,0,none⟩) l) (hb:w'.heap[g]?=w.heap[g]?) (hs:w.heap.size<=w'.heap.size):GS w' (some ⟨g,0,none⟩) l :=
 ⟨fun h0=>by
  obtain ⟨b,off,e,hl,hc⟩:=h.cells h0;cases e;have cc:∀ o,w'.cell? ⟨g,o,none⟩=w.cell? ⟨g,o,none⟩:=fun o=>by unfold World.cell?;rw [hb]
  exact ⟨g,0,rfl,by omega,fun i hi=>⟨(cc _).trans (hc i hi).c0,(cc _).trans (hc i hi).c1,(cc _).trans (hc i hi).c2,(cc _).trans (hc i hi).c3,(cc _).trans (hc i hi).c4⟩⟩,h.ok⟩
theorem VI.more {o:Obj} {ob mD:Nat} {az:List Value} {l:List Sg} {g cap:Nat} (h:VI w base ob az L) (r:(w.alloc o).grownBy w' (some ob)) (ho:mD=ob\/w.heap.size<=mD) (gl:GS w (some ⟨g,0,none⟩) l) (gc:l.length<=cap) (gn:g≠ob) (gb:base<=g) (gw:g<w.heap.size):VI w' base mD (az++[.slice (some ⟨g,0,none⟩) l.length cap]) (L++[l]):=by
 have keep:∀ q,q<w.heap.size->q≠ob->w'.heap[q]?=w.heap[q]?:=fun q hq hn=>(r.block q (by simp;omega) (by simpa using hn)).trans (heap_alloc_old w o hq)
 have sz:w.heap.size<=w'.heap.size:=by have:=r.size;simp at this;omega
 refine ⟨by simp [h.1],fun i hi=>?_⟩
 by_cases e:i<L.length
 ·obtain ⟨a,c,h1,h2,h3,h4,h5⟩:=h.2 i e
  have gd:(L++[l]).getD i []=L.getD i []:=by simp [List.getD,List.getElem?_append_left e]
  rw [gd];exact ⟨a,c,by rw [List.getElem?_append_left (by rw [h.1];exact e)];exact h1,h2,by omega,⟨h4.1,by omega⟩,zW h5 (keep a h4.2 h3) sz⟩
 ·have ei:i=L.length:=by simp at hi;omega
  have gd:(L++[l]).getD i []=l:=by subst ei;simp [List.getD]
  rw [gd];exact ⟨g,cap,by rw [List.getElem?_append_right (by rw [h.1];omega),h.1,ei];simp,gc,by omega,⟨gb,by omega⟩,zW gl (keep g gw gn) sz⟩
variable {n:Nat}
theorem Nk {e size:Nat} {v:Value} {xs:List Value} (h:w.ownsRow base e size v n xs) (g:Gw w w'):w'.ownsRow base e size v n xs:=by
 refine ⟨h.1,?_⟩;rcases h.2 with q | ⟨b,cap,cur,rfl,hb,hh,r⟩
 ·exact .inl q
 ·exact .inr ⟨b,cap,cur,rfl,hb,(g.below.block b (Array.getElem?_eq_some_iff.1 hh).1).trans hh,r⟩
theorem D9 (w:World) (v:Value) (t:TypeId):∀ j u,[v][j]?=some u->(w.alloc (.cells #[v] t)).cell? ((⟨w.heap.size,0,none⟩:Addr).add j)=some u:=by
 intro j u hu;have h:=heap_alloc_new w (.cells #[v] t);rw [Addr.add_lit,Nat.zero_add];simp only [World.cell?,h];simpa using hu
variable {eps:Int}
theorem Nl {fr:Int} {h:Nat->Int} {N:Nat} {k:Int} {s ic:Nat} {F T er:Int} (S:fR eps fr h N k s ic F T er) (e:2<=eps/\eps<=64) (n0:0<N) (u:Up h N) (ft:aY (eps-1) h (aB N)) (f0:0<=fr) (f1:fr+N<=4294967296):er=0:=by
 have z:∀ {a b c x:Int},dP eps h N a b c x->x=0:=fun o=>by
  rcases o with ⟨q,_⟩ | ⟨_,q,_⟩ | ⟨_,_,q,_⟩ | ⟨_,_,_,_,_,q⟩
  ·exact absurd q (by omega)
  ·exact absurd ⟨n0,u⟩ q
  ·exact absurd ft q
  ·exact q
 rcases S with ⟨a,b,c,o,ne,_⟩ | ⟨a,b,c,o,nb,_⟩ | ⟨a,b,c,o,_,_,_,_,_,_,_,q⟩
 ·exact absurd (z o) ne
 ·exact absurd ⟨f0,f1⟩ nb
 ·exact q
theorem aaN (O5:oU) (eps:Int) (ao:Option Addr) (n cp:Nat) (f:Nat->Int) (e0:-9223372036854775808<=eps) (e1:eps<9223372036854775808) (hn:n<=2000000) (dc:n<=cp) (w:World) (h:KS w ao n f) :
  Calls prog 38 #[.slice ao n cp,AI eps] w fun ex w'=>aaa w.heap.size w' ex eps f n/\Gw w w':=by
 have HK:ag (KS w ao n f):=h;clear h;by_cases k0:¬ (2<=eps/\eps<=64)
 ·have R:ag (oY eps f n [] 1):=.inl ⟨k0,rfl,rfl⟩
  by_cases h2:eps<2
  ·have t1:decide (eps<2)=true:=by simpa using h2
   clear k0 h2 O5;go_enter func38,ntmps38;go_wp2_with fail;exact bodyPost_ret (v:=.tuple #[.slice none 0 0,AI 1]) (by simp [results,results38,go_sem]) rfl ⟨⟨none,0,[],1,rfl,R.o,⟨fun h0=>by simp at h0⟩,Nat.le_refl _⟩,Gw.refl w⟩
  ·have t1:decide (eps<2)=false:=by simpa using h2
   have t2:decide (64<eps)=true:=by simp;omega
   clear k0 h2 O5;go_enter func38,ntmps38;go_wp2_with fail;exact bodyPost_ret (v:=.tuple #[.slice none 0 0,AI 1]) (by simp [results,results38,go_sem]) rfl ⟨⟨none,0,[],1,rfl,R.o,⟨fun h0=>by simp at h0⟩,Nat.le_refl _⟩,Gw.refl w⟩
 ·have KE:ag (2<=eps/\eps<=64):=Classical.not_not.1 k0
  have t1:decide (eps<2)=false:=by have:=KE.o;simp;omega
  have t2:decide (64<eps)=false:=by have:=KE.o;simp;omega
  have RI:ag (∀ W,KS W ao n f->_):=fun W h=>CW ao n cp f (by omega) W h
  have HO:ag oU:=O5;clear O5 k0;go_enter func38,ntmps38;go_wp2_with fail;refine (RI.o _ HK.o).mono ?_;rintro ex w1 ⟨⟨r,rfl,hr⟩,g1⟩;have G1:ag (Gw w w1):=g1;have HR:ag (r=true↔Up f n):=hr;clear hr g1;cases r with
  | false =>
   have R:ag (oY eps f n [] 80):=.inr (.inl ⟨KE.o,fun q=>by have:=HR.o.2 q;simp at this,rfl,rfl⟩)
   go_wp2_with fail;exact bodyPost_ret (v:=.tuple #[.slice none 0 0,AI 80]) (by simp [results,results38,go_sem]) rfl ⟨⟨none,0,[],80,rfl,R.o,⟨fun h0=>by simp at h0⟩,Nat.le_refl _⟩,G1.o⟩
  | true =>
   have UP:ag (Up f n):=HR.o.1 rfl;obtain ⟨jj,mF,jz,js,mG⟩:=info_parts DI;obtain ⟨ii,aQ,hz,hs,aR⟩:=info_parts DH;have G2:ag (Gw w (w1.alloc (.cells #[] 122))):=G1.o.alloc _ _;have R2:ag ((w1.alloc (.cells #[] 122)).ownsRow w.heap.size 122 1 (.slice (some ⟨w1.heap.size,0,none⟩) 0 0) 0 []):=World.ownsRow_made w1 #[] 0 G1.o.size (Nat.zero_le _) rfl;have V2:ag (VI (w1.alloc (.cells #[] 122)) w.heap.size w1.heap.size [] []):=⟨rfl,fun i hi=>by simp at hi⟩
   have k2:=KE.o.1;have k3:=KE.o.2;have K2:ag (KS (w1.alloc (.cells #[] 122)) ao n f):=HK.o.gw G2.o;have UPF:ag (Up f n):=UP.o;clear HR G1 HK RI;go_wp2_with fail;generalize w1.alloc (.cells #[] 122)=w2 at G2 R2 V2 K2 ⊢;generalize w1.heap.size=ob0 at R2 V2 ⊢;go_loopg [0,6,7] n (fun gg s0 s6 s7 wr=>∃ (m c ob oc nn:Nat) (bo:Option Addr) (g:Nat->Int) (L:List (List Sg)) (az:List Value),s0=.slice bo m c/\s6=.slice (some ⟨ob,0,none⟩) L.length oc/\s7=AI nn/\m<=2000000/\m<=c/\nn<=gg/\(nn=m\/nn+1=m)/\L.length+nn<=n/\ag (KS wr bo m g)/\ag (Up g m)/\ag (wr.ownsRow w.heap.size 122 1 (.slice (some ⟨ob,0,none⟩) L.length oc) L.length az)/\ag (VI wr w.heap.size ob az L)/\ag ((0<nn->∀ r,cQ eps g m r->cQ eps f n (L++r))/\(nn=0->cQ eps f n L))/\ag (Gw w wr))
   case atStart=>exact ⟨n,cp,ob0,0,n,ao,f,[],[],rfl,rfl,rfl,hn,dc,Nat.le_refl _,.inl rfl,by simp,K2,UP,R2,V2,(show ag _ from ⟨fun _ r h=>h,fun h=>h⟩),G2⟩
   case round =>
    clear G2 R2 V2 K2 UP;obtain ⟨m,c,ob,oc,nn,bo,g,L,az,rfl,rfl,rfl,h3,h4,h5,h6,h7,K,U,R,V,BR,G⟩:=hrel;by_cases n0:0<nn
    ·have tn:decide ((0:Int)<(nn:Int))=true:=by simp;omega
     have m0:0<m:=by omega
     obtain ⟨bk,off,rfl,fT,dY⟩:=K.o.cells m0;clear dY;obtain ⟨wS,bj⟩:∃ wx,wx=wr:=⟨_,rfl⟩;subst bj;go_wp2_with fail;refine (aaq eps _ m c g e0 e1 h3 _ K.o).mono ?_;rintro ex w3 ⟨⟨v3,es,err,rfl,hE,hI⟩,g3⟩;have EA:cV (eps-1) g m 0 es:=by
      rcases hE with ⟨q,_⟩ | ⟨_,q,_⟩ | ⟨_,_,q,_⟩
      ·exact absurd KE.o q
      ·exact absurd U.o q
      ·exact q
     have ED:ag (cV (eps-1) g m 0 es):=EA;have zX:=EA.len;obtain ⟨eo,ec,rfl,vH,vI⟩:=Mz hI;have px:0<es.length:=List.length_pos_iff.2 (EA.nonempty m0);cases eo with
     | none=>have:=(vH rfl).1;rw [this] at px;simp at px
     | some ea =>
      obtain ⟨eb,rfl,_,jO,py⟩:=vI ea rfl;have EC:ag (∀ W,Gw w3 W->∀ i,i<es.length->W.cell? ⟨eb,i,none⟩=some (AI ((es.getD i 0:Nat):Int))/\eb<W.heap.size):=fun W gW i hi=>⟨(gW.cell _ _ jO).trans (py i hi),Nat.lt_of_lt_of_le jO gW.size⟩
      have Nn:ag (Gw wS w3):=g3;clear hE EA hI vH vI py g3;have zY:ag (SR (w3.alloc (.cells #[] 145)) w3.heap.size (.slice (some ⟨w3.heap.size,0,none⟩) 0 0) []):=aab w3 w3.heap.size (Nat.le_refl _);have Ea:ag (Gw wS (w3.alloc (.cells #[] 145))):=Nn.o.alloc _ _;have Eb:ag (Gw w3 (w3.alloc (.cells #[] 145))):=(Gw.refl w3).alloc _ _;obtain ⟨en,mI⟩:∃ en,es.length=en:=⟨_,rfl⟩;have EN:ag (es.length=en):=mI;rw [mI] at zX px ⊢;clear mI jO;go_wp2_with fail;generalize w3.alloc (.cells #[] 145)=w4 at zY Ea Eb ⊢;obtain ⟨iD,pz⟩:∃ iD,w3.heap.size=iD:=⟨_,rfl⟩;have L0:ag (wS.heap.size<=iD):=by rw [<-pz];exact Nn.o.size
      have L0':ag (w3.heap.size<=iD):=by rw [<-pz];exact Nat.le_refl _
      rw [pz] at zY ⊢;clear pz;go_loopg [10,11,12] en (fun gg iB gV nM wr=>∃ (i fr lb lc:Nat) (lv:List Sg),iB=.slice (some ⟨lb,0,none⟩) i lc/\gV=AI fr/\nM=AI i/\i<=en/\en-i<=gg/\ag (lv.length=i)/\ag (fr=kX 0 es i)/\ag (SR wr iD (.slice (some ⟨lb,0,none⟩) i lc) lv)/\ag (∀ j,j<lv.length->(lv.getD j aK).ok)/\ag (∀ l',cK eps g m fr l'->cK eps g m 0 (lv++l'))/\ag (Gw wS wr)/\ag (Gw w3 wr))
      case atStart=>exact ⟨0,0,iD,0,[],rfl,rfl,rfl,Nat.zero_le _,by omega,(show ag _ from rfl),(show ag _ from rfl),zY,(show ag _ from fun j hj=>by simp at hj),(show ag _ from fun l' h=>h),Ea,Eb⟩
      case round =>
       clear zY Ea Eb;obtain ⟨i,fr,lb,lc,lv,rfl,rfl,rfl,j1,j2,LI,FR,lA,pA,dX,lB,qX⟩:=hrel;by_cases fX:i<en
       ·have ST:=ED.o.step i (by rw [EN.o];exact fX)
        rw [<-FR.o] at ST;obtain ⟨vJ,Ec⟩:=EC.o _ qX.o i (by rw [EN.o];exact fX)
        obtain ⟨ei,qY⟩:∃ ei,es.getD i 0=ei:=⟨_,rfl⟩;rw [qY] at ST vJ;obtain ⟨s1,s2,s3,s4,_⟩:=ST;have FN:ag (kX 0 es (i+1)=ei):=qY;clear qY;have tc:ei<=c:=by omega
        have cf:¬ c=fr:=by omega
        have fc:¬ fr=c:=by omega
        have i1:(0:Int)<=(fr:Int):=by omega
        have i2:(fr:Int)<=(ei:Int):=by omega
        have i3:(ei:Int)<=(c:Int):=by omega
        have fe:fr<=ei:=by omega
        go_wp2_with fail;refine (ZF HO.o eps fr _ (ei-fr) (c-fr) (sh g fr) e0 e1 (by omega) (by omega) (by omega) _ (DG ((K.o.gw lB.o)) s2)).mono ?_
        rintro ex w5 ⟨⟨k5,bX,bZ,F5,T5,er5,rfl,nN⟩,g5⟩;obtain rfl:=Nl nN KE.o (by omega) (oJ U.o s2) s3 (by omega) (by omega)
        have vK:∀ t,t<ei-fr->0<=sh g fr t/\sh g fr t<18446744073709551616:=fun t ht=>K.o.bd (fr+t) (by omega)
        have SA:ag (oX eps g fr ei (Sg.mk k5 bX bZ F5 T5)):=nN;have SO:ag (Sg.ok (Sg.mk k5 bX bZ F5 T5)):=nN.ok (by omega) vK
        have zZ:ag (Gw wS (w5.alloc (.cells #[By k5,.float .f64 bX,.float .f64 bZ,AI F5,AI T5] 145))):=(lB.o.trans g5).alloc _ _;have vL:ag (Gw w3 (w5.alloc (.cells #[By k5,.float .f64 bX,.float .f64 bZ,AI F5,AI T5] 145))):=(qX.o.trans g5).alloc _ _;have z7:ag (SR (w5.alloc (.cells #[By k5,.float .f64 bX,.float .f64 bZ,AI F5,AI T5] 145)) iD (.slice (some ⟨lb,0,none⟩) i lc) lv):=DK (DK lA.o g5) ((Gw.refl w5).alloc _ _);have Ed:ag (Sb (w5.alloc (.cells #[By k5,.float .f64 bX,.float .f64 bZ,AI F5,AI T5] 145)) w5.heap.size k5 bX bZ F5 T5):=heap_alloc_new w5 _;have ec5:=EC.o _ vL.o i (by rw [EN.o];exact fX)
        have cU:(w5.alloc (.cells #[By k5,.float .f64 bX,.float .f64 bZ,AI F5,AI T5] 145)).heap.size=w5.heap.size+1:=by simp
        have NS:ag (∀ j u,(da (Sg.mk k5 bX bZ F5 T5))[j]?=some u->((w5.alloc (.cells #[By k5,.float .f64 bX,.float .f64 bZ,AI F5,AI T5] 145)).alloc (.cells #[By k5,.float .f64 bX,.float .f64 bZ,AI F5,AI T5] 145)).cell? ((⟨w5.heap.size+1,0,none⟩:Addr).add j)=some u):=by
         have:=aac (w5.alloc (.cells #[By k5,.float .f64 bX,.float .f64 bZ,AI F5,AI T5] 145)) (Sg.mk k5 bX bZ F5 T5)
         rw [cU] at this;exact this
        have Np:ag ((w5.alloc (.cells #[By k5,.float .f64 bX,.float .f64 bZ,AI F5,AI T5] 145)).ownsRow iD 145 5 (.slice (some ⟨lb,0,none⟩) i lc) i (lv.flatMap da)):=by
         have:=z7.o
         unfold SR at this;rw [LI.o] at this;exact this
        have lz:iD<=w5.heap.size+1:=by have:=(mu z7.o lb rfl);rw [cU] at this;omega
        have Ee:iD<=lb:=(mu z7.o lb rfl).1;clear nN vK g5 lB qX lA vJ Ec z7 ec5;obtain ⟨z0,z1,z2,z3,z4⟩:=Ed.o.cells;have zl:=Ed.o.lt;go_wp2_with (at_builtin;refine wpList_append_own _ rfl _ _ 122 rfl iD 145 ii (.agg #[By 0,.float .f64 0,.float .f64 0,AI 0,AI 0]) 5 40 underlying122 aQ hz hs aR rfl (by decide) _ i _ rfl (Np.o.alloc _) ⟨w5.heap.size+1,0,none⟩ 1 1 (da (Sg.mk k5 bX bZ F5 T5)) rfl rfl NS.o (Me _) (by simp only [maxLen];omega) (by omega) (by simp;omega) ?_)
        intro v' w7 r1 r2 r3;obtain ⟨b7,Nq,rfl,hb7,_,_⟩:=dh r1 (by simpa using r3)
        have GS7:ag (Gw wS w7):=(zZ.o.alloc _ _).grown r2 (fun k' hk=>by have e:lb=k':=(by simpa [Value.ownBlock] using hk);have:=L0.o;omega)
        have Ns:ag (Gw w3 w7):=(vL.o.alloc _ _).grown r2 (fun k' hk=>by have e:lb=k':=(by simpa [Value.ownBlock] using hk);have:=L0'.o;omega)
        have tO:ag ((lv++[(Sg.mk k5 bX bZ F5 T5)]).length=i+1):=by show (lv++[_]).length=i+1;rw [List.length_append,LI.o];rfl
        have SR7:ag (SR w7 iD (.slice (some ⟨b7,0,none⟩) (i+1) Nq) (lv++[(Sg.mk k5 bX bZ F5 T5)])):=by
         show World.ownsRow _ _ _ _ _ _ _;rw [tO.o,Mf];exact r1
        have Ef:ag (∀ j,j<(lv++[(Sg.mk k5 bX bZ F5 T5)]).length->((lv++[(Sg.mk k5 bX bZ F5 T5)]).getD j aK).ok):=fun j hj=>by
         rw [tO.o] at hj;by_cases x:j<lv.length
         ·rw [show (lv++[(Sg.mk k5 bX bZ F5 T5)]).getD j aK=lv.getD j aK by simp [List.getD,List.getElem?_append_left x]]
          exact pA.o j x
         ·have e:j=lv.length:=by have:=LI.o;omega
          rw [show (lv++[(Sg.mk k5 bX bZ F5 T5)]).getD j aK=(Sg.mk k5 bX bZ F5 T5) by subst e;simp [List.getD]]
          exact SO.o
        have Eg:ag (∀ l',cK eps g m ei l'->cK eps g m 0 ((lv++[(Sg.mk k5 bX bZ F5 T5)])++l')):=fun l' h=>by
         rw [List.append_assoc];exact dX.o ((Sg.mk k5 bX bZ F5 T5)::l') ⟨ei,⟨s1,s2,s3,s4⟩,SA.o,h⟩
        have Eh:ag (ei=kX 0 es (i+1)):=FN.o.symm;obtain ⟨q7,q8⟩:=EC.o _ Ns.o i (by rw [EN.o];exact fX)
        rw [show es.getD i 0=ei from FN.o] at q7;clear r1 r2 r3 hb7 s3 s4 Ed zZ vL NS Np z0 z1 z2 z3 z4 zl pA dX SA;go_wp2_with fail;go_roundg (en-(i+1))
        case measure=>omega
        case rel=>exact ⟨i+1,ei,b7,Nq,lv++[(Sg.mk k5 bX bZ F5 T5)],rfl,rfl,by go_num,by omega,Nat.le_refl _,tO,Eh,SR7,Ef,Eg,GS7,Ns⟩
       ·have ei:i=en:=by omega
        subst ei;have vM:fr=m:=by
         rw [FR.o];obtain ⟨i',gX⟩:∃ i',i=i'+1:=⟨i-1,by omega⟩
         have:=(ED.o.last i' (by rw [EN.o];omega)).2 (by rw [EN.o];omega)
         rw [gX];exact this
        have iE:cK eps g m 0 lv:=by
         have:=dX.o [] vM
         rwa [List.append_nil] at this
        have lk:=LI.o;have GL:GS wr (some ⟨lb,0,none⟩) lv:=DO (by rw [lk];exact lA.o) pA.o
        have ilc:i<=lc:=by
         have:=lA.o
         unfold SR at this;rw [lk] at this;exact (dh this (by simp)).elim fun _ ⟨_,ev,_,h,_⟩=>by cases ev;exact h
        have Ee:iD<=lb/\lb<wr.heap.size:=mu lA.o lb rfl;have obw:w.heap.size<=ob/\ob<wS.heap.size:=R.o.lt ob rfl;have Nt:lb≠ob:=by have:=L0.o;omega
        have R6:ag (wr.ownsRow w.heap.size 122 1 (.slice (some ⟨ob,0,none⟩) L.length oc) L.length az):=Nk R.o lB.o;have V6:ag (VI wr w.heap.size ob az L):=V.o.gw lB.o;have G6:ag (Gw w wr):=G.o.trans lB.o;have FW:=iE.few (by omega) m0 h3 K.o.bd U.o
        have Ei:=iE.len h3 K.o.bd;obtain ⟨u1,_,u3⟩:=nF U.o (iE.tiles h3 K.o.bd) (iE.keys h3 K.o.bd);have UN:ag (Up (bf lv) i):=by have:=u1;rw [lk] at this;exact this
        have ms:i<=nn/\i-1<nn:=by
         rw [lk] at FW Ei;rcases h6 with h6 | h6
         ·omega
         ·by_cases x:i=1
          ·omega
          ·have:=oW (e:=eps.toNat) (by omega) (FW.2 x)
           have:=FW.1
           omega
        have Nu:ag ((0<i-1->∀ r,cQ eps (bf lv) i r->cQ eps f n ((L++[lv])++r))/\(i-1=0->cQ eps f n (L++[lv]))):=by
         refine ⟨fun h r hr=>?_,fun h=>?_⟩
         ·rw [List.append_assoc]
          exact BR.o.1 n0 (lv::r) ⟨m0,iE,by rw [if_neg (by omega),lk];exact hr⟩
         ·exact BR.o.1 n0 [lv] ⟨m0,iE,by rw [if_pos (by omega)]⟩
        have Ej:ag (GS wr (some ⟨lb,0,none⟩) lv):=GL;have LK:ag (lv.length=i):=lk;have zz:=G6.o.size;clear iE u1 u3 FW dX lA pA GL lk FR vM R V G BR ED EC EN;go_wp2_with (at_builtin;refine wpList_append_own_at _ rfl _ _ 80 rfl w.heap.size 122 jj (.slice none 0 0) 1 24 underlying80 mF jz js mG rfl (by decide) _ L.length _ rfl (R6.o.alloc _) ⟨wr.heap.size,0,none⟩ 1 1 [(.slice (some ⟨lb,0,none⟩) i lc)] rfl rfl (D9 wr (.slice (some ⟨lb,0,none⟩) i lc) 122) (fun u hu=>by simp at hu;subst hu;rfl) (by simp only [maxLen];omega) (by omega) (by simp;omega) ?_)
        intro v' w8 r1 r2 r3 r4;obtain ⟨b8,cap8,rfl,nO,_,_⟩:=dh r1 (by simpa using r3)
        have Ek:b8=ob\/wr.heap.size<=b8:=by
         rcases r4 with q | q
         ·have q':b8=ob:=by simpa [Value.ownBlock] using q
          exact .inl q'
         ·have q':b8=wr.heap.size+1:=by simpa [Value.ownBlock] using q
          exact .inr (by omega)
        have mj:(wr.alloc (.cells #[(.slice (some ⟨lb,0,none⟩) i lc)] 122)).grownBy w8 (some ob):=r2;have V8:ag (VI w8 w.heap.size b8 (az++[(.slice (some ⟨lb,0,none⟩) i lc)]) (L++[lv])):=by
         have:=V6.o.more mj Ek Ej.o (by rw [LK.o];exact ilc) Nt (by have:=L0.o;omega) Ee.2
         rw [LK.o] at this;exact this
        have G8:ag (Gw w w8):=(G6.o.alloc _ _).grown r2 (fun k' hk=>by have e:ob=k':=(by simpa [Value.ownBlock] using hk);omega)
        have Nv:ag (GS w8 (some ⟨lb,0,none⟩) lv):=zW Ej.o ((mj.block lb (by simp;omega) (by simpa using Nt)).trans (heap_alloc_old wr _ Ee.2)) (by have:=mj.size;simp at this;omega)
        have L8:(L++[lv]).length=L.length+1:=by simp
        have R8:ag (w8.ownsRow w.heap.size 122 1 (.slice (some ⟨b8,0,none⟩) (L++[lv]).length cap8) (L++[lv]).length (az++[(.slice (some ⟨lb,0,none⟩) i lc)])):=by
         rw [L8];exact r1
        have FI:ag (∀ W,GS W (some ⟨lb,0,none⟩) lv->Calls prog 74 #[.slice (some ⟨lb,0,none⟩) i lc] W fun e w'=>(∃ b cap,e=.returned (.slice (some ⟨b,0,none⟩) i cap)/\W.heap.size<=b/\i<=cap/\KS w' (some ⟨b,0,none⟩) i (bf lv))/\Gw W w'):=fun W h=>by
         have:=ZT (some ⟨lb,0,none⟩) lc lv (by rw [LK.o];omega) W h
         rw [LK.o] at this;exact this
        have wi:IntKind.i64.wrap ((i:Int)-1)=((i-1:Nat):Int):=by rw [IntKind.wrap_i64];omega
        obtain ⟨n8,En⟩:∃ n8,i-1=n8:=⟨_,rfl⟩;rw [En] at wi ms Nu;have N8:ag (i-1=n8):=En;clear r1 r2 r3 r4 mj nO R6 V6 G6 Ej En;go_wp2_with fail;refine (FI.o _ Nv.o).mono ?_;rintro e w9 ⟨⟨fb,fc,rfl,_,hfc,hk⟩,g9⟩;have G9:ag (Gw w w9):=G8.o.trans g9;have K9:ag (KS w9 (some ⟨fb,0,none⟩) i (bf lv)):=hk;have R9:ag (w9.ownsRow w.heap.size 122 1 (.slice (some ⟨b8,0,none⟩) (L++[lv]).length cap8) (L++[lv]).length (az++[(.slice (some ⟨lb,0,none⟩) i lc)])):=Nk R8.o g9;have V9:ag (VI w9 w.heap.size b8 (az++[(.slice (some ⟨lb,0,none⟩) i lc)]) (L++[lv])):=V8.o.gw g9;clear g9 hk R8 V8 G8 Nv FI;go_wp2_with fail;go_roundg n8
        case measure=>omega
        case rel=>exact ⟨i,fc,b8,cap8,n8,some ⟨fb,0,none⟩,bf lv,L++[lv],az++[(.slice (some ⟨lb,0,none⟩) i lc)],rfl,by rw [L8],rfl,by omega,hfc,Nat.le_refl _,.inr (by have:=N8.o;omega),(by rw [L8];have:=N8.o;omega),K9,UN,R9,V9,Nu,G9⟩
    ·have Nw:nn=0:=by omega
     subst Nw;have RR:ag (oY eps f n L 0):=.inr (.inr ⟨KE.o,UPF.o,BR.o.2 rfl,rfl⟩);have VV:ag (gT wr w.heap.size (some ⟨ob,0,none⟩) L):=by
      refine ⟨fun _=>⟨ob,0,rfl,(R.o.lt ob rfl),fun i hi=>?_⟩⟩
      obtain ⟨g',fJ,v1,v2,_,v4,v5⟩:=V.o.2 i hi;refine ⟨some ⟨g',0,none⟩,fJ,?_,v2,(fun e=>by cases e),v5,fun a e=>by cases e;exact v4⟩
      rw [Nat.zero_add,R.o.cellAt i (by omega)]
      exact v1
     have oc1:L.length<=oc:=(dh R.o (by simp)).elim fun _ ⟨_,ev,_,h,_⟩=>by cases ev;exact h
     go_wp2_with fail;exact bodyPost_ret (v:=.tuple #[.slice (some ⟨ob,0,none⟩) L.length oc,AI 0]) (by simp [results,results38,go_sem]) rfl ⟨⟨_,oc,L,0,rfl,RR.o,VV.o,oc1⟩,G.o⟩
end Go.Proofs.YtcboobmfnmgldaaGreat
namespace Go.Proofs.YtcboobmfnmgldaaGreat
open Go.RowKit
def kE (k v:Nat->Int) (g:Nat->Bool) (n:Nat):List Value:=(List.range (n*3)).map (jM k v g)
theorem Eo (k v:Nat->Int) (g:Nat->Bool) (n:Nat):(kE k v g n).length=n*3:=by simp [kE]
variable {n:Nat}
theorem Nx (k v:Nat->Int) (g:Nat->Bool) {j:Nat} (h:j<n*3):(kE k v g n)[j]?=some (jM k v g j):=by simp [kE,h]
theorem Ny (k v:Nat->Int) (g:Nat->Bool) (n:Nat):∀ u∈kE k v g n,u.oneCell'=true:=by
 intro u hu;obtain ⟨j,_,rfl⟩:=List.mem_map.1 hu;exact aaC k v g j
variable {w:World} {ao:Option Addr} {k v:Nat->Int} {g:Nat->Bool}
theorem Nz (h:ES w ao n k v g):∀ ad,ao=some ad->∀ j u,(kE k v g n)[j]?=some u->w.cell? (ad.add j)=some u:=by
 intro ad e j u hu;have hj:j<n*3:=by
  have:=(List.getElem?_eq_some_iff.1 hu).1
  rwa [Eo] at this
 obtain ⟨b,off,e',_,hc⟩:=h.flat (by omega)
 rw [e] at e';cases e';rw [Addr.add_lit,hc j hj,<-Nx k v g hj];exact hu
def ER (w:World) (base:Nat) (x:Value) (k v:Nat->Int) (g:Nat->Bool) (n:Nat):Prop:=w.ownsRow base 75 3 x n (kE k v g n)
variable {base:Nat}
theorem Ep {cap:Nat} (h:ER w base (.slice ao n cap) k v g n) (bd:∀ i,i<n->(0<=k i/\k i<18446744073709551616)/\(0<=v i/\v i<18446744073709551616)):ES w ao n k v g:=by
 refine ⟨fun h0=>?_,bd⟩
 rcases h.2 with ⟨e,z⟩ | ⟨b,fJ,cur,e,hb,hh,r⟩
 ·omega
 ·cases e
  have h':w.ownsRow base 75 3 (.slice (some ⟨b,0,none⟩) n cap) n (kE k v g n):=h;have ce:∀ j,j<n*3->w.cell? ⟨b,j,none⟩=some (jM k v g j):=fun j hj=>by
   rw [h'.cellAt j hj,Nx k v g hj]
  refine ⟨b,0,rfl,(Array.getElem?_eq_some_iff.1 hh).1,fun i hi=>⟨?_,?_,?_⟩⟩
  ·rw [Nat.zero_add,ce _ (by omega),aaz]
  ·rw [Nat.zero_add,ce _ (by omega),aaA]
  ·rw [Nat.zero_add,ce _ (by omega),aaB]
theorem Er {x:Value} (h:ER w base x k v g n):∃ bo c,x=.slice bo n c/\n<=c/\∀ a,bo=some a->base<=a.block/\a.block<w.heap.size:=by
 rcases h.2 with ⟨e,z⟩ | ⟨b,cap,cur,e,hb,hh,hc,_⟩
 ·exact ⟨none,0,by rw [e,z],by omega,fun a q=>by cases q⟩
 ·exact ⟨some ⟨b,0,none⟩,cap,e,hc,fun a q=>by cases q;exact ⟨hb,(Array.getElem?_eq_some_iff.1 hh).1⟩⟩
theorem aaO {c:Nat} {bo:Option Addr} (h:ER w base (.slice bo n c) k v g n):n<=c/\(bo=none->n=0/\c=0):=by
 rcases h.2 with ⟨e,z⟩ | ⟨b,cap,cur,e,hb,hh,hc,_⟩
 ·injection e with e1 e2 e3
  exact ⟨by omega,fun _=>⟨z,e3⟩⟩
 ·injection e with e1 e2 e3
  subst e1 e3;exact ⟨hc,fun x=>by cases x⟩
variable {L:List (List Sg)}
theorem gT.low {pB:Nat} (h:gT w base ao L) (hb:pB<=base):gT w pB ao L :=
 ⟨fun h0=>by
  obtain ⟨b,off,e,x,hc⟩:=h.cells h0;refine ⟨b,off,e,⟨Nat.le_trans hb x.1,x.2⟩,fun i hi=>?_⟩
  obtain ⟨bo,c,y1,y2,y3,y4,y5⟩:=hc i hi;exact ⟨bo,c,y1,y2,y3,y4,fun a ea=>⟨Nat.le_trans hb (y5 a ea).1,(y5 a ea).2⟩⟩⟩
def kF (eps:Int) (k v:Nat->Int) (g:Nat->Bool) (n:Nat) (E:Int):Prop:=(¬ (2<=eps/\eps<=64)/\E=1)\/((2<=eps/\eps<=64)/\dw k v g n E)
variable {eps:Int}
theorem kF.one {E E':Int} (h:kF eps k v g n E) (h':kF eps k v g n E'):E=E':=by
 rcases h with ⟨a,rfl⟩ | ⟨a,c⟩
 ·rcases h' with ⟨_,rfl⟩ | ⟨b,_⟩
  ·rfl
  ·exact absurd b a
 ·rcases h' with ⟨b,_⟩ | ⟨_,d⟩
  ·exact absurd a b
  ·exact c.one d
def OfE (eps:Int) (k v:Nat->Int) (g:Nat->Bool) (n:Nat) (L:List (List Sg)) (E:Int):Prop:=∃ r,kF eps k v g n r/\((r≠0/\E=r)\/(r=0/\ji eps k n L E))
theorem kF.up (h:kF eps k v g n 0):(2<=eps/\eps<=64)/\Up k n:=by
 rcases h with ⟨_,e⟩ | ⟨a,⟨_,u,_⟩ | ⟨e,_⟩ | ⟨e,_⟩⟩
 ·cases e
 ·exact ⟨a,u⟩
 ·cases e
 ·cases e
def nP (HR:World->Nat->(Nat->Prop)->Int->(Nat->Int)->(Nat->Int)->(Nat->Bool)->Nat->List (List Sg)->Prop) (w w':World) (ex:Ending) (eps:Int) (k v:Nat->Int) (g:Nat->Bool) (n:Nat):Prop :=
 ∃ E,kF eps k v g n E/\((E≠0/\ex=.returned (.tuple #[.pointer none,AI E]))\/(E=0/\∃ p S L,ex=.returned (.tuple #[BY p,AI 0])/\(∀ q,S q->w.heap.size<=q)/\cQ eps k n L/\HR w' p S eps k v g n L))
def Es (HR:World->Nat->(Nat->Prop)->Int->(Nat->Int)->(Nat->Int)->(Nat->Bool)->Nat->List (List Sg)->Prop) (w w':World) (ex:Ending) (eps:Int) (k v:Nat->Int) (g:Nat->Bool) (n:Nat) (L:List (List Sg)):Prop :=
 ∃ E,OfE eps k v g n L E/\((E≠0/\ex=.returned (.tuple #[.pointer none,AI E]))\/(E=0/\∃ p S,ex=.returned (.tuple #[BY p,AI 0])/\(∀ q,S q->w.heap.size<=q)/\HR w' p S eps k v g n L))
theorem cQ.fine {f:Nat->Int} (e0:2<=eps) (n1:n<=2000000) (bd:∀ t,t<n->0<=f t/\f t<18446744073709551616) (u:Up f n) (b:cQ eps f n L):mq L:=by
 refine ⟨?_,fun i hi=>by have:=b.short n1 bd u i hi;omega⟩
 have a:=b.low e0 n1 bd u;have c:=Mb (e:=eps.toNat) (by omega) n
 omega
theorem aaP (O5:oU) (eps:Int) (ao:Option Addr) (n cp:Nat) (k v:Nat->Int) (g:Nat->Bool) (e0:-9223372036854775808<=eps) (e1:eps<9223372036854775808) (hn:n<=2000000) (dc:n<=cp) (hz:ao=none->n=0/\cp=0) (w:World) (h:ES w ao n k v g) :
  Calls prog 19 #[.slice ao n cp,AI eps] w fun ex w'=>nP bI w w' ex eps k v g n/\Gw w w':=by
 have HE:ag _:=h;have HZ:ag _:=hz;have KB:ag (∀ t,t<n->0<=k t/\k t<18446744073709551616):=fun t ht=>(h.bd t ht).1
 clear hz;by_cases b:2<=eps/\eps<=64
 ·have t1:decide (eps<2)=false:=by simp;omega
  have t2:decide (64<eps)=false:=by simp;omega
  have CK:ag _:=Nj ao n cp k v g (by omega) w h
  have BN:ag (2<=eps/\eps<=64):=b;clear h b;go_enter func19,ntmps19;go_wp2_with fail;refine Calls.mono CK.o ?_;rintro e w1 ⟨⟨r,rfl,cr⟩,g1⟩;have CR:ag (dw k v g n r):=cr;have G1:ag _:=g1;clear CK cr g1;by_cases r0:r=0
  ·subst r0
   go_wp2_with fail;refine Calls.mono (aaJ ao n cp k v g (by omega) w1 (HE.o.gw G1.o)) ?_
   rintro e w2 ⟨⟨kb,kc,rfl,jk,own⟩,g2⟩;have G2:ag _:=G1.o.trans g2;have K2:ag (KS w2 (some ⟨kb,0,none⟩) n k/\n<=kc):=⟨yU own (Nat.le_refl _) (fun i hi=>by simp [hi]) KB.o,by rcases own.2 with ⟨e,_⟩ | ⟨_,_,_,e,_,_,hc,_⟩;cases e;cases e;exact hc⟩
   clear own g2 jk G1;go_wp2_with fail;refine Calls.mono (aaN O5 eps _ n kc k e0 e1 hn K2.o.2 w2 K2.o.1) ?_;rintro e w3 ⟨⟨lo,lc,L,err,rfl,be,vs,cL⟩,g3⟩;have tP:ag (cQ eps k n L/\err=0):=by
    rcases be with ⟨x,_⟩ | ⟨_,x,_⟩ | ⟨_,_,x,y⟩
    ·exact absurd BN.o x
    ·exact absurd (kF.up (.inr ⟨BN.o,CR.o⟩)).2 x
    ·exact ⟨x,y⟩
   obtain rfl:err=0:=tP.o.2;have G3:ag _:=G2.o.trans g3;have ND:ag _:=vs;have Z2:ag _:=G2.o.size;obtain ⟨ln,au⟩:∃ ln,L.length=ln:=⟨_,rfl⟩;have LN:ag _:=au;rw [au];clear be vs cL g3 G2 K2 au O5;obtain ⟨ii,aQ,iz,is,Et⟩:=info_parts nK;have O0:ag ((w3.alloc (.cells #[] 75)).ownsRow w3.heap.size 75 3 (.slice (some ⟨w3.heap.size,0,none⟩) 0 0) 0 []):=World.ownsRow_made w3 #[] 0 (Nat.le_refl _) (Nat.zero_le _) rfl;have NW:ag (∀ ad,ao=some ad->∀ j u,(kE k v g n)[j]?=some u->(w3.alloc (.cells #[] 75)).cell? (ad.add j)=some u):=Nz (HE.o.gw (G3.o.alloc _ _));go_wp2_with (at_builtin;refine uL _ rfl _ _ 24 rfl w3.heap.size 75 ii (.agg #[By 0,By 0,.bool false]) 3 24 underlying24 aQ iz is Et rfl (by decide) _ 0 [] rfl O0.o ao n cp (kE k v g n) rfl HZ.o (Eo k v g n) NW.o (Ny k v g n) (by simp only [maxLen];omega) (by omega) (by simp) ?_)
   intro v' w5 q1 q2 q3;have R5:ER w5 w3.heap.size v' k v g n:=by show World.ownsRow _ _ _ _ _ _ _;simpa using q1
   have z8:ag (Gw w3 w5):=((Gw.refl w3).alloc _ _).grown q2 (fun j hj=>by cases hj;exact Nat.le_refl _)
   obtain ⟨bo,bc,rfl,_,bu⟩:=Er R5;have E5:ag (ES w5 bo n k v g/\∀ a,bo=some a->w3.heap.size<=a.block/\a.block<w5.heap.size):=⟨Ep R5 HE.o.bd,bu⟩;have NG:ag _:=aaO R5;clear q1 q2 q3 O0 NW R5 bu;have ak:ag (nP bI w (w5.alloc (.cells #[.slice bo n bc,AI eps,.slice lo ln lc] 94)) (.returned (.tuple #[BY (w5.heap.size),AI 0])) eps k v g n):=by
    have zz:=z8.o.size;have z3:=G3.o.size;have gA:Gw w5 (w5.alloc (.cells #[.slice bo n bc,AI eps,.slice lo ln lc] 94)):=(Gw.refl w5).alloc _ _;refine ⟨0,.inr ⟨BN.o,CR.o⟩,.inr ⟨rfl,w5.heap.size,fun q=>w.heap.size<=q/\q<w5.heap.size+1,L,rfl,fun q hq=>hq.1,tP.o.1,⟨⟨_,w.heap.size,bo,bc,lo,lc,fun q=>by simp,Nat.le_refl _,fun _ _ _=>rfl,by rw [LN.o];exact heap_alloc_new w5 _,by omega,E5.o.1.gw gA,fun a ea=>by have:=(E5.o.2 a ea).1;omega,((ND.o.gw z8.o).gw gA).low Z2.o,NG.o⟩,hn,tP.o.1.fine BN.o.1 hn KB.o (kF.up (.inr ⟨BN.o,CR.o⟩)).2⟩⟩⟩
   have G5:ag _:=G3.o.trans z8.o;clear E5 z8 ND tP LN CR NG;go_wp2_with fail;go_ret2;exact ⟨ak.o,G5.o.alloc _ _⟩
  ·have vN:(r != 0)=true:=by simpa using r0
   have R0:ag _:=r0;clear r0;go_wp2_with fail;go_ret2;exact ⟨⟨r,.inr ⟨BN.o,CR.o⟩,.inl ⟨R0.o,rfl⟩⟩,G1.o⟩
 ·have BN:ag (¬ (2<=eps/\eps<=64)):=b
  clear h;by_cases c:eps<2
  ·have t1:decide (eps<2)=true:=by simpa using c
   clear b c;go_enter func19,ntmps19;go_wp2_with fail;go_ret2;exact ⟨⟨1,.inl ⟨BN.o,rfl⟩,.inl ⟨by decide,rfl⟩⟩,Gw.refl w⟩
  ·have t1:decide (eps<2)=false:=by simpa using c
   have t2:decide (64<eps)=true:=by simp;omega
   clear b c;go_enter func19,ntmps19;go_wp2_with fail;go_ret2;exact ⟨⟨1,.inl ⟨BN.o,rfl⟩,.inl ⟨by decide,rfl⟩⟩,Gw.refl w⟩
structure bJ (HR:World->Nat->(Nat->Prop)->Int->(Nat->Int)->(Nat->Int)->(Nat->Bool)->Nat->List (List Sg)->Prop):Prop where
 keep:∀ {w w':World} {p:Nat} {S:Nat->Prop} {eps:Int} {k v:Nat->Int} {g:Nat->Bool} {n:Nat} {L:List (List Sg)},HR w p S eps k v g n L->(∀ q,S q->w'.heap[q]?=w.heap[q]?)->HR w' p S eps k v g n L
 lt:∀ {w:World} {p:Nat} {S:Nat->Prop} {eps:Int} {k v:Nat->Int} {g:Nat->Bool} {n:Nat} {L:List (List Sg)},HR w p S eps k v g n L->∀ q,S q->q<w.heap.size
 own:∀ {w:World} {p:Nat} {S:Nat->Prop} {eps:Int} {k v:Nat->Int} {g:Nat->Bool} {n:Nat} {L:List (List Sg)},HR w p S eps k v g n L->S p
 ready:∀ {w:World} {p:Nat} {S:Nat->Prop} {eps:Int} {k v:Nat->Int} {g:Nat->Bool} {n:Nat} {L:List (List Sg)},HR w p S eps k v g n L->mA eps k n L
 pile:∀ {w:World} {p:Nat} {S:Nat->Prop} {eps:Int} {k v:Nat->Int} {g:Nat->Bool} {n:Nat} {L:List (List Sg)},HR w p S eps k v g n L->∃ pp Sp,w.cell? ⟨p,0,none⟩=some (BY pp)/\eQ w pp Sp eps k n L/\∀ q,Sp q->S q
 new:∀ (eps:Int) (ao:Option Addr) (n cp:Nat) (k v:Nat->Int) (g:Nat->Bool),-9223372036854775808<=eps->eps<9223372036854775808->n<=2000000->n<=cp->(ao=none->n=0/\cp=0)->∀ w:World,ES w ao n k v g->Calls prog 16 #[.slice ao n cp,AI eps] w fun ex w'=>nP HR w w' ex eps k v g n/\Gw w w'
 len:∀ {w:World} {p:Nat} {S:Nat->Prop} {eps:Int} {k v:Nat->Int} {g:Nat->Bool} {n:Nat} {L:List (List Sg)},HR w p S eps k v g n L->Calls prog 8 #[BY p] w fun e w'=>e=.returned (AI (n:Int))/\Gw w w'
 at_:∀ {w:World} {p:Nat} {S:Nat->Prop} {eps:Int} {k v:Nat->Int} {g:Nat->Bool} {n:Nat} {L:List (List Sg)},HR w p S eps k v g n L->∀ i:Int,-9223372036854775808<=i->i<9223372036854775808->Calls prog 129 #[BY p,AI i] w fun e w'=>e=.returned (.tuple #[(qV k v g n i).1,AI (qV k v g n i).2])/\Gw w w'
 list:∀ {w:World} {p:Nat} {S:Nat->Prop} {eps:Int} {k v:Nat->Int} {g:Nat->Bool} {n:Nat} {L:List (List Sg)},HR w p S eps k v g n L->Calls prog 69 #[BY p] w fun e w'=>(∃ bo c,e=.returned (.slice bo n c)/\ER w' w.heap.size (.slice bo n c) k v g n)/\Gw w w'
 get:∀ {w:World} {p:Nat} {S:Nat->Prop} {eps:Int} {k v:Nat->Int} {g:Nat->Bool} {n:Nat} {L:List (List Sg)},HR w p S eps k v g n L->∀ q:Int,0<=q->q<18446744073709551616->Calls prog 118 #[BY p,By q] w fun e w'=>e=.returned (.tuple #[(jm k v g n q).1,.bool (jm k v g n q).2])/\Gw w w'
end Go.Proofs.YtcboobmfnmgldaaGreat
