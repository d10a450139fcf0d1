import Derived.StillTailTactics
import Derived.Test.YtaemofgeciklkaaGreatER1Doc
set_option linter.unusedVariables false
set_option maxHeartbeats 8000000
set_option maxRecDepth 10000
open Go.Proofs.Tryz
namespace Go.Proofs.YtaemofgeciklkaaGreat
open Go.RowKit
attribute [local go_sem] iV
def VI (w:World) (base ob:Nat) (au:List Value) (L:List (List Sg)):Prop :=
 au.length=L.length/\∀ i,i<L.length->∃ g cap,au[i]?=some (ψ g 0 (L.getD i []).length cap)/\(L.getD i []).length<=cap/\g≠ob/\(base<=g/\g<w.heap.size)/\GS w (some (φ g 0)) (L.getD i [])
variable {w w':World} {base:Nat} {L:List (List Sg)}
theorem VI.gw {ob:Nat} {au:List Value} (h:VI w base ob au L) (g:Gw w w'):VI w' base ob au L :=
 ⟨h.1,fun i hi=>by
  obtain ⟨a,cap,h1,h2,h3,h4,h5⟩:=h.2 i hi;exact ⟨a,cap,h1,h2,h3,⟨h4.1,Θ h4.2 g.size⟩,h5.gw g⟩⟩
theorem Ca {g:Nat} {l:List Sg} (h:GS w (some (φ g 0)) l) (hb:w'.heap[g]?=w.heap[g]?) (hs:w.heap.size<=w'.heap.size):GS w' (some (φ g 0)) l :=
 ⟨fun h0=>by
  obtain ⟨b,off,e,hl,hc⟩:=h.cells h0;cases e;have cc:∀ o,w'.cell? (φ g o)=w.cell? (φ g o):=fun o=>by unfold World.cell?;rw [hb]
  exact ⟨g,0,rfl,ω,fun i hi=>⟨(cc _).trans (hc i hi).c0,(cc _).trans (hc i hi).c1,(cc _).trans (hc i hi).c2,(cc _).trans (hc i hi).c3,(cc _).trans (hc i hi).c4⟩⟩,h.ok⟩
theorem VI.more {o:Obj} {ob j9:Nat} {au:List Value} {l:List Sg} {g cap:Nat} (h:VI w base ob au L) (r:(w.alloc o).grownBy w' (some ob)) (ho:j9=ob\/w.heap.size<=j9) (gl:GS w (some (φ g 0)) l) (gc:l.length<=cap) (gn:g≠ob) (gb:base<=g) (gw:g<w.heap.size):VI w' base j9 (au++[ψ g 0 l.length cap]) (L++[l]):=by
 have keep:∀ q,q<w.heap.size->q≠ob->w'.heap[q]?=w.heap[q]?:=fun q hq hn=>(r.block q ζ (by simpa using hn)).trans (qap w o hq)
 have sz:w.heap.size<=w'.heap.size:=by have:=r.size;simp at this;omega
 refine ⟨by simp [h.1],fun i hi=>?_⟩
 by_cases e:i<L.length
 ·obtain ⟨a,c,h1,h2,h3,h4,h5⟩:=h.2 i e
  have gd:(L++[l]).getD i []=L.getD i []:=by simp [List.getD,qau e]
  rw [gd];exact ⟨a,c,by rw [qau (by rw [h.1];exact e)];exact h1,h2,ω,⟨h4.1,ω⟩,Ca h5 (keep a h4.2 h3) sz⟩
 ·have ei:i=L.length:=by simp at hi;omega
  have gd:(L++[l]).getD i []=l:=by subst ei;simp [List.getD]
  rw [gd];exact ⟨g,cap,by rw [qaZ (by rw [h.1];omega),h.1,ei];simp,gc,ω,⟨gb,ω⟩,Ca gl (keep g gw gn) sz⟩
variable {n:Nat}
theorem Qc {e size:Nat} {v:Value} {xs:List Value} (h:w.ownsRow base e size v n xs) (g:Gw w w'):w'.ownsRow base e size v n xs:=by
 refine ⟨h.1,?_⟩;rcases h.2 with q | ⟨b,cap,cur,rfl,hb,hh,r⟩
 ·exact .inl q
 ·exact .inr ⟨b,cap,cur,rfl,hb,(g.below.block b (qab.1 hh).1).trans hh,r⟩
theorem Hm (w:World) (v:Value) (t:TypeId):∀ j u,[v][j]?=some u->(w.alloc (.cells #[v] t)).cell? ((⟨w.heap.size,0,none⟩:Addr).add j)=some u:=by intro j u hu;have h:=Ω w (.cells #[v] t);rw [Addr.add_lit,qai];simp only [World.cell?,h];simpa using hu
variable {eps:Int}
theorem Qd {fr:Int} {h:Nat->Int} {N:Nat} {k:Int} {s ic:Nat} {F T er:Int} (S:gQ eps fr h N k s ic F T er) (e:2<=eps/\eps<=64) (n0:0<N) (u:Up h N) (ft:aY (eps-1) h (aC N)) (f0:0<=fr) (f1:fr+N<=4294967296):er=0:=by
 have z:∀ {a b c x:Int},eG eps h N a b c x->x=0:=fun o=>by
  rcases o with ⟨q,_⟩ | ⟨_,q,_⟩ | ⟨_,_,q,_⟩ | ⟨_,_,_,_,_,q⟩
  ·exact absurd q ω
  ·exact absurd ⟨n0,u⟩ q
  ·exact absurd ft q
  ·exact q
 rcases S with ⟨a,b,c,o,ne,_⟩ | ⟨a,b,c,o,nb,_⟩ | ⟨a,b,c,o,_,_,_,_,_,_,_,q⟩
 ·exact absurd (z o) ne
 ·exact absurd ⟨f0,f1⟩ nb
 ·exact q
theorem acm (O5:jH) (eps:Int) (ao:Option Addr) (n cp:Nat) (f:Nat->Int) (e0:-9223372036854775808<=eps) (e1:eps<9223372036854775808) (hn:n<=2000000) (dA:n<=cp) (w:World) (h:KS w ao n f) :
  Calls prog 115 #[.slice ao n cp,By eps] w fun ex w'=>abJ w.heap.size w' ex eps f n/\Gw w w':=by
 have HK:ag (KS w ao n f):=h;clear h;by_cases k0:¬ (2<=eps/\eps<=64)
 ·have R:ag (qX eps f n [] 1):=.inl ⟨k0,rfl,rfl⟩
  by_cases h2:eps<2
  ·have t1:decide (eps<2)=true:=(by simpa using h2);clear k0 h2 O5;go_enter func115,ntmps115;go_wp2_with fail;exact bodyPost_ret (v:=.tuple #[.slice none 0 0,By 1]) (by simp [results,results115,go_sem]) rfl ⟨⟨none,0,[],1,rfl,R.o,⟨fun h0=>by simp at h0⟩,Yk _⟩,Gw.refl w⟩
  ·have t1:decide (eps<2)=false:=(by simpa using h2);have t2:decide (64<eps)=true:=(by simp;omega);clear k0 h2 O5;go_enter func115,ntmps115;go_wp2_with fail;exact bodyPost_ret (v:=.tuple #[.slice none 0 0,By 1]) (by simp [results,results115,go_sem]) rfl ⟨⟨none,0,[],1,rfl,R.o,⟨fun h0=>by simp at h0⟩,Yk _⟩,Gw.refl w⟩
 ·have KE:ag (2<=eps/\eps<=64):=Classical.not_not.1 k0
  have t1:decide (eps<2)=false:=by have:=KE.o;simp;omega
  have t2:decide (64<eps)=false:=by have:=KE.o;simp;omega
  have RI:ag (∀ W,KS W ao n f->_):=fun W h=>Fl ao n cp f ω W h
  have HO:ag jH:=O5;clear O5 k0;go_enter func115,ntmps115;go_wp2_with fail;refine (RI.o _ HK.o).mono ?_;rintro ex w1 ⟨⟨r,rfl,hr⟩,g1⟩;have G1:ag (Gw w w1):=g1;have HR:ag (r=true↔Up f n):=hr;clear hr g1;cases r with
  | false =>
   have R:ag (qX eps f n [] 80):=.inr (.inl ⟨KE.o,fun q=>by have:=HR.o.2 q;simp at this,rfl,rfl⟩)
   go_wp2_with fail;exact bodyPost_ret (v:=.tuple #[.slice none 0 0,By 80]) (by simp [results,results115,go_sem]) rfl ⟨⟨none,0,[],80,rfl,R.o,⟨fun h0=>by simp at h0⟩,Yk _⟩,G1.o⟩
  | true =>
   have UP:ag (Up f n):=HR.o.1 rfl;obtain ⟨jj,ka,jz,js,kg⟩:=info_parts Br;obtain ⟨ii,aK,hz,hs,aJ⟩:=info_parts Bq;have G2:ag (Gw w (w1.alloc (.cells #[] 150))):=G1.o.alloc _ _;have R2:ag ((w1.alloc (.cells #[] 150)).ownsRow w.heap.size 150 1 (ψ w1.heap.size 0 0 0) 0 []):=World.ownsRow_made w1 #[] 0 G1.o.size (Γ _) rfl;have V2:ag (VI (w1.alloc (.cells #[] 150)) w.heap.size w1.heap.size [] []):=⟨rfl,fun i hi=>by simp at hi⟩
   have k2:=KE.o.1;have k3:=KE.o.2;have K2:ag (KS (w1.alloc (.cells #[] 150)) ao n f):=HK.o.gw G2.o;have UPF:ag (Up f n):=UP.o;clear HR G1 HK RI;go_wp2_with fail;generalize w1.alloc (.cells #[] 150)=w2 at G2 R2 V2 K2 ⊢;generalize w1.heap.size=ob0 at R2 V2 ⊢;go_loopg [0,6,7] n (fun gg s0 s6 s7 wr=>∃ (m c ob oc nn:Nat) (bo:Option Addr) (g:Nat->Int) (L:List (List Sg)) (au:List Value),s0=.slice bo m c/\s6=ψ ob 0 L.length oc/\s7=By nn/\m<=2000000/\m<=c/\nn<=gg/\(nn=m\/nn+1=m)/\L.length+nn<=n/\ag (KS wr bo m g)/\ag (Up g m)/\ag (wr.ownsRow w.heap.size 150 1 (ψ ob 0 L.length oc) L.length au)/\ag (VI wr w.heap.size ob au L)/\ag ((0<nn->∀ r,du eps g m r->du eps f n (L++r))/\(nn=0->du eps f n L))/\ag (Gw w wr))
   case atStart=>exact ⟨n,cp,ob0,0,n,ao,f,[],[],rfl,rfl,rfl,hn,dA,Yk _,.inl rfl,ε,K2,UP,R2,V2,(show ag _ from ⟨fun _ r h=>h,fun h=>h⟩),G2⟩
   case round =>
    clear G2 R2 V2 K2 UP;obtain ⟨m,c,ob,oc,nn,bo,g,L,au,rfl,rfl,rfl,h3,h4,h5,h6,h7,K,U,R,V,BR,G⟩:=hrel;by_cases n0:0<nn
    ·have tn:decide ((0:Int)<(nn:Int))=true:=(by simp;omega);have m0:0<m:=ω;obtain ⟨bk,off,rfl,gR,di⟩:=K.o.cells m0;clear di;obtain ⟨wS,aS⟩:=qbs wr;subst aS;go_wp2_with fail;refine (abX eps _ m c g e0 e1 h3 _ K.o).mono ?_;rintro ex w3 ⟨⟨v3,es,err,rfl,hE,hI⟩,g3⟩;have EA:dr (eps-1) g m 0 es:=by
      rcases hE with ⟨q,_⟩ | ⟨_,q,_⟩ | ⟨_,_,q,_⟩
      ·exact absurd KE.o q
      ·exact absurd U.o q
      ·exact q
     have ED:ag (dr (eps-1) g m 0 es):=EA;have Cb:=EA.len;obtain ⟨eo,ec,rfl,yw,yx⟩:=Pj hI;have rv:0<es.length:=qbi.2 (EA.nonempty m0);cases eo with
     | none=>have:=(yw rfl).1;rw [this] at rv;simp at rv
     | some ea =>
      obtain ⟨eb,rfl,_,gV,kh⟩:=yx ea rfl;have EC:ag (∀ W,Gw w3 W->∀ i,i<es.length->W.cell? (φ eb i)=some (By ((es.getD i 0:Nat):Int))/\eb<W.heap.size):=fun W gW i hi=>⟨(gW.cell _ _ gV).trans (kh i hi),Θ gV gW.size⟩
      have Qe:ag (Gw wS w3):=g3;clear hE EA hI yw yx kh g3;have Cc:ag (SR (w3.alloc (.cells #[] 174)) w3.heap.size (ψ w3.heap.size 0 0 0) []):=abK w3 w3.heap.size (Yk _);have Hn:ag (Gw wS (w3.alloc (.cells #[] 174))):=Qe.o.alloc _ _;have Ho:ag (Gw w3 (w3.alloc (.cells #[] 174))):=(Gw.refl w3).alloc _ _;obtain ⟨en,oD⟩:=qbr es.length;have EN:ag (es.length=en):=oD;rw [oD] at Cb rv ⊢;clear oD gV;go_wp2_with fail;generalize w3.alloc (.cells #[] 174)=w4 at Cc Hn Ho ⊢;obtain ⟨ir,rz⟩:=qbr w3.heap.size;have L0:ag (wS.heap.size<=ir):=(by rw [<-rz];exact Qe.o.size);have L0':ag (w3.heap.size<=ir):=(by rw [<-rz];exact Yk _);rw [rz] at Cc ⊢;clear rz;go_loopg [10,11,12] en (fun gg jW lj yy wr=>∃ (i fr lb lc:Nat) (lv:List Sg),jW=ψ lb 0 i lc/\lj=By fr/\yy=By i/\i<=en/\en-i<=gg/\ag (lv.length=i)/\ag (fr=mU 0 es i)/\ag (SR wr ir (ψ lb 0 i lc) lv)/\ag (∀ j,j<lv.length->(lv.getD j aF).ok)/\ag (∀ l',da eps g m fr l'->da eps g m 0 (lv++l'))/\ag (Gw wS wr)/\ag (Gw w3 wr))
      case atStart=>exact ⟨0,0,ir,0,[],rfl,rfl,rfl,Γ _,ω,(show ag _ from rfl),(show ag _ from rfl),Cc,(show ag _ from fun j hj=>by simp at hj),(show ag _ from fun l' h=>h),Hn,Ho⟩
      case round =>
       clear Cc Hn Ho;obtain ⟨i,fr,lb,lc,lv,rfl,rfl,rfl,j1,j2,LI,FR,na,rA,eS,nh,tF⟩:=hrel;by_cases dP:i<en
       ·have ST:=ED.o.step i (by rw [EN.o];exact dP)
        rw [<-FR.o] at ST;obtain ⟨yz,Hp⟩:=EC.o _ tF.o i (by rw [EN.o];exact dP)
        obtain ⟨ei,tG⟩:=qbr (es.getD i 0);rw [tG] at ST yz;obtain ⟨s1,s2,s3,s4,_⟩:=ST;have FN:ag (mU 0 es (i+1)=ei):=tG;clear tG;have tc:ei<=c:=ω;have cf:¬ c=fr:=ω;have fc:¬ fr=c:=ω;have i1:(0:Int)<=(fr:Int):=ω;have i2:(fr:Int)<=(ei:Int):=ω;have i3:(ei:Int)<=(c:Int):=ω;have fe:fr<=ei:=ω;go_wp2_with fail;refine (abq HO.o eps fr _ (ei-fr) (c-fr) (sh g fr) e0 e1 ω ω ω _ (Gr ((K.o.gw nh.o)) s2)).mono ?_;rintro ex w5 ⟨⟨k5,cw,cx,F5,T5,er5,rfl,pL⟩,g5⟩;obtain rfl:=Qd pL KE.o ω (qK U.o s2) s3 ω ω;have yA:∀ t,t<ei-fr->0<=sh g fr t/\sh g fr t<18446744073709551616:=fun t ht=>K.o.bd (fr+t) ω
        have SA:ag (qW eps g fr ei (Sg.mk k5 cw cx F5 T5)):=pL;have SO:ag (Sg.ok (Sg.mk k5 cw cx F5 T5)):=pL.ok ω yA;have Cd:ag (Gw wS (w5.alloc (.cells #[BY k5,.float .f64 cw,.float .f64 cx,By F5,By T5] 174))):=(nh.o.trans g5).alloc _ _;have yB:ag (Gw w3 (w5.alloc (.cells #[BY k5,.float .f64 cw,.float .f64 cx,By F5,By T5] 174))):=(tF.o.trans g5).alloc _ _;have Ce:ag (SR (w5.alloc (.cells #[BY k5,.float .f64 cw,.float .f64 cx,By F5,By T5] 174)) ir (ψ lb 0 i lc) lv):=Bt (Bt na.o g5) ((Gw.refl w5).alloc _ _);have Hq:ag (Sb (w5.alloc (.cells #[BY k5,.float .f64 cw,.float .f64 cx,By F5,By T5] 174)) w5.heap.size k5 cw cx F5 T5):=Ω w5 _;have ec5:=EC.o _ yB.o i (by rw [EN.o];exact dP)
        have cF:(w5.alloc (.cells #[BY k5,.float .f64 cw,.float .f64 cx,By F5,By T5] 174)).heap.size=w5.heap.size+1:=ε;have NS:ag (∀ j u,(dc (Sg.mk k5 cw cx F5 T5))[j]?=some u->((w5.alloc (.cells #[BY k5,.float .f64 cw,.float .f64 cx,By F5,By T5] 174)).alloc (.cells #[BY k5,.float .f64 cw,.float .f64 cx,By F5,By T5] 174)).cell? ((⟨w5.heap.size+1,0,none⟩:Addr).add j)=some u):=by
         have:=abL (w5.alloc (.cells #[BY k5,.float .f64 cw,.float .f64 cx,By F5,By T5] 174)) (Sg.mk k5 cw cx F5 T5)
         rw [cF] at this;exact this
        have Qf:ag ((w5.alloc (.cells #[BY k5,.float .f64 cw,.float .f64 cx,By F5,By T5] 174)).ownsRow ir 174 5 (ψ lb 0 i lc) i (lv.flatMap dc)):=by
         have:=Ce.o
         unfold SR at this;rw [LI.o] at this;exact this
        have lz:ir<=w5.heap.size+1:=(by have:=(lS Ce.o lb rfl);rw [cF] at this;omega);have Hr:ir<=lb:=(lS Ce.o lb rfl).1;clear pL yA g5 nh tF na yz Hp Ce ec5;obtain ⟨z0,z1,z2,z3,z4⟩:=Hq.o.cells;have zl:=Hq.o.lt;go_wp2_with (at_builtin;refine wpList_append_own _ rfl _ _ 150 rfl ir 174 ii (.agg #[BY 0,.float .f64 0,.float .f64 0,By 0,By 0]) 5 40 underlying150 aK hz hs aJ rfl γ _ i _ rfl (Qf.o.alloc _) ⟨w5.heap.size+1,0,none⟩ 1 1 (dc (Sg.mk k5 cw cx F5 T5)) rfl rfl NS.o (OS _) θ ω ζ ?_);intro v' w7 r1 r2 r3;obtain ⟨b7,yC,rfl,hb7,_,_⟩:=cJ r1 (by simpa using r3)
        have GS7:ag (Gw wS w7):=(Cd.o.alloc _ _).grown r2 (fun k' hk=>by have e:lb=k':=(by simpa [Value.ownBlock] using hk);have:=L0.o;omega)
        have Qg:ag (Gw w3 w7):=(yB.o.alloc _ _).grown r2 (fun k' hk=>by have e:lb=k':=(by simpa [Value.ownBlock] using hk);have:=L0'.o;omega)
        have vH:ag ((lv++[(Sg.mk k5 cw cx F5 T5)]).length=i+1):=(by show (lv++[_]).length=i+1;rw [Ψ,LI.o];rfl);have Cf:ag (SR w7 ir (ψ b7 0 (i+1) yC) (lv++[(Sg.mk k5 cw cx F5 T5)])):=(by show World.ownsRow _ _ _ _ _ _ _;rw [vH.o,OT];exact r1);have Hs:ag (∀ j,j<(lv++[(Sg.mk k5 cw cx F5 T5)]).length->((lv++[(Sg.mk k5 cw cx F5 T5)]).getD j aF).ok):=fun j hj=>by
         rw [vH.o] at hj;by_cases x:j<lv.length
         ·rw [show (lv++[(Sg.mk k5 cw cx F5 T5)]).getD j aF=lv.getD j aF by simp [List.getD,qau x]]
          exact rA.o j x
         ·have e:j=lv.length:=(by have:=LI.o;omega);rw [show (lv++[(Sg.mk k5 cw cx F5 T5)]).getD j aF=(Sg.mk k5 cw cx F5 T5) by subst e;simp [List.getD]]
          exact SO.o
        have Ht:ag (∀ l',da eps g m ei l'->da eps g m 0 ((lv++[(Sg.mk k5 cw cx F5 T5)])++l')):=fun l' h=>by rw [qaI];exact eS.o ((Sg.mk k5 cw cx F5 T5)::l') ⟨ei,⟨s1,s2,s3,s4⟩,SA.o,h⟩
        have Hu:ag (ei=mU 0 es (i+1)):=FN.o.symm;obtain ⟨q7,q8⟩:=EC.o _ Qg.o i (by rw [EN.o];exact dP)
        rw [show es.getD i 0=ei from FN.o] at q7;clear r1 r2 r3 hb7 s3 s4 Hq Cd yB NS Qf z0 z1 z2 z3 z4 zl rA eS SA;go_wp2_with fail;go_roundg (en-(i+1))
        case measure=>omega
        case rel=>exact ⟨i+1,ei,b7,yC,lv++[(Sg.mk k5 cw cx F5 T5)],rfl,rfl,by go_num,ω,Yk _,vH,Hu,Cf,Hs,Ht,GS7,Qg⟩
       ·have ei:i=en:=(by omega);subst ei;have yD:fr=m:=by
         rw [FR.o];obtain ⟨i',dQ⟩:∃ i',i=i'+1:=⟨i-1,ω⟩;have:=(ED.o.last i' (by rw [EN.o];omega)).2 (by rw [EN.o];omega)
         rw [dQ];exact this
        have ja:da eps g m 0 lv:=by
         have:=eS.o [] yD
         rwa [qaJ] at this
        have lk:=LI.o;have GL:GS wr (some (φ lb 0)) lv:=Gt (by rw [lk];exact na.o) rA.o
        have ilc:i<=lc:=by
         have:=na.o
         unfold SR at this;rw [lk] at this;exact (cJ this ε).elim fun _ ⟨_,ev,_,h,_⟩=>by cases ev;exact h
        have Hr:ir<=lb/\lb<wr.heap.size:=lS na.o lb rfl;have obw:w.heap.size<=ob/\ob<wS.heap.size:=R.o.lt ob rfl;have Qh:lb≠ob:=(by have:=L0.o;omega);have R6:ag (wr.ownsRow w.heap.size 150 1 (ψ ob 0 L.length oc) L.length au):=Qc R.o nh.o;have V6:ag (VI wr w.heap.size ob au L):=V.o.gw nh.o;have G6:ag (Gw w wr):=G.o.trans nh.o;have FW:=ja.few ω m0 h3 K.o.bd U.o;have Hv:=ja.len h3 K.o.bd;obtain ⟨u1,_,u3⟩:=pE U.o (ja.tiles h3 K.o.bd) (ja.keys h3 K.o.bd);have UN:ag (Up (bu lv) i):=(by have:=u1;rw [lk] at this;exact this);have ms:i<=nn/\i-1<nn:=by
         rw [lk] at FW Hv;rcases h6 with h6 | h6
         ·omega
         ·by_cases x:i=1
          ·omega
          ·have:=qV (e:=eps.toNat) ω (FW.2 x)
           have:=FW.1
           omega
        have Qi:ag ((0<i-1->∀ r,du eps (bu lv) i r->du eps f n ((L++[lv])++r))/\(i-1=0->du eps f n (L++[lv]))):=by
         refine ⟨fun h r hr=>?_,fun h=>?_⟩
         ·rw [qaI]
          exact BR.o.1 n0 (lv::r) ⟨m0,ja,by rw [Yl ω,lk];exact hr⟩
         ·exact BR.o.1 n0 [lv] ⟨m0,ja,by rw [Ym ω]⟩
        have Hw:ag (GS wr (some (φ lb 0)) lv):=GL;have LK:ag (lv.length=i):=lk;have zz:=G6.o.size;clear ja u1 u3 FW eS na rA GL lk FR yD R V G BR ED EC EN;go_wp2_with (at_builtin;refine wpList_append_own_at _ rfl _ _ 103 rfl w.heap.size 150 jj (.slice none 0 0) 1 24 underlying103 ka jz js kg rfl γ _ L.length _ rfl (R6.o.alloc _) ⟨wr.heap.size,0,none⟩ 1 1 [(ψ lb 0 i lc)] rfl rfl (Hm wr (ψ lb 0 i lc) 150) (fun u hu=>by simp at hu;subst hu;rfl) θ ω ζ ?_)
        intro v' w8 r1 r2 r3 r4;obtain ⟨b8,cap8,rfl,pM,_,_⟩:=cJ r1 (by simpa using r3)
        have pO:b8=ob\/wr.heap.size<=b8:=by
         rcases r4 with q | q
         ·have q':b8=ob:=(by simpa [Value.ownBlock] using q);exact .inl q'
         ·have q':b8=wr.heap.size+1:=(by simpa [Value.ownBlock] using q);exact .inr ω
        have iF:(wr.alloc (.cells #[(ψ lb 0 i lc)] 150)).grownBy w8 (some ob):=r2;have V8:ag (VI w8 w.heap.size b8 (au++[(ψ lb 0 i lc)]) (L++[lv])):=by
         have:=V6.o.more iF pO Hw.o (by rw [LK.o];exact ilc) Qh (by have:=L0.o;omega) Hr.2
         rw [LK.o] at this;exact this
        have G8:ag (Gw w w8):=(G6.o.alloc _ _).grown r2 (fun k' hk=>by have e:ob=k':=(by simpa [Value.ownBlock] using hk);omega)
        have Qj:ag (GS w8 (some (φ lb 0)) lv):=Ca Hw.o ((iF.block lb ζ (by simpa using Qh)).trans (qap wr _ Hr.2)) (by have:=iF.size;simp at this;omega)
        have L8:(L++[lv]).length=L.length+1:=ε;have R8:ag (w8.ownsRow w.heap.size 150 1 (ψ b8 0 (L++[lv]).length cap8) (L++[lv]).length (au++[(ψ lb 0 i lc)])):=(by rw [L8];exact r1);have FI:ag (∀ W,GS W (some (φ lb 0)) lv->Calls prog 132 #[ψ lb 0 i lc] W fun e w'=>(∃ b cap,e=χ (ψ b 0 i cap)/\W.heap.size<=b/\i<=cap/\KS w' (some (φ b 0)) i (bu lv))/\Gw W w'):=fun W h=>by
         have:=abE (some (φ lb 0)) lc lv (by rw [LK.o];omega) W h
         rw [LK.o] at this;exact this
        have wi:IntKind.i64.wrap ((i:Int)-1)=((i-1:Nat):Int):=(by rw [Δ];omega);obtain ⟨n8,Hx⟩:=qbr (i-1);rw [Hx] at wi ms Qi;have N8:ag (i-1=n8):=Hx;clear r1 r2 r3 r4 iF pM R6 V6 G6 Hw Hx;go_wp2_with fail;refine (FI.o _ Qj.o).mono ?_;rintro e w9 ⟨⟨fb,fc,rfl,_,hfc,hk⟩,g9⟩;have G9:ag (Gw w w9):=G8.o.trans g9;have K9:ag (KS w9 (some (φ fb 0)) i (bu lv)):=hk;have R9:ag (w9.ownsRow w.heap.size 150 1 (ψ b8 0 (L++[lv]).length cap8) (L++[lv]).length (au++[(ψ lb 0 i lc)])):=Qc R8.o g9;have V9:ag (VI w9 w.heap.size b8 (au++[(ψ lb 0 i lc)]) (L++[lv])):=V8.o.gw g9;clear g9 hk R8 V8 G8 Qj FI;go_wp2_with fail;go_roundg n8
        case measure=>omega
        case rel=>exact ⟨i,fc,b8,cap8,n8,some ⟨fb,0,none⟩,bu lv,L++[lv],au++[(ψ lb 0 i lc)],rfl,by rw [L8],rfl,ω,hfc,Yk _,.inr (by have:=N8.o;omega),(by rw [L8];have:=N8.o;omega),K9,UN,R9,V9,Qi,G9⟩
    ·have Qk:nn=0:=(by omega);subst Qk;have RR:ag (qX eps f n L 0):=.inr (.inr ⟨KE.o,UPF.o,BR.o.2 rfl,rfl⟩);have VV:ag (iG wr w.heap.size (some (φ ob 0)) L):=by
      refine ⟨fun _=>⟨ob,0,rfl,(R.o.lt ob rfl),fun i hi=>?_⟩⟩
      obtain ⟨g',gH,v1,v2,_,v4,v5⟩:=V.o.2 i hi;refine ⟨some ⟨g',0,none⟩,gH,?_,v2,(fun e=>by cases e),v5,fun a e=>by cases e;exact v4⟩
      rw [qai,R.o.cellAt i ω];exact v1
     have oc1:L.length<=oc:=(cJ R.o ε).elim fun _ ⟨_,ev,_,h,_⟩=>by cases ev;exact h
     go_wp2_with fail;exact bodyPost_ret (v:=.tuple #[ψ ob 0 L.length oc,By 0]) (by simp [results,results115,go_sem]) rfl ⟨⟨_,oc,L,0,rfl,RR.o,VV.o,oc1⟩,G.o⟩
end Go.Proofs.YtaemofgeciklkaaGreat
namespace Go.Proofs.YtaemofgeciklkaaGreat
open Go.RowKit
def lT (k v:Nat->Int) (g:Nat->Bool) (n:Nat):List Value:=(List.range (n*3)).map (kY k v g)
theorem Hy (k v:Nat->Int) (g:Nat->Bool) (n:Nat):(lT k v g n).length=n*3:=by simp [lT]
variable {n:Nat}
theorem Ql (k v:Nat->Int) (g:Nat->Bool) {j:Nat} (h:j<n*3):(lT k v g n)[j]?=some (kY k v g j):=by simp [lT,h]
theorem Qm (k v:Nat->Int) (g:Nat->Bool) (n:Nat):∀ u∈lT k v g n,u.oneCell'=true:=by intro u hu;obtain ⟨j,_,rfl⟩:=qaA.1 hu;exact aca k v g j
variable {w:World} {ao:Option Addr} {k v:Nat->Int} {g:Nat->Bool}
theorem Qn (h:ES w ao n k v g):∀ ad,ao=some ad->∀ j u,(lT k v g n)[j]?=some u->w.cell? (ad.add j)=some u:=by
 intro ad e j u hu;have hj:j<n*3:=by
  have:=(qaT.1 hu).1
  rwa [Hy] at this
 obtain ⟨b,off,e',_,hc⟩:=h.flat ω;rw [e] at e';cases e';rw [Addr.add_lit,hc j hj,<-Ql k v g hj];exact hu
def ER (w:World) (base:Nat) (x:Value) (k v:Nat->Int) (g:Nat->Bool) (n:Nat):Prop:=w.ownsRow base 71 3 x n (lT k v g n)
variable {base:Nat}
theorem Hz {cap:Nat} (h:ER w base (.slice ao n cap) k v g n) (bd:∀ i,i<n->(0<=k i/\k i<18446744073709551616)/\(0<=v i/\v i<18446744073709551616)):ES w ao n k v g:=by
 refine ⟨fun h0=>?_,bd⟩
 rcases h.2 with ⟨e,z⟩ | ⟨b,gH,cur,e,hb,hh,r⟩
 ·omega
 ·cases e
  have h':w.ownsRow base 71 3 (ψ b 0 n cap) n (lT k v g n):=h;have ce:∀ j,j<n*3->w.cell? (φ b j)=some (kY k v g j):=fun j hj=>by rw [h'.cellAt j hj,Ql k v g hj]
  refine ⟨b,0,rfl,(qab.1 hh).1,fun i hi=>⟨?_,?_,?_⟩⟩
  ·rw [qai,ce _ ω,ab7]
  ·rw [qai,ce _ ω,ab8]
  ·rw [qai,ce _ ω,ab9]
theorem HU {x:Value} (h:ER w base x k v g n):∃ bo c,x=.slice bo n c/\n<=c/\∀ a,bo=some a->base<=a.block/\a.block<w.heap.size:=by
 rcases h.2 with ⟨e,z⟩ | ⟨b,cap,cur,e,hb,hh,hc,_⟩
 ·exact ⟨none,0,by rw [e,z],ω,fun a q=>by cases q⟩
 ·exact ⟨some ⟨b,0,none⟩,cap,e,hc,fun a q=>by cases q;exact ⟨hb,(qab.1 hh).1⟩⟩
theorem acn {c:Nat} {bo:Option Addr} (h:ER w base (.slice bo n c) k v g n):n<=c/\(bo=none->n=0/\c=0):=by
 rcases h.2 with ⟨e,z⟩ | ⟨b,cap,cur,e,hb,hh,hc,_⟩
 ·injection e with e1 e2 e3
  exact ⟨ω,fun _=>⟨z,e3⟩⟩
 ·injection e with e1 e2 e3
  subst e1 e3;exact ⟨hc,fun x=>by cases x⟩
variable {L:List (List Sg)}
theorem iG.low {ni:Nat} (h:iG w base ao L) (hb:ni<=base):iG w ni ao L :=
 ⟨fun h0=>by
  obtain ⟨b,off,e,x,hc⟩:=h.cells h0;refine ⟨b,off,e,⟨Φ hb x.1,x.2⟩,fun i hi=>?_⟩
  obtain ⟨bo,c,y1,y2,y3,y4,y5⟩:=hc i hi;exact ⟨bo,c,y1,y2,y3,y4,fun a ea=>⟨Φ hb (y5 a ea).1,(y5 a ea).2⟩⟩⟩
def nj (eps:Int) (k v:Nat->Int) (g:Nat->Bool) (n:Nat) (E:Int):Prop:=(¬ (2<=eps/\eps<=64)/\E=1)\/((2<=eps/\eps<=64)/\dS k v g n E)
variable {eps:Int}
theorem nj.one {E E':Int} (h:nj eps k v g n E) (h':nj eps k v g n E'):E=E':=by
 rcases h with ⟨a,rfl⟩ | ⟨a,c⟩
 ·rcases h' with ⟨_,rfl⟩ | ⟨b,_⟩
  ·rfl
  ·exact absurd b a
 ·rcases h' with ⟨b,_⟩ | ⟨_,d⟩
  ·exact absurd a b
  ·exact c.one d
def OfE (eps:Int) (k v:Nat->Int) (g:Nat->Bool) (n:Nat) (L:List (List Sg)) (E:Int):Prop:=∃ r,nj eps k v g n r/\((r≠0/\E=r)\/(r=0/\jV eps k n L E))
theorem nj.up (h:nj eps k v g n 0):(2<=eps/\eps<=64)/\Up k n:=by
 rcases h with ⟨_,e⟩ | ⟨a,⟨_,u,_⟩ | ⟨e,_⟩ | ⟨e,_⟩⟩
 ·cases e
 ·exact ⟨a,u⟩
 ·cases e
 ·cases e
def vI (HR:World->Nat->(Nat->Prop)->Int->(Nat->Int)->(Nat->Int)->(Nat->Bool)->Nat->List (List Sg)->Prop) (w w':World) (ex:Ending) (eps:Int) (k v:Nat->Int) (g:Nat->Bool) (n:Nat):Prop :=
 ∃ E,nj eps k v g n E/\((E≠0/\ex=π #[.pointer none,By E])\/(E=0/\∃ p S L,ex=π #[IS p,By 0]/\(∀ q,S q->w.heap.size<=q)/\du eps k n L/\HR w' p S eps k v g n L))
def Ia (HR:World->Nat->(Nat->Prop)->Int->(Nat->Int)->(Nat->Int)->(Nat->Bool)->Nat->List (List Sg)->Prop) (w w':World) (ex:Ending) (eps:Int) (k v:Nat->Int) (g:Nat->Bool) (n:Nat) (L:List (List Sg)):Prop :=
 ∃ E,OfE eps k v g n L E/\((E≠0/\ex=π #[.pointer none,By E])\/(E=0/\∃ p S,ex=π #[IS p,By 0]/\(∀ q,S q->w.heap.size<=q)/\HR w' p S eps k v g n L))
theorem du.fine {f:Nat->Int} (e0:2<=eps) (n1:n<=2000000) (bd:∀ t,t<n->0<=f t/\f t<18446744073709551616) (u:Up f n) (b:du eps f n L):ou L:=by
 refine ⟨?_,fun i hi=>by have:=b.short n1 bd u i hi;omega⟩
 have a:=b.low e0 n1 bd u;have c:=OM (e:=eps.toNat) ω n;omega
theorem aco (O5:jH) (eps:Int) (ao:Option Addr) (n cp:Nat) (k v:Nat->Int) (g:Nat->Bool) (e0:-9223372036854775808<=eps) (e1:eps<9223372036854775808) (hn:n<=2000000) (dA:n<=cp) (hz:ao=none->n=0/\cp=0) (w:World) (h:ES w ao n k v g) :
  Calls prog 95 #[.slice ao n cp,By eps] w fun ex w'=>vI ba w w' ex eps k v g n/\Gw w w':=by
 have HE:ag _:=h;have HZ:ag _:=hz;have KB:ag (∀ t,t<n->0<=k t/\k t<18446744073709551616):=fun t ht=>(h.bd t ht).1
 clear hz;by_cases b:2<=eps/\eps<=64
 ·have t1:decide (eps<2)=false:=by simp;omega
  have t2:decide (64<eps)=false:=by simp;omega
  have CK:ag _:=Qb ao n cp k v g ω w h;have BN:ag (2<=eps/\eps<=64):=b;clear h b;go_enter func95,ntmps95;go_wp2_with fail;refine Calls.mono CK.o ?_;rintro e w1 ⟨⟨r,rfl,cr⟩,g1⟩;have CR:ag (dS k v g n r):=cr;have G1:ag _:=g1;clear CK cr g1;by_cases r0:r=0
  ·subst r0
   go_wp2_with fail;refine Calls.mono (aci ao n cp k v g ω w1 (HE.o.gw G1.o)) ?_
   rintro e w2 ⟨⟨kb,kc,rfl,iq,own⟩,g2⟩;have G2:ag _:=G1.o.trans g2;have K2:ag (KS w2 (some (φ kb 0)) n k/\n<=kc):=⟨xA own (Yk _) (fun i hi=>by simp [hi]) KB.o,by rcases own.2 with ⟨e,_⟩ | ⟨_,_,_,e,_,_,hc,_⟩;cases e;cases e;exact hc⟩
   clear own g2 iq G1;go_wp2_with fail;refine Calls.mono (acm O5 eps _ n kc k e0 e1 hn K2.o.2 w2 K2.o.1) ?_;rintro e w3 ⟨⟨lo,lc,L,err,rfl,be,vs,bL⟩,g3⟩;have vJ:ag (du eps k n L/\err=0):=by
    rcases be with ⟨x,_⟩ | ⟨_,x,_⟩ | ⟨_,_,x,y⟩
    ·exact absurd BN.o x
    ·exact absurd (nj.up (.inr ⟨BN.o,CR.o⟩)).2 x
    ·exact ⟨x,y⟩
   obtain rfl:err=0:=vJ.o.2;have G3:ag _:=G2.o.trans g3;have Qo:ag _:=vs;have Z2:ag _:=G2.o.size;obtain ⟨ln,ax⟩:=qbr L.length;have LN:ag _:=ax;rw [ax];clear be vs bL g3 G2 K2 ax O5;obtain ⟨ii,aK,iz,is,iby⟩:=info_parts kZ;have O0:ag ((w3.alloc (.cells #[] 71)).ownsRow w3.heap.size 71 3 (ψ w3.heap.size 0 0 0) 0 []):=World.ownsRow_made w3 #[] 0 (Yk _) (Γ _) rfl;have NW:ag (∀ ad,ao=some ad->∀ j u,(lT k v g n)[j]?=some u->(w3.alloc (.cells #[] 71)).cell? (ad.add j)=some u):=Qn (HE.o.gw (G3.o.alloc _ _));go_wp2_with (at_builtin;refine qG _ rfl _ _ 72 rfl w3.heap.size 71 ii (.agg #[BY 0,BY 0,.bool false]) 3 24 underlying72 aK iz is iby rfl γ _ 0 [] rfl O0.o ao n cp (lT k v g n) rfl HZ.o (Hy k v g n) NW.o (Qm k v g n) θ ω ε ?_);intro v' w5 q1 q2 q3;have R5:ER w5 w3.heap.size v' k v g n:=(by show World.ownsRow _ _ _ _ _ _ _;simpa using q1);have Cg:ag (Gw w3 w5):=((Gw.refl w3).alloc _ _).grown q2 (fun j hj=>by cases hj;exact Yk _)
   obtain ⟨bo,bc,rfl,_,bG⟩:=HU R5;have E5:ag (ES w5 bo n k v g/\∀ a,bo=some a->w3.heap.size<=a.block/\a.block<w5.heap.size):=⟨Hz R5 HE.o.bd,bG⟩;have Qp:ag _:=acn R5;clear q1 q2 q3 O0 NW R5 bG;have av:ag (vI ba w (w5.alloc (.cells #[.slice bo n bc,By eps,.slice lo ln lc] 105)) (π #[IS (w5.heap.size),By 0]) eps k v g n):=(by have zz:=Cg.o.size;have z3:=G3.o.size;have gA:Gw w5 (w5.alloc (.cells #[.slice bo n bc,By eps,.slice lo ln lc] 105)):=(Gw.refl w5).alloc _ _;refine ⟨0,.inr ⟨BN.o,CR.o⟩,.inr ⟨rfl,w5.heap.size,fun q=>w.heap.size<=q/\q<w5.heap.size+1,L,rfl,fun q hq=>hq.1,vJ.o.1,⟨⟨_,w.heap.size,bo,bc,lo,lc,fun q=>ε,Yk _,fun _ _ _=>rfl,by rw [LN.o];exact Ω w5 _,ω,E5.o.1.gw gA,fun a ea=>by have:=(E5.o.2 a ea).1;omega,((Qo.o.gw Cg.o).gw gA).low Z2.o,Qp.o⟩,hn,vJ.o.1.fine BN.o.1 hn KB.o (nj.up (.inr ⟨BN.o,CR.o⟩)).2⟩⟩⟩);have G5:ag _:=G3.o.trans Cg.o;clear E5 Cg Qo vJ LN CR Qp;go_wp2_with fail;go_ret2;exact ⟨av.o,G5.o.alloc _ _⟩
  ·have vK:(r != 0)=true:=(by simpa using r0);have R0:ag _:=r0;clear r0;go_wp2_with fail;go_ret2;exact ⟨⟨r,.inr ⟨BN.o,CR.o⟩,.inl ⟨R0.o,rfl⟩⟩,G1.o⟩
 ·have BN:ag (¬ (2<=eps/\eps<=64)):=b
  clear h;by_cases c:eps<2
  ·have t1:decide (eps<2)=true:=(by simpa using c);clear b c;go_enter func95,ntmps95;go_wp2_with fail;go_ret2;exact ⟨⟨1,.inl ⟨BN.o,rfl⟩,.inl ⟨γ,rfl⟩⟩,Gw.refl w⟩
  ·have t1:decide (eps<2)=false:=(by simpa using c);have t2:decide (64<eps)=true:=(by simp;omega);clear b c;go_enter func95,ntmps95;go_wp2_with fail;go_ret2;exact ⟨⟨1,.inl ⟨BN.o,rfl⟩,.inl ⟨γ,rfl⟩⟩,Gw.refl w⟩
structure bj (HR:World->Nat->(Nat->Prop)->Int->(Nat->Int)->(Nat->Int)->(Nat->Bool)->Nat->List (List Sg)->Prop):Prop where
 keep:∀ {w w':World} {p:Nat} {S:Nat->Prop} {eps:Int} {k v:Nat->Int} {g:Nat->Bool} {n:Nat} {L:List (List Sg)},HR w p S eps k v g n L->(∀ q,S q->w'.heap[q]?=w.heap[q]?)->HR w' p S eps k v g n L
 lt:∀ {w:World} {p:Nat} {S:Nat->Prop} {eps:Int} {k v:Nat->Int} {g:Nat->Bool} {n:Nat} {L:List (List Sg)},HR w p S eps k v g n L->∀ q,S q->q<w.heap.size
 own:∀ {w:World} {p:Nat} {S:Nat->Prop} {eps:Int} {k v:Nat->Int} {g:Nat->Bool} {n:Nat} {L:List (List Sg)},HR w p S eps k v g n L->S p
 ready:∀ {w:World} {p:Nat} {S:Nat->Prop} {eps:Int} {k v:Nat->Int} {g:Nat->Bool} {n:Nat} {L:List (List Sg)},HR w p S eps k v g n L->oz eps k n L
 pile:∀ {w:World} {p:Nat} {S:Nat->Prop} {eps:Int} {k v:Nat->Int} {g:Nat->Bool} {n:Nat} {L:List (List Sg)},HR w p S eps k v g n L->∃ pp Sp,w.cell? (φ p 0)=some (IS pp)/\fF w pp Sp eps k n L/\∀ q,Sp q->S q
 new:∀ (eps:Int) (ao:Option Addr) (n cp:Nat) (k v:Nat->Int) (g:Nat->Bool),-9223372036854775808<=eps->eps<9223372036854775808->n<=2000000->n<=cp->(ao=none->n=0/\cp=0)->∀ w:World,ES w ao n k v g->Calls prog 111 #[.slice ao n cp,By eps] w fun ex w'=>vI HR w w' ex eps k v g n/\Gw w w'
 len:∀ {w:World} {p:Nat} {S:Nat->Prop} {eps:Int} {k v:Nat->Int} {g:Nat->Bool} {n:Nat} {L:List (List Sg)},HR w p S eps k v g n L->Calls prog 65 #[IS p] w fun e w'=>e=χ (By (n:Int))/\Gw w w'
 at_:∀ {w:World} {p:Nat} {S:Nat->Prop} {eps:Int} {k v:Nat->Int} {g:Nat->Bool} {n:Nat} {L:List (List Sg)},HR w p S eps k v g n L->∀ i:Int,-9223372036854775808<=i->i<9223372036854775808->Calls prog 120 #[IS p,By i] w fun e w'=>e=π #[(tD k v g n i).1,By (tD k v g n i).2]/\Gw w w'
 list:∀ {w:World} {p:Nat} {S:Nat->Prop} {eps:Int} {k v:Nat->Int} {g:Nat->Bool} {n:Nat} {L:List (List Sg)},HR w p S eps k v g n L->Calls prog 61 #[IS p] w fun e w'=>(∃ bo c,e=χ (.slice bo n c)/\ER w' w.heap.size (.slice bo n c) k v g n)/\Gw w w'
 levels:∀ {w:World} {p:Nat} {S:Nat->Prop} {eps:Int} {k v:Nat->Int} {g:Nat->Bool} {n:Nat} {L:List (List Sg)},HR w p S eps k v g n L->Calls prog 63 #[IS p] w fun e w'=>(∃ lo lc au,e=χ (.slice lo L.length lc)/\cZ w' w.heap.size (.slice lo L.length lc) L au/\x6 L/\L.length<=lc)/\Gw w w'
 get:∀ {w:World} {p:Nat} {S:Nat->Prop} {eps:Int} {k v:Nat->Int} {g:Nat->Bool} {n:Nat} {L:List (List Sg)},HR w p S eps k v g n L->∀ q:Int,0<=q->q<18446744073709551616->Calls prog 119 #[IS p,BY q] w fun e w'=>e=π #[(jZ k v g n q).1,.bool (jZ k v g n q).2]/\Gw w w'
end Go.Proofs.YtaemofgeciklkaaGreat
namespace Go.Proofs.YtaemofgeciklkaaGreat
open Go.RowKit
attribute [local go_sem] iV FZ
structure bD (W0:World) (l:List (Nat×Array Value×TypeId)) (W:World):Prop where
 gw0:Gw W0 W
 lie:∀ x∈l,W.heap[x.1]?=some (.cells x.2.1 x.2.2 (0,0))
variable {W0 W:World}
theorem bD.nil (g:Gw W0 W):bD W0 [] W:=⟨g,fun x h=>by cases h⟩
theorem bD.gw {W':World} {l:List (Nat×Array Value×TypeId)} (h:bD W0 l W) (g:Gw W W'):bD W0 l W' :=
 ⟨h.gw0.trans g,fun x hx=>(g.below.block x.1 (qab.1 (h.lie x hx)).1).trans (h.lie x hx)⟩
theorem bD.add {l:List (Nat×Array Value×TypeId)} (h:bD W0 l W) (c:Array Value) (t:TypeId):bD W0 ((W.heap.size,c,t)::l) (W.alloc (.cells c t)) :=
 ⟨h.gw0.alloc _ _,fun x hx=>by
  rcases qaf.1 hx with rfl | hx
  ·exact Ω W _
  ·exact (h.gw ((Gw.refl W).alloc c t)).lie x hx⟩
