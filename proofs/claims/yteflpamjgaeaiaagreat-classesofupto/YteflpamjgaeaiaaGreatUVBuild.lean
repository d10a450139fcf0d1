/- The document's Build of layer 8. -/
import Derived.Maps.AppendAt
import Derived.Test.YteflpamjgaeaiaaGreatUPE3
set_option linter.unusedVariables false
set_option maxHeartbeats 8000000
set_option maxRecDepth 10000
open Go.Proofs.Tryz
namespace Go.Proofs.YteflpamjgaeaiaaGreat
open Go.RowKit
attribute [local go_sem] run_store_float
def VI (w:World) (base ob:Nat) (vals:List Value) (L:List (List Sg)):Prop :=
 vals.length=L.length/\∀ i,i<L.length->∃ g cap,vals[i]?=some (.slice (some ⟨g,0,none⟩) (L.getD i []).length cap)/\(L.getD i []).length<=cap/\g≠ob/\(base<=g/\g<w.heap.size)/\GS w (some ⟨g,0,none⟩) (L.getD i [])
theorem VI.gw {w w':World} {base ob:Nat} {vals:List Value} {L:List (List Sg)} (h:VI w base ob vals L) (g:Gw w w'):VI w' base ob vals L :=
 ⟨h.1,fun i hi=>by
  obtain ⟨a,cap,h1,h2,h3,h4,h5⟩:=h.2 i hi;exact ⟨a,cap,h1,h2,h3,⟨h4.1,Nat.lt_of_lt_of_le h4.2 g.size⟩,h5.gw g⟩⟩
theorem gs_blocks {w w':World} {g:Nat} {l:List Sg} (h:GS w (some ⟨g,0,none⟩) l) (hb:w'.heap[g]?=w.heap[g]?) (hs:w.heap.size<=w'.heap.size):GS w' (some ⟨g,0,none⟩) l :=
 ⟨fun h0=>by
  obtain ⟨b,off,e,hl,hc⟩:=h.cells h0;cases e;have cc:∀ o,w'.cell? ⟨g,o,none⟩=w.cell? ⟨g,o,none⟩:=fun o=>by unfold World.cell?;rw [hb]
  exact ⟨g,0,rfl,by omega,fun i hi=>⟨(cc _).trans (hc i hi).c0,(cc _).trans (hc i hi).c1,(cc _).trans (hc i hi).c2,(cc _).trans (hc i hi).c3,(cc _).trans (hc i hi).c4⟩⟩,h.ok⟩
theorem VI.more {w w':World} {o:Obj} {base ob ob':Nat} {vals:List Value} {L:List (List Sg)} {l:List Sg} {g cap:Nat} (h:VI w base ob vals L) (r:(w.alloc o).grownBy w' (some ob)) (ho:ob'=ob\/w.heap.size<=ob') (gl:GS w (some ⟨g,0,none⟩) l) (gc:l.length<=cap) (gn:g≠ob) (gb:base<=g) (gw:g<w.heap.size):VI w' base ob' (vals++[.slice (some ⟨g,0,none⟩) l.length cap]) (L++[l]):=by
 have keep:∀ q,q<w.heap.size->q≠ob->w'.heap[q]?=w.heap[q]?:=fun q hq hn=>(r.block q (by simp;omega) (by simpa using hn)).trans (heap_alloc_old w o hq)
 have sz:w.heap.size<=w'.heap.size:=by have:=r.size;simp at this;omega
 refine ⟨by simp [h.1],fun i hi=>?_⟩
 by_cases e:i<L.length
 ·obtain ⟨a,c,h1,h2,h3,h4,h5⟩:=h.2 i e
  have gd:(L++[l]).getD i []=L.getD i []:=by simp [List.getD,List.getElem?_append_left e]
  rw [gd];exact ⟨a,c,by rw [List.getElem?_append_left (by rw [h.1];exact e)];exact h1,h2,by omega,⟨h4.1,by omega⟩,gs_blocks h5 (keep a h4.2 h3) sz⟩
 ·have ei:i=L.length:=by simp at hi;omega
  have gd:(L++[l]).getD i []=l:=by subst ei;simp [List.getD]
  rw [gd];exact ⟨g,cap,by rw [List.getElem?_append_right (by rw [h.1];omega),h.1,ei];simp,gc,by omega,⟨gb,by omega⟩,gs_blocks gl (keep g gw gn) sz⟩
theorem orow_gw {w w':World} {base e size n:Nat} {v:Value} {xs:List Value} (h:w.ownsRow base e size v n xs) (g:Gw w w'):w'.ownsRow base e size v n xs:=by
 refine ⟨h.1,?_⟩;rcases h.2 with q | ⟨b,cap,cur,rfl,hb,hh,r⟩
 ·exact .inl q
 ·exact .inr ⟨b,cap,cur,rfl,hb,(g.below.block b (Array.getElem?_eq_some_iff.1 hh).1).trans hh,r⟩
theorem new_val (w:World) (v:Value) (t:TypeId):∀ j u,[v][j]?=some u->(w.alloc (.cells #[v] t)).cell? ((⟨w.heap.size,0,none⟩:Addr).add j)=some u:=by
 intro j u hu;have h:=heap_alloc_new w (.cells #[v] t);rw [Addr.add_lit,Nat.zero_add];simp only [World.cell?,h];simpa using hu
theorem seg_ok {eps fr:Int} {h:Nat->Int} {N:Nat} {k:Int} {s ic:Nat} {F T er:Int} (S:SegR eps fr h N k s ic F T er) (e:2<=eps/\eps<=64) (n0:0<N) (u:Up h N) (ft:FitsOn (eps-1) h (Prs N)) (f0:0<=fr) (f1:fr+N<=4294967296):er=0:=by
 have z:∀ {a b c x:Int},OfR eps h N a b c x->x=0:=fun o=>by
  rcases o with ⟨q,_⟩ | ⟨_,q,_⟩ | ⟨_,_,q,_⟩ | ⟨_,_,_,_,_,q⟩
  ·exact absurd q (by omega)
  ·exact absurd ⟨n0,u⟩ q
  ·exact absurd ft q
  ·exact q
 rcases S with ⟨a,b,c,o,ne,_⟩ | ⟨a,b,c,o,nb,_⟩ | ⟨a,b,c,o,_,_,_,_,_,_,_,q⟩
 ·exact absurd (z o) ne
 ·exact absurd ⟨f0,f1⟩ nb
 ·exact q
theorem rbuild_any (O5:Of5C) (eps:Int) (ao:Option Addr) (n cp:Nat) (f:Nat->Int) (e0:-9223372036854775808<=eps) (e1:eps<9223372036854775808) (hn:n<=2000000) (hcp:n<=cp) (w:World) (h:KS w ao n f) :
  Calls prog 76 #[.slice ao n cp,.int .i64 eps] w fun ex w'=>BuildOutF w.heap.size w' ex eps f n/\Gw w w':=by
 have HK:Aside (KS w ao n f):=h;clear h;by_cases k0:¬ (2<=eps/\eps<=64)
 ·have R:Aside (BuildE eps f n [] 1):=.inl ⟨k0,rfl,rfl⟩
  by_cases h2:eps<2
  ·have t1:decide (eps<2)=true:=by simpa using h2
   clear k0 h2 O5;go_enter func76,ntmps76;go_wp2_with fail;exact bodyPost_ret (v:=.tuple #[.slice none 0 0,.int .i64 1]) (by simp [results,results76,go_sem]) rfl ⟨⟨none,0,[],1,rfl,R.out,⟨fun h0=>by simp at h0⟩,Nat.le_refl _⟩,Gw.refl w⟩
  ·have t1:decide (eps<2)=false:=by simpa using h2
   have t2:decide (64<eps)=true:=by simp;omega
   clear k0 h2 O5;go_enter func76,ntmps76;go_wp2_with fail;exact bodyPost_ret (v:=.tuple #[.slice none 0 0,.int .i64 1]) (by simp [results,results76,go_sem]) rfl ⟨⟨none,0,[],1,rfl,R.out,⟨fun h0=>by simp at h0⟩,Nat.le_refl _⟩,Gw.refl w⟩
 ·have KE:Aside (2<=eps/\eps<=64):=Classical.not_not.1 k0
  have t1:decide (eps<2)=false:=by have:=KE.out;simp;omega
  have t2:decide (64<eps)=false:=by have:=KE.out;simp;omega
  have RI:Hid (∀ W,KS W ao n f->_):=fun W h=>rrising_any ao n cp f (by omega) W h
  have HO:Aside Of5C:=O5;clear O5 k0;go_enter func76,ntmps76;go_wp2_with fail;refine (RI.out _ HK.out).mono ?_;rintro ex w1 ⟨⟨r,rfl,hr⟩,g1⟩;have G1:Aside (Gw w w1):=g1;have HR:Aside (r=true↔Up f n):=hr;clear hr g1;cases r with
  | false =>
   have R:Aside (BuildE eps f n [] 80):=.inr (.inl ⟨KE.out,fun q=>by have:=HR.out.2 q;simp at this,rfl,rfl⟩)
   go_wp2_with fail;exact bodyPost_ret (v:=.tuple #[.slice none 0 0,.int .i64 80]) (by simp [results,results76,go_sem]) rfl ⟨⟨none,0,[],80,rfl,R.out,⟨fun h0=>by simp at h0⟩,Nat.le_refl _⟩,G1.out⟩
  | true =>
   have UP:Aside (Up f n):=HR.out.1 rfl;obtain ⟨jj,hjj,jz,js,jby⟩:=info_parts info_sgs;obtain ⟨ii,hii,hz,hs,hby⟩:=info_parts info_sg;have G2:Aside (Gw w (w1.alloc (.cells #[] 174))):=G1.out.alloc _ _;have R2:Aside ((w1.alloc (.cells #[] 174)).ownsRow w.heap.size 174 1 (.slice (some ⟨w1.heap.size,0,none⟩) 0 0) 0 []):=World.ownsRow_made w1 #[] 0 G1.out.size (Nat.zero_le _) rfl;have V2:Aside (VI (w1.alloc (.cells #[] 174)) w.heap.size w1.heap.size [] []):=⟨rfl,fun i hi=>by simp at hi⟩
   have k2:=KE.out.1;have k3:=KE.out.2;have K2:Aside (KS (w1.alloc (.cells #[] 174)) ao n f):=HK.out.gw G2.out;have UPF:Aside (Up f n):=UP.out;clear HR G1 HK RI;go_wp2_with fail;generalize w1.alloc (.cells #[] 174)=w2 at G2 R2 V2 K2 ⊢;generalize w1.heap.size=ob0 at R2 V2 ⊢;go_loopg [0,6,7] n (fun gg s0 s6 s7 wr=>∃ (m c ob oc nn:Nat) (bo:Option Addr) (g:Nat->Int) (L:List (List Sg)) (vals:List Value),s0=.slice bo m c/\s6=.slice (some ⟨ob,0,none⟩) L.length oc/\s7=.int .i64 nn/\m<=2000000/\m<=c/\nn<=gg/\(nn=m\/nn+1=m)/\L.length+nn<=n/\Aside (KS wr bo m g)/\Aside (Up g m)/\Aside (wr.ownsRow w.heap.size 174 1 (.slice (some ⟨ob,0,none⟩) L.length oc) L.length vals)/\Aside (VI wr w.heap.size ob vals L)/\Aside ((0<nn->∀ r,BuildR eps g m r->BuildR eps f n (L++r))/\(nn=0->BuildR eps f n L))/\Aside (Gw w wr))
   case atStart=>exact ⟨n,cp,ob0,0,n,ao,f,[],[],rfl,rfl,rfl,hn,hcp,Nat.le_refl _,.inl rfl,by simp,K2,UP,R2,V2,(show Aside _ from ⟨fun _ r h=>h,fun h=>h⟩),G2⟩
   case round =>
    clear G2 R2 V2 K2 UP;obtain ⟨m,c,ob,oc,nn,bo,g,L,vals,rfl,rfl,rfl,h3,h4,h5,h6,h7,K,U,R,V,BR,G⟩:=hrel;by_cases n0:0<nn
    ·have tn:decide ((0:Int)<(nn:Int))=true:=by simp;omega
     have m0:0<m:=by omega
     obtain ⟨bk,off,rfl,hbk,hkc⟩:=K.out.cells m0;clear hkc;obtain ⟨wS,hwS⟩:∃ wx,wx=wr:=⟨_,rfl⟩;subst hwS;go_wp2_with fail;refine (rends_any eps _ m c g e0 e1 h3 _ K.out).mono ?_;rintro ex w3 ⟨⟨v3,es,err,rfl,hE,hI⟩,g3⟩;have EA:EndsAt (eps-1) g m 0 es:=by
      rcases hE with ⟨q,_⟩ | ⟨_,q,_⟩ | ⟨_,_,q,_⟩
      ·exact absurd KE.out q
      ·exact absurd U.out q
      ·exact q
     have ED:Aside (EndsAt (eps-1) g m 0 es):=EA;have eln:=EA.len;obtain ⟨eo,ec,rfl,ei1,ei2⟩:=ir_slice hI;have e1':0<es.length:=List.length_pos_iff.2 (EA.nonempty m0);cases eo with
     | none=>have:=(ei1 rfl).1;rw [this] at e1';simp at e1'
     | some ea =>
      obtain ⟨eb,rfl,_,heb,hec⟩:=ei2 ea rfl;have EC:Aside (∀ W,Gw w3 W->∀ i,i<es.length->W.cell? ⟨eb,i,none⟩=some (.int .i64 ((es.getD i 0:Nat):Int))/\eb<W.heap.size):=fun W gW i hi=>⟨(gW.cell _ _ heb).trans (hec i hi),Nat.lt_of_lt_of_le heb gW.size⟩
      have GS3:Aside (Gw wS w3):=g3;clear hE EA hI ei1 ei2 hec g3;have SR4:Aside (SR (w3.alloc (.cells #[] 177)) w3.heap.size (.slice (some ⟨w3.heap.size,0,none⟩) 0 0) []):=sr_new w3 w3.heap.size (Nat.le_refl _);have GS4:Aside (Gw wS (w3.alloc (.cells #[] 177))):=GS3.out.alloc _ _;have GT4:Aside (Gw w3 (w3.alloc (.cells #[] 177))):=(Gw.refl w3).alloc _ _;obtain ⟨en,hen⟩:∃ en,es.length=en:=⟨_,rfl⟩;have EN:Aside (es.length=en):=hen;rw [hen] at eln e1' ⊢;clear hen heb;go_wp2_with fail;generalize w3.alloc (.cells #[] 177)=w4 at SR4 GS4 GT4 ⊢;obtain ⟨lb0,hlb0⟩:∃ lb0,w3.heap.size=lb0:=⟨_,rfl⟩;have L0:Aside (wS.heap.size<=lb0):=by rw [<-hlb0];exact GS3.out.size
      have L0':Aside (w3.heap.size<=lb0):=by rw [<-hlb0];exact Nat.le_refl _
      rw [hlb0] at SR4 ⊢;clear hlb0;go_loopg [10,11,12] en (fun gg s10 s11 s12 wr=>∃ (i fr lb lc:Nat) (lv:List Sg),s10=.slice (some ⟨lb,0,none⟩) i lc/\s11=.int .i64 fr/\s12=.int .i64 i/\i<=en/\en-i<=gg/\Aside (lv.length=i)/\Aside (fr=starts 0 es i)/\Aside (SR wr lb0 (.slice (some ⟨lb,0,none⟩) i lc) lv)/\Aside (∀ j,j<lv.length->(lv.getD j sg0).ok)/\Aside (∀ l',LvlAt eps g m fr l'->LvlAt eps g m 0 (lv++l'))/\Aside (Gw wS wr)/\Aside (Gw w3 wr))
      case atStart=>exact ⟨0,0,lb0,0,[],rfl,rfl,rfl,Nat.zero_le _,by omega,(show Aside _ from rfl),(show Aside _ from rfl),SR4,(show Aside _ from fun j hj=>by simp at hj),(show Aside _ from fun l' h=>h),GS4,GT4⟩
      case round =>
       clear SR4 GS4 GT4;obtain ⟨i,fr,lb,lc,lv,rfl,rfl,rfl,j1,j2,LI,FR,SRr,OKr,PRE,GSr,GTr⟩:=hrel;by_cases ilt:i<en
       ·have ST:=ED.out.step i (by rw [EN.out];exact ilt)
        rw [<-FR.out] at ST;obtain ⟨ec1,ec2⟩:=EC.out _ GTr.out i (by rw [EN.out];exact ilt)
        obtain ⟨ei,hei⟩:∃ ei,es.getD i 0=ei:=⟨_,rfl⟩;rw [hei] at ST ec1;obtain ⟨s1,s2,s3,s4,_⟩:=ST;have FN:Aside (starts 0 es (i+1)=ei):=hei;clear hei;have tc:ei<=c:=by omega
        have cf:¬ c=fr:=by omega
        have fc:¬ fr=c:=by omega
        have i1:(0:Int)<=(fr:Int):=by omega
        have i2:(fr:Int)<=(ei:Int):=by omega
        have i3:(ei:Int)<=(c:Int):=by omega
        have fe:fr<=ei:=by omega
        go_wp2_with fail;refine (rof7_any HO.out eps fr _ (ei-fr) (c-fr) (sh g fr) e0 e1 (by omega) (by omega) (by omega) _ (ks_cut ((K.out.gw GSr.out)) s2)).mono ?_
        rintro ex w5 ⟨⟨k5,sl5,ic5,F5,T5,er5,rfl,hS5⟩,g5⟩;obtain rfl:=seg_ok hS5 KE.out (by omega) (sh_up U.out s2) s3 (by omega) (by omega)
        have bd5:∀ t,t<ei-fr->0<=sh g fr t/\sh g fr t<18446744073709551616:=fun t ht=>K.out.bd (fr+t) (by omega)
        have SA:Aside (SegAt eps g fr ei (Sg.mk k5 sl5 ic5 F5 T5)):=hS5;have SO:Aside (Sg.ok (Sg.mk k5 sl5 ic5 F5 T5)):=hS5.ok (by omega) bd5
        have GS5:Aside (Gw wS (w5.alloc (.cells #[.int .u64 k5,.float .f64 sl5,.float .f64 ic5,.int .i64 F5,.int .i64 T5] 177))):=(GSr.out.trans g5).alloc _ _;have GT5:Aside (Gw w3 (w5.alloc (.cells #[.int .u64 k5,.float .f64 sl5,.float .f64 ic5,.int .i64 F5,.int .i64 T5] 177))):=(GTr.out.trans g5).alloc _ _;have SR5:Aside (SR (w5.alloc (.cells #[.int .u64 k5,.float .f64 sl5,.float .f64 ic5,.int .i64 F5,.int .i64 T5] 177)) lb0 (.slice (some ⟨lb,0,none⟩) i lc) lv):=sr_gw (sr_gw SRr.out g5) ((Gw.refl w5).alloc _ _);have SB5:Aside (Sb (w5.alloc (.cells #[.int .u64 k5,.float .f64 sl5,.float .f64 ic5,.int .i64 F5,.int .i64 T5] 177)) w5.heap.size k5 sl5 ic5 F5 T5):=heap_alloc_new w5 _;have ec5:=EC.out _ GT5.out i (by rw [EN.out];exact ilt)
        have hsz:(w5.alloc (.cells #[.int .u64 k5,.float .f64 sl5,.float .f64 ic5,.int .i64 F5,.int .i64 T5] 177)).heap.size=w5.heap.size+1:=by simp
        have NS:Aside (∀ j u,(sgc (Sg.mk k5 sl5 ic5 F5 T5))[j]?=some u->((w5.alloc (.cells #[.int .u64 k5,.float .f64 sl5,.float .f64 ic5,.int .i64 F5,.int .i64 T5] 177)).alloc (.cells #[.int .u64 k5,.float .f64 sl5,.float .f64 ic5,.int .i64 F5,.int .i64 T5] 177)).cell? ((⟨w5.heap.size+1,0,none⟩:Addr).add j)=some u):=by
         have:=new_sg (w5.alloc (.cells #[.int .u64 k5,.float .f64 sl5,.float .f64 ic5,.int .i64 F5,.int .i64 T5] 177)) (Sg.mk k5 sl5 ic5 F5 T5)
         rw [hsz] at this;exact this
        have SRi:Aside ((w5.alloc (.cells #[.int .u64 k5,.float .f64 sl5,.float .f64 ic5,.int .i64 F5,.int .i64 T5] 177)).ownsRow lb0 177 5 (.slice (some ⟨lb,0,none⟩) i lc) i (lv.flatMap sgc)):=by
         have:=SR5.out
         unfold SR at this;rw [LI.out] at this;exact this
        have lz:lb0<=w5.heap.size+1:=by have:=(sr_lt SR5.out lb rfl);rw [hsz] at this;omega
        have lbb:lb0<=lb:=(sr_lt SR5.out lb rfl).1;clear hS5 bd5 g5 GSr GTr SRr ec1 ec2 SR5 ec5;obtain ⟨z0,z1,z2,z3,z4⟩:=SB5.out.cells;have zl:=SB5.out.lt;go_wp2_with (at_builtin;refine wpList_append_own _ rfl _ _ 174 rfl lb0 177 ii (.agg #[.int .u64 0,.float .f64 0,.float .f64 0,.int .i64 0,.int .i64 0]) 5 40 underlying174 hii hz hs hby rfl (by decide) _ i _ rfl (SRi.out.alloc _) ⟨w5.heap.size+1,0,none⟩ 1 1 (sgc (Sg.mk k5 sl5 ic5 F5 T5)) rfl rfl NS.out (sgc_one _) (by simp only [maxLen];omega) (by omega) (by simp;omega) ?_)
        intro v' w7 r1 r2 r3;obtain ⟨b7,cap7,rfl,hb7,_,_⟩:=own_slice r1 (by simpa using r3)
        have GS7:Aside (Gw wS w7):=(GS5.out.alloc _ _).grown r2 (fun k' hk=>by have e:lb=k':=(by simpa [Value.ownBlock] using hk);have:=L0.out;omega)
        have GT7:Aside (Gw w3 w7):=(GT5.out.alloc _ _).grown r2 (fun k' hk=>by have e:lb=k':=(by simpa [Value.ownBlock] using hk);have:=L0'.out;omega)
        have LI7:Aside ((lv++[(Sg.mk k5 sl5 ic5 F5 T5)]).length=i+1):=by show (lv++[_]).length=i+1;rw [List.length_append,LI.out];rfl
        have SR7:Aside (SR w7 lb0 (.slice (some ⟨b7,0,none⟩) (i+1) cap7) (lv++[(Sg.mk k5 sl5 ic5 F5 T5)])):=by
         show World.ownsRow _ _ _ _ _ _ _;rw [LI7.out,flat_one];exact r1
        have OK7:Aside (∀ j,j<(lv++[(Sg.mk k5 sl5 ic5 F5 T5)]).length->((lv++[(Sg.mk k5 sl5 ic5 F5 T5)]).getD j sg0).ok):=fun j hj=>by
         rw [LI7.out] at hj;by_cases x:j<lv.length
         ·rw [show (lv++[(Sg.mk k5 sl5 ic5 F5 T5)]).getD j sg0=lv.getD j sg0 by simp [List.getD,List.getElem?_append_left x]]
          exact OKr.out j x
         ·have e:j=lv.length:=by have:=LI.out;omega
          rw [show (lv++[(Sg.mk k5 sl5 ic5 F5 T5)]).getD j sg0=(Sg.mk k5 sl5 ic5 F5 T5) by subst e;simp [List.getD]]
          exact SO.out
        have PR7:Aside (∀ l',LvlAt eps g m ei l'->LvlAt eps g m 0 ((lv++[(Sg.mk k5 sl5 ic5 F5 T5)])++l')):=fun l' h=>by
         rw [List.append_assoc];exact PRE.out ((Sg.mk k5 sl5 ic5 F5 T5)::l') ⟨ei,⟨s1,s2,s3,s4⟩,SA.out,h⟩
        have FR7:Aside (ei=starts 0 es (i+1)):=FN.out.symm;obtain ⟨q7,q8⟩:=EC.out _ GT7.out i (by rw [EN.out];exact ilt)
        rw [show es.getD i 0=ei from FN.out] at q7;clear r1 r2 r3 hb7 s3 s4 SB5 GS5 GT5 NS SRi z0 z1 z2 z3 z4 zl OKr PRE SA;go_wp2_with fail;go_roundg (en-(i+1))
        case measure=>omega
        case rel=>exact ⟨i+1,ei,b7,cap7,lv++[(Sg.mk k5 sl5 ic5 F5 T5)],rfl,rfl,by go_num,by omega,Nat.le_refl _,LI7,FR7,SR7,OK7,PR7,GS7,GT7⟩
       ·have ei:i=en:=by omega
        subst ei;have frm:fr=m:=by
         rw [FR.out];obtain ⟨i',hi'⟩:∃ i',i=i'+1:=⟨i-1,by omega⟩
         have:=(ED.out.last i' (by rw [EN.out];omega)).2 (by rw [EN.out];omega)
         rw [hi'];exact this
        have LVL:LvlAt eps g m 0 lv:=by
         have:=PRE.out [] frm
         rwa [List.append_nil] at this
        have lk:=LI.out;have GL:GS wr (some ⟨lb,0,none⟩) lv:=sr_gs (by rw [lk];exact SRr.out) OKr.out
        have ilc:i<=lc:=by
         have:=SRr.out
         unfold SR at this;rw [lk] at this;exact (own_slice this (by simp)).elim fun _ ⟨_,ev,_,h,_⟩=>by cases ev;exact h
        have lbb:lb0<=lb/\lb<wr.heap.size:=sr_lt SRr.out lb rfl;have obw:w.heap.size<=ob/\ob<wS.heap.size:=R.out.lt ob rfl;have lob:lb≠ob:=by have:=L0.out;omega
        have R6:Aside (wr.ownsRow w.heap.size 174 1 (.slice (some ⟨ob,0,none⟩) L.length oc) L.length vals):=orow_gw R.out GSr.out;have V6:Aside (VI wr w.heap.size ob vals L):=V.out.gw GSr.out;have G6:Aside (Gw w wr):=G.out.trans GSr.out;have FW:=LVL.few (by omega) m0 h3 K.out.bd U.out
        have lvn:=LVL.len h3 K.out.bd;obtain ⟨u1,_,u3⟩:=fst8_up U.out (LVL.tiles h3 K.out.bd) (LVL.keys h3 K.out.bd);have UN:Aside (Up (fst8 lv) i):=by have:=u1;rw [lk] at this;exact this
        have ms:i<=nn/\i-1<nn:=by
         rw [lk] at FW lvn;rcases h6 with h6 | h6
         ·omega
         ·by_cases x:i=1
          ·omega
          ·have:=div_less (e:=eps.toNat) (by omega) (FW.2 x)
           have:=FW.1
           omega
        have BR6:Aside ((0<i-1->∀ r,BuildR eps (fst8 lv) i r->BuildR eps f n ((L++[lv])++r))/\(i-1=0->BuildR eps f n (L++[lv]))):=by
         refine ⟨fun h r hr=>?_,fun h=>?_⟩
         ·rw [List.append_assoc]
          exact BR.out.1 n0 (lv::r) ⟨m0,LVL,by rw [if_neg (by omega),lk];exact hr⟩
         ·exact BR.out.1 n0 [lv] ⟨m0,LVL,by rw [if_pos (by omega)]⟩
        have GL6:Aside (GS wr (some ⟨lb,0,none⟩) lv):=GL;have LK:Aside (lv.length=i):=lk;have zz:=G6.out.size;clear LVL u1 u3 FW PRE SRr OKr GL lk FR frm R V G BR ED EC EN;go_wp2_with (at_builtin;refine wpList_append_own_at _ rfl _ _ 107 rfl w.heap.size 174 jj (.slice none 0 0) 1 24 underlying107 hjj jz js jby rfl (by decide) _ L.length _ rfl (R6.out.alloc _) ⟨wr.heap.size,0,none⟩ 1 1 [(.slice (some ⟨lb,0,none⟩) i lc)] rfl rfl (new_val wr (.slice (some ⟨lb,0,none⟩) i lc) 174) (fun u hu=>by simp at hu;subst hu;rfl) (by simp only [maxLen];omega) (by omega) (by simp;omega) ?_)
        intro v' w8 r1 r2 r3 r4;obtain ⟨b8,cap8,rfl,hb8,_,_⟩:=own_slice r1 (by simpa using r3)
        have ob8:b8=ob\/wr.heap.size<=b8:=by
         rcases r4 with q | q
         ·have q':b8=ob:=by simpa [Value.ownBlock] using q
          exact .inl q'
         ·have q':b8=wr.heap.size+1:=by simpa [Value.ownBlock] using q
          exact .inr (by omega)
        have r2':(wr.alloc (.cells #[(.slice (some ⟨lb,0,none⟩) i lc)] 174)).grownBy w8 (some ob):=r2;have V8:Aside (VI w8 w.heap.size b8 (vals++[(.slice (some ⟨lb,0,none⟩) i lc)]) (L++[lv])):=by
         have:=V6.out.more r2' ob8 GL6.out (by rw [LK.out];exact ilc) lob (by have:=L0.out;omega) lbb.2
         rw [LK.out] at this;exact this
        have G8:Aside (Gw w w8):=(G6.out.alloc _ _).grown r2 (fun k' hk=>by have e:ob=k':=(by simpa [Value.ownBlock] using hk);omega)
        have GL8:Aside (GS w8 (some ⟨lb,0,none⟩) lv):=gs_blocks GL6.out ((r2'.block lb (by simp;omega) (by simpa using lob)).trans (heap_alloc_old wr _ lbb.2)) (by have:=r2'.size;simp at this;omega)
        have L8:(L++[lv]).length=L.length+1:=by simp
        have R8:Aside (w8.ownsRow w.heap.size 174 1 (.slice (some ⟨b8,0,none⟩) (L++[lv]).length cap8) (L++[lv]).length (vals++[(.slice (some ⟨lb,0,none⟩) i lc)])):=by
         rw [L8];exact r1
        have FI:Hid (∀ W,GS W (some ⟨lb,0,none⟩) lv->Calls prog 125 #[.slice (some ⟨lb,0,none⟩) i lc] W fun e w'=>(∃ b cap,e=.returned (.slice (some ⟨b,0,none⟩) i cap)/\W.heap.size<=b/\i<=cap/\KS w' (some ⟨b,0,none⟩) i (fst8 lv))/\Gw W w'):=fun W h=>by
         have:=rfirsts_any (some ⟨lb,0,none⟩) lc lv (by rw [LK.out];omega) W h
         rw [LK.out] at this;exact this
        have wi:IntKind.i64.wrap ((i:Int)-1)=((i-1:Nat):Int):=by rw [IntKind.wrap_i64];omega
        obtain ⟨n8,hn8⟩:∃ n8,i-1=n8:=⟨_,rfl⟩;rw [hn8] at wi ms BR6;have N8:Aside (i-1=n8):=hn8;clear r1 r2 r3 r4 r2' hb8 R6 V6 G6 GL6 hn8;go_wp2_with fail;refine (FI.out _ GL8.out).mono ?_;rintro e w9 ⟨⟨fb,fc,rfl,_,hfc,hk⟩,g9⟩;have G9:Aside (Gw w w9):=G8.out.trans g9;have K9:Aside (KS w9 (some ⟨fb,0,none⟩) i (fst8 lv)):=hk;have R9:Aside (w9.ownsRow w.heap.size 174 1 (.slice (some ⟨b8,0,none⟩) (L++[lv]).length cap8) (L++[lv]).length (vals++[(.slice (some ⟨lb,0,none⟩) i lc)])):=orow_gw R8.out g9;have V9:Aside (VI w9 w.heap.size b8 (vals++[(.slice (some ⟨lb,0,none⟩) i lc)]) (L++[lv])):=V8.out.gw g9;clear g9 hk R8 V8 G8 GL8 FI;go_wp2_with fail;go_roundg n8
        case measure=>omega
        case rel=>exact ⟨i,fc,b8,cap8,n8,some ⟨fb,0,none⟩,fst8 lv,L++[lv],vals++[(.slice (some ⟨lb,0,none⟩) i lc)],rfl,by rw [L8],rfl,by omega,hfc,Nat.le_refl _,.inr (by have:=N8.out;omega),(by rw [L8];have:=N8.out;omega),K9,UN,R9,V9,BR6,G9⟩
    ·have e0':nn=0:=by omega
     subst e0';have RR:Aside (BuildE eps f n L 0):=.inr (.inr ⟨KE.out,UPF.out,BR.out.2 rfl,rfl⟩);have VV:Aside (VSf wr w.heap.size (some ⟨ob,0,none⟩) L):=by
      refine ⟨fun _=>⟨ob,0,rfl,(R.out.lt ob rfl),fun i hi=>?_⟩⟩
      obtain ⟨g',cap',v1,v2,_,v4,v5⟩:=V.out.2 i hi;refine ⟨some ⟨g',0,none⟩,cap',?_,v2,(fun e=>by cases e),v5,fun a e=>by cases e;exact v4⟩
      rw [Nat.zero_add,R.out.cellAt i (by omega)]
      exact v1
     have oc1:L.length<=oc:=(own_slice R.out (by simp)).elim fun _ ⟨_,ev,_,h,_⟩=>by cases ev;exact h
     go_wp2_with fail;exact bodyPost_ret (v:=.tuple #[.slice (some ⟨ob,0,none⟩) L.length oc,.int .i64 0]) (by simp [results,results76,go_sem]) rfl ⟨⟨_,oc,L,0,rfl,RR.out,VV.out,oc1⟩,G.out⟩
end Go.Proofs.YteflpamjgaeaiaaGreat
namespace Go.Proofs.YteflpamjgaeaiaaGreat
open Go.RowKit
def ecs (k v:Nat->Int) (g:Nat->Bool) (n:Nat):List Value:=(List.range (n*3)).map (ecell k v g)
theorem ecs_len (k v:Nat->Int) (g:Nat->Bool) (n:Nat):(ecs k v g n).length=n*3:=by simp [ecs]
theorem ecs_at (k v:Nat->Int) (g:Nat->Bool) {n j:Nat} (h:j<n*3):(ecs k v g n)[j]?=some (ecell k v g j):=by simp [ecs,h]
theorem ecs_one (k v:Nat->Int) (g:Nat->Bool) (n:Nat):∀ u∈ecs k v g n,u.oneCell'=true:=by
 intro u hu;obtain ⟨j,_,rfl⟩:=List.mem_map.1 hu;exact ecell_one k v g j
theorem es_news {w:World} {ao:Option Addr} {n:Nat} {k v:Nat->Int} {g:Nat->Bool} (h:ES w ao n k v g):∀ ad,ao=some ad->∀ j u,(ecs k v g n)[j]?=some u->w.cell? (ad.add j)=some u:=by
 intro ad e j u hu;have hj:j<n*3:=by
  have:=(List.getElem?_eq_some_iff.1 hu).1
  rwa [ecs_len] at this
 obtain ⟨b,off,e',_,hc⟩:=h.flat (by omega)
 rw [e] at e';cases e';rw [Addr.add_lit,hc j hj,<-ecs_at k v g hj];exact hu
def ER (w:World) (base:Nat) (x:Value) (k v:Nat->Int) (g:Nat->Bool) (n:Nat):Prop:=w.ownsRow base 40 3 x n (ecs k v g n)
theorem er_es {w:World} {base:Nat} {ao:Option Addr} {cap n:Nat} {k v:Nat->Int} {g:Nat->Bool} (h:ER w base (.slice ao n cap) k v g n) (bd:∀ i,i<n->(0<=k i/\k i<18446744073709551616)/\(0<=v i/\v i<18446744073709551616)):ES w ao n k v g:=by
 refine ⟨fun h0=>?_,bd⟩
 rcases h.2 with ⟨e,z⟩ | ⟨b,cap',cur,e,hb,hh,r⟩
 ·omega
 ·cases e
  have h':w.ownsRow base 40 3 (.slice (some ⟨b,0,none⟩) n cap) n (ecs k v g n):=h;have ce:∀ j,j<n*3->w.cell? ⟨b,j,none⟩=some (ecell k v g j):=fun j hj=>by
   rw [h'.cellAt j hj,ecs_at k v g hj]
  refine ⟨b,0,rfl,(Array.getElem?_eq_some_iff.1 hh).1,fun i hi=>⟨?_,?_,?_⟩⟩
  ·rw [Nat.zero_add,ce _ (by omega),ecell_0]
  ·rw [Nat.zero_add,ce _ (by omega),ecell_1]
  ·rw [Nat.zero_add,ce _ (by omega),ecell_2]
theorem er_form {w:World} {base:Nat} {x:Value} {k v:Nat->Int} {g:Nat->Bool} {n:Nat} (h:ER w base x k v g n):∃ bo c,x=.slice bo n c/\n<=c/\∀ a,bo=some a->base<=a.block/\a.block<w.heap.size:=by
 rcases h.2 with ⟨e,z⟩ | ⟨b,cap,cur,e,hb,hh,hc,_⟩
 ·exact ⟨none,0,by rw [e,z],by omega,fun a q=>by cases q⟩
 ·exact ⟨some ⟨b,0,none⟩,cap,e,hc,fun a q=>by cases q;exact ⟨hb,(Array.getElem?_eq_some_iff.1 hh).1⟩⟩
theorem er_shape {w:World} {base n c:Nat} {bo:Option Addr} {k v:Nat->Int} {g:Nat->Bool} (h:ER w base (.slice bo n c) k v g n):n<=c/\(bo=none->n=0/\c=0):=by
 rcases h.2 with ⟨e,z⟩ | ⟨b,cap,cur,e,hb,hh,hc,_⟩
 ·injection e with e1 e2 e3
  exact ⟨by omega,fun _=>⟨z,e3⟩⟩
 ·injection e with e1 e2 e3
  subst e1 e3;exact ⟨hc,fun x=>by cases x⟩
theorem VSf.low {w:World} {base base':Nat} {ao:Option Addr} {L:List (List Sg)} (h:VSf w base ao L) (hb:base'<=base):VSf w base' ao L :=
 ⟨fun h0=>by
  obtain ⟨b,off,e,x,hc⟩:=h.cells h0;refine ⟨b,off,e,⟨Nat.le_trans hb x.1,x.2⟩,fun i hi=>?_⟩
  obtain ⟨bo,c,y1,y2,y3,y4,y5⟩:=hc i hi;exact ⟨bo,c,y1,y2,y3,y4,fun a ea=>⟨Nat.le_trans hb (y5 a ea).1,(y5 a ea).2⟩⟩⟩
def NewE (eps:Int) (k v:Nat->Int) (g:Nat->Bool) (n:Nat) (E:Int):Prop:=(¬ (2<=eps/\eps<=64)/\E=1)\/((2<=eps/\eps<=64)/\ChkR k v g n E)
theorem NewE.one {eps:Int} {k v:Nat->Int} {g:Nat->Bool} {n:Nat} {E E':Int} (h:NewE eps k v g n E) (h':NewE eps k v g n E'):E=E':=by
 rcases h with ⟨a,rfl⟩ | ⟨a,c⟩
 ·rcases h' with ⟨_,rfl⟩ | ⟨b,_⟩
  ·rfl
  ·exact absurd b a
 ·rcases h' with ⟨b,_⟩ | ⟨_,d⟩
  ·exact absurd a b
  ·exact c.one d
def OfE (eps:Int) (k v:Nat->Int) (g:Nat->Bool) (n:Nat) (L:List (List Sg)) (E:Int):Prop:=∃ r,NewE eps k v g n r/\((r≠0/\E=r)\/(r=0/\CheckR eps k n L E))
theorem NewE.up {eps:Int} {k v:Nat->Int} {g:Nat->Bool} {n:Nat} (h:NewE eps k v g n 0):(2<=eps/\eps<=64)/\Up k n:=by
 rcases h with ⟨_,e⟩ | ⟨a,⟨_,u,_⟩ | ⟨e,_⟩ | ⟨e,_⟩⟩
 ·cases e
 ·exact ⟨a,u⟩
 ·cases e
 ·cases e
def RunOut (HR:World->Nat->(Nat->Prop)->Int->(Nat->Int)->(Nat->Int)->(Nat->Bool)->Nat->List (List Sg)->Prop) (w w':World) (ex:Ending) (eps:Int) (k v:Nat->Int) (g:Nat->Bool) (n:Nat):Prop :=
 ∃ E,NewE eps k v g n E/\((E≠0/\ex=.returned (.tuple #[.pointer none,.int .i64 E]))\/(E=0/\∃ p S L,ex=.returned (.tuple #[.pointer (some ⟨p,0,none⟩),.int .i64 0])/\(∀ q,S q->w.heap.size<=q)/\BuildR eps k n L/\HR w' p S eps k v g n L))
def OfOutR (HR:World->Nat->(Nat->Prop)->Int->(Nat->Int)->(Nat->Int)->(Nat->Bool)->Nat->List (List Sg)->Prop) (w w':World) (ex:Ending) (eps:Int) (k v:Nat->Int) (g:Nat->Bool) (n:Nat) (L:List (List Sg)):Prop :=
 ∃ E,OfE eps k v g n L E/\((E≠0/\ex=.returned (.tuple #[.pointer none,.int .i64 E]))\/(E=0/\∃ p S,ex=.returned (.tuple #[.pointer (some ⟨p,0,none⟩),.int .i64 0])/\(∀ q,S q->w.heap.size<=q)/\HR w' p S eps k v g n L))
theorem BuildR.fine {eps:Int} {f:Nat->Int} {n:Nat} {L:List (List Sg)} (e0:2<=eps) (n1:n<=2000000) (bd:∀ t,t<n->0<=f t/\f t<18446744073709551616) (u:Up f n) (b:BuildR eps f n L):Short L:=by
 refine ⟨?_,fun i hi=>by have:=b.short n1 bd u i hi;omega⟩
 have a:=b.low e0 n1 bd u;have c:=hgt_le (e:=eps.toNat) (by omega) n
 omega
theorem dc_new (O5:Of5C) (eps:Int) (ao:Option Addr) (n cp:Nat) (k v:Nat->Int) (g:Nat->Bool) (e0:-9223372036854775808<=eps) (e1:eps<9223372036854775808) (hn:n<=2000000) (hcp:n<=cp) (hz:ao=none->n=0/\cp=0) (w:World) (h:ES w ao n k v g) :
  Calls prog 24 #[.slice ao n cp,.int .i64 eps] w fun ex w'=>RunOut HDoc w w' ex eps k v g n/\Gw w w':=by
 have HE:Aside _:=h;have HZ:Aside _:=hz;have KB:Aside (∀ t,t<n->0<=k t/\k t<18446744073709551616):=fun t ht=>(h.bd t ht).1
 clear hz;by_cases b:2<=eps/\eps<=64
 ·have t1:decide (eps<2)=false:=by simp;omega
  have t2:decide (64<eps)=false:=by simp;omega
  have CK:Hid _:=rcheck3_any ao n cp k v g (by omega) w h
  have BN:Aside (2<=eps/\eps<=64):=b;clear h b;go_enter func24,ntmps24;go_wp2_with fail;refine Calls.mono CK.out ?_;rintro e w1 ⟨⟨r,rfl,cr⟩,g1⟩;have CR:Aside (ChkR k v g n r):=cr;have G1:Aside _:=g1;clear CK cr g1;by_cases r0:r=0
  ·subst r0
   go_wp2_with fail;refine Calls.mono (rof3_any ao n cp k v g (by omega) w1 (HE.out.gw G1.out)) ?_
   rintro e w2 ⟨⟨kb,kc,rfl,hkb,own⟩,g2⟩;have G2:Aside _:=G1.out.trans g2;have K2:Aside (KS w2 (some ⟨kb,0,none⟩) n k/\n<=kc):=⟨ks_own own (Nat.le_refl _) (fun i hi=>by simp [hi]) KB.out,by rcases own.2 with ⟨e,_⟩ | ⟨_,_,_,e,_,_,hc,_⟩;cases e;cases e;exact hc⟩
   clear own g2 hkb G1;go_wp2_with fail;refine Calls.mono (rbuild_any O5 eps _ n kc k e0 e1 hn K2.out.2 w2 K2.out.1) ?_;rintro e w3 ⟨⟨lo,lc,L,err,rfl,be,vs,hlc⟩,g3⟩;have BR8:Aside (BuildR eps k n L/\err=0):=by
    rcases be with ⟨x,_⟩ | ⟨_,x,_⟩ | ⟨_,_,x,y⟩
    ·exact absurd BN.out x
    ·exact absurd (NewE.up (.inr ⟨BN.out,CR.out⟩)).2 x
    ·exact ⟨x,y⟩
   obtain rfl:err=0:=BR8.out.2;have G3:Aside _:=G2.out.trans g3;have VS3:Aside _:=vs;have Z2:Aside _:=G2.out.size;obtain ⟨ln,hln⟩:∃ ln,L.length=ln:=⟨_,rfl⟩;have LN:Aside _:=hln;rw [hln];clear be vs hlc g3 G2 K2 hln O5;obtain ⟨ii,hii,iz,is,iby⟩:=info_parts info_e;have O0:Hid ((w3.alloc (.cells #[] 40)).ownsRow w3.heap.size 40 3 (.slice (some ⟨w3.heap.size,0,none⟩) 0 0) 0 []):=World.ownsRow_made w3 #[] 0 (Nat.le_refl _) (Nat.zero_le _) rfl;have NW:Hid (∀ ad,ao=some ad->∀ j u,(ecs k v g n)[j]?=some u->(w3.alloc (.cells #[] 40)).cell? (ad.add j)=some u):=es_news (HE.out.gw (G3.out.alloc _ _));go_wp2_with (at_builtin;refine wpList_append_src _ rfl _ _ 35 rfl w3.heap.size 40 ii (.agg #[.int .u64 0,.int .u64 0,.bool false]) 3 24 underlying35 hii iz is iby rfl (by decide) _ 0 [] rfl O0.out ao n cp (ecs k v g n) rfl HZ.out (ecs_len k v g n) NW.out (ecs_one k v g n) (by simp only [maxLen];omega) (by omega) (by simp) ?_)
   intro v' w5 q1 q2 q3;have R5:ER w5 w3.heap.size v' k v g n:=by show World.ownsRow _ _ _ _ _ _ _;simpa using q1
   have H35:Aside (Gw w3 w5):=((Gw.refl w3).alloc _ _).grown q2 (fun j hj=>by cases hj;exact Nat.le_refl _)
   obtain ⟨bo,bc,rfl,_,hbl⟩:=er_form R5;have E5:Aside (ES w5 bo n k v g/\∀ a,bo=some a->w3.heap.size<=a.block/\a.block<w5.heap.size):=⟨er_es R5 HE.out.bd,hbl⟩;have CAP:Aside _:=er_shape R5;clear q1 q2 q3 O0 NW R5 hbl;have RES:Aside (RunOut HDoc w (w5.alloc (.cells #[.slice bo n bc,.int .i64 eps,.slice lo ln lc] 109)) (.returned (.tuple #[.pointer (some ⟨w5.heap.size,0,none⟩),.int .i64 0])) eps k v g n):=by
    have zz:=H35.out.size;have z3:=G3.out.size;have gA:Gw w5 (w5.alloc (.cells #[.slice bo n bc,.int .i64 eps,.slice lo ln lc] 109)):=(Gw.refl w5).alloc _ _;refine ⟨0,.inr ⟨BN.out,CR.out⟩,.inr ⟨rfl,w5.heap.size,fun q=>w.heap.size<=q/\q<w5.heap.size+1,L,rfl,fun q hq=>hq.1,BR8.out.1,⟨⟨_,w.heap.size,bo,bc,lo,lc,fun q=>by simp,Nat.le_refl _,fun _ _ _=>rfl,by rw [LN.out];exact heap_alloc_new w5 _,by omega,E5.out.1.gw gA,fun a ea=>by have:=(E5.out.2 a ea).1;omega,((VS3.out.gw H35.out).gw gA).low Z2.out,CAP.out⟩,hn,BR8.out.1.fine BN.out.1 hn KB.out (NewE.up (.inr ⟨BN.out,CR.out⟩)).2⟩⟩⟩
   have G5:Aside _:=G3.out.trans H35.out;clear E5 H35 VS3 BR8 LN CR CAP;go_wp2_with fail;go_ret2;exact ⟨RES.out,G5.out.alloc _ _⟩
  ·have r0':(r != 0)=true:=by simpa using r0
   have R0:Aside _:=r0;clear r0;go_wp2_with fail;go_ret2;exact ⟨⟨r,.inr ⟨BN.out,CR.out⟩,.inl ⟨R0.out,rfl⟩⟩,G1.out⟩
 ·have BN:Aside (¬ (2<=eps/\eps<=64)):=b
  clear h;by_cases c:eps<2
  ·have t1:decide (eps<2)=true:=by simpa using c
   clear b c;go_enter func24,ntmps24;go_wp2_with fail;go_ret2;exact ⟨⟨1,.inl ⟨BN.out,rfl⟩,.inl ⟨by decide,rfl⟩⟩,Gw.refl w⟩
  ·have t1:decide (eps<2)=false:=by simpa using c
   have t2:decide (64<eps)=true:=by simp;omega
   clear b c;go_enter func24,ntmps24;go_wp2_with fail;go_ret2;exact ⟨⟨1,.inl ⟨BN.out,rfl⟩,.inl ⟨by decide,rfl⟩⟩,Gw.refl w⟩
end Go.Proofs.YteflpamjgaeaiaaGreat
