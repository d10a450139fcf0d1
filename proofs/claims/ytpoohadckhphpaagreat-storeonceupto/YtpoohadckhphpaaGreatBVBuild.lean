/- The document's Build of layer 8. -/
import Derived.Laws.StructEq
import Derived.Maps.AppendAt
import Derived.StillTailTactics
import Derived.Test.YtpoohadckhphpaaGreatBR1Doc
set_option linter.unusedVariables false
set_option maxHeartbeats 8000000
set_option maxRecDepth 10000
open Go.Proofs.Tryz
namespace Go.Proofs.YtpoohadckhphpaaGreat
open Go.RowKit
attribute [local go_sem] run_store_float
def VI (w:World) (base ob:Nat) (vals:List Value) (L:List (List Sg)):Prop :=
 vals.length=L.length/\∀ i,i<L.length->∃ g cap,vals[i]?=some (.slice (some ⟨g,0,none⟩) (L.getD i []).length cap)/\(L.getD i []).length<=cap/\g≠ob/\(base<=g/\g<w.heap.size)/\GS w (some ⟨g,0,none⟩) (L.getD i [])
theorem new_val (w:World) (v:Value) (t:TypeId):∀ j u,[v][j]?=some u->(w.alloc (.cells #[v] t)).cell? ((⟨w.heap.size,0,none⟩:Addr).add j)=some u:=by
 intro j u hu;have h:=heap_alloc_new w (.cells #[v] t);rw [Addr.add_lit,Nat.zero_add];simp only [World.cell?,h];simpa using hu
end Go.Proofs.YtpoohadckhphpaaGreat
namespace Go.Proofs.YtpoohadckhphpaaGreat
open Go.RowKit
def ecs (k v:Nat->Int) (g:Nat->Bool) (n:Nat):List Value:=(List.range (n*3)).map (ecell k v g)
theorem ecs_len (k v:Nat->Int) (g:Nat->Bool) (n:Nat):(ecs k v g n).length=n*3:=by simp [ecs]
theorem ecs_at (k v:Nat->Int) (g:Nat->Bool) {n j:Nat} (h:j<n*3):(ecs k v g n)[j]?=some (ecell k v g j):=by simp [ecs,h]
theorem ecs_one (k v:Nat->Int) (g:Nat->Bool) (n:Nat):∀ u∈ecs k v g n,u.oneCell'=true:=by
 intro u hu;obtain ⟨j,_,rfl⟩:=List.mem_map.1 hu;exact ecell_one k v g j
theorem es_news {w:World} {ao:Option Addr} {n:Nat} {k v:Nat->Int} {g:Nat->Bool} (h:ES w ao n k v g):∀ ad,ao=some ad->∀ j u,(ecs k v g n)[j]?=some u->w.cell? (ad.add j)=some u:=by
 intro ad e j u hu;have hj:j<n*3:=by
  have:=(List.getElem?_eq_some_iff.1 hu).1
  rwa [ecs_len] at this
 obtain ⟨b,off,e',_,hc⟩:=h.flat (by omega)
 rw [e] at e';cases e';rw [Addr.add_lit,hc j hj,<-ecs_at k v g hj];exact hu
def ER (w:World) (base:Nat) (x:Value) (k v:Nat->Int) (g:Nat->Bool) (n:Nat):Prop:=w.ownsRow base 81 3 x n (ecs k v g n)
theorem er_es {w:World} {base:Nat} {ao:Option Addr} {cap n:Nat} {k v:Nat->Int} {g:Nat->Bool} (h:ER w base (.slice ao n cap) k v g n) (bd:∀ i,i<n->(0<=k i/\k i<18446744073709551616)/\(0<=v i/\v i<18446744073709551616)):ES w ao n k v g:=by
 refine ⟨fun h0=>?_,bd⟩
 rcases h.2 with ⟨e,z⟩ | ⟨b,cap',cur,e,hb,hh,r⟩
 ·omega
 ·cases e
  have h':w.ownsRow base 81 3 (.slice (some ⟨b,0,none⟩) n cap) n (ecs k v g n):=h;have ce:∀ j,j<n*3->w.cell? ⟨b,j,none⟩=some (ecell k v g j):=fun j hj=>by
   rw [h'.cellAt j hj,ecs_at k v g hj]
  refine ⟨b,0,rfl,(Array.getElem?_eq_some_iff.1 hh).1,fun i hi=>⟨?_,?_,?_⟩⟩
  ·rw [Nat.zero_add,ce _ (by omega),ecell_0]
  ·rw [Nat.zero_add,ce _ (by omega),ecell_1]
  ·rw [Nat.zero_add,ce _ (by omega),ecell_2]
theorem er_form {w:World} {base:Nat} {x:Value} {k v:Nat->Int} {g:Nat->Bool} {n:Nat} (h:ER w base x k v g n):∃ bo c,x=.slice bo n c/\n<=c/\∀ a,bo=some a->base<=a.block/\a.block<w.heap.size:=by
 rcases h.2 with ⟨e,z⟩ | ⟨b,cap,cur,e,hb,hh,hc,_⟩
 ·exact ⟨none,0,by rw [e,z],by omega,fun a q=>by cases q⟩
 ·exact ⟨some ⟨b,0,none⟩,cap,e,hc,fun a q=>by cases q;exact ⟨hb,(Array.getElem?_eq_some_iff.1 hh).1⟩⟩
theorem er_shape {w:World} {base n c:Nat} {bo:Option Addr} {k v:Nat->Int} {g:Nat->Bool} (h:ER w base (.slice bo n c) k v g n):n<=c/\(bo=none->n=0/\c=0):=by
 rcases h.2 with ⟨e,z⟩ | ⟨b,cap,cur,e,hb,hh,hc,_⟩
 ·injection e with e1 e2 e3
  exact ⟨by omega,fun _=>⟨z,e3⟩⟩
 ·injection e with e1 e2 e3
  subst e1 e3;exact ⟨hc,fun x=>by cases x⟩
theorem VSf.low {w:World} {base base':Nat} {ao:Option Addr} {L:List (List Sg)} (h:VSf w base ao L) (hb:base'<=base):VSf w base' ao L :=
 ⟨fun h0=>by
  obtain ⟨b,off,e,x,hc⟩:=h.cells h0;refine ⟨b,off,e,⟨Nat.le_trans hb x.1,x.2⟩,fun i hi=>?_⟩
  obtain ⟨bo,c,y1,y2,y3,y4,y5⟩:=hc i hi;exact ⟨bo,c,y1,y2,y3,y4,fun a ea=>⟨Nat.le_trans hb (y5 a ea).1,(y5 a ea).2⟩⟩⟩
def NewE (eps:Int) (k v:Nat->Int) (g:Nat->Bool) (n:Nat) (E:Int):Prop:=(¬ (2<=eps/\eps<=64)/\E=1)\/((2<=eps/\eps<=64)/\ChkR k v g n E)
theorem NewE.one {eps:Int} {k v:Nat->Int} {g:Nat->Bool} {n:Nat} {E E':Int} (h:NewE eps k v g n E) (h':NewE eps k v g n E'):E=E':=by
 rcases h with ⟨a,rfl⟩ | ⟨a,c⟩
 ·rcases h' with ⟨_,rfl⟩ | ⟨b,_⟩
  ·rfl
  ·exact absurd b a
 ·rcases h' with ⟨b,_⟩ | ⟨_,d⟩
  ·exact absurd a b
  ·exact c.one d
def OfE (eps:Int) (k v:Nat->Int) (g:Nat->Bool) (n:Nat) (L:List (List Sg)) (E:Int):Prop:=∃ r,NewE eps k v g n r/\((r≠0/\E=r)\/(r=0/\CheckR eps k n L E))
theorem OfE.one {eps:Int} {k v:Nat->Int} {g:Nat->Bool} {n:Nat} {L:List (List Sg)} {E E':Int} (h:OfE eps k v g n L E) (h':OfE eps k v g n L E'):E=E':=by
 obtain ⟨r,a,b⟩:=h;obtain ⟨r',a',b'⟩:=h';have e:=a.one a';subst e;rcases b with ⟨x,rfl⟩ | ⟨x,y⟩
 ·rcases b' with ⟨_,rfl⟩ | ⟨z,_⟩
  ·rfl
  ·exact absurd z x
 ·rcases b' with ⟨z,_⟩ | ⟨_,u⟩
  ·exact absurd x z
  ·exact y.one u
theorem NewE.up {eps:Int} {k v:Nat->Int} {g:Nat->Bool} {n:Nat} (h:NewE eps k v g n 0):(2<=eps/\eps<=64)/\Up k n:=by
 rcases h with ⟨_,e⟩ | ⟨a,⟨_,u,_⟩ | ⟨e,_⟩ | ⟨e,_⟩⟩
 ·cases e
 ·exact ⟨a,u⟩
 ·cases e
 ·cases e
def OfOutR (HR:World->Nat->(Nat->Prop)->Int->(Nat->Int)->(Nat->Int)->(Nat->Bool)->Nat->List (List Sg)->Prop) (w w':World) (ex:Ending) (eps:Int) (k v:Nat->Int) (g:Nat->Bool) (n:Nat) (L:List (List Sg)):Prop :=
 ∃ E,OfE eps k v g n L E/\((E≠0/\ex=.returned (.tuple #[.pointer none,.int .i64 E]))\/(E=0/\∃ p S,ex=.returned (.tuple #[.pointer (some ⟨p,0,none⟩),.int .i64 0])/\(∀ q,S q->w.heap.size<=q)/\HR w' p S eps k v g n L))
theorem dc_of (eps:Int) (ao:Option Addr) (n cp:Nat) (k v:Nat->Int) (g:Nat->Bool) (lo:Option Addr) (lc:Nat) (L:List (List Sg)) (e0:-9223372036854775808<=eps) (e1:eps<9223372036854775808) (hn:n<=2000000) (hcp:n<=cp) (hz:ao=none->n=0/\cp=0) (sh:Short L) (w:World) (h:ES w ao n k v g) (hv:VS w lo L) :
  Calls prog 51 #[.slice ao n cp,.int .i64 eps,.slice lo L.length lc] w fun ex w'=>OfOutR HDoc w w' ex eps k v g n L/\Gw w w':=by
 have HE:Aside (ES w ao n k v g):=h;have HV:Aside (VS w lo L):=hv;have HZ:Aside (ao=none->n=0/\cp=0):=hz;have KB:Aside (∀ t,t<n->0<=k t/\k t<18446744073709551616):=fun t ht=>(h.bd t ht).1
 have SH:Aside (Short L):=sh;have hl:=sh.1;clear hz sh hv;by_cases b:2<=eps/\eps<=64
 ·have t1:decide (eps<2)=false:=by simp;omega
  have t2:decide (64<eps)=false:=by simp;omega
  have CK:Hid (Calls prog 53 #[.slice ao n cp] w fun e w'=>(∃ r:Int,e=.returned (.int .i64 r)/\ChkR k v g n r)/\Gw w w'):=rcheck3_any ao n cp k v g (by omega) w h
  have C8:Hid (∀ W kb kc,n<=kc->KS W (some ⟨kb,0,none⟩) n k->VS W lo L->Calls prog 87 #[.slice (some ⟨kb,0,none⟩) n kc,.int .i64 eps,.slice lo L.length lc] W fun ex w'=>(∃ E,ex=.returned (.int .i64 E)/\CheckR eps k n L E)/\Gw W w'):=fun W kb kc hc hk hv=>rcheck8_any eps _ n kc k lo lc L e0 e1 (by omega) hc (by omega) (fun i hi=>by have:=SH.out.2 i hi;omega) W hk hv
  have BN:Aside (2<=eps/\eps<=64):=b;obtain ⟨ln,hln⟩:∃ ln,L.length=ln:=⟨_,rfl⟩;have LN:Aside (L.length=ln):=hln;rw [hln] at hl C8 ⊢;clear h b hln;obtain ⟨jj,hjj,jz,js,jby⟩:=info_parts info_sgs;obtain ⟨gg,hgg,gz,gs,gby⟩:=info_parts info_sg;obtain ⟨ii,hii,iz,is,iby⟩:=info_parts info_e;go_enter func51,ntmps51;go_wp2_with fail;refine Calls.mono CK.out ?_;rintro e w1 ⟨⟨r,rfl,cr⟩,g1⟩;have CR:Aside (ChkR k v g n r):=cr;have G1:Aside (Gw w w1):=g1;clear CK cr g1;by_cases r0:r=0
  ·subst r0
   go_wp2_with fail;refine Calls.mono (rof3_any ao n cp k v g (by omega) w1 (HE.out.gw G1.out)) ?_
   rintro e w2 ⟨⟨kb,kc,rfl,hkb,own⟩,g2⟩;have G2:Aside (Gw w w2):=G1.out.trans g2;have K2:Aside (KS w2 (some ⟨kb,0,none⟩) n k/\n<=kc):=⟨ks_own own (Nat.le_refl _) (fun i hi=>by simp [hi]) KB.out,by rcases own.2 with ⟨e,_⟩ | ⟨_,_,_,e,_,_,hc,_⟩;cases e;cases e;exact hc⟩
   clear own g2 hkb G1;go_wp2_with fail;refine Calls.mono (C8.out w2 kb kc K2.out.2 K2.out.1 (HV.out.gw G2.out)) ?_;rintro e w3 ⟨⟨E,rfl,ce⟩,g3⟩;have CE:Aside (OfE eps k v g n L E):=⟨0,.inr ⟨BN.out,CR.out⟩,.inr ⟨rfl,ce⟩⟩;have G3:Aside (Gw w w3):=G2.out.trans g3;have UP:Aside (Up k n):=(NewE.up (.inr ⟨BN.out,CR.out⟩)).2;clear ce g3 G2 K2 C8 CR;by_cases r1:E=0
   ·subst r1
    have LV:Aside (VS w3 lo L):=HV.out.gw G3.out;go_wp2_with fail;have O6:Aside (OwnV (w3.alloc (.cells #[] 105)) w3.heap.size (.slice (some ⟨w3.heap.size,0,none⟩) 0 0) [] []):=ownv_new w3;have G6:Aside (Gw w3 (w3.alloc (.cells #[] 105))):=(Gw.refl w3).alloc _ _;obtain ⟨rb,hrb⟩:∃ rb,w3.heap.size=rb:=⟨_,rfl⟩;have RBE:Aside (w3.heap.size=rb):=hrb;rw [hrb] at O6 ⊢;clear hrb;go_loopg [9,10] ln (fun gg s8 s9 wr=>∃ (i:Nat) (vo:Option Addr) (vc:Nat) (vals:List Value),s8=.slice vo i vc/\s9=.int .i64 (i:Int)/\i<=ln/\ln-i<=gg/\Aside (OwnV wr rb (.slice vo i vc) (L.take i) vals)/\Aside (Gw w3 wr)/\i<=vc)
    case atStart=>exact ⟨0,some ⟨rb,0,none⟩,0,[],rfl,rfl,Nat.zero_le _,by omega,O6,G6,Nat.le_refl _⟩
    case round =>
     clear O6 G6;obtain ⟨i,vo,vc,vals,rfl,rfl,a1,a2,OV,GG,vcl⟩:=hrel;obtain ⟨wS,hwS⟩:∃ wx,wx=wr:=⟨_,rfl⟩;subst hwS;by_cases hlt:i<ln
     ·obtain ⟨ab,af,rfl,hab,hac⟩:=(LV.out.gw GG.out).cells (by rw [LN.out];omega)
      obtain ⟨so,sc,p1,_,p3,p4⟩:=hac i (by rw [LN.out];exact hlt)
      obtain ⟨lv,hlv⟩:∃ lv,L.getD i []=lv:=⟨_,rfl⟩;have TK:Aside (L.take (i+1)=L.take i++[lv]):=by have:=take_next (L:=L) (i:=i) (by rw [LN.out];exact hlt);rw [hlv] at this;exact this
      have TL:Aside ((L.take i).length=i):=by show _=_;rw [List.length_take,LN.out];omega
      rw [hlv] at p1 p3 p4;have sn1:lv.length<=2000000:=by have:=SH.out.2 i (by rw [LN.out];exact hlt);rw [hlv] at this;exact this
      have OW:Hid (∀ x,so=some x->∀ j u,(lv.flatMap sgc)[j]?=some u->(wS.alloc (.cells #[] 110)).cell? (x.add j)=some u):=by
       intro x e j u hu;have hj:j<lv.length*5:=by
        have:=(List.getElem?_eq_some_iff.1 hu).1
        rw [flat_len] at this;exact this
       obtain ⟨b,off,e',hb,hc⟩:=gs_flat p4 (by omega)
       rw [e] at e';cases e';rw [Addr.add_lit];refine (((Gw.refl wS).alloc _ _).cell _ _ hb).trans ((hc j hj).trans ?_);rw [<-flc_get lv j hj];exact hu
      have O0:Hid ((wS.alloc (.cells #[] 110)).ownsRow wS.heap.size 110 5 (.slice (some ⟨wS.heap.size,0,none⟩) 0 0) 0 []):=World.ownsRow_made wS #[] 0 (Nat.le_refl _) (Nat.zero_le _) rfl;have NL:Aside ((lv.flatMap sgc).length=lv.length*5):=flat_len lv;have N1:Aside (∀ u∈lv.flatMap sgc,u.oneCell'=true):=by
       intro u hu;obtain ⟨s,-,hs⟩:=List.mem_flatMap.1 hu;exact sgc_one s u hs
      obtain ⟨sn,hsn⟩:∃ sn,lv.length=sn:=⟨_,rfl⟩;have SN:Aside (lv.length=sn):=hsn;rw [hsn] at p1 p3 NL sn1;have P3:Aside (so=none->sn=0/\sc=0):=p3;have bl:=(Nat.le_trans (Nat.le_of_eq RBE.out.symm) GG.out.size);clear hac hlv hsn p4 p3;go_wp2_with (at_builtin;refine wpList_append_src _ rfl _ _ 105 rfl wS.heap.size 110 gg (.agg #[.int .u64 0,.float .f64 0,.float .f64 0,.int .i64 0,.int .i64 0]) 5 40 underlying105 hgg gz gs gby rfl (by decide) _ 0 [] rfl O0.out so sn sc (lv.flatMap sgc) rfl P3.out NL.out OW.out N1.out (by simp only [maxLen];omega) (by omega) (by simp) ?_)
      intro vI w7 q1 q2 q3;have G7:Aside (Gw wS w7):=((Gw.refl wS).alloc _ _).grown q2 (fun k hk=>by cases hk;exact Nat.le_refl _)
      have q1':w7.ownsRow wS.heap.size 110 5 vI sn (lv.flatMap sgc):=by simpa using q1
      have S7':SR w7 wS.heap.size vI lv:=by show World.ownsRow _ _ _ _ _ _ _;rw [SN.out];exact q1'
      have FM:∃ io ic,vI=.slice io sn ic:=by
       rcases q1'.2 with ⟨e,z⟩ | ⟨g,cap,cur,e,hb,hh,hc,_⟩
       ·subst z
        exact ⟨none,0,e⟩
       ·exact ⟨some ⟨g,0,none⟩,cap,e⟩
      obtain ⟨io,ic,rfl⟩:=FM;have S7:Aside (SR w7 wS.heap.size (.slice io sn ic) lv):=S7';have A2:Aside ((w7.alloc (.cells #[.slice io sn ic] 105)).ownsRow rb 105 1 (.slice vo i vc) i vals):=by
       have:=(OV.out.gw G7.out).outer
       rw [TL.out] at this;exact this.alloc _
      clear q1 q1' q2 q3 S7' OW O0 NL N1 P3;go_wp2_with (at_builtin;refine wpList_append_own_at _ rfl _ _ 104 rfl rb 105 jj (.slice none 0 0) 1 24 underlying104 hjj jz js jby rfl (by decide) _ i _ rfl A2.out ⟨w7.heap.size,0,none⟩ 1 1 [.slice io sn ic] rfl rfl (new_val1 w7 (.slice io sn ic) 105) (fun u hu=>by simp at hu;subst hu;rfl) (by simp only [maxLen];omega) (by omega) (by have:=G7.out.size;simp;omega) ?_)
      intro v8 w8 r1 r2 r3 r4;obtain ⟨b8,cap8,ev,_,hc8,_⟩:=own_slice r1 (by simpa using r3)
      have O8':=OwnV.more (o:=.cells #[.slice io sn ic] 105) OV.out G7.out S7.out (by omega) (by rw [TL.out];exact r1) r2 (by simpa using r4)
      rw [<-TK.out] at O8';have ow:∀ q,(Value.slice vo i vc).ownBlock=some q->rb<=q:=fun q e=>(A2.out.lt q e).1
      have G8:Aside (Gw w3 w8):=((GG.out.trans G7.out).alloc _ _).grown r2 (fun q hq=>by have:=ow q hq;rw [RBE.out];exact this)
      subst ev;have O8:Aside (OwnV w8 rb (.slice (some ⟨b8,0,none⟩) (i+1) cap8) (L.take (i+1)) (vals++[Value.slice io sn ic])):=O8';clear r1 r2 r3 r4 O8' ow A2 S7 G7 OV GG;go_wp2_with fail;go_roundg (ln-(i+1))
      case measure=>omega
      case rel=>exact ⟨i+1,some ⟨b8,0,none⟩,cap8,vals++[Value.slice io sn ic],rfl,by go_num,by omega,Nat.le_refl _,O8,G8,hc8⟩
     ·have ei:i=ln:=by omega
      subst ei;have tk1:L.take i=L:=by rw [List.take_of_length_le (by rw [LN.out];exact Nat.le_refl _)]
      have OV':Aside (OwnV wS rb (.slice vo i vc) L vals):=by have:=OV.out;rw [tk1] at this;exact this
      clear OV tk1 a2;have O0:Hid ((wS.alloc (.cells #[] 81)).ownsRow wS.heap.size 81 3 (.slice (some ⟨wS.heap.size,0,none⟩) 0 0) 0 []):=World.ownsRow_made wS #[] 0 (Nat.le_refl _) (Nat.zero_le _) rfl;have G4:Aside (Gw w wS):=G3.out.trans GG.out;have NW:Hid (∀ ad,ao=some ad->∀ j u,(ecs k v g n)[j]?=some u->(wS.alloc (.cells #[] 81)).cell? (ad.add j)=some u):=es_news (HE.out.gw (G4.out.alloc _ _));have VF:Aside (VSf wS w.heap.size vo L):=by
       have:=OV'.out
       rw [<-LN.out] at this;exact (this.vsf (vs_ok8 HV.out)).low (by have:=G3.out.size;have:=RBE.out;omega)
      clear OV' GG;go_wp2_with (at_builtin;refine wpList_append_src _ rfl _ _ 47 rfl wS.heap.size 81 ii (.agg #[.int .u64 0,.int .u64 0,.bool false]) 3 24 underlying47 hii iz is iby rfl (by decide) _ 0 [] rfl O0.out ao n cp (ecs k v g n) rfl HZ.out (ecs_len k v g n) NW.out (ecs_one k v g n) (by simp only [maxLen];omega) (by omega) (by simp) ?_)
      intro v' w5 q1 q2 q3;have R5:ER w5 wS.heap.size v' k v g n:=by show World.ownsRow _ _ _ _ _ _ _;simpa using q1
      have H35:Aside (Gw wS w5):=((Gw.refl wS).alloc _ _).grown q2 (fun j hj=>by cases hj;exact Nat.le_refl _)
      obtain ⟨bo,bc,rfl,_,hbl⟩:=er_form R5;have E5:Aside (ES w5 bo n k v g/\∀ a,bo=some a->wS.heap.size<=a.block/\a.block<w5.heap.size):=⟨er_es R5 HE.out.bd,hbl⟩;have CAP:Aside (n<=bc/\(bo=none->n=0/\bc=0)):=er_shape R5;clear q1 q2 q3 O0 NW R5 hbl;have RES:Aside (OfOutR HDoc w (w5.alloc (.cells #[.slice bo n bc,.int .i64 eps,.slice vo i vc] 118)) (.returned (.tuple #[.pointer (some ⟨w5.heap.size,0,none⟩),.int .i64 0])) eps k v g n L):=by
       have zz:=H35.out.size;have z3:=G4.out.size;have gA:Gw w5 (w5.alloc (.cells #[.slice bo n bc,.int .i64 eps,.slice vo i vc] 118)):=(Gw.refl w5).alloc _ _;exact ⟨0,CE.out,.inr ⟨rfl,w5.heap.size,fun q=>w.heap.size<=q/\q<w5.heap.size+1,rfl,fun q hq=>hq.1,⟨⟨_,w.heap.size,bo,bc,vo,vc,fun q=>by simp,Nat.le_refl _,fun _ _ _=>rfl,by rw [LN.out];exact heap_alloc_new w5 _,by omega,E5.out.1.gw gA,fun a ea=>by have:=(E5.out.2 a ea).1;omega,(VF.out.gw H35.out).gw gA,CAP.out⟩,hn,SH.out⟩⟩⟩
      have G5:Aside (Gw w w5):=G4.out.trans H35.out;clear E5 H35 VF LN CE CAP;go_wp2_with fail;go_ret2;exact ⟨RES.out,G5.out.alloc _ _⟩
   ·have r1':(E != 0)=true:=by simpa using r1
    have R1:Aside (E≠0):=r1;clear r1;go_wp2_with fail;go_ret2;exact ⟨⟨E,CE.out,.inl ⟨R1.out,rfl⟩⟩,G3.out⟩
  ·have r0':(r != 0)=true:=by simpa using r0
   have R0:Aside (r≠0):=r0;clear r0;go_wp2_with fail;go_ret2;exact ⟨⟨r,⟨r,.inr ⟨BN.out,CR.out⟩,.inl ⟨R0.out,rfl⟩⟩,.inl ⟨R0.out,rfl⟩⟩,G1.out⟩
 ·have BN:Aside (¬ (2<=eps/\eps<=64)):=b
  clear h;by_cases c:eps<2
  ·have t1:decide (eps<2)=true:=by simpa using c
   clear b c;go_enter func51,ntmps51;go_wp2_with fail;go_ret2;exact ⟨⟨1,⟨1,.inl ⟨BN.out,rfl⟩,.inl ⟨by decide,rfl⟩⟩,.inl ⟨by decide,rfl⟩⟩,Gw.refl w⟩
  ·have t1:decide (eps<2)=false:=by simpa using c
   have t2:decide (64<eps)=true:=by simp;omega
   clear b c;go_enter func51,ntmps51;go_wp2_with fail;go_ret2;exact ⟨⟨1,⟨1,.inl ⟨BN.out,rfl⟩,.inl ⟨by decide,rfl⟩⟩,.inl ⟨by decide,rfl⟩⟩,Gw.refl w⟩
theorem mem_getD {α:Type} {l:List α} {x d:α} (h:x∈l):∃ i,i<l.length/\l.getD i d=x:=by
 obtain ⟨i,hi,e⟩:=List.mem_iff_getElem.1 h;exact ⟨i,hi,by simp [List.getD,hi,e]⟩
structure RunG (eps:Int) (k v:Nat->Int) (g:Nat->Bool) (n:Nat) (L:List (List Sg)):Prop where
 rdy:Ready eps k n L
 of:OfE eps k v g n L 0
 bd:∀ i,i<n->(0<=k i/\k i<18446744073709551616)/\(0<=v i/\v i<18446744073709551616)
 ok:∀ i,i<L.length->∀ j,j<(L.getD i []).length->((L.getD i []).getD j sg0).ok
theorem NewE.gone {eps:Int} {k v:Nat->Int} {g:Nat->Bool} {n:Nat} (h:NewE eps k v g n 0):∀ j,j<n->¬ (g j=true/\v j≠0):=by
 rcases h with ⟨_,e⟩ | ⟨a,⟨_,_,u⟩ | ⟨e,_⟩ | ⟨e,_⟩⟩
 ·cases e
 ·exact u
 ·cases e
 ·cases e
theorem OfE.new0 {eps:Int} {k v:Nat->Int} {g:Nat->Bool} {n:Nat} {L:List (List Sg)} (h:OfE eps k v g n L 0):NewE eps k v g n 0/\CheckR eps k n L 0:=by
 obtain ⟨r,a,⟨b,c⟩ | ⟨b,c⟩⟩:=h
 ·exact absurd c.symm b
 ·rw [b] at a;exact ⟨a,c⟩
section
variable {eps:Int} {k v:Nat->Int} {g:Nat->Bool} {n:Nat} {L:List (List Sg)}
end
structure RunC (HR:World->Nat->(Nat->Prop)->Int->(Nat->Int)->(Nat->Int)->(Nat->Bool)->Nat->List (List Sg)->Prop):Prop where
 keep:∀ {w w':World} {p:Nat} {S:Nat->Prop} {eps:Int} {k v:Nat->Int} {g:Nat->Bool} {n:Nat} {L:List (List Sg)},HR w p S eps k v g n L->(∀ q,S q->w'.heap[q]?=w.heap[q]?)->HR w' p S eps k v g n L
 lt:∀ {w:World} {p:Nat} {S:Nat->Prop} {eps:Int} {k v:Nat->Int} {g:Nat->Bool} {n:Nat} {L:List (List Sg)},HR w p S eps k v g n L->∀ q,S q->q<w.heap.size
 own:∀ {w:World} {p:Nat} {S:Nat->Prop} {eps:Int} {k v:Nat->Int} {g:Nat->Bool} {n:Nat} {L:List (List Sg)},HR w p S eps k v g n L->S p
 ready:∀ {w:World} {p:Nat} {S:Nat->Prop} {eps:Int} {k v:Nat->Int} {g:Nat->Bool} {n:Nat} {L:List (List Sg)},HR w p S eps k v g n L->Ready eps k n L
 pile:∀ {w:World} {p:Nat} {S:Nat->Prop} {eps:Int} {k v:Nat->Int} {g:Nat->Bool} {n:Nat} {L:List (List Sg)},HR w p S eps k v g n L->∃ pp Sp,w.cell? ⟨p,0,none⟩=some (.pointer (some ⟨pp,0,none⟩))/\HPile w pp Sp eps k n L/\∀ q,Sp q->S q
 of:∀ (eps:Int) (ao:Option Addr) (n cp:Nat) (k v:Nat->Int) (g:Nat->Bool) (lo:Option Addr) (lc:Nat) (L:List (List Sg)),-9223372036854775808<=eps->eps<9223372036854775808->n<=2000000->n<=cp->(ao=none->n=0/\cp=0)->Short L->L.length<=lc->∀ w:World,ES w ao n k v g->VS w lo L->Calls prog 126 #[.slice ao n cp,.int .i64 eps,.slice lo L.length lc] w fun ex w'=>OfOutR HR w w' ex eps k v g n L/\Gw w w'
 len:∀ {w:World} {p:Nat} {S:Nat->Prop} {eps:Int} {k v:Nat->Int} {g:Nat->Bool} {n:Nat} {L:List (List Sg)},HR w p S eps k v g n L->Calls prog 99 #[.pointer (some ⟨p,0,none⟩)] w fun e w'=>e=.returned (.int .i64 (n:Int))/\Gw w w'
 at_:∀ {w:World} {p:Nat} {S:Nat->Prop} {eps:Int} {k v:Nat->Int} {g:Nat->Bool} {n:Nat} {L:List (List Sg)},HR w p S eps k v g n L->∀ i:Int,-9223372036854775808<=i->i<9223372036854775808->Calls prog 158 #[.pointer (some ⟨p,0,none⟩),.int .i64 i] w fun e w'=>e=.returned (.tuple #[(atV k v g n i).1,.int .i64 (atV k v g n i).2])/\Gw w w'
 list:∀ {w:World} {p:Nat} {S:Nat->Prop} {eps:Int} {k v:Nat->Int} {g:Nat->Bool} {n:Nat} {L:List (List Sg)},HR w p S eps k v g n L->Calls prog 82 #[.pointer (some ⟨p,0,none⟩)] w fun e w'=>(∃ bo c,e=.returned (.slice bo n c)/\ER w' w.heap.size (.slice bo n c) k v g n)/\Gw w w'
 levels:∀ {w:World} {p:Nat} {S:Nat->Prop} {eps:Int} {k v:Nat->Int} {g:Nat->Bool} {n:Nat} {L:List (List Sg)},HR w p S eps k v g n L->Calls prog 102 #[.pointer (some ⟨p,0,none⟩)] w fun e w'=>(∃ lo lc vals,e=.returned (.slice lo L.length lc)/\OwnV w' w.heap.size (.slice lo L.length lc) L vals/\Lok L/\L.length<=lc)/\Gw w w'
 get:∀ {w:World} {p:Nat} {S:Nat->Prop} {eps:Int} {k v:Nat->Int} {g:Nat->Bool} {n:Nat} {L:List (List Sg)},HR w p S eps k v g n L->∀ q:Int,0<=q->q<18446744073709551616->Calls prog 150 #[.pointer (some ⟨p,0,none⟩),.int .u64 q] w fun e w'=>e=.returned (.tuple #[(getV k v g n q).1,.bool (getV k v g n q).2])/\Gw w w'
theorem RunC.gw {HR:World->Nat->(Nat->Prop)->Int->(Nat->Int)->(Nat->Int)->(Nat->Bool)->Nat->List (List Sg)->Prop} (H:RunC HR) {w w':World} {p:Nat} {S:Nat->Prop} {eps:Int} {k v:Nat->Int} {g:Nat->Bool} {n:Nat} {L:List (List Sg)} (h:HR w p S eps k v g n L) (gg:Gw w w'):HR w' p S eps k v g n L:=H.keep h fun q hq=>gg.below.block q (H.lt h q hq)
end Go.Proofs.YtpoohadckhphpaaGreat
namespace Go.Proofs.YtpoohadckhphpaaGreat
open Go.RowKit
attribute [local go_sem] run_store_float f64bits
structure Bxs (W0:World) (l:List (Nat×Array Value×TypeId)) (W:World):Prop where
 gw0:Gw W0 W
 lie:∀ x∈l,W.heap[x.1]?=some (.cells x.2.1 x.2.2 (0,0))
theorem Bxs.nil {W0 W:World} (g:Gw W0 W):Bxs W0 [] W:=⟨g,fun x h=>by cases h⟩
theorem Bxs.gw {W0 W W':World} {l:List (Nat×Array Value×TypeId)} (h:Bxs W0 l W) (g:Gw W W'):Bxs W0 l W' :=
 ⟨h.gw0.trans g,fun x hx=>(g.below.block x.1 (Array.getElem?_eq_some_iff.1 (h.lie x hx)).1).trans (h.lie x hx)⟩
theorem Bxs.add {W0 W:World} {l:List (Nat×Array Value×TypeId)} (h:Bxs W0 l W) (c:Array Value) (t:TypeId):Bxs W0 ((W.heap.size,c,t)::l) (W.alloc (.cells c t)) :=
 ⟨h.gw0.alloc _ _,fun x hx=>by
  rcases List.mem_cons.1 hx with rfl | hx
  ·exact heap_alloc_new W _
  ·exact (h.gw ((Gw.refl W).alloc c t)).lie x hx⟩
end Go.Proofs.YtpoohadckhphpaaGreat
