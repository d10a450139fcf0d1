/- Levels copied one by one: the statements' copied, the document's Of of layer 11. -/
import Derived.Test.YtinefkljjnepjabGreatWPVo
import Derived.Test.YtinefkljjnepjabGreatWPRd
namespace Go.Proofs.YtinefkljjnepjabGreat
open Go.RowKit
set_option linter.unusedVariables false
set_option maxRecDepth 10000 in
set_option maxHeartbeats 8000000 in
theorem dc_of (eps:Int) (ao:Option Addr) (n cp:Nat) (k v:Nat→Int) (g:Nat→Bool) (lo:Option Addr) (lc:Nat) (L:List (List Sg)) (e0:-9223372036854775808≤eps) (e1:eps<9223372036854775808) (hn:n≤2000000) (hcp:n≤cp) (hz:ao=none→n=0∧cp=0) (sh:Short L) (w:World) (h:ES w ao n k v g) (hv:VS w lo L) :
  Calls Tryz.prog 23 #[.slice ao n cp, .int .i64 eps, .slice lo L.length lc] w fun ex w'=>OfOutR HDoc w w' ex eps k v g n L∧Gw w w':=by
 have HE:Aside (ES w ao n k v g):=h
 have HV:Aside (VS w lo L):=hv
 have HZ:Aside (ao=none→n=0∧cp=0):=hz
 have KB:Aside (∀ t,t<n→0≤k t∧k t<18446744073709551616):=fun t ht=>(h.bd t ht).1
 have SH:Aside (Short L):=sh
 have hl:=sh.1
 clear hz sh hv
 by_cases b:2≤eps∧eps≤64
 ·have t1:decide (eps<2)=false:=by simp;omega
  have t2:decide (64<eps)=false:=by simp;omega
  have CK:Hid (Calls Tryz.prog 46 #[.slice ao n cp] w fun e w'=>(∃ r:Int,e=.returned (.int .i64 r)∧ChkR k v g n r)∧Gw w w'):=rcheck3_any ao n cp k v g (by omega) w h
  have C8:Hid (∀ W kb kc,n≤kc→KS W (some ⟨kb,0,none⟩) n k→VS W lo L→Calls Tryz.prog 61 #[.slice (some ⟨kb,0,none⟩) n kc, .int .i64 eps, .slice lo L.length lc] W fun ex w'=>(∃ E,ex=.returned (.int .i64 E)∧CheckR eps k n L E)∧Gw W w'):=fun W kb kc hc hk hv=>rcheck8_any eps _ n kc k lo lc L e0 e1 (by omega) hc (by omega) (fun i hi=>by have:=SH.out.2 i hi;omega) W hk hv
  have BN:Aside (2≤eps∧eps≤64):=b
  obtain ⟨ln,hln⟩:∃ ln,L.length=ln:=⟨_,rfl⟩
  have LN:Aside (L.length=ln):=hln
  rw [hln] at hl C8 ⊢
  clear h b hln
  obtain ⟨jj,hjj,jz,js,jby⟩:=info_parts info_sgs
  obtain ⟨gg,hgg,gz,gs,gby⟩:=info_parts info_sg
  obtain ⟨ii,hii,iz,is,iby⟩:=info_parts info_e
  go_enter Tryz.func23,Tryz.ntmps23
  go_wp2_with fail
  refine Calls.mono CK.out ?_
  rintro e w1 ⟨⟨r,rfl,cr⟩,g1⟩
  have CR:Aside (ChkR k v g n r):=cr
  have G1:Aside (Gw w w1):=g1
  clear CK cr g1
  by_cases r0:r=0
  ·subst r0
   go_wp2_with fail
   refine Calls.mono (rof3_any ao n cp k v g (by omega) w1 (HE.out.gw G1.out)) ?_
   rintro e w2 ⟨⟨kb,kc,rfl,hkb,own⟩,g2⟩
   have G2:Aside (Gw w w2):=G1.out.trans g2
   have K2:Aside (KS w2 (some ⟨kb,0,none⟩) n k∧n≤kc):=⟨ks_own own (Nat.le_refl _) (fun i hi=>by simp [hi]) KB.out,by rcases own.2 with ⟨e,_⟩ | ⟨_,_,_,e,_,_,hc,_⟩;cases e;cases e;exact hc⟩
   clear own g2 hkb G1
   go_wp2_with fail
   refine Calls.mono (C8.out w2 kb kc K2.out.2 K2.out.1 (HV.out.gw G2.out)) ?_
   rintro e w3 ⟨⟨E,rfl,ce⟩,g3⟩
   have CE:Aside (OfE eps k v g n L E):=⟨0, .inr ⟨BN.out,CR.out⟩, .inr ⟨rfl,ce⟩⟩
   have G3:Aside (Gw w w3):=G2.out.trans g3
   have UP:Aside (Up k n):=(NewE.up (.inr ⟨BN.out,CR.out⟩)).2
   clear ce g3 G2 K2 C8 CR
   by_cases r1:E=0
   ·subst r1
    have LV:Aside (VS w3 lo L):=HV.out.gw G3.out
    go_wp2_with fail
    have O6:Aside (OwnV (w3.alloc (.cells #[] 68)) w3.heap.size (.slice (some ⟨w3.heap.size,0,none⟩) 0 0) [] []):=ownv_new w3
    have G6:Aside (Gw w3 (w3.alloc (.cells #[] 68))):=(Gw.refl w3).alloc _ _
    obtain ⟨rb,hrb⟩:∃ rb,w3.heap.size=rb:=⟨_,rfl⟩
    have RBE:Aside (w3.heap.size=rb):=hrb
    rw [hrb] at O6 ⊢
    clear hrb
    go_loopg [9,10] ln (fun gg s8 s9 wr=>∃ (i:Nat) (vo:Option Addr) (vc:Nat) (vals:List Value),s8=.slice vo i vc∧s9=.int .i64 (i:Int)∧i≤ln∧ln-i≤gg∧Aside (OwnV wr rb (.slice vo i vc) (L.take i) vals)∧Aside (Gw w3 wr)∧i≤vc)
    case atStart=>exact ⟨0,some ⟨rb,0,none⟩,0,[],rfl,rfl,Nat.zero_le _,by omega,O6,G6,Nat.le_refl _⟩
    case round =>
     clear O6 G6
     obtain ⟨i,vo,vc,vals,rfl,rfl,a1,a2,OV,GG,vcl⟩:=hrel
     obtain ⟨wS,hwS⟩:∃ wx,wx=wr:=⟨_,rfl⟩
     subst hwS
     by_cases hlt:i<ln
     ·obtain ⟨ab,af,rfl,hab,hac⟩:=(LV.out.gw GG.out).cells (by rw [LN.out];omega)
      obtain ⟨so,sc,p1,_,p3,p4⟩:=hac i (by rw [LN.out];exact hlt)
      obtain ⟨lv,hlv⟩:∃ lv,L.getD i []=lv:=⟨_,rfl⟩
      have TK:Aside (L.take (i+1)=L.take i++[lv]):=by have:=take_next (L:=L) (i:=i) (by rw [LN.out];exact hlt);rw [hlv] at this;exact this
      have TL:Aside ((L.take i).length=i):=by show _=_;rw [List.length_take,LN.out];omega
      rw [hlv] at p1 p3 p4
      have sn1:lv.length≤2000000:=by have:=SH.out.2 i (by rw [LN.out];exact hlt);rw [hlv] at this;exact this
      have OW:Hid (∀ x,so=some x→∀ j u,(lv.flatMap sgc)[j]?=some u→(wS.alloc (.cells #[] 100)).cell? (x.add j)=some u):=by
       intro x e j u hu
       have hj:j<lv.length*5:=by
        have:=(List.getElem?_eq_some_iff.1 hu).1
        rw [flat_len] at this
        exact this
       obtain ⟨b,off,e',hb,hc⟩:=gs_flat p4 (by omega)
       rw [e] at e'
       cases e'
       rw [Addr.add_lit]
       refine (((Gw.refl wS).alloc _ _).cell _ _ hb).trans ((hc j hj).trans ?_)
       rw [←flc_get lv j hj]
       exact hu
      have O0:Hid ((wS.alloc (.cells #[] 100)).ownsRow wS.heap.size 100 5 (.slice (some ⟨wS.heap.size,0,none⟩) 0 0) 0 []):=World.ownsRow_made wS #[] 0 (Nat.le_refl _) (Nat.zero_le _) rfl
      have NL:Aside ((lv.flatMap sgc).length=lv.length*5):=flat_len lv
      have N1:Aside (∀ u∈lv.flatMap sgc,u.oneCell'=true):=by
       intro u hu
       obtain ⟨s,-,hs⟩:=List.mem_flatMap.1 hu
       exact sgc_one s u hs
      obtain ⟨sn,hsn⟩:∃ sn,lv.length=sn:=⟨_,rfl⟩
      have SN:Aside (lv.length=sn):=hsn
      rw [hsn] at p1 p3 NL sn1
      have P3:Aside (so=none→sn=0∧sc=0):=p3
      have bl:=(Nat.le_trans (Nat.le_of_eq RBE.out.symm) GG.out.size)
      clear hac hlv hsn p4 p3
      go_wp2_with (at_builtin;refine wpList_append_src _ rfl _ _ 68 rfl wS.heap.size 100 gg (.agg #[.int .u64 0, .float .f64 0, .float .f64 0, .int .i64 0, .int .i64 0]) 5 40 Tryz.underlying68 hgg gz gs gby rfl (by decide) _ 0 [] rfl O0.out so sn sc (lv.flatMap sgc) rfl P3.out NL.out OW.out N1.out (by simp only [maxLen];omega) (by omega) (by simp) ?_)
      intro vI w7 q1 q2 q3
      have G7:Aside (Gw wS w7):=((Gw.refl wS).alloc _ _).grown q2 (fun k hk=>by cases hk;exact Nat.le_refl _)
      have q1':w7.ownsRow wS.heap.size 100 5 vI sn (lv.flatMap sgc):=by simpa using q1
      have S7':SR w7 wS.heap.size vI lv:=by show World.ownsRow _ _ _ _ _ _ _;rw [SN.out];exact q1'
      have FM:∃ io ic,vI=.slice io sn ic:=by
       rcases q1'.2 with ⟨e,z⟩ | ⟨g,cap,cur,e,hb,hh,hc,_⟩
       ·subst z
        exact ⟨none,0,e⟩
       ·exact ⟨some ⟨g,0,none⟩,cap,e⟩
      obtain ⟨io,ic,rfl⟩:=FM
      have S7:Aside (SR w7 wS.heap.size (.slice io sn ic) lv):=S7'
      have A2:Aside ((w7.alloc (.cells #[.slice io sn ic] 68)).ownsRow rb 68 1 (.slice vo i vc) i vals):=by
       have:=(OV.out.gw G7.out).outer
       rw [TL.out] at this
       exact this.alloc _
      clear q1 q1' q2 q3 S7' OW O0 NL N1 P3
      go_wp2_with (at_builtin;refine wpList_append_own_at _ rfl _ _ 56 rfl rb 68 jj (.slice none 0 0) 1 24 Tryz.underlying56 hjj jz js jby rfl (by decide) _ i _ rfl A2.out ⟨w7.heap.size,0,none⟩ 1 1 [.slice io sn ic] rfl rfl (new_val1 w7 (.slice io sn ic) 68) (fun u hu=>by simp at hu;subst hu;rfl) (by simp only [maxLen];omega) (by omega) (by have:=G7.out.size;simp;omega) ?_)
      intro v8 w8 r1 r2 r3 r4
      obtain ⟨b8,cap8,ev,_,hc8,_⟩:=own_slice r1 (by simpa using r3)
      have O8':=OwnV.more (o:=.cells #[.slice io sn ic] 68) OV.out G7.out S7.out (by omega) (by rw [TL.out];exact r1) r2 (by simpa using r4)
      rw [←TK.out] at O8'
      have ow:∀ q,(Value.slice vo i vc).ownBlock=some q→rb≤q:=fun q e=>(A2.out.lt q e).1
      have G8:Aside (Gw w3 w8):=((GG.out.trans G7.out).alloc _ _).grown r2 (fun q hq=>by have:=ow q hq;rw [RBE.out];exact this)
      subst ev
      have O8:Aside (OwnV w8 rb (.slice (some ⟨b8,0,none⟩) (i+1) cap8) (L.take (i+1)) (vals++[Value.slice io sn ic])):=O8'
      clear r1 r2 r3 r4 O8' ow A2 S7 G7 OV GG
      go_wp2_with fail
      go_roundg (ln-(i+1))
      case measure=>omega
      case rel=>exact ⟨i+1,some ⟨b8,0,none⟩,cap8,vals++[Value.slice io sn ic],rfl,by go_num,by omega,Nat.le_refl _,O8,G8,hc8⟩
     ·have ei:i=ln:=by omega
      subst ei
      have tk1:L.take i=L:=by rw [List.take_of_length_le (by rw [LN.out];exact Nat.le_refl _)]
      have OV':Aside (OwnV wS rb (.slice vo i vc) L vals):=by have:=OV.out;rw [tk1] at this;exact this
      clear OV tk1 a2
      have O0:Hid ((wS.alloc (.cells #[] 39)).ownsRow wS.heap.size 39 3 (.slice (some ⟨wS.heap.size,0,none⟩) 0 0) 0 []):=World.ownsRow_made wS #[] 0 (Nat.le_refl _) (Nat.zero_le _) rfl
      have G4:Aside (Gw w wS):=G3.out.trans GG.out
      have NW:Hid (∀ ad,ao=some ad→∀ j u,(ecs k v g n)[j]?=some u→(wS.alloc (.cells #[] 39)).cell? (ad.add j)=some u):=es_news (HE.out.gw (G4.out.alloc _ _))
      have VF:Aside (VSf wS w.heap.size vo L):=by
       have:=OV'.out
       rw [←LN.out] at this
       exact (this.vsf (vs_ok8 HV.out)).low (by have:=G3.out.size;have:=RBE.out;omega)
      clear OV' GG
      go_wp2_with (at_builtin;refine wpList_append_src _ rfl _ _ 22 rfl wS.heap.size 39 ii (.agg #[.int .u64 0, .int .u64 0, .bool false]) 3 24 Tryz.underlying22 hii iz is iby rfl (by decide) _ 0 [] rfl O0.out ao n cp (ecs k v g n) rfl HZ.out (ecs_len k v g n) NW.out (ecs_one k v g n) (by simp only [maxLen];omega) (by omega) (by simp) ?_)
      intro v' w5 q1 q2 q3
      have R5:ER w5 wS.heap.size v' k v g n:=by show World.ownsRow _ _ _ _ _ _ _;simpa using q1
      have H35:Aside (Gw wS w5):=((Gw.refl wS).alloc _ _).grown q2 (fun j hj=>by cases hj;exact Nat.le_refl _)
      obtain ⟨bo,bc,rfl,_,hbl⟩:=er_form R5
      have E5:Aside (ES w5 bo n k v g∧∀ a,bo=some a→wS.heap.size≤a.block∧a.block<w5.heap.size):=⟨er_es R5 HE.out.bd,hbl⟩
      clear q1 q2 q3 O0 NW R5 hbl
      have RES:Aside (OfOutR HDoc w (w5.alloc (.cells #[.slice bo n bc, .int .i64 eps, .slice vo i vc] 120)) (.returned (.tuple #[.pointer (some ⟨w5.heap.size,0,none⟩), .int .i64 0])) eps k v g n L):=by
       have zz:=H35.out.size
       have z3:=G4.out.size
       have gA:Gw w5 (w5.alloc (.cells #[.slice bo n bc, .int .i64 eps, .slice vo i vc] 120)):=(Gw.refl w5).alloc _ _
       exact ⟨0,CE.out, .inr ⟨rfl,w5.heap.size,fun q=>w.heap.size≤q∧q<w5.heap.size+1,rfl,fun q hq=>hq.1,⟨⟨_,w.heap.size,bo,bc,vo,vc,fun q=>by simp,Nat.le_refl _,fun _ _ _=>rfl,by rw [LN.out];exact heap_alloc_new w5 _,by omega,E5.out.1.gw gA,fun a ea=>by have:=(E5.out.2 a ea).1;omega,(VF.out.gw H35.out).gw gA⟩,hn,SH.out⟩⟩⟩
      have G5:Aside (Gw w w5):=G4.out.trans H35.out
      clear E5 H35 VF LN CE
      go_wp2_with fail
      go_ret2
      exact ⟨RES.out,G5.out.alloc _ _⟩
   ·have r1':(E != 0)=true:=by simpa using r1
    have R1:Aside (E≠0):=r1
    clear r1
    go_wp2_with fail
    go_ret2
    exact ⟨⟨E,CE.out, .inl ⟨R1.out,rfl⟩⟩,G3.out⟩
  ·have r0':(r != 0)=true:=by simpa using r0
   have R0:Aside (r≠0):=r0
   clear r0
   go_wp2_with fail
   go_ret2
   exact ⟨⟨r,⟨r, .inr ⟨BN.out,CR.out⟩, .inl ⟨R0.out,rfl⟩⟩, .inl ⟨R0.out,rfl⟩⟩,G1.out⟩
 ·have BN:Aside (¬ (2≤eps∧eps≤64)):=b
  clear h
  by_cases c:eps<2
  ·have t1:decide (eps<2)=true:=by simpa using c
   clear b c
   go_enter Tryz.func23,Tryz.ntmps23
   go_wp2_with fail
   go_ret2
   exact ⟨⟨1,⟨1, .inl ⟨BN.out,rfl⟩, .inl ⟨by decide,rfl⟩⟩, .inl ⟨by decide,rfl⟩⟩,Gw.refl w⟩
  ·have t1:decide (eps<2)=false:=by simpa using c
   have t2:decide (64<eps)=true:=by simp;omega
   clear b c
   go_enter Tryz.func23,Tryz.ntmps23
   go_wp2_with fail
   go_ret2
   exact ⟨⟨1,⟨1, .inl ⟨BN.out,rfl⟩, .inl ⟨by decide,rfl⟩⟩, .inl ⟨by decide,rfl⟩⟩,Gw.refl w⟩
end Go.Proofs.YtinefkljjnepjabGreat
