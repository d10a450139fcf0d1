/- CodecCut: the walk. -/
import Derived.Test.YtinefkljjnepjaaGreatCJA
namespace Go.Proofs.YtinefkljjnepjaaGreat
open Go.RowKit
set_option linter.unusedVariables false
theorem own_cap12 {w:World} {base e size n c:Nat} {ao:Option Addr} {xs:List Value} (h:w.ownsRow base e size (.slice ao n c) n xs):n≤c:=by
 rcases h.2 with ⟨x,z⟩ | ⟨g,cap,cur,x,hb,hh,hc,_⟩
 ·omega
 ·injection x with x1 x2 x3
  rw [x3]
  exact hc
set_option maxRecDepth 10000 in
set_option maxHeartbeats 4000000 in
theorem cut_walk {HR:World→Nat→(Nat→Prop)→Int→(Nat→Int)→(Nat→Int)→(Nat→Bool)→Nat→List (List Sg)→Prop} (H:RunC HR) (O5:Of5C) (eps:Int) (ao:Option Addr) (n cp:Nat) (k v:Nat→Int) (g:Nat→Bool) (own:Bool) (uo:Option Addr) (uc:Nat) (U:List (List Sg)) (e0:-9223372036854775808≤eps) (e1:eps<9223372036854775808) (hn:n≤2000000) (hcp:n≤cp) (hz:ao=none→n=0∧cp=0) (hU:Short U) (ct:Int) (ct0:-9223372036854775808≤ct) (ct1:ct<9223372036854775808) (mo:Option Addr) (mn mc:Nat) (mf:Nat→Int) (hmn:mn≤2000000) (hmz:mo=none→mn=0∧mc=0) (w:World) (h:ES w ao n k v g) (hv:UV w uo U) (hM:BS w mo mn mf) :
  Calls Tryz.prog 8 #[madeV ao n cp eps own uo U.length uc, .int .i64 ct, .slice mo mn mc] w fun e w'=>e=.returned (.bool true)∧Gw w w':=by
 have HH:Hid (RunC HR):=H
 have HM:Hid (BS w mo mn mf):=hM
 have HMZ:Hid (mo=none→mn=0∧mc=0):=hmz
 obtain ⟨ii,hii,iz,is,iby⟩:=info_parts info_b
 clear hM hmz
 have BO:Hid (∀ W,Gw w W→Calls Tryz.prog 10 #[madeV ao n cp eps own uo U.length uc] W fun ex w'=>BothOut HR W w' ex eps k v g n∧Gw W w'):=fun W gg=>both12 HH.out O5 eps ao n cp k v g own uo uc U e0 e1 hn hcp hz hU W (h.gw gg) (hv.gw gg)
 obtain ⟨un,hun⟩:∃ un,U.length=un:=⟨_,rfl⟩
 rw [hun] at BO ⊢
 clear H h hv hU hz O5 hun
 have G0:Hid (Gw w (w.alloc (.cells #[.slice ao n cp, .int .i64 eps, .bool own, .slice uo un uc] 25))):=(Gw.refl w).alloc _ _
 have BK:Hid ((w.alloc (.cells #[.slice ao n cp, .int .i64 eps, .bool own, .slice uo un uc] 25)).heap[w.heap.size]?=some (.cells #[.slice ao n cp, .int .i64 eps, .bool own, .slice uo un uc] 25 (0,0))):=heap_alloc_new w _
 have CB:Hid (∀ W,Gw (w.alloc (.cells #[.slice ao n cp, .int .i64 eps, .bool own, .slice uo un uc] 25)) W→(W.cell? ⟨w.heap.size,0,none⟩=some (.slice ao n cp)∧W.cell? ⟨w.heap.size,1,none⟩=some (.int .i64 eps)∧W.cell? ⟨w.heap.size,2,none⟩=some (.bool own)∧W.cell? ⟨w.heap.size,3,none⟩=some (.slice uo un uc))∧w.heap.size<W.heap.size):=fun W gg=>by
  have hb:=(gg.below.block w.heap.size (by simp)).trans BK.out
  exact ⟨⟨by simp [World.cell?,hb],by simp [World.cell?,hb],by simp [World.cell?,hb],by simp [World.cell?,hb]⟩,(Array.getElem?_eq_some_iff.1 hb).1⟩
 go_enter Tryz.func8,Tryz.ntmps8
 go_wp2_with fail
 generalize w.alloc (.cells #[.slice ao n cp, .int .i64 eps, .bool own, .slice uo un uc] 25)=w0 at G0 CB ⊢
 refine (shown12 HH.out w0).mono ?_
 rintro e w1 ⟨rfl,g1⟩
 have G01:Hid (Gw w0 w1):=g1
 obtain ⟨⟨m0,m1,m2,m3⟩,ml⟩:=CB.out _ g1
 clear g1 BK
 go_wp2_with fail
 refine (BO.out _ (G0.out.trans G01.out)).mono ?_
 rintro e w2 ⟨hB,g2⟩
 have G02:Hid (Gw w0 w2):=G01.out.trans g2
 clear g2 m0 m1 m2 m3 ml BO
 rcases hB with rfl | ⟨px,Sx,py,Sy,L,rfl,hSx,hSy,hrx,hdy,rgx⟩
 ·go_wp2_with fail
  go_ret
  exact ⟨rfl,G0.out.trans G02.out⟩
 have R2:Hid (HR w2 px Sx eps k v g n L):=hrx
 have RG:Hid (RunG eps k v g n L):=rgx
 have pln:=putB_len_le (eps:=eps) (k:=k) (v:=v) (g:=g) hn rgx.rdy.sh
 clear hSx hSy hrx hdy rgx G01
 obtain ⟨B,hB⟩:∃ B,putB eps k v g n L=B:=⟨_,rfl⟩
 have HB:Hid (putB eps k v g n L=B):=hB
 obtain ⟨bl,hbl⟩:∃ bl,B.length=bl:=⟨_,rfl⟩
 have HBL:Hid (B.length=bl):=hbl
 rw [hB,hbl] at pln
 have PU:Hid (Calls Tryz.prog 11 #[.pointer (some ⟨px,0,none⟩)] w2 fun e w'=>(∃ bo c,e=.returned (.slice bo bl c)∧BS w' bo bl (lf B)∧bl≤c)∧Gw w2 w'):=(jput HH.out R2.out RG.out.bd RG.out.te).mono fun e w' ⟨⟨bo,c,a,b⟩,d⟩=>by
  have bs:=bl_bs b (putB_bd _ _ _ _ _ _)
  have cl:=own_cap12 b
  rw [hB,hbl] at a bs cl
  exact ⟨⟨bo,c,a,bs,cl⟩,d⟩
 have LB:Hid (Lies (lf B) 0 (putB eps k v g n L)):=by rw [←hB];exact lf_lies _
 have FT:=(RG.out.bytes LB.out)
 rw [hB,hbl] at FT
 have FTH:Hid (Fit (lf B) bl∧numR (lf B) 4 8=eps∧nF (lf B)=n∧(∀ i,i<n→kF (lf B) i=k i∧vF (lf B) i=v i∧gF (lf B) i=g i)∧hF (lf B)=L.length∧LF (lf B)=L):=FT
 clear hB hbl FT
 go_wp2_with fail
 refine PU.out.mono ?_
 rintro e w3 ⟨⟨bo,bc,rfl,bs,bcl0⟩,g3⟩
 have BC3:Hid (bl≤bc):=bcl0
 have B3:Hid (BS w3 bo bl (lf B)):=bs
 have G03:Hid (Gw w0 w3):=G02.out.trans g3
 have R3:Hid (HR w3 px Sx eps k v g n L):=HH.out.gw R2.out g3
 clear bs g3 PU G02 R2 bcl0
 have b20:20≤bl:=FTH.out.1.1.nn.1
 have tz:((bl:Int) == 0)=false:=by simp;omega
 have tz2:¬ bl=0:=by omega
 obtain ⟨cu,hcu⟩:∃ cu:Nat,(if ct<0 then -(ct+1) else ct)=(cu:Int):=⟨(if ct<0 then -(ct+1) else ct).toNat,by split<;>omega⟩
 have rm:(cu:Int).tmod (bl:Int)=((cu%bl:Nat):Int):=rfl
 obtain ⟨r,hr⟩:∃ r,cu%bl=r:=⟨_,rfl⟩
 have rl:r<bl:=by rw [←hr];exact Nat.mod_lt _ (by omega)
 rw [hr] at rm
 have wr9:IntKind.i64.wrap (r:Int)=(r:Int):=by rw [IntKind.wrap_i64];omega
 have bcl:bl≤bc:=BC3.out
 have rbc:r≤bc:=by omega
 have rbc2:(r:Int)≤(bc:Int):=by omega
 have GT:Hid (∀ W,Gw w3 W→Calls Tryz.prog 13 #[.slice bo r bc] W fun e w'=>e=.returned (.tuple #[.pointer none, .int .i64 120])∧Gw W w'):=fun W gg=>(jget HH.out bo r bc (lf B) (by omega) (RG.out.mod LB.out r) W ((B3.out.gw gg).ltn (by omega))).mono fun e w' ⟨hG,g⟩=>by
  rcases hG with ⟨ft,_⟩ | ⟨_,q⟩
  ·have:=ft.one FTH.out.1
   omega
  ·exact ⟨q,g⟩
 by_cases cn:ct<0
 ·have t1:decide (ct<0)=true:=by simpa using cn
  rw [if_pos cn] at hcu
  have w1':IntKind.i64.wrap (ct+1)=ct+1:=by rw [IntKind.wrap_i64];omega
  have w2':IntKind.i64.wrap (-(ct+1))=(cu:Int):=by rw [IntKind.wrap_i64];omega
  have w3':-(ct+1)=(cu:Int):=hcu
  clear hr
  go_wp2_with fail
  refine (GT.out _ (Gw.refl w3)).mono ?_
  rintro e w4 ⟨rfl,g4⟩
  have G34:Hid (Gw w3 w4):=g4
  clear g4 GT
  by_cases mz:mn=0
  ·subst mz
   go_wp2_with fail
   go_ret
   exact ⟨rfl,(G0.out.trans G03.out).trans G34.out⟩
  ·have tm:((mn:Int) == 0)=false:=by simp;omega
   have B4:Hid (BS w4 bo bl (lf B)):=B3.out.gw G34.out
   have M4:Hid (BS w4 mo mn mf):=HM.out.gw ((G0.out.trans G03.out).trans G34.out)
   have O4:Hid ((w4.alloc (.cells #[] 5)).ownsRow w4.heap.size 5 1 (.slice (some ⟨w4.heap.size,0,none⟩) 0 0) 0 []):=World.ownsRow_made w4 #[] 0 (Nat.le_refl _) (Nat.zero_le _) rfl
   have NS:Hid (∀ y,bo=some y→∀ j u,(bts (lf B) bl)[j]?=some u→(w4.alloc (.cells #[] 5)).cell? (y.add j)=some u):=bs_news (B4.out.gw ((Gw.refl _).alloc _ _))
   have BZ:Hid (bo=none→bl=0∧bc=0):=fun q=>by
    obtain ⟨b9,o9,e9,_⟩:=B4.out.cells (by omega)
    rw [q] at e9
    cases e9
   go_wp2_with (at_builtin;refine wpList_append_src _ rfl _ _ 31 rfl w4.heap.size 5 ii (.int .u8 0) 1 1 Tryz.underlying31 hii iz is iby rfl (by decide) _ 0 [] rfl O4.out bo bl bc (bts (lf B) bl) rfl BZ.out (by rw [bts_len,Nat.mul_one]) NS.out (bts_one (lf B) bl) (by simp only [maxLen];omega) (by omega) (by simp) ?_)
   intro v5 w5 r1 r2 r3
   obtain ⟨lo,lc,rfl⟩:=own_form r1
   have O5:Hid (w5.ownsRow w4.heap.size 5 1 (.slice lo bl lc) bl (bts (lf B) bl)):=r1
   have G45:Hid (Gw w4 w5):=((Gw.refl w4).alloc _ _).grown r2 (fun q hq=>by cases hq;exact Nat.le_refl _)
   have z45:=G45.out.size
   have NM:Hid (∀ y,mo=some y→∀ j u,(bts mf mn)[j]?=some u→w5.cell? (y.add j)=some u):=bs_news (M4.out.gw G45.out)
   clear r1 r2 r3 O4 NS
   go_wp2_with (at_builtin;refine wpList_append_src _ rfl _ _ 31 rfl w4.heap.size 5 ii (.int .u8 0) 1 1 Tryz.underlying31 hii iz is iby rfl (by decide) _ bl _ rfl O5.out mo mn mc (bts mf mn) rfl HMZ.out (by rw [bts_len,Nat.mul_one]) NM.out (bts_one mf mn) (by simp only [maxLen];omega) (by omega) z45 ?_)
   intro v6 w6 r1 r2 r3
   obtain ⟨no,nc,rfl⟩:=own_form r1
   have G46:Hid (Gw w4 w6):=G45.out.grown r2 (fun q hq=>(World.ownsRow.lt O5.out q hq).1)
   have B6:Hid (BS w6 no (bl+mn) (cat (lf B) bl mf)):=by
    rw [←bts_cat] at r1
    have h9:BR w6 w4.heap.size (.slice no (bl+mn) nc) (cat (lf B) bl mf) (bl+mn):=r1
    exact br_bs h9 (cat_bd B4.out.bd M4.out.bd)
   clear r1 r2 r3 O5 G45
   go_wp2_with fail
   refine (jget HH.out no (bl+mn) nc (cat (lf B) bl mf) (by omega) (RG.out.mod (cat_lies LB.out (by rw [HB.out,HBL.out];exact Nat.le_refl _)) (bl+mn)) w6 B6.out).mono ?_
   rintro e w7 ⟨hG,g7⟩
   rcases hG with ⟨nf,_⟩ | ⟨_,rfl⟩
   ·obtain ⟨q9,_⟩:=RG.out.bytes (cat_lies (g:=mf) LB.out (by rw [HB.out,HBL.out];exact Nat.le_refl bl))
    rw [HB.out,HBL.out] at q9
    have:=q9.one nf
    omega
   have G47:Hid (Gw w4 w7):=G46.out.trans g7
   clear g7 B6
   go_wp2_with fail
   go_ret
   exact ⟨rfl,((G0.out.trans G03.out).trans G34.out).trans G47.out⟩
 ·have t1:decide (ct<0)=false:=by simpa using cn
  rw [if_neg cn] at hcu
  subst hcu
  clear hr
  go_wp2_with fail
  refine (GT.out _ (Gw.refl w3)).mono ?_
  rintro e w4 ⟨rfl,g4⟩
  have G34:Hid (Gw w3 w4):=g4
  clear g4 GT
  by_cases mz:mn=0
  ·subst mz
   go_wp2_with fail
   go_ret
   exact ⟨rfl,(G0.out.trans G03.out).trans G34.out⟩
  ·have tm:((mn:Int) == 0)=false:=by simp;omega
   have B4:Hid (BS w4 bo bl (lf B)):=B3.out.gw G34.out
   have M4:Hid (BS w4 mo mn mf):=HM.out.gw ((G0.out.trans G03.out).trans G34.out)
   have O4:Hid ((w4.alloc (.cells #[] 5)).ownsRow w4.heap.size 5 1 (.slice (some ⟨w4.heap.size,0,none⟩) 0 0) 0 []):=World.ownsRow_made w4 #[] 0 (Nat.le_refl _) (Nat.zero_le _) rfl
   have NS:Hid (∀ y,bo=some y→∀ j u,(bts (lf B) bl)[j]?=some u→(w4.alloc (.cells #[] 5)).cell? (y.add j)=some u):=bs_news (B4.out.gw ((Gw.refl _).alloc _ _))
   have BZ:Hid (bo=none→bl=0∧bc=0):=fun q=>by
    obtain ⟨b9,o9,e9,_⟩:=B4.out.cells (by omega)
    rw [q] at e9
    cases e9
   go_wp2_with (at_builtin;refine wpList_append_src _ rfl _ _ 31 rfl w4.heap.size 5 ii (.int .u8 0) 1 1 Tryz.underlying31 hii iz is iby rfl (by decide) _ 0 [] rfl O4.out bo bl bc (bts (lf B) bl) rfl BZ.out (by rw [bts_len,Nat.mul_one]) NS.out (bts_one (lf B) bl) (by simp only [maxLen];omega) (by omega) (by simp) ?_)
   intro v5 w5 r1 r2 r3
   obtain ⟨lo,lc,rfl⟩:=own_form r1
   have O5:Hid (w5.ownsRow w4.heap.size 5 1 (.slice lo bl lc) bl (bts (lf B) bl)):=r1
   have G45:Hid (Gw w4 w5):=((Gw.refl w4).alloc _ _).grown r2 (fun q hq=>by cases hq;exact Nat.le_refl _)
   have z45:=G45.out.size
   have NM:Hid (∀ y,mo=some y→∀ j u,(bts mf mn)[j]?=some u→w5.cell? (y.add j)=some u):=bs_news (M4.out.gw G45.out)
   clear r1 r2 r3 O4 NS
   go_wp2_with (at_builtin;refine wpList_append_src _ rfl _ _ 31 rfl w4.heap.size 5 ii (.int .u8 0) 1 1 Tryz.underlying31 hii iz is iby rfl (by decide) _ bl _ rfl O5.out mo mn mc (bts mf mn) rfl HMZ.out (by rw [bts_len,Nat.mul_one]) NM.out (bts_one mf mn) (by simp only [maxLen];omega) (by omega) z45 ?_)
   intro v6 w6 r1 r2 r3
   obtain ⟨no,nc,rfl⟩:=own_form r1
   have G46:Hid (Gw w4 w6):=G45.out.grown r2 (fun q hq=>(World.ownsRow.lt O5.out q hq).1)
   have B6:Hid (BS w6 no (bl+mn) (cat (lf B) bl mf)):=by
    rw [←bts_cat] at r1
    have h9:BR w6 w4.heap.size (.slice no (bl+mn) nc) (cat (lf B) bl mf) (bl+mn):=r1
    exact br_bs h9 (cat_bd B4.out.bd M4.out.bd)
   clear r1 r2 r3 O5 G45
   go_wp2_with fail
   refine (jget HH.out no (bl+mn) nc (cat (lf B) bl mf) (by omega) (RG.out.mod (cat_lies LB.out (by rw [HB.out,HBL.out];exact Nat.le_refl _)) (bl+mn)) w6 B6.out).mono ?_
   rintro e w7 ⟨hG,g7⟩
   rcases hG with ⟨nf,_⟩ | ⟨_,rfl⟩
   ·obtain ⟨q9,_⟩:=RG.out.bytes (cat_lies (g:=mf) LB.out (by rw [HB.out,HBL.out];exact Nat.le_refl bl))
    rw [HB.out,HBL.out] at q9
    have:=q9.one nf
    omega
   have G47:Hid (Gw w4 w7):=G46.out.trans g7
   clear g7 B6
   go_wp2_with fail
   go_ret
   exact ⟨rfl,((G0.out.trans G03.out).trans G34.out).trans G47.out⟩
end Go.Proofs.YtinefkljjnepjaaGreat
