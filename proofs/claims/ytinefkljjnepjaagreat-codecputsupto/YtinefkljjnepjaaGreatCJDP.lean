/- The document's layer 12: Put. -/
import Derived.Test.YtinefkljjnepjaaGreatCR4Add
import Derived.Test.YtinefkljjnepjaaGreatCPRd
import Derived.Test.YtinefkljjnepjaaGreatCJS
import Derived.Test.YtinefkljjnepjaaGreatCJA
namespace Go.Proofs.YtinefkljjnepjaaGreat
open Go.RowKit
set_option linter.unusedVariables false
attribute [local go_sem] run_store_float f64bits
def BLn (w:World) (base:Nat) (v:Value) (n:Nat) (l:List Int):Prop:=l.length=n∧w.ownsRow base 5 1 v n (i8 l)
theorem bln_bs {w:World} {base n c:Nat} {bo:Option Addr} {l:List Int} (h:BLn w base (.slice bo n c) n l) (bd:∀ y∈l,0≤y∧y<256):BS w bo n (lf l)∧(bo=none→n=0∧c=0):=by
  obtain ⟨e,o⟩:=h
  subst e
  refine ⟨bl_bs o bd,fun q=>?_⟩
  rcases o.2 with ⟨x,z⟩ | ⟨g,cap,cur,x,_⟩
  · injection x with x1 x2 x3
    exact ⟨z,x3⟩
  · injection x with x1 x2 x3
    rw [x1] at q
    cases q
theorem BLn.gw {w w':World} {base n:Nat} {v:Value} {l:List Int} (h:BLn w base v n l) (g:Gw w w'):BLn w' base v n l:=⟨h.1,own_kept h.2 fun q hq=>g.below.block q (World.ownsRow.lt h.2 q hq).2⟩
theorem bts_lf (l m:List Int) (g:Nat→Int) (e:∀ i,i<m.length→m[i]?=some (g i)):bts (cat (lf l) l.length g) (l.length+m.length)=i8 (l++m):=by
  rw [bts_cat,i8_app]
  congr 1
  · apply List.ext_getElem?
    intro i
    by_cases h:i<l.length
    · rw [bts_at _ h]
      unfold i8 lf
      rw [List.getElem?_map,List.getD_eq_getElem?_getD,List.getElem?_eq_getElem h]
      rfl
    · rw [List.getElem?_eq_none (by rw [bts_len];omega),List.getElem?_eq_none (by rw [i8_len];omega)]
  · apply List.ext_getElem?
    intro i
    by_cases h:i<m.length
    · rw [bts_at _ h]
      unfold i8
      rw [List.getElem?_map,e i h]
      rfl
    · rw [List.getElem?_eq_none (by rw [bts_len];omega),List.getElem?_eq_none (by rw [i8_len];omega)]
theorem put10 {W:World} {bo:Option Addr} {n c:Nat} {l:List Int} (hl:l.length=n) (h:BS W bo n (lf l)) (hz:bo=none→n=0∧c=0) (x:Int) (x0:0≤x) (x1:x<18446744073709551616) (hn:n≤140737488355000) :
    Calls Tryz.prog 34 #[.slice bo n c, .int .u64 x] W fun e w'=>(∃ ao c',e=.returned (.slice ao (n+8) c')∧BLn w' W.heap.size (.slice ao (n+8) c') (n+8) (l++num8 x))∧Gw W w':=(rput_any bo n c (lf l) x x0 x1 hn hz W h).mono fun e w' ⟨⟨v,a,b⟩,d⟩=>by
  obtain ⟨ao,c',rfl⟩:=own_form b
  refine ⟨⟨ao,c',a,by rw [List.length_append,hl,num8_len],?_⟩,d⟩
  have e:=bts_lf l (num8 x) (fun i=>byt x (7-i)) (fun i hi=>byt_nums x i (by rw [num8_len] at hi;exact hi))
  rw [num8_len,hl] at e
  rw [←e]
  exact b
set_option maxRecDepth 10000 in
set_option maxHeartbeats 4000000 in
theorem dentries {w:World} {bo:Option Addr} {m c:Nat} {l:List Int} (hl:l.length=m) (lb:∀ y∈l,0≤y∧y<256) (h:BS w bo m (lf l)) (hz:bo=none→m=0∧c=0) (eo:Option Addr) (n ec:Nat) (k v:Nat→Int) (g:Nat→Bool) (hn:n≤2000000) (he:ES w eo n k v g) (hm:m≤1000000) :
    Calls Tryz.prog 35 #[.slice bo m c, .slice eo n ec] w fun e w'=>(∃ ao c' nn,e=.returned (.slice ao nn c')∧BLn w' w.heap.size (.slice ao nn c') nn (l++(num8 (n:Int)++entsB k v g n)))∧Gw w w':=by
  have HE:Hid (ES w eo n k v g):=he
  have LBD:Hid (∀ y∈l,0≤y∧y<256):=lb
  have LL:Hid (l.length=m):=hl
  have P1:Hid _:=put10 hl h hz (n:Int) (by omega) (by omega) (by omega)
  obtain ⟨ii,hii,iz,is,iby⟩:=info_parts info_b
  have BDX:Hid (∀ i,∀ y∈l++(num8 (n:Int)++entsB k v g i),0≤y∧y<256):=fun i y hy=>by
    rcases List.mem_append.1 hy with q | q
    · exact LBD.out y q
    · rcases List.mem_append.1 q with q | q
      · exact num8_bd _ _ q
      · exact entsB_bd _ _ _ _ _ q
  clear he lb hl h hz
  go_enter Tryz.func35,Tryz.ntmps35
  go_wp2_with fail
  refine Calls.mono P1.out ?_
  rintro e w1 ⟨⟨ao,c1,rfl,b1⟩,g1⟩
  have B1:Hid (BLn w1 w.heap.size (.slice ao (m+8) c1) (m+8) (l++(num8 (n:Int)++entsB k v g 0))):=by
    show BLn _ _ _ _ _
    simpa [entsB] using b1
  have G1:Hid (Gw w w1):=g1
  clear b1 g1 P1
  go_wp2_with fail
  go_loopg [0,5] n (fun gg s0 s5 wr=>∃ (i nn bc:Nat) (ao:Option Addr),s0=.slice ao nn bc∧s5=.int .i64 i∧i≤n∧n-i≤gg∧Hid (BLn wr w.heap.size (.slice ao nn bc) nn (l++(num8 (n:Int)++entsB k v g i)))∧Hid (Gw w wr))
  case atStart=>exact ⟨0,m+8,c1,ao,rfl,rfl,Nat.zero_le _,by omega,B1,G1⟩
  case round =>
    clear B1 G1
    obtain ⟨i,nn,bc,ao,rfl,rfl,h1,h2,BI,GI⟩:=hrel
    by_cases hlt:i<n
    · obtain ⟨eb,ef,rfl,heb,hec⟩:=(HE.out.gw GI.out).cells (by omega)
      obtain ⟨d1,d2,d3⟩:=hec i hlt
      obtain ⟨⟨k0,k1⟩,v0,v1⟩:=HE.out.bd i hlt
      have EB:Hid (entsB k v g (i+1)=entsB k v g i++entB (k i) (v i) (g i)):=entsB_succ k v g i
      have el:=entsB_len_le k v g i
      have nl:nn≤36000000:=by
        have:=BI.out.1
        rw [List.length_append,List.length_append,num8_len,LL.out] at this
        omega
      have ebl:eb<w.heap.size:=by
        obtain ⟨b',o',e',x,_⟩:=HE.out.cells (by omega)
        cases e'
        exact x
      generalize k i=ki at d1 k0 k1 EB
      generalize v i=vi at d2 v0 v1 EB
      generalize g i=gi at d3 EB
      obtain ⟨bs,bz⟩:=bln_bs BI.out (BDX.out i)
      have P2:Hid _:=put10 BI.out.1 bs bz ki k0 k1 (by omega)
      have KD:Hid (∀ W,Gw w W→W.cell? ⟨eb,ef+i*3+2,none⟩=some (.bool gi)∧W.cell? ⟨eb,ef+i*3+1,none⟩=some (.int .u64 vi)∧eb<W.heap.size):=fun W gg=>by
        have a:=GI.out.cell eb (ef+i*3+2) ebl
        have b:=GI.out.cell eb (ef+i*3+1) ebl
        exact ⟨(gg.cell _ _ ebl).trans (a.symm.trans d3),(gg.cell _ _ ebl).trans (b.symm.trans d2),Nat.lt_of_lt_of_le ebl gg.size⟩
      clear hec bs bz d2 d3
      go_wp2_with fail
      refine Calls.mono P2.out ?_
      rintro e w2 ⟨⟨ao2,c2,rfl,b2⟩,g2⟩
      have G2:Hid (Gw w w2):=GI.out.trans g2
      have B2:Hid (BLn w2 w.heap.size (.slice ao2 (nn+8) c2) (nn+8) (l++(num8 (n:Int)++entsB k v g i)++num8 ki)):=⟨b2.1,own_up b2.2 fun q hq=>by have:=(World.ownsRow.lt b2.2 q hq).1;have:=GI.out.size;omega⟩
      have z2:=G2.out.size
      obtain ⟨x1,x2,x3⟩:=KD.out _ G2.out
      clear b2 g2 P2 BI GI
      cases gi with
      | true =>
        go_wp2_with (at_builtin;refine wpList_append_own _ rfl _ _ 31 rfl w.heap.size 5 ii (.int .u8 0) 1 1 Tryz.underlying31 hii iz is iby rfl (by decide) _ (nn+8) _ rfl (B2.out.2.alloc _) ⟨w2.heap.size,0,none⟩ 1 1 (i8 [1]) rfl rfl (cell_one_new w2 _ _) (i8_one _) (by simp only [maxLen];omega) (by omega) (by simp;omega) ?_)
        intro v3 w3 r1 r2 r3
        obtain ⟨ao3,c3,rfl⟩:=own_form r1
        have B3:Hid (BLn w3 w.heap.size (.slice ao3 (nn+8+1) c3) (nn+8+1) (l++(num8 (n:Int)++entsB k v g (i+1)))):=by
          have e:l++(num8 (n:Int)++entsB k v g (i+1))=l++(num8 (n:Int)++entsB k v g i)++num8 ki++[1]:=by
            rw [EB.out]
            simp [entB,List.append_assoc]
          refine ⟨by rw [e,List.length_append,B2.out.1];rfl,?_⟩
          rw [e,i8_app]
          simpa only [List.append_assoc] using r1
        have G3:Hid (Gw w w3):=(G2.out.alloc _ _).grown r2 (fun q hq=>(World.ownsRow.lt B2.out.2 q hq).1)
        clear r1 r2 r3 B2 G2
        go_wp2_with fail
        go_roundg (n-(i+1))
        case measure=>omega
        case rel=>exact ⟨i+1,nn+8+1,c3,ao3,rfl,by go_num,by omega,Nat.le_refl _,B3,G3⟩
      | false =>
        go_wp2_with (at_builtin;refine wpList_append_own _ rfl _ _ 31 rfl w.heap.size 5 ii (.int .u8 0) 1 1 Tryz.underlying31 hii iz is iby rfl (by decide) _ (nn+8) _ rfl (B2.out.2.alloc _) ⟨w2.heap.size,0,none⟩ 1 1 (i8 [0]) rfl rfl (cell_one_new w2 _ _) (i8_one _) (by simp only [maxLen];omega) (by omega) (by simp;omega) ?_)
        intro v3 w3 r1 r2 r3
        obtain ⟨ao3,c3,rfl⟩:=own_form r1
        have B3:Hid (BLn w3 w.heap.size (.slice ao3 (nn+8+1) c3) (nn+8+1) (l++(num8 (n:Int)++entsB k v g i)++num8 ki++[0])):=by
          refine ⟨by rw [List.length_append,B2.out.1];rfl,?_⟩
          rw [i8_app]
          simpa only [List.append_assoc] using r1
        have G3:Hid (Gw w w3):=(G2.out.alloc _ _).grown r2 (fun q hq=>(World.ownsRow.lt B2.out.2 q hq).1)
        obtain ⟨bs,bz⟩:=bln_bs B3.out (fun y hy=>by
          rcases List.mem_append.1 hy with q | q
          · rcases List.mem_append.1 q with q | q
            · exact BDX.out i y q
            · exact num8_bd _ _ q
          · simp at q;subst q;decide)
        have P4:Hid _:=put10 B3.out.1 bs bz vi v0 v1 (by omega)
        obtain ⟨_,x2',x3'⟩:=KD.out _ G3.out
        clear r1 r2 r3 B2 G2 bs bz x1 x2 x3
        go_wp2_with fail
        refine Calls.mono P4.out ?_
        rintro e w4 ⟨⟨ao4,c4,rfl,b4⟩,g4⟩
        have B4:Hid (BLn w4 w.heap.size (.slice ao4 (nn+8+1+8) c4) (nn+8+1+8) (l++(num8 (n:Int)++entsB k v g (i+1)))):=by
          have e:l++(num8 (n:Int)++entsB k v g (i+1))=l++(num8 (n:Int)++entsB k v g i)++num8 ki++[0]++num8 vi:=by
            rw [EB.out]
            simp [entB,List.append_assoc]
          show BLn _ _ _ _ _
          rw [e]
          exact ⟨b4.1,own_up b4.2 fun q hq=>by have:=(World.ownsRow.lt b4.2 q hq).1;have:=G3.out.size;omega⟩
        have G4:Hid (Gw w w4):=G3.out.trans g4
        clear b4 g4 P4 B3 G3
        go_wp2_with fail
        go_roundg (n-(i+1))
        case measure=>omega
        case rel=>exact ⟨i+1,nn+8+1+8,c4,ao4,rfl,by go_num,by omega,Nat.le_refl _,B4,G4⟩
    · have ei:i=n:=by omega
      subst ei
      go_wp2_with fail
      go_ret
      exact ⟨⟨ao,bc,nn,rfl,BI.out⟩,GI.out⟩
set_option maxRecDepth 10000 in
set_option maxHeartbeats 8000000 in
theorem dput {w:World} {p:Nat} {S:Nat→Prop} {eps:Int} {k v:Nat→Int} {g:Nat→Bool} {n:Nat} {L:List (List Sg)} (h:HDoc w p S eps k v g n L) (rg:RunG eps k v g n L) :
    Calls Tryz.prog 12 #[.pointer (some ⟨p,0,none⟩)] w fun e w'=>(∃ bo c,e=.returned (.slice bo (putB eps k v g n L).length c)∧BL w' w.heap.size (.slice bo (putB eps k v g n L).length c) (putB eps k v g n L))∧Gw w w':=by
  obtain ⟨eo,ec,lo,lc,x1,xe,xv⟩:=h.opened
  have pl:p<w.heap.size:=(Array.getElem?_eq_some_iff.1 x1).1
  have n1:=h.n1
  have SHO:Hid (Short L):=h.sh
  have TE:Hid (∀ l∈L,∀ s∈l,0≤s.te):=rg.te
  have ep0:=rg.rdy.e0
  have ep1:=rg.rdy.e1
  have HE:Hid (ES w eo n k v g):=xe
  have HV:Hid (VS w lo L):=xv
  obtain ⟨ln,hln⟩:∃ ln,L.length=ln:=⟨_,rfl⟩
  have LN:Hid (L.length=ln):=hln
  have s1:ln≤2000000:=hln▸h.sh.1
  rw [hln] at x1
  have CP:Hid (∀ W,Gw w W→(W.cell? ⟨p,0,none⟩=some (.slice eo n ec)∧W.cell? ⟨p,1,none⟩=some (.int .i64 eps)∧W.cell? ⟨p,2,none⟩=some (.slice lo ln lc))∧p<W.heap.size):=fun W gg=>⟨dc_cells ((gg.below.block p pl).trans x1),Nat.lt_of_lt_of_le pl gg.size⟩
  have hcv:=conv_head w
  have G0:Hid (Gw w (w.alloc (.cells hd4 5 (4,5)))):=(Gw.refl w).allocF _ _ _
  have B0:Hid (BS (w.alloc (.cells hd4 5 (4,5))) (some ⟨w.heap.size,0,none⟩) 4 (lf headB)):=by
    refine ⟨fun _=>⟨w.heap.size,0,rfl,by simp,fun i hi=>?_⟩,fun i hi=>?_⟩
    · have hl:i<headB.length:=hi
      have:=head_cells w i (.int .u8 (lf headB i)) (by
        unfold i8 lf
        rw [List.getElem?_map,List.getD_eq_getElem?_getD,List.getElem?_eq_getElem hl]
        rfl)
      rw [Addr.add_lit] at this
      exact this
    · match i,hi with
      | 0,_=>exact ⟨by decide,by decide⟩
      | 1,_=>exact ⟨by decide,by decide⟩
      | 2,_=>exact ⟨by decide,by decide⟩
      | 3,_=>exact ⟨by decide,by decide⟩
  clear h rg xe xv x1 hln
  obtain ⟨⟨c0,c1,c2⟩,l0⟩:=CP.out _ G0.out
  have P1:Hid _:=put10 (l:=headB) (n:=4) (c:=4) rfl B0.out (fun q=>by cases q) eps (by omega) (by omega) (by omega)
  go_enter Tryz.func12,Tryz.ntmps12
  go_wp2_with fail
  refine Calls.mono P1.out ?_
  rintro e w1 ⟨⟨ao1,k1,rfl,b1⟩,g1⟩
  have G1:Hid (Gw w w1):=G0.out.trans g1
  have hb1:∀ y∈headB++num8 eps,0≤y∧y<256:=fun y hy=>by
    rcases List.mem_append.1 hy with q | q
    · simp [headB] at q;omega
    · exact num8_bd _ _ q
  obtain ⟨bs,bz⟩:=bln_bs b1 hb1
  have P2:Hid _:=dentries b1.1 hb1 bs bz eo n ec k v g n1 (HE.out.gw G1.out) (by omega)
  obtain ⟨⟨d0,d1,d2⟩,l1⟩:=CP.out _ G1.out
  clear b1 g1 P1 hb1 bs bz c0 c1 c2 l0 hcv
  go_wp2_with fail
  refine Calls.mono P2.out ?_
  rintro e w2 ⟨⟨ao2,k2,n2,rfl,b2⟩,g2⟩
  have G2:Hid (Gw w w2):=G1.out.trans g2
  have hb2:∀ y∈headB++num8 eps++(num8 (n:Int)++entsB k v g n),0≤y∧y<256:=fun y hy=>by
    rcases List.mem_append.1 hy with q | q
    · rcases List.mem_append.1 q with q | q
      · simp [headB] at q;omega
      · exact num8_bd _ _ q
    · rcases List.mem_append.1 q with q | q
      · exact num8_bd _ _ q
      · exact entsB_bd _ _ _ _ _ q
  have n2l:n2≤36000000:=by
    have a:=b2.1
    have b:=entsB_len_le k v g n
    have c:headB.length=4:=rfl
    rw [List.length_append,List.length_append,List.length_append,num8_len,num8_len] at a
    omega
  obtain ⟨bs,bz⟩:=bln_bs b2 hb2
  have P3:Hid _:=put10 b2.1 bs bz (ln:Int) (by omega) (by omega) (by omega)
  obtain ⟨⟨e0,e1,e2⟩,l2⟩:=CP.out _ G2.out
  obtain ⟨Y,hY⟩:∃ Y,headB++num8 eps++(num8 (n:Int)++entsB k v g n)=Y:=⟨_,rfl⟩
  have HY:Hid (headB++num8 eps++(num8 (n:Int)++entsB k v g n)=Y):=hY
  rw [hY] at P3 hb2
  have YL:Hid (Y.length=n2):=by rw [←hY];exact b2.1
  have YB:Hid (∀ y∈Y,0≤y∧y<256):=hb2
  clear b2 g2 P2 hb2 bs bz d0 d1 d2 l1 hY
  go_wp2_with fail
  refine Calls.mono P3.out ?_
  rintro e w3 ⟨⟨ao3,k3,rfl,b3⟩,g3⟩
  have G3:Hid (Gw w w3):=G2.out.trans g3
  have B3:Hid (BLn w3 w.heap.size (.slice ao3 (n2+8) k3) (n2+8) (Y++(num8 (ln:Int)++levsB (L.take 0)))):=by
    show BLn _ _ _ _ _
    have:Y++(num8 (ln:Int)++levsB (L.take 0))=Y++num8 (ln:Int):=by simp [levsB]
    rw [this]
    exact ⟨b3.1,own_up b3.2 fun q hq=>by have:=(World.ownsRow.lt b3.2 q hq).1;have:=G2.out.size;omega⟩
  have BDL:Hid (∀ j (m:List Int),(∀ y∈m,0≤y∧y<256)→∀ y∈Y++(num8 (ln:Int)++levsB (L.take j))++m,0≤y∧y<256):=fun j m hm y hy=>by
    rcases List.mem_append.1 hy with q | q
    · rcases List.mem_append.1 q with q | q
      · exact YB.out y q
      · rcases List.mem_append.1 q with q | q
        · exact num8_bd _ _ q
        · exact levsB_bd _ _ q
    · exact hm y q
  clear b3 g3 P3 e0 e1 e2 l2
  go_wp2_with fail
  go_loopg [3,4] ln (fun gg s3 s4 wr=>∃ (j nn bc:Nat) (ao:Option Addr),s3=.slice ao nn bc∧s4=.int .i64 j∧j≤ln∧ln-j≤gg∧Hid (BLn wr w.heap.size (.slice ao nn bc) nn (Y++(num8 (ln:Int)++levsB (L.take j))))∧Hid (Gw w wr))
  case atStart=>exact ⟨0,n2+8,k3,ao3,rfl,rfl,Nat.zero_le _,by omega,B3,G3⟩
  case round =>
    clear B3 G3
    obtain ⟨j,nn,bc,ao,rfl,rfl,j1,j2,BJ,GJ⟩:=hrel
    obtain ⟨⟨e0,e1,e2⟩,l2⟩:=CP.out _ GJ.out
    by_cases hlt:j<ln
    · obtain ⟨mb,mf,rfl,hmb,hmc⟩:=HV.out.cells (by rw [LN.out];omega)
      obtain ⟨so,sc,q1',q2,q3,q4'⟩:=hmc j (by rw [LN.out];exact hlt)
      have hjL:j<L.length:=by rw [LN.out];exact hlt
      have TK:Hid (L.take (j+1)=L.take j++[L.getD j []]):=take_next hjL
      have lm:L.getD j []∈L:=getD_mem hjL
      have te:=TE.out _ lm
      have sh:=SHO.out.2 j hjL
      have ll:(levsB (L.take j)).length≤j*48000008:=by
        have:=levsB_len_le (L.take j) (fun l hl=>by
          obtain ⟨t,ht,e⟩:=List.mem_iff_getElem.1 (List.mem_of_mem_take hl)
          have:=SHO.out.2 t ht
          simp only [List.getD,List.getElem?_eq_getElem ht,Option.getD_some] at this
          rw [←e]
          exact this)
        rw [List.length_take,LN.out,Nat.min_eq_left (by omega)] at this
        exact this
      have nl:nn≤97000000000000:=by
        have a:=BJ.out.1
        rw [List.length_append,List.length_append,num8_len,YL.out] at a
        omega
      obtain ⟨lv,hlv⟩:∃ lv,L.getD j []=lv:=⟨_,rfl⟩
      rw [hlv] at q1' q2 q3 q4' TK te sh
      obtain ⟨sn,hsn⟩:∃ sn,lv.length=sn:=⟨_,rfl⟩
      have SN:Hid (lv.length=sn):=hsn
      rw [hsn] at q1' sh
      have TEL:Hid (∀ s∈lv,0≤s.te):=te
      have GL:Hid (GS w so lv):=q4'
      have QC:Hid (∀ W,Gw w W→W.cell? ⟨mb,mf+j,none⟩=some (.slice so sn sc)∧mb<W.heap.size):=fun W gg=>⟨(gg.cell _ _ hmb).trans q1',Nat.lt_of_lt_of_le hmb gg.size⟩
      obtain ⟨q1,hmb'⟩:=QC.out _ GJ.out
      obtain ⟨bs,bz⟩:=bln_bs BJ.out (fun y hy=>BDL.out j [] (fun z hz=>by cases hz) y (by simpa using hy))
      have P4:Hid _:=put10 BJ.out.1 bs bz (sn:Int) (by omega) (by omega) (by omega)
      clear hmc q1' q2 q3 q4' lm te ll hlv hsn bs bz
      go_wp2_with fail
      refine Calls.mono P4.out ?_
      rintro e w4 ⟨⟨ao4,k4,rfl,b4⟩,g4⟩
      have G4:Hid (Gw w w4):=GJ.out.trans g4
      have B4:Hid (BLn w4 w.heap.size (.slice ao4 (nn+8) k4) (nn+8) (Y++(num8 (ln:Int)++levsB (L.take j))++(num8 (sn:Int)++segsB (lv.take 0)))):=by
        show BLn _ _ _ _ _
        have:Y++(num8 (ln:Int)++levsB (L.take j))++(num8 (sn:Int)++segsB (lv.take 0))=Y++(num8 (ln:Int)++levsB (L.take j))++num8 (sn:Int):=by simp [segsB]
        rw [this]
        exact ⟨b4.1,own_up b4.2 fun q hq=>by have:=(World.ownsRow.lt b4.2 q hq).1;have:=GJ.out.size;omega⟩
      obtain ⟨Z,hZ⟩:∃ Z,Y++(num8 (ln:Int)++levsB (L.take j))=Z:=⟨_,rfl⟩
      have HZ:Hid (Y++(num8 (ln:Int)++levsB (L.take j))=Z):=hZ
      have ZL:Hid (Z.length=nn):=by rw [←hZ];exact BJ.out.1
      have ZB:Hid (∀ m:List Int,(∀ y∈m,0≤y∧y<256)→∀ y∈Z++m,0≤y∧y<256):=by rw [←hZ];exact BDL.out j
      rw [hZ] at B4
      clear b4 g4 P4 BJ GJ e0 e1 e2 l2 q1 hmb' hZ
      go_wp2_with fail
      go_loopg [3,5] sn (fun gg s3 s5 wr=>∃ (t mm bc:Nat) (ao:Option Addr),s3=.slice ao mm bc∧s5=.int .i64 t∧t≤sn∧sn-t≤gg∧Hid (BLn wr w.heap.size (.slice ao mm bc) mm (Z++(num8 (sn:Int)++segsB (lv.take t))))∧Hid (Gw w wr))
      case atStart=>exact ⟨0,nn+8,k4,ao4,rfl,rfl,Nat.zero_le _,by omega,B4,G4⟩
      case round =>
        clear B4 G4
        obtain ⟨t,mm,bc,ao,rfl,rfl,t1,t2,BT,GT⟩:=hrel
        obtain ⟨⟨e0,e1,e2⟩,l2⟩:=CP.out _ GT.out
        obtain ⟨q1,hmb'⟩:=QC.out _ GT.out
        by_cases tlt:t<sn
        · obtain ⟨sb,sf,rfl,hsb,hsc⟩:=(GL.out.gw GT.out).cells (by rw [SN.out];omega)
          have q:=hsc t (by rw [SN.out];exact tlt)
          have OK:=GL.out.ok t (by rw [SN.out];exact tlt)
          have ht:t<lv.length:=by rw [SN.out];exact tlt
          have te:=TEL.out _ (getD_mem (d:=sg0) ht)
          have TL:Hid (lv.take (t+1)=lv.take t++[lv.getD t sg0]):=by
            show _=_
            rw [List.take_add_one,List.getElem?_eq_getElem ht]
            simp [List.getD,ht]
          have ml:mm≤97000050000000:=by
            have a:=BT.out.1
            rw [List.length_append,List.length_append,num8_len,ZL.out,segsB_len,List.length_take,SN.out] at a
            omega
          generalize lv.getD t sg0=s at q OK te TL
          obtain ⟨sk,ssl,sic,sfr,ste⟩:=s
          have c0:wr.cell? ⟨sb,sf+t*5,none⟩=some (.int .u64 sk):=q.c0
          have c1:wr.cell? ⟨sb,sf+t*5+1,none⟩=some (.float .f64 ssl):=q.c1
          have c2:wr.cell? ⟨sb,sf+t*5+2,none⟩=some (.float .f64 sic):=q.c2
          have c3:wr.cell? ⟨sb,sf+t*5+3,none⟩=some (.int .i64 sfr):=q.c3
          have c4:wr.cell? ⟨sb,sf+t*5+4,none⟩=some (.int .i64 ste):=q.c4
          have ste0:0≤ste:=te
          have ste1:ste<9223372036854775808:=OK.t1
          have sl1:ssl<18446744073709551616:=OK.s1
          have ic1:sic<18446744073709551616:=OK.i1
          have wst:IntKind.u64.wrap ste=ste:=by rw [IntKind.wrap_u64];omega
          obtain ⟨T,hT⟩:∃ T,Z++(num8 (sn:Int)++segsB (lv.take t))=T:=⟨_,rfl⟩
          have HT:Hid (Z++(num8 (sn:Int)++segsB (lv.take t))=T):=hT
          rw [hT] at BT
          have TB:Hid (∀ m:List Int,(∀ y∈m,0≤y∧y<256)→∀ y∈T++m,0≤y∧y<256):=fun m hm y hy=>by
            rw [←HT.out,List.append_assoc] at hy
            refine ZB.out (num8 (sn:Int)++segsB (lv.take t)++m) (fun z hz=>?_) y hy
            rcases List.mem_append.1 hz with a | a
            · rcases List.mem_append.1 a with a | a
              · exact num8_bd _ _ a
              · obtain ⟨s9,_,a9⟩:=List.mem_flatMap.1 a
                exact segB_bd _ _ a9
            · exact hm z a
          have GA:Hid (Gw wr (wr.alloc (.cells #[.int .u64 sk, .float .f64 ssl, .float .f64 sic, .int .i64 sfr, .int .i64 ste] 65))):=(Gw.refl wr).alloc _ _
          have BX:Hid ((wr.alloc (.cells #[.int .u64 sk, .float .f64 ssl, .float .f64 sic, .int .i64 sfr, .int .i64 ste] 65)).heap[wr.heap.size]?=some (.cells #[.int .u64 sk, .float .f64 ssl, .float .f64 sic, .int .i64 sfr, .int .i64 ste] 65 (0,0))):=heap_alloc_new wr _
          obtain ⟨bs,bz⟩:=bln_bs (BT.out.gw GA.out) (fun y hy=>TB.out [] (fun z hz=>by cases hz) y (by simpa using hy))
          have P5:Hid _:=put10 BT.out.1 bs bz ste ste0 (by omega) (by omega)
          have XB:Hid (∀ W,Gw (wr.alloc (.cells #[.int .u64 sk, .float .f64 ssl, .float .f64 sic, .int .i64 sfr, .int .i64 ste] 65)) W→(W.cell? ⟨wr.heap.size,1,none⟩=some (.float .f64 ssl)∧W.cell? ⟨wr.heap.size,2,none⟩=some (.float .f64 sic))∧wr.heap.size<W.heap.size):=fun W gg=>by
            have hb:=(gg.below.block wr.heap.size (by simp)).trans BX.out
            exact ⟨⟨by simp [World.cell?,hb],by simp [World.cell?,hb]⟩,(Array.getElem?_eq_some_iff.1 hb).1⟩
          have GTA:Hid (Gw w (wr.alloc (.cells #[.int .u64 sk, .float .f64 ssl, .float .f64 sic, .int .i64 sfr, .int .i64 ste] 65))):=GT.out.trans GA.out
          clear hsc q OK te bs bz hT BT GT
          go_wp2_with fail
          refine Calls.mono P5.out ?_
          rintro e w5 ⟨⟨ao5,k5,rfl,b5⟩,g5⟩
          obtain ⟨⟨y1,y2⟩,yl⟩:=XB.out _ g5
          obtain ⟨bs,bz⟩:=bln_bs b5 (TB.out _ (num8_bd _))
          have P6:Hid _:=put10 b5.1 bs bz (ssl:Int) (by omega) (by omega) (by omega)
          have G5:Hid (Gw (wr.alloc (.cells #[.int .u64 sk, .float .f64 ssl, .float .f64 sic, .int .i64 sfr, .int .i64 ste] 65)) w5):=g5
          clear b5 g5 P5 bs bz
          go_wp2_with fail
          refine Calls.mono P6.out ?_
          rintro e w6 ⟨⟨ao6,k6,rfl,b6⟩,g6⟩
          have G6:Hid (Gw (wr.alloc (.cells #[.int .u64 sk, .float .f64 ssl, .float .f64 sic, .int .i64 sfr, .int .i64 ste] 65)) w6):=G5.out.trans g6
          obtain ⟨⟨z1,z2⟩,zl⟩:=XB.out _ G6.out
          obtain ⟨bs,bz⟩:=bln_bs b6 (fun y hy=>TB.out (num8 ste++num8 (ssl:Int)) (fun z hz=>by
            rcases List.mem_append.1 hz with a | a<;>exact num8_bd _ _ a) y (by rw [←List.append_assoc];exact hy))
          have P7:Hid _:=put10 b6.1 bs bz (sic:Int) (by omega) (by omega) (by omega)
          clear b6 g6 P6 bs bz y1 y2 yl G5
          go_wp2_with fail
          refine Calls.mono P7.out ?_
          rintro e w7 ⟨⟨ao7,k7,rfl,b7⟩,g7⟩
          have G7:Hid (Gw w w7):=(GTA.out.trans G6.out).trans g7
          have B7:Hid (BLn w7 w.heap.size (.slice ao7 (mm+8+8+8) k7) (mm+8+8+8) (Z++(num8 (sn:Int)++segsB (lv.take (t+1))))):=by
            have e:Z++(num8 (sn:Int)++segsB (lv.take (t+1)))=T++num8 ste++num8 (ssl:Int)++num8 (sic:Int):=by
              rw [TL.out,←HT.out,segsB,List.flatMap_append]
              simp [segB,segsB,List.append_assoc]
            show BLn _ _ _ _ _
            rw [e]
            refine ⟨b7.1,own_up b7.2 fun q hq=>?_⟩
            have a:=(World.ownsRow.lt b7.2 q hq).1
            have b:=(GTA.out.trans G6.out).size
            omega
          clear b7 g7 P7 z1 z2 zl G6
          go_wp2_with fail
          go_roundg (sn-(t+1))
          case measure=>omega
          case rel=>exact ⟨t+1,mm+8+8+8,k7,ao7,rfl,by go_num,by omega,Nat.le_refl _,B7,G7⟩
        · have et:t=sn:=by omega
          subst et
          have B8:Hid (BLn wr w.heap.size (.slice ao mm bc) mm (Y++(num8 (ln:Int)++levsB (L.take (j+1))))):=by
            have h9:=BT.out
            rw [List.take_of_length_le (by rw [SN.out];exact Nat.le_refl _)] at h9
            have e:Y++(num8 (ln:Int)++levsB (L.take (j+1)))=Z++(num8 (t:Int)++segsB lv):=by
              rw [TK.out,←HZ.out,levsB,List.flatMap_append]
              simp [levB,levsB,List.append_assoc,SN.out]
            show BLn _ _ _ _ _
            rw [e]
            exact h9
          clear BT
          go_wp2_with fail
          go_roundg (ln-(j+1))
          case measure=>omega
          case rel=>exact ⟨j+1,mm,bc,ao,rfl,by go_num,by omega,Nat.le_refl _,B8,GT⟩
    · have ej:j=ln:=by omega
      subst ej
      have RES:Hid (nn=(putB eps k v g n L).length∧wr.ownsRow w.heap.size 5 1 (.slice ao nn bc) nn (i8 (putB eps k v g n L))):=by
        have h9:=BJ.out
        rw [List.take_of_length_le (by rw [LN.out];exact Nat.le_refl _)] at h9
        have e:Y++(num8 (j:Int)++levsB L)=putB eps k v g n L:=by
          rw [←HY.out]
          unfold putB
          rw [LN.out]
          simp [List.append_assoc]
        rw [e] at h9
        exact ⟨h9.1.symm,h9.2⟩
      clear BJ
      go_wp2_with fail
      go_ret
      refine ⟨⟨ao,bc,by rw [←RES.out.1];rfl,?_⟩,GJ.out⟩
      rw [←RES.out.1]
      show World.ownsRow _ _ _ _ _ _ _
      rw [←RES.out.1]
      exact RES.out.2
end Go.Proofs.YtinefkljjnepjaaGreat
namespace Go.Proofs.YtinefkljjnepjaaGreat
open Go.RowKit
set_option linter.unusedVariables false
theorem own_facts {w:World} {base g n c:Nat} {xs:List Value} (h:w.ownsRow base 5 1 (.slice (some ⟨g,0,none⟩) n c) n xs):g<w.heap.size∧(∀ j,j<n→∃ y,w.cell? ⟨g,j,none⟩=some y)∧∀ j,w.frozen? ⟨g,j,none⟩=false:=by
  rcases h.2 with ⟨e,_⟩ | ⟨g',cap,cur,e,hb,hh,hc,hm,hs,ht⟩
  · cases e
  · cases e
    refine ⟨(Array.getElem?_eq_some_iff.1 hh).1,fun j hj=>?_,fun j=>by simp [World.frozen?,hh]⟩
    have:j<cur.size:=by omega
    exact ⟨cur[j],by simp [World.cell?,hh,this]⟩
set_option maxRecDepth 10000 in
set_option maxHeartbeats 4000000 in
theorem puts_walk {HR:World→Nat→(Nat→Prop)→Int→(Nat→Int)→(Nat→Int)→(Nat→Bool)→Nat→List (List Sg)→Prop} (H:RunC HR) (O5:Of5C) (eps:Int) (ao:Option Addr) (n cp:Nat) (k v:Nat→Int) (g:Nat→Bool) (own:Bool) (uo:Option Addr) (uc:Nat) (U:List (List Sg)) (e0:-9223372036854775808≤eps) (e1:eps<9223372036854775808) (hn:n≤2000000) (hcp:n≤cp) (hz:ao=none→n=0∧cp=0) (hU:Short U) (w:World) (h:ES w ao n k v g) (hv:UV w uo U) :
    Calls Tryz.prog 3 #[madeV ao n cp eps own uo U.length uc] w fun e w'=>e=.returned (.bool true)∧Gw w w':=by
  have HH:Hid (RunC HR):=H
  have BO:Hid (∀ W,Gw w W→Calls Tryz.prog 10 #[madeV ao n cp eps own uo U.length uc] W fun ex w'=>BothOut HR W w' ex eps k v g n∧Gw W w'):=fun W gg=>both12 HH.out O5 eps ao n cp k v g own uo uc U e0 e1 hn hcp hz hU W (h.gw gg) (hv.gw gg)
  obtain ⟨un,hun⟩:∃ un,U.length=un:=⟨_,rfl⟩
  rw [hun] at BO ⊢
  clear H h hv hU hz O5 hun
  have G0:Hid (Gw w (w.alloc (.cells #[.slice ao n cp, .int .i64 eps, .bool own, .slice uo un uc] 25))):=(Gw.refl w).alloc _ _
  have BK:Hid ((w.alloc (.cells #[.slice ao n cp, .int .i64 eps, .bool own, .slice uo un uc] 25)).heap[w.heap.size]?=some (.cells #[.slice ao n cp, .int .i64 eps, .bool own, .slice uo un uc] 25 (0,0))):=heap_alloc_new w _
  have CB:Hid (∀ W,Gw (w.alloc (.cells #[.slice ao n cp, .int .i64 eps, .bool own, .slice uo un uc] 25)) W→(W.cell? ⟨w.heap.size,0,none⟩=some (.slice ao n cp)∧W.cell? ⟨w.heap.size,1,none⟩=some (.int .i64 eps)∧W.cell? ⟨w.heap.size,2,none⟩=some (.bool own)∧W.cell? ⟨w.heap.size,3,none⟩=some (.slice uo un uc))∧w.heap.size<W.heap.size):=fun W gg=>by
    have hb:=(gg.below.block w.heap.size (by simp)).trans BK.out
    exact ⟨⟨by simp [World.cell?,hb],by simp [World.cell?,hb],by simp [World.cell?,hb],by simp [World.cell?,hb]⟩,(Array.getElem?_eq_some_iff.1 hb).1⟩
  go_enter Tryz.func3,Tryz.ntmps3
  go_wp2_with fail
  generalize w.alloc (.cells #[.slice ao n cp, .int .i64 eps, .bool own, .slice uo un uc] 25)=w0 at G0 CB ⊢
  refine (shown12 HH.out w0).mono ?_
  rintro e w1 ⟨rfl,g1⟩
  have G01:Hid (Gw w0 w1):=g1
  obtain ⟨⟨m0,m1,m2,m3⟩,ml⟩:=CB.out _ g1
  clear g1 BK
  go_wp2_with fail
  refine (BO.out _ (G0.out.trans G01.out)).mono ?_
  rintro e w2 ⟨hB,g2⟩
  have G02:Hid (Gw w0 w2):=G01.out.trans g2
  clear g2 m0 m1 m2 m3 ml BO
  rcases hB with rfl | ⟨px,Sx,py,Sy,L,rfl,hSx,hSy,hrx,hdy,rgx⟩
  · go_wp2_with fail
    go_ret
    exact ⟨rfl,G0.out.trans G02.out⟩
  have R2:Hid (HR w2 px Sx eps k v g n L):=hrx
  have RG:Hid (RunG eps k v g n L):=rgx
  have pln:=putB_len_le (eps:=eps) (k:=k) (v:=v) (g:=g) hn rgx.rdy.sh
  have Y2:Hid (HDoc w2 py Sy eps k v g n L):=hdy
  clear hSx hSy hrx hdy rgx G01
  obtain ⟨B,hB⟩:∃ B,putB eps k v g n L=B:=⟨_,rfl⟩
  obtain ⟨bl,hbl⟩:∃ bl,B.length=bl:=⟨_,rfl⟩
  rw [hB,hbl] at pln
  have b28:28≤bl:=by
    rw [←hbl,←hB]
    unfold putB
    rw [List.length_append,List.length_append,List.length_append,List.length_append,List.length_append,num8_len,num8_len,num8_len]
    have d:headB.length=4:=rfl
    omega
  have BBD:Hid (∀ y∈B,0≤y∧y<256):=by rw [←hB];exact putB_bd _ _ _ _ _ _
  have PU:Hid (∀ W,HR W px Sx eps k v g n L→Calls Tryz.prog 11 #[.pointer (some ⟨px,0,none⟩)] W fun e w'=>(∃ bo c,e=.returned (.slice bo bl c)∧BS w' bo bl (lf B)∧w'.ownsRow W.heap.size 5 1 (.slice bo bl c) bl (i8 B))∧Gw W w'):=fun W hR=>(jput HH.out hR RG.out.bd RG.out.te).mono fun e w' ⟨⟨bo,c,a,b⟩,d⟩=>by
    have bs:=bl_bs b (putB_bd _ _ _ _ _ _)
    have ow:w'.ownsRow W.heap.size 5 1 (.slice bo (putB eps k v g n L).length c) (putB eps k v g n L).length (i8 (putB eps k v g n L)):=b
    rw [hB,hbl] at a bs ow
    exact ⟨⟨bo,c,a,bs,ow⟩,d⟩
  have DU:Hid (∀ W,HDoc W py Sy eps k v g n L→Calls Tryz.prog 12 #[.pointer (some ⟨py,0,none⟩)] W fun e w'=>(∃ bo c,e=.returned (.slice bo bl c)∧BS w' bo bl (lf B)∧w'.ownsRow W.heap.size 5 1 (.slice bo bl c) bl (i8 B))∧Gw W w'):=fun W hD=>(dput hD RG.out).mono fun e w' ⟨⟨bo,c,a,b⟩,d⟩=>by
    have bs:=bl_bs b (putB_bd _ _ _ _ _ _)
    have ow:w'.ownsRow W.heap.size 5 1 (.slice bo (putB eps k v g n L).length c) (putB eps k v g n L).length (i8 (putB eps k v g n L)):=b
    rw [hB,hbl] at a bs ow
    exact ⟨⟨bo,c,a,bs,ow⟩,d⟩
  have LTX:Hid (∀ q,Sx q→q<w2.heap.size):=fun q hq=>HH.out.lt R2.out q hq
  obtain ⟨ii,hii,iz,is,iby⟩:=info_parts info_b
  clear hB hbl
  go_wp2_with fail
  refine (PU.out _ R2.out).mono ?_
  rintro e w3 ⟨⟨aa,ac,rfl,ba,oa⟩,g3⟩
  have A3:Hid (BS w3 aa bl (lf B)∧w3.ownsRow w2.heap.size 5 1 (.slice aa bl ac) bl (i8 B)):=⟨ba,oa⟩
  have G23:Hid (Gw w2 w3):=g3
  clear ba oa g3
  go_wp2_with fail
  refine (DU.out _ (Y2.out.gw G23.out)).mono ?_
  rintro e w4 ⟨⟨bb,bc,rfl,bb4,ob⟩,g4⟩
  have B4:Hid (BS w4 bb bl (lf B)∧w4.ownsRow w3.heap.size 5 1 (.slice bb bl bc) bl (i8 B)):=⟨bb4,ob⟩
  have G24:Hid (Gw w2 w4):=G23.out.trans g4
  have A4:Hid (w4.ownsRow w2.heap.size 5 1 (.slice aa bl ac) bl (i8 B)):=own_kept A3.out.2 fun q hq=>g4.below.block q (World.ownsRow.lt A3.out.2 q hq).2
  have cv1:=conv_b (A3.out.1.gw g4) ac
  have cv2:=conv_b bb4 bc
  generalize txt (lf B) bl=tx at cv1 cv2
  obtain ⟨ga,rfl⟩:∃ ga,aa=some ⟨ga,0,none⟩:=by
    rcases A4.out.2 with ⟨x,z⟩ | ⟨g9,cap,cur,x,_⟩
    · omega
    · injection x with x1 x2 x3
      exact ⟨g9,x1⟩
  have gal:=World.ownsRow.lt A3.out.2 ga rfl
  clear bb4 ob g4
  go_wp2_with fail
  go_loopg [9] bl (fun gg s9 wr=>∃ i:Nat,s9=.int .i64 i∧i≤bl∧bl-i≤gg∧Hid (∃ xs,wr.ownsRow w2.heap.size 5 1 (.slice (some ⟨ga,0,none⟩) bl ac) bl xs)∧Hid (Gs (fun q=>q=ga) w4 wr))
  case atStart=>exact ⟨0,rfl,Nat.zero_le _,by omega,(show Hid _ from ⟨_,A4.out⟩),(show Hid _ from (Gw.refl w4).gs _)⟩
  case round =>
    clear cv1 cv2
    obtain ⟨i,rfl,h1,h2,OI,SI⟩:=hrel
    by_cases hlt:i<bl
    · obtain ⟨xs,ox⟩:=OI.out
      obtain ⟨l0,ce,fz⟩:=own_facts ox
      obtain ⟨y0,c0⟩:=ce i hlt
      have f0:=fz i
      have OX:Hid (∃ xs,(wr.setCell ⟨ga,i,none⟩ (.int .u8 5)).ownsRow w2.heap.size 5 1 (.slice (some ⟨ga,0,none⟩) bl ac) bl xs):=⟨_,(ox.stored i (.int .u8 5)).1⟩
      have SX:Hid (Gs (fun q=>q=ga) w4 (wr.setCell ⟨ga,i,none⟩ (.int .u8 5))):=SI.out.set (q:=ga) rfl _ _
      clear ox ce fz OI SI
      go_wp2_with fail
      go_roundg (bl-(i+1))
      case measure=>omega
      case rel=>exact ⟨i+1,by go_num,by omega,Nat.le_refl _,OX,SX⟩
    · have ei:i=bl:=by omega
      subst ei
      obtain ⟨xs,ox⟩:=OI.out
      have O8:Hid ((wr.alloc (.cells #[.int .u8 1, .int .u8 2, .int .u8 3] 5)).ownsRow w2.heap.size 5 1 (.slice (some ⟨ga,0,none⟩) i ac) i xs):=ox.alloc _
      have z8:w2.heap.size≤wr.heap.size:=Nat.le_trans G24.out.size SI.out.size
      have NW:Hid (∀ j u,(i8 [1,2,3])[j]?=some u→(wr.alloc (.cells #[.int .u8 1, .int .u8 2, .int .u8 3] 5)).cell? ((⟨wr.heap.size,0,none⟩:Addr).add j)=some u):=fun j u hu=>by
        have hb:=heap_alloc_new wr (.cells #[.int .u8 1, .int .u8 2, .int .u8 3] 5)
        rw [Addr.add_lit,Nat.zero_add]
        match j,hu with
        | 0,hu=>cases hu;exact (ent_cells hb).1
        | 1,hu=>cases hu;exact (ent_cells hb).2.1
        | 2,hu=>cases hu;exact (ent_cells hb).2.2
      clear ox OI
      go_wp2_with (at_builtin;refine wpList_append_own _ rfl _ _ 31 rfl w2.heap.size 5 ii (.int .u8 0) 1 1 Tryz.underlying31 hii iz is iby rfl (by decide) _ i _ rfl O8.out ⟨wr.heap.size,0,none⟩ 3 3 (i8 [1,2,3]) rfl rfl NW.out (i8_one _) (by simp only [maxLen];omega) (by omega) (by simp;omega) ?_)
      intro v9 w9 r1 r2 r3
      obtain ⟨a9,c9,rfl⟩:=own_form r1
      have GS9:Hid (Gs (fun q=>q=ga) w4 w9):=by
        have s1:Gs (fun q=>q=ga) w4 (wr.alloc (.cells #[.int .u8 1, .int .u8 2, .int .u8 3] 5)):=⟨SI.out.os,SI.out.tape,SI.out.output,Nat.le_trans SI.out.size (by simp),fun q hq hs=>(heap_alloc_old wr _ (Nat.lt_of_lt_of_le hq SI.out.size)).trans (SI.out.block q hq hs)⟩
        exact s1.grown r2 (fun q hq=>by
                                          have:ga=q:=by simpa [Value.ownBlock] using hq
                                          exact this.symm)
      clear r1 r2 r3 O8 NW SI
      have R9:Hid (HR w9 px Sx eps k v g n L):=HH.out.keep R2.out fun q hq=>(GS9.out.block q (Nat.lt_of_lt_of_le (LTX.out q hq) G24.out.size) (fun e=>by have:=LTX.out q hq;have e':q=ga:=e;omega)).trans (G24.out.below.block q (LTX.out q hq))
      have B9:Hid (BS w9 bb i (lf B)):=by
        refine ⟨fun h0=>?_,B4.out.1.bd⟩
        obtain ⟨b8,o8,e8,l8,c8⟩:=B4.out.1.cells h0
        have ne:b8≠ga:=by
          have:=World.ownsRow.lt B4.out.2 b8 (by
                                                   rw [e8];rcases B4.out.2.2 with ⟨x,z⟩ | ⟨g9,cap,cur,x,_⟩
                                                   · omega
                                                   · injection x with x1 x2 x3
                                                     rw [e8] at x1
                                                     cases x1
                                                     rfl)
          omega
        exact ⟨b8,o8,e8,Nat.lt_of_lt_of_le l8 GS9.out.size,fun t ht=>(World.cell?_of_block (a:=⟨b8,o8+t,none⟩) (GS9.out.block b8 l8 ne)).trans (c8 t ht)⟩
      have G09:Hid (Gw w0 w9):=Gs.gw (G02.out.trans G24.out) GS9.out (fun q hq=>by have e':q=ga:=hq;have:=G02.out.size;omega)
      go_wp2_with fail
      refine (PU.out _ R9.out).mono ?_
      rintro e wA ⟨⟨co,cc,rfl,bA,_⟩,gA⟩
      have cv1:=conv_b bA cc
      have cv2:=conv_b (B9.out.gw gA) bc
      have G0A:Hid (Gw w0 wA):=G09.out.trans gA
      generalize txt (lf B) i=tx at cv1 cv2
      clear bA gA PU
      go_wp2_with fail
      go_ret
      exact ⟨rfl,G0.out.trans G0A.out⟩
end Go.Proofs.YtinefkljjnepjaaGreat
