/- Package merge's Sift, handed a method value; needs. -/
import Derived.Deep.CutBlock
import Derived.Deep.DeepCutAuto
import Derived.Test.YtjhaiiegdnamcabGreatHGRef
import Derived.Test.YtjhaiiegdnamcabGreatHUMem
namespace Go.Proofs.YtjhaiiegdnamcabGreat
open Go.RowKit
set_option linter.unusedVariables false
set_option maxRecDepth 20000 in
set_option maxHeartbeats 4000000 in
theorem sift15 (ao:Option Addr) (c:Nat) (l:List Ent) (bd:Value) (p:Int→Bool) (hn:l.length≤2000000) (w:World) (h:EL w ao l) (FB:∀ W,Gw w W→∀ q:Int,0≤q→q<18446744073709551616→Calls Tryz.prog 55 #[bd, .int .u64 q] W fun e w'=>e=.returned (.bool (p q))∧Gw W w') :
  Calls Tryz.prog 52 #[.slice ao l.length c, .func (.func 55) #[bd] #[]] w fun e w'=>(∃ bo oc,e=.returned (.slice bo (l.filter (keepP p)).length oc)∧EO w' w.heap.size (.slice bo (l.filter (keepP p)).length oc) (l.filter (keepP p)))∧Gw w w':=by
 have HE:Aside (EL w ao l):=h
 have LV:Hid (∀ W,Gw w W→∀ q:Int,0≤q→q<18446744073709551616→Calls Tryz.prog 55 #[bd, .int .u64 q] W fun e w'=>e=.returned (.bool (p q))∧Gw W w'):=FB
 obtain ⟨n,hln⟩:∃ n,l.length=n:=⟨_,rfl⟩
 have LN:Aside (l.length=n):=hln
 rw [hln] at hn ⊢
 clear h hln FB
 obtain ⟨ii,hii,hz,hs,hby⟩:=info_parts info_e
 go_enter Tryz.func52,Tryz.ntmps52
 go_wp2_with fail
 go_loopg [5,10] n (fun gg s5 s10 wr=>∃ (i m:Nat) (bo:Option Addr) (oc:Nat),s5=.slice bo m oc∧s10=.int .i64 (i:Int)∧i≤n∧n-i≤gg∧m≤i∧Aside (((l.take i).filter (keepP p)).length=m)∧Aside (EO wr w.heap.size (.slice bo m oc) ((l.take i).filter (keepP p)))∧Aside (Gw w wr))
 case atStart=>exact ⟨0,0,none,0,rfl,rfl,Nat.zero_le _,by omega,Nat.le_refl _,(by show _=_;simp),(by show EO _ _ _ _;rw [List.take_zero];exact World.ownsRow_nil w w.heap.size 65 3),(show Aside _ from Gw.refl w)⟩
 case round =>
  obtain ⟨i,m,bo,oc,rfl,rfl,a1,a2,a3,ML,E,G⟩:=hrel
  obtain ⟨wS,hwS⟩:∃ wx,wx=wr:=⟨_,rfl⟩
  subst hwS
  by_cases hlt:i<n
  ·have hlt':(i:Int)<(n:Int):=by omega
   obtain ⟨lb,loff,rfl,hlb,hlc⟩:=(ES.gw HE.out G.out).cells (by rw [LN.out];omega)
   obtain ⟨c0,c1,c2⟩:=hlc i (by rw [LN.out];exact hlt)
   have bd:=HE.out.ok (i:=i) (by rw [LN.out];exact hlt)
   have TK:Aside ((l.take (i+1)).filter (keepP p)=(l.take i).filter (keepP p)++(if keepP p (l.getD i ent0)=true then [l.getD i ent0] else [])):=by
    show _=_
    have e:l.take (i+1)=l.take i++[l.getD i ent0]:=by
     rw [List.take_add_one,List.getElem?_eq_getElem (by rw [LN.out];exact hlt),List.getD_eq_getElem?_getD,List.getElem?_eq_getElem (by rw [LN.out];exact hlt)];rfl
    rw [e,List.filter_append,List.filter_cons]
    split<;>rfl
   obtain ⟨x,hx⟩:∃ x,l.getD i ent0=x:=⟨_,rfl⟩
   rw [hx] at c0 c1 c2 TK bd
   obtain ⟨xk,xv,xg⟩:=x
   obtain ⟨⟨bk0,bk1⟩,_⟩:=bd
   have d0:wS.cell? ⟨lb,loff+i*3,none⟩=some (.int .u64 xk):=c0
   have d1:wS.cell? ⟨lb,loff+i*3+1,none⟩=some (.int .u64 xv):=c1
   have d2:wS.cell? ⟨lb,loff+i*3+2,none⟩=some (.bool xg):=c2
   obtain ⟨W1,E1⟩:∃ W1,wS.alloc (.cells #[.int .u64 xk, .int .u64 xv, .bool xg] 65)=W1:=⟨_,rfl⟩
   have G1:Aside (Gw wS W1):=by rw [←E1];exact (Gw.refl wS).alloc _ _
   have b1:W1.heap[wS.heap.size]?=some (.cells #[.int .u64 xk, .int .u64 xv, .bool xg] 65 (0,0)):=by rw [←E1];exact heap_alloc_new wS _
   have CE:Hid (∀ W,Gw W1 W→W.cell? ⟨wS.heap.size,0,none⟩=some (.int .u64 xk)∧W.cell? ⟨wS.heap.size,1,none⟩=some (.int .u64 xv)∧W.cell? ⟨wS.heap.size,2,none⟩=some (.bool xg)∧wS.heap.size<W.heap.size∧W.ownsRow w.heap.size 65 3 (.slice bo m oc) m (((l.take i).filter (keepP p)).flatMap ent3)):=fun W gg=>by
    have hb:=(gg.below.block _ (blkl b1)).trans b1
    refine ⟨blkc hb rfl,blkc hb rfl,blkc hb rfl,blkl hb,?_⟩
    have:=eo_gw E.out (G1.out.trans gg)
    unfold EO at this
    rw [ML.out] at this
    exact this
   have STAY:Aside (keepP p ⟨xk,xv,xg⟩=false→((l.take (i+1)).filter (keepP p))=(l.take i).filter (keepP p)):=fun q=>by
    rw [TK.out,if_neg (by rw [q];decide),List.append_nil]
   have MORE:Aside (keepP p ⟨xk,xv,xg⟩=true→((l.take (i+1)).filter (keepP p))=(l.take i).filter (keepP p)++[⟨xk,xv,xg⟩]):=fun q=>by
    rw [TK.out,if_pos q]
   obtain ⟨kp,hkp⟩:∃ kp,p xk=kp:=⟨_,rfl⟩
   have KP:Aside (keepP p ⟨xk,xv,xg⟩=(!xg||kp)):=by show _=_;rw [←hkp];rfl
   have LVi:=fun W gg=>LV.out W gg xk bk0 bk1
   rw [hkp] at LVi
   have LVH:Hid (∀ W,Gw w W→Calls Tryz.prog 55 #[bd, .int .u64 xk] W fun e w'=>e=.returned (.bool kp)∧Gw W w'):=LVi
   have E1H:Hid (wS.alloc (.cells #[.int .u64 xk, .int .u64 xv, .bool xg] 65)=W1):=E1
   clear E1
   have wz:=G.out.size
   have FIN:Hid (∀ (W:World) (v':Value) (w5:World),Gw W1 W→keepP p ⟨xk,xv,xg⟩=true→w5.ownsRow w.heap.size 65 3 v' (m+1) (((l.take i).filter (keepP p)).flatMap ent3++ent3 ⟨xk,xv,xg⟩)→(W.alloc (.cells #[.int .u64 xk, .int .u64 xv, .bool xg] 65)).grownBy w5 (Value.slice bo m oc).ownBlock→EO w5 w.heap.size v' ((l.take (i+1)).filter (keepP p))∧((l.take (i+1)).filter (keepP p)).length=m+1∧Gw w w5):=fun W v' w5 gW q r1 r2=>by
    rw [MORE.out q]
    refine ⟨eo_more (by rw [ML.out];exact r1),by rw [List.length_append,ML.out];rfl,?_⟩
    exact (((G.out.trans G1.out).trans gW).alloc _ _).grown r2 (fun q hq=>(World.ownsRow.lt (CE.out W gW).2.2.2.2 q hq).1)
   clear hlc c0 c1 c2 hx TK LVi hkp LV
   obtain ⟨k0,k1,k2,k3,OW⟩:=CE.out W1 (Gw.refl _)
   have OWA:Aside (W1.ownsRow w.heap.size 65 3 (.slice bo m oc) m (((l.take i).filter (keepP p)).flatMap ent3)):=OW
   clear OW
   cases xg with
   | false =>
    go_upto_region 5 with fail
    rw [E1H.out]
    go_wp2_with (at_builtin;refine wpList_append_own _ rfl _ _ 36 rfl w.heap.size 65 ii (.agg #[.int .u64 0, .int .u64 0, .bool false]) 3 24 Tryz.underlying36 hii hz hs hby rfl (by decide) _ m _ rfl (World.ownsRow.alloc OWA.out _) ⟨W1.heap.size,0,none⟩ 1 1 (ent3 ⟨xk,xv,false⟩) rfl rfl (new_ent W1 ⟨xk,xv,false⟩) (ent3_one _) (by simp only [maxLen];omega) (by omega) (by simp;omega) ?_)
    intro v' w5 r1 r2 r3
    obtain ⟨b5,cap5,rfl,hb5,_,_⟩:=own_slice r1 (by simpa using r3)
    obtain ⟨f1,f2,f3⟩:=FIN.out W1 _ w5 (Gw.refl _) (by rw [KP.out];rfl) r1 r2
    have E5:Aside (EO w5 w.heap.size (.slice (some ⟨b5,0,none⟩) (m+1) cap5) ((l.take (i+1)).filter (keepP p))):=f1
    have M5:Aside (((l.take (i+1)).filter (keepP p)).length=m+1):=f2
    have G5:Aside (Gw w w5):=f3
    clear r1 r2 r3 f1 f2 f3 E OWA FIN MORE STAY LVH d0 d1 d2 CE k0 k1 k2
    go_wp2_with fail
    go_roundg (n-(i+1))
    case measure=>omega
    case rel=>exact ⟨i+1,m+1,_,cap5,rfl,by go_num,by omega,Nat.le_refl _,by omega,M5,E5,G5⟩
   | true =>
    go_upto_region 5 with fail
    rw [E1H.out]
    go_wp2_with fail
    refine Calls.mono (LVH.out _ (G.out.trans G1.out)) ?_
    rintro e w3 ⟨rfl,g3⟩
    have G3:Aside (Gw W1 w3):=g3
    obtain ⟨j0,j1,j2,j3,OW⟩:=CE.out w3 g3
    have OWB:Aside (w3.ownsRow w.heap.size 65 3 (.slice bo m oc) m (((l.take i).filter (keepP p)).flatMap ent3)):=OW
    have z3:=g3.size
    clear g3 OW k0 k1 k2 OWA
    cases kp with
    | true =>
     go_wp2_with (at_builtin;refine wpList_append_own _ rfl _ _ 36 rfl w.heap.size 65 ii (.agg #[.int .u64 0, .int .u64 0, .bool false]) 3 24 Tryz.underlying36 hii hz hs hby rfl (by decide) _ m _ rfl (World.ownsRow.alloc OWB.out _) ⟨w3.heap.size,0,none⟩ 1 1 (ent3 ⟨xk,xv,true⟩) rfl rfl (new_ent w3 ⟨xk,xv,true⟩) (ent3_one _) (by simp only [maxLen];omega) (by omega) (by simp;omega) ?_)
     intro v' w5 r1 r2 r3
     obtain ⟨b5,cap5,rfl,hb5,_,_⟩:=own_slice r1 (by simpa using r3)
     obtain ⟨f1,f2,f3⟩:=FIN.out w3 _ w5 G3.out (by rw [KP.out];rfl) r1 r2
     have E5:Aside (EO w5 w.heap.size (.slice (some ⟨b5,0,none⟩) (m+1) cap5) ((l.take (i+1)).filter (keepP p))):=f1
     have M5:Aside (((l.take (i+1)).filter (keepP p)).length=m+1):=f2
     have G5:Aside (Gw w w5):=f3
     clear r1 r2 r3 f1 f2 f3 E OWB FIN MORE STAY LVH d0 d1 d2 CE j0 j1 j2
     go_wp2_with fail
     go_roundg (n-(i+1))
     case measure=>omega
     case rel=>exact ⟨i+1,m+1,_,cap5,rfl,by go_num,by omega,Nat.le_refl _,by omega,M5,E5,G5⟩
    | false =>
     have ST:=STAY.out (by rw [KP.out];rfl)
     have E5:Aside (EO w3 w.heap.size (.slice bo m oc) ((l.take (i+1)).filter (keepP p))):=by rw [ST];exact eo_gw E.out (G1.out.trans G3.out)
     have M5:Aside (((l.take (i+1)).filter (keepP p)).length=m):=by rw [ST];exact ML.out
     have G5:Aside (Gw w w3):=(G.out.trans G1.out).trans G3.out
     clear ST FIN MORE STAY LVH CE OWB
     go_wp2_with fail
     go_roundg (n-(i+1))
     case measure=>omega
     case rel=>exact ⟨i+1,m,bo,oc,rfl,by go_num,by omega,Nat.le_refl _,by omega,M5,E5,G5⟩
  ·have ei:i=n:=by omega
   subst ei
   have TT:l.take i=l:=List.take_of_length_le (by rw [LN.out];exact Nat.le_refl _)
   rw [TT] at ML E
   have ML2:Aside ((l.filter (keepP p)).length=m):=ML
   have E2:Aside (EO wS w.heap.size (.slice bo (l.filter (keepP p)).length oc) (l.filter (keepP p))):=by
    rw [ML2.out]
    exact E.out
   clear ML E TT LV
   go_wp2_with fail
   refine bodyPost_ret (v:=.slice bo m oc) (by simp [results,Tryz.results52,go_sem]) rfl ⟨⟨bo,oc,by rw [ML2.out],E2.out⟩,G.out⟩
set_option maxRecDepth 10000 in
set_option maxHeartbeats 4000000 in
theorem needs15 {HR:HRt} (H:RunC HR) {r:Rn} (bd:Value) (p:Int→Bool) (w:World) (h:RA HR w r) (FB:∀ W,Gw w W→∀ q:Int,0≤q→q<18446744073709551616→Calls Tryz.prog 55 #[bd, .int .u64 q] W fun e w'=>e=.returned (.bool (p q))∧Gw W w') :
  Calls Tryz.prog 103 #[.pointer (some ⟨r.p,0,none⟩), .func (.func 55) #[bd] #[]] w fun e w'=>e=.returned (.bool (r.l.all (keepP p)))∧Gw w w':=by
 have LE:Hid (Calls Tryz.prog 92 #[.pointer (some ⟨r.p,0,none⟩)] w fun e w'=>e=.returned (.int .i64 (r.l.length:Int))∧Gw w w'):=H.len h.h
 have AT:Hid (∀ (W:World) (i:Nat),Gw w W→i<r.l.length→Calls Tryz.prog 127 #[.pointer (some ⟨r.p,0,none⟩), .int .i64 (i:Int)] W fun e w'=>e=.returned (.tuple #[.agg #[.int .u64 (r.l.getD i ent0).k, .int .u64 (r.l.getD i ent0).v, .bool (r.l.getD i ent0).g], .int .i64 0])∧Gw W w'):=fun W i gg hi=>by
  have:=H.at_ (h.gw H.kp gg).h (i:Int) (by omega) (by have:=h.few;omega)
  have e:atV (ek r.l) (ev r.l) (eg r.l) r.l.length (i:Int)=(entV (ek r.l i) (ev r.l i) (eg r.l i),0):=by
   unfold atV
   rw [if_pos (by omega)]
   simp
  rw [e] at this
  exact this
 have BD:Aside (∀ i,i<r.l.length→(r.l.getD i ent0).ok):=fun i hi=>by rw [getD_lt hi];exact h.bd _ (List.getElem_mem hi)
 have LV:Hid (∀ W,Gw w W→∀ q:Int,0≤q→q<18446744073709551616→Calls Tryz.prog 55 #[bd, .int .u64 q] W fun e w'=>e=.returned (.bool (p q))∧Gw W w'):=FB
 have few:=h.few
 clear h H FB
 obtain ⟨l,hl⟩:∃ l,r.l=l:=⟨_,rfl⟩
 rw [hl] at LE AT BD few ⊢
 generalize r.p=rp at LE AT ⊢
 clear hl
 obtain ⟨n,hn⟩:∃ n,l.length=n:=⟨_,rfl⟩
 have LN:Aside (l.length=n):=hn
 rw [hn] at LE few
 obtain ⟨A,hA⟩:∃ A,l.all (keepP p)=A:=⟨_,rfl⟩
 have RES:Aside ((l.drop 0).all (keepP p)=A):=hA
 rw [hA]
 clear hn hA
 go_enter Tryz.func103,Tryz.ntmps103
 go_wp2_with fail
 refine Calls.mono LE.out ?_
 rintro e w1 ⟨rfl,g1⟩
 have G1:Aside (Gw w w1):=g1
 clear g1 LE
 go_wp2_with fail
 go_loopg [10] n (fun gg s10 wr=>∃ i:Nat,s10=.int .i64 (i:Int)∧i≤n∧n-i≤gg∧Aside (Gw w wr)∧Aside ((l.drop i).all (keepP p)=A))
 case atStart=>exact ⟨0,rfl,Nat.zero_le _,by omega,G1,RES⟩
 case round =>
  clear G1 RES
  obtain ⟨i,rfl,a1,a2,G,N⟩:=hrel
  obtain ⟨wS,hwS⟩:∃ wx,wx=wr:=⟨_,rfl⟩
  subst hwS
  by_cases hlt:i<n
  ·have hlt':(i:Int)<(n:Int):=by omega
   have hl:i<l.length:=by rw [LN.out];exact hlt
   have A1:=AT.out wS i G.out hl
   have DR:l.drop i=l.getD i ent0::l.drop (i+1):=by rw [getD_lt hl,List.drop_eq_getElem_cons hl]
   have NN:=N.out
   rw [DR,List.all_cons] at NN
   obtain ⟨⟨bk0,bk1⟩,_⟩:=BD.out i hl
   obtain ⟨x,hx⟩:∃ x,l.getD i ent0=x:=⟨_,rfl⟩
   rw [hx] at A1 NN bk0 bk1
   obtain ⟨xk,xv,xg⟩:=x
   have AH:Hid (Calls Tryz.prog 127 #[.pointer (some ⟨rp,0,none⟩), .int .i64 (i:Int)] wS fun e w'=>e=.returned (.tuple #[.agg #[.int .u64 xk, .int .u64 xv, .bool xg], .int .i64 0])∧Gw wS w'):=A1
   have LQ:Hid (∀ W,Gw w W→Calls Tryz.prog 55 #[bd, .int .u64 xk] W fun e w'=>e=.returned (.bool (p xk))∧Gw W w'):=fun W gg=>LV.out W gg xk bk0 bk1
   have NE:Aside ((keepP p ⟨xk,xv,xg⟩&&(l.drop (i+1)).all (keepP p))=A):=NN
   have KP:Aside (keepP p ⟨xk,xv,xg⟩=(!xg||p xk)):=rfl
   generalize p xk=kp at LQ KP
   clear A1 DR NN bk0 bk1 hx N
   go_wp2_with fail
   refine Calls.mono AH.out ?_
   rintro e u1 ⟨rfl,gg⟩
   have G2:Aside (Gw w (u1.alloc (.cells #[.int .u64 xk, .int .u64 xv, .bool xg] 65))):=(G.out.trans gg).alloc _ _
   clear gg AH G
   cases xg with
   | false =>
    have N':Aside ((l.drop (i+1)).all (keepP p)=A):=by have:=NE.out;rw [KP.out] at this;exact this
    clear NE KP LQ
    go_wp2_with fail
    go_roundg (n-(i+1))
    case measure=>omega
    case rel=>exact ⟨i+1,by go_num,by omega,Nat.le_refl _,G2,N'⟩
   | true =>
    go_wp2_with fail
    refine Calls.mono (LQ.out _ G2.out) ?_
    rintro e u2 ⟨rfl,gg⟩
    have G3:Aside (Gw w u2):=G2.out.trans gg
    clear gg G2
    cases kp with
    | true =>
     have N':Aside ((l.drop (i+1)).all (keepP p)=A):=by have:=NE.out;rw [KP.out] at this;exact this
     clear NE KP LQ
     go_wp2_with fail
     go_roundg (n-(i+1))
     case measure=>omega
     case rel=>exact ⟨i+1,by go_num,by omega,Nat.le_refl _,G3,N'⟩
    | false =>
     have e:A=false:=by have:=NE.out;rw [KP.out] at this;exact this.symm
     subst e
     clear NE KP LQ
     go_wp2_with fail
     go_ret
     exact ⟨rfl,G3.out⟩
  ·have ei:i=n:=by omega
   subst ei
   have e:A=true:=by
    rw [←N.out,List.drop_of_length_le (by rw [LN.out];exact Nat.le_refl _)]
    rfl
   subst e
   clear N
   go_wp2_with fail
   go_ret
   exact ⟨rfl,G.out⟩
end Go.Proofs.YtjhaiiegdnamcabGreat
