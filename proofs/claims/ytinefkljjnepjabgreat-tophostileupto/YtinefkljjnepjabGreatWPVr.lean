/- Lists of segments, and levels, in memory. -/
import Derived.BigQuiet
import Derived.Deep.LoopGhost
import Derived.Deep.QuietTactic
import Derived.Test.YtinefkljjnepjabGreatWPSt
import Derived.Test.YtinefkljjnepjabGreatWPVp
namespace Go.Proofs.YtinefkljjnepjabGreat
open Go.RowKit
set_option linter.unusedVariables false
structure SgAt (w:World) (b off:Nat) (s:Sg):Prop where
 c0:w.cell? ⟨b,off,none⟩=some (.int .u64 s.k)
 c1:w.cell? ⟨b,off+1,none⟩=some (.float .f64 s.sl)
 c2:w.cell? ⟨b,off+2,none⟩=some (.float .f64 s.ic)
 c3:w.cell? ⟨b,off+3,none⟩=some (.int .i64 s.fr)
 c4:w.cell? ⟨b,off+4,none⟩=some (.int .i64 s.te)
theorem SgAt.gw {w w':World} {b off:Nat} {s:Sg} (h:SgAt w b off s) (hb:b<w.heap.size) (g:Gw w w'):SgAt w' b off s :=
 ⟨(g.cell _ _ hb).trans h.c0,(g.cell _ _ hb).trans h.c1,(g.cell _ _ hb).trans h.c2,(g.cell _ _ hb).trans h.c3,(g.cell _ _ hb).trans h.c4⟩
abbrev Sg.ok (s:Sg):Prop:=SegOk s.k s.sl s.ic s.fr s.te
abbrev sgV (s:Sg):Value:=segV s.k s.sl s.ic s.fr s.te
structure GS (w:World) (ao:Option Addr) (l:List Sg):Prop where
 cells:0<l.length→∃ b off,ao=some ⟨b,off,none⟩∧b<w.heap.size∧∀ i,i<l.length→SgAt w b (off+i*5) (l.getD i sg0)
 ok:∀ i,i<l.length→(l.getD i sg0).ok
theorem GS.gw {w w':World} {ao:Option Addr} {l:List Sg} (h:GS w ao l) (g:Gw w w'):GS w' ao l :=
 ⟨fun h0=>by
  obtain ⟨b,off,e,hb,hc⟩:=h.cells h0
  exact ⟨b,off,e,Nat.lt_of_lt_of_le hb g.size,fun i hi=>(hc i hi).gw hb g⟩,h.ok⟩
theorem GS.mem {w:World} {ao:Option Addr} {l:List Sg} (h:GS w ao l):∀ s∈l,s.ok:=by
 intro s hs
 obtain ⟨i,hi,rfl⟩:=List.mem_iff_getElem.1 hs
 have:=h.ok i hi
 rwa [List.getD_eq_getElem?_getD,List.getElem?_eq_getElem hi] at this
structure VS (w:World) (ao:Option Addr) (L:List (List Sg)):Prop where
 cells:0<L.length→∃ b off,ao=some ⟨b,off,none⟩∧b<w.heap.size∧∀ i,i<L.length→∃ bo c,w.cell? ⟨b,off+i,none⟩=some (.slice bo (L.getD i []).length c)∧(L.getD i []).length≤c∧(bo=none→(L.getD i []).length=0∧c=0)∧GS w bo (L.getD i [])
theorem VS.gw {w w':World} {ao:Option Addr} {L:List (List Sg)} (h:VS w ao L) (g:Gw w w'):VS w' ao L :=
 ⟨fun h0=>by
  obtain ⟨b,off,e,hb,hc⟩:=h.cells h0
  refine ⟨b,off,e,Nat.lt_of_lt_of_le hb g.size,fun i hi=>?_⟩
  obtain ⟨bo,c,h1,h2,h3,h4⟩:=hc i hi
  exact ⟨bo,c,(g.cell _ _ hb).trans h1,h2,h3,h4.gw g⟩⟩
theorem fst8_ok {w:World} {ao:Option Addr} {l:List Sg} (h:GS w ao l):∀ t,t<l.length→0≤fst8 l t∧fst8 l t<18446744073709551616:=fun t ht=>⟨(h.ok t ht).k0,(h.ok t ht).k1⟩
set_option maxHeartbeats 2000000 in
theorem rfirsts_any (ao:Option Addr) (c:Nat) (l:List Sg) (hl:l.length≤4000000) (w:World) (h:GS w ao l) :
  Calls Tryz.prog 98 #[.slice ao l.length c] w fun e w'=>(∃ b cap,e=.returned (.slice (some ⟨b,0,none⟩) l.length cap)∧w.heap.size≤b∧l.length≤cap∧KS w' (some ⟨b,0,none⟩) l.length (fst8 l))∧Gw w w':=by
 have HG:Aside (GS w ao l):=h
 clear h
 obtain ⟨n,hn⟩:∃ n,l.length=n:=⟨_,rfl⟩
 have LN:Aside (l.length=n):=hn
 rw [hn] at hl
 rw [hn]
 clear hn
 obtain ⟨ii,hii,hz,hs,hby⟩:=info_parts info_k
 have R3:Aside ((w.alloc (.cells #[] 37)).ownsRow w.heap.size 37 1 (.slice (some ⟨w.heap.size,0,none⟩) 0 0) 0 ((List.range 0).map fun j=>Value.int .u64 (fst8 l j))):=World.ownsRow_made w #[] 0 (Nat.le_refl _) (Nat.zero_le _) rfl
 have G3:Aside (Gw w (w.alloc (.cells #[] 37))):=(Gw.refl w).alloc _ _
 have B3:Aside (w.heap.size≤w.heap.size):=Nat.le_refl _
 go_enter Tryz.func98,Tryz.ntmps98
 go_wp2_with fail
 generalize w.alloc (.cells #[] 37)=w3 at R3 G3 ⊢
 go_loopg [3,4] n (fun gg s3 s4 wr=>∃ i b cap:Nat,s3=.slice (some ⟨b,0,none⟩) i cap∧s4=.int .i64 i∧i≤n∧n-i≤gg∧Aside (w.heap.size≤b)∧Aside (wr.ownsRow w.heap.size 37 1 (.slice (some ⟨b,0,none⟩) i cap) i ((List.range i).map fun j=>Value.int .u64 (fst8 l j)))∧Aside (Gw w wr))
 case atStart=>exact ⟨0,w.heap.size,0,rfl,rfl,Nat.zero_le _,by omega,B3,R3,G3⟩
 case round =>
  clear R3 G3 B3
  obtain ⟨i,b,cap,rfl,rfl,h1,h2,BW,R,G⟩:=hrel
  by_cases hlt:i<n
  ·obtain ⟨bk,off,rfl,hbk,hc⟩:=(HG.out.gw G.out).cells (by rw [LN.out];omega)
   have q1:=(hc i (by rw [LN.out];exact hlt)).c0
   obtain ⟨fi,hfi⟩:∃ y,fst8 l i=y:=⟨_,rfl⟩
   have FI:Aside (fst8 l i=fi):=hfi
   have q2:wr.cell? ⟨bk,off+i*5,none⟩=some (.int .u64 fi):=by rw [←hfi];exact q1
   clear hc hfi q1
   have z0:=G.out.size
   go_wp2_with (at_builtin;refine wpList_append_own _ rfl _ _ 44 rfl w.heap.size 37 ii (.int .u64 0) 1 8 Tryz.underlying44 hii hz hs hby rfl (by decide) _ i _ rfl (R.out.alloc _) ⟨wr.heap.size,0,none⟩ 1 1 [.int .u64 fi] rfl rfl (new_one wr fi) (ints_oneCell .u64 [fi]) (by simp only [maxLen];omega) (by omega) (by simp;omega) ?_)
   intro v' w5 r1' r2' r3'
   obtain ⟨b5,cap5,rfl,hb5,_,_⟩:=own_slice r1' (by simpa using r3')
   have R5:Aside (w5.ownsRow w.heap.size 37 1 (.slice (some ⟨b5,0,none⟩) (i+1) cap5) (i+1) ((List.range (i+1)).map fun j=>Value.int .u64 (fst8 l j))):=by
    have:=r1'
    rw [←FI.out] at this
    rw [List.range_succ,List.map_append]
    exact this
   have G5:Aside (Gw w w5):=(G.out.alloc _ _).grown r2' (fun k hk=>by cases hk;exact BW.out)
   have B5:Aside (w.heap.size≤b5):=hb5
   clear r1' r2' r3' R G BW hb5 q2 FI
   go_wp2_with fail
   go_roundg (n-(i+1))
   case measure=>omega
   case rel=>exact ⟨i+1,b5,cap5,rfl,by go_num,by omega,Nat.le_refl _,B5,R5,G5⟩
  ·have ei:i=n:=by omega
   subst ei
   have K4:Aside (KS wr (some ⟨b,0,none⟩) i (fst8 l)):=ks_own R.out (Nat.le_refl _) (fun j hj=>by simp [hj]) (fun j hj=>fst8_ok HG.out j (by rw [LN.out];exact hj))
   obtain ⟨_,_,ev,_,ic,_⟩:=own_slice R.out (by simp)
   cases ev
   clear R
   go_wp2_with fail
   go_ret
   exact ⟨⟨b,cap,rfl,BW.out,ic,K4.out⟩,G.out⟩
end Go.Proofs.YtinefkljjnepjabGreat
namespace Go.Proofs.YtinefkljjnepjabGreat
open Go.RowKit
set_option linter.unusedVariables false
theorem drop_at {l:List Sg} {i:Nat} (h:i<l.length):l.drop i=l.getD i sg0::l.drop (i+1):=by
 rw [List.drop_eq_getElem_cons h,List.getD_eq_getElem?_getD,List.getElem?_eq_getElem h];rfl
set_option maxHeartbeats 2000000 in
theorem rtiles_any (ao:Option Addr) (c:Nat) (l:List Sg) (m:Nat) (hl:l.length≤4000000) (hm:m≤4000000) (w:World) (h:GS w ao l) :
  Calls Tryz.prog 95 #[.slice ao l.length c, .int .i64 (m:Int)] w fun e w'=>e=.returned (.bool (tileB m 0 l&&!l.isEmpty))∧Gw w w':=by
 have HG:Aside (GS w ao l):=h
 clear h
 obtain ⟨r,hr⟩:∃ r,(tileB m 0 l&&!l.isEmpty)=r:=⟨_,rfl⟩
 have HR:Aside ((tileB m 0 l&&!l.isEmpty)=r):=hr
 rw [hr]
 clear hr
 obtain ⟨n,hn⟩:∃ n,l.length=n:=⟨_,rfl⟩
 have LN:Aside (l.length=n):=hn
 rw [hn] at hl
 rw [hn]
 clear hn
 go_enter Tryz.func95,Tryz.ntmps95
 go_wp2_with fail
 go_loopg [5,6] n (fun gg s5 s6 wr=>∃ i a:Nat,s5=.int .i64 a∧s6=.int .i64 i∧i≤n∧n-i≤gg∧a≤m∧Aside (tileB m 0 l=tileB m a (l.drop i))∧Aside (Gw w wr))
 case atStart=>exact ⟨0,0,rfl,rfl,Nat.zero_le _,by omega,Nat.zero_le _,(show Aside _ from rfl),(show Aside _ from Gw.refl w)⟩
 case round =>
  obtain ⟨i,a,rfl,rfl,h1,h2,h3,T,G⟩:=hrel
  by_cases hlt:i<n
  ·obtain ⟨bk,off,rfl,hbk,hc⟩:=(HG.out.gw G.out).cells (by rw [LN.out];omega)
   have q:=hc i (by rw [LN.out];exact hlt)
   have q3:=q.c3
   have q4:=q.c4
   have TT:Aside (tileB m 0 l=tileB m a (l.getD i sg0::l.drop (i+1))):=by rw [←drop_at (by rw [LN.out];exact hlt)];exact T.out
   have bd:=HG.out.ok i (by rw [LN.out];exact hlt)
   generalize l.getD i sg0=s at q3 q4 TT bd
   obtain ⟨fr,hfr⟩:∃ y,s.fr=y:=⟨_,rfl⟩
   obtain ⟨te,hte⟩:∃ y,s.te=y:=⟨_,rfl⟩
   rw [hfr] at q3
   rw [hte] at q4
   have t0:-9223372036854775808≤te:=by rw [←hte];exact bd.t0
   have CS:Aside ((fr≠a∨te≤a∨(m:Int)<te)∨(fr=a∧(a:Int)<te∧te≤m)):=by
    show _∨_
    omega
   have UF:Aside (tileB m 0 l=true↔fr=a∧(a:Int)<te∧te≤m∧tileB m te.toNat (l.drop (i+1))=true):=by
    show _↔_
    rw [TT.out,tileB_cons,hfr,hte]
   clear hc q TT T hfr hte bd
   rcases CS.out with cs | ⟨c1,c2,c3⟩
   ·have r0:r=false:=by
     rw [←HR.out]
     have:tileB m 0 l=false:=by
      cases hh:tileB m 0 l with
      | false=>rfl
      | true=>have:=UF.out.1 hh;omega
     rw [this];rfl
    subst r0
    clear CS UF
    by_cases d1:fr=a
    ·have b1:(fr != (a:Int))=false:=by simpa using d1
     by_cases d2:te≤a
     ·have b2:decide (te≤(a:Int))=true:=by simpa using d2
      clear cs d1 d2
      go_wp2_with fail
      go_ret
      exact ⟨rfl,G.out⟩
     ·have b2:decide (te≤(a:Int))=false:=by simpa using d2
      have b3:decide ((m:Int)<te)=true:=by simp;omega
      clear cs d1 d2
      go_wp2_with fail
      go_ret
      exact ⟨rfl,G.out⟩
    ·have b1:(fr != (a:Int))=true:=by simpa using d1
     clear cs d1
     go_wp2_with fail
     go_ret
     exact ⟨rfl,G.out⟩
   ·have b1:(fr != (a:Int))=false:=by simpa using c1
    have b2:decide (te≤(a:Int))=false:=by simp;omega
    have b3:decide ((m:Int)<te)=false:=by simp;omega
    obtain ⟨t,ht⟩:∃ t:Nat,te=t:=⟨te.toNat,by omega⟩
    subst ht
    have T':Aside (tileB m 0 l=tileB m t (l.drop (i+1))):=by
     have:=UF.out
     rw [Int.toNat_natCast] at this
     show tileB m 0 l=tileB m t (l.drop (i+1))
     cases hh:tileB m t (l.drop (i+1)) with
     | true=>exact this.2 ⟨c1,c2,c3,hh⟩
     | false =>
      cases hg:tileB m 0 l with
      | false=>rfl
      | true=>have:=(this.1 hg).2.2.2;rw [hh] at this;cases this
    have tm:t≤m:=by omega
    have ta:¬ t≤a:=by omega
    have ta':a<t:=by omega
    have tm':¬ m<t:=by omega
    clear CS UF c1 c2 c3 t0
    go_wp2_with fail
    go_roundg (n-(i+1))
    case measure=>omega
    case rel=>exact ⟨i+1,t,rfl,by go_num,by omega,Nat.le_refl _,tm,T',G⟩
  ·have e:i=n:=by omega
   subst e
   have T':Aside (tileB m 0 l=decide (a=m)):=by
    show tileB m 0 l=decide (a=m)
    rw [T.out,List.drop_eq_nil_of_le (by rw [LN.out];exact Nat.le_refl _)];rfl
   by_cases n0:0<i
   ·have tn:decide ((0:Int)<(i:Int))=true:=by simpa using n0
    have ne:l.isEmpty=false:=by
     cases l with
     | nil=>have:=LN.out;simp at this;omega
     | cons s l=>rfl
    by_cases am:a=m
    ·have r1:r=true:=by rw [←HR.out,T'.out,ne];simpa using am
     subst r1 am
     go_wp2_with fail
     go_ret
     exact ⟨by simp,G.out⟩
    ·have r1:r=false:=by rw [←HR.out,T'.out];simp [am]
     have ta:((a:Int) == (m:Int))=false:=by simp;omega
     subst r1
     go_wp2_with fail
     go_ret
     exact ⟨by simp,G.out⟩
   ·have tn:decide ((0:Int)<(i:Int))=false:=by simp;omega
    have ne:l.isEmpty=true:=by
     cases l with
     | nil=>rfl
     | cons s l=>have:=LN.out;simp at this;omega
    have r1:r=false:=by rw [←HR.out,ne];simp
    subst r1
    go_wp2_with fail
    go_ret
    exact ⟨by simp,G.out⟩
def mxh (n eps:Int):Int:=if 2≤eps∧eps≤64∧1≤n then (hgt eps.toNat n.toNat:Nat) else 0
theorem hgt_le {e:Nat} (he:2≤e):∀ n,hgt e n≤n:=by
 intro n
 induction n using Nat.strongRecOn with
 | ind n ih =>
  by_cases h0:n=0
  ·subst h0;exact Nat.le_refl _
  ·by_cases h1:n≤2*e-1
   ·rw [hgt_one (by omega) h1];omega
   ·rw [hgt_more he h1]
    have:=ih _ (div_less he h1)
    have:=div_less he h1
    omega
set_option maxHeartbeats 2000000 in
theorem rmaxh_any (n eps:Int) (n0:-9223372036854775808≤n) (n1:n<9223372036854775808) (e0:-9223372036854775808≤eps) (e1:eps<9223372036854775808) (w:World) :
  Calls Tryz.prog 94 #[.int .i64 n, .int .i64 eps] w fun ex w'=>ex=.returned (.int .i64 (mxh n eps))∧Gw w w':=by
 by_cases h:2≤eps∧eps≤64
 ·have t1:decide (eps<2)=false:=by simp;omega
  have t2:decide (64<eps)=false:=by simp;omega
  by_cases h1:1≤n
  ·have t3:decide (n<1)=false:=by simp;omega
   obtain ⟨e,he⟩:∃ e:Nat,eps=e:=⟨eps.toNat,by omega⟩
   obtain ⟨N,hN⟩:∃ N:Nat,n=N:=⟨n.toNat,by omega⟩
   subst he hN
   have MX:mxh (N:Int) (e:Int)=(hgt e N:Nat):=by
    unfold mxh
    rw [if_pos ⟨h.1,h.2,h1⟩,Int.toNat_natCast,Int.toNat_natCast]
   rw [MX]
   clear MX
   have ee:2≤e:=by omega
   have e64:e≤64:=by omega
   have HL:hgt e N≤N:=hgt_le ee N
   obtain ⟨R,hR⟩:∃ R,hgt e N=R:=⟨_,rfl⟩
   have HR:Aside (hgt e N=R):=hR
   rw [hR] at HL ⊢
   clear hR
   have w2:IntKind.i64.wrap (2*(e:Int))=2*(e:Int):=by rw [IntKind.wrap_i64];omega
   have w3:IntKind.i64.wrap (2*(e:Int)-1)=2*(e:Int)-1:=by rw [IntKind.wrap_i64];omega
   have ez:((e:Int) == 0)=false:=by simp;omega
   clear h
   go_enter Tryz.func94,Tryz.ntmps94
   go_wp2_with fail
   go_loopg [0,5] N (fun gg s0 s5 wr=>∃ m h:Nat,s0=.int .i64 m∧s5=.int .i64 h∧0<m∧m≤N∧m≤gg∧h≤R∧Aside (h+hgt e m=R+1)∧Aside (Gw w wr))
   case atStart=>exact ⟨N,1,rfl,rfl,by omega,Nat.le_refl _,Nat.le_refl _,(by rw [←HR.out];exact hgt_pos ee (by omega)),(show Aside _ from by show 1+hgt e N=R+1;rw [HR.out];omega),(show Aside _ from Gw.refl w)⟩
   case round =>
    obtain ⟨m,h,rfl,rfl,m0,m1,m2,m3,HS,G⟩:=hrel
    by_cases c:m≤2*e-1
    ·have tc:decide (2*(e:Int)-1<(m:Int))=false:=by simp;omega
     have hR:h=R:=by have:=HS.out;rw [hgt_one m0 c] at this;omega
     subst hR
     go_wp2_with fail
     go_ret
     exact ⟨rfl,G.out⟩
    ·have tc:decide (2*(e:Int)-1<(m:Int))=true:=by simp;omega
     have dl:=div_less ee c
     have NX:h+1+hgt e (m/e+1)=R+1:=by have:=HS.out;rw [hgt_more ee c] at this;omega
     have hp:0<hgt e (m/e+1):=hgt_pos ee (Nat.succ_pos (m/e))
     obtain ⟨d,hd⟩:∃ d,m/e=d:=⟨_,rfl⟩
     have td:Int.tdiv (m:Int) (e:Int)=(d:Int):=by rw [←hd];rfl
     rw [hd] at dl NX hp
     have HS':Aside (h+1+hgt e (d+1)=R+1):=NX
     have h3:h+1≤R:=by omega
     clear hd NX HS
     go_wp2_with fail
     go_roundg (d+1)
     case measure=>omega
     case rel=>exact ⟨d+1,h+1,by go_num,by go_num,by omega,by omega,Nat.le_refl _,h3,HS',G⟩
  ·have t3:decide (n<1)=true:=by simp;omega
   have MX:mxh n eps=0:=if_neg (fun q=>h1 q.2.2)
   rw [MX]
   clear MX h h1
   go_enter Tryz.func94,Tryz.ntmps94
   go_wp2_with fail
   go_ret
   exact ⟨rfl,Gw.refl w⟩
 ·have MX:mxh n eps=0:=if_neg (fun q=>h ⟨q.1,q.2.1⟩)
  rw [MX]
  clear MX
  by_cases h2:eps<2
  ·have t1:decide (eps<2)=true:=by simpa using h2
   clear h h2
   go_enter Tryz.func94,Tryz.ntmps94
   go_wp2_with fail
   go_ret
   exact ⟨rfl,Gw.refl w⟩
  ·have t1:decide (eps<2)=false:=by simpa using h2
   have t2:decide (64<eps)=true:=by simp;omega
   clear h h2
   go_enter Tryz.func94,Tryz.ntmps94
   go_wp2_with fail
   go_ret
   exact ⟨rfl,Gw.refl w⟩
end Go.Proofs.YtinefkljjnepjabGreat
