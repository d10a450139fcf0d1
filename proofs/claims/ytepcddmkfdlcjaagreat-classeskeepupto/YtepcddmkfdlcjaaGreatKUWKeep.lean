/- ClassesKeep: the walk. -/
import Derived.Deep.CutBlock
import Derived.Deep.DeepCutAuto
import Derived.Maps.AppendAt
import Derived.Test.YtepcddmkfdlcjaaGreatKPE3
import Derived.Test.YtepcddmkfdlcjaaGreatKUInv
import Derived.Test.YtepcddmkfdlcjaaGreatKULaw
import Derived.Test.YtepcddmkfdlcjaaGreatKUShown
namespace Go.Proofs.YtepcddmkfdlcjaaGreat
open Go.RowKit
set_option linter.unusedVariables false
theorem ChkR.ex (k v:Nat→Int) (g:Nat→Bool):∀ n,∃ r,ChkR k v g n r
 | 0=>⟨0,ChkR.ok (fun j hj=>by omega) (fun j hj=>by omega)⟩
 | n+1=>by
  obtain ⟨r,h⟩:=ChkR.ex k v g n
  rcases h with ⟨_,u,b⟩ | ⟨_,i,hi,u,b,d⟩ | ⟨_,i,hi,u,b,d⟩
  ·by_cases up:Up k (n+1)
   ·by_cases bad:g n=true∧v n≠0
    ·exact ⟨31,ChkR.gone n (by omega) up b bad⟩
    ·refine ⟨0,ChkR.ok up fun j hj=>?_⟩
     by_cases e:j=n
     ·rw [e];exact bad
     ·exact b j (by omega)
   ·have n0:n≠0:=fun e=>up (fun j hj=>by omega)
    have d:k n≤k (n-1):=by
     by_cases q:k n≤k (n-1)
     ·exact q
     ·exfalso
      refine up fun j hj=>?_
      by_cases e:j+1=n
      ·have e2:n-1=j:=by omega
       rw [e2] at q
       rw [e]
       omega
      ·exact u j (by omega)
    obtain ⟨m,rfl⟩:∃ m,n=m+1:=⟨n-1,by omega⟩
    exact ⟨30,ChkR.order m (by omega) u b d⟩
  ·exact ⟨30,ChkR.order i (by omega) u b d⟩
  ·exact ⟨31,ChkR.gone i (by omega) u b d⟩
theorem own_stay15 {w w':World} {base e size n g c:Nat} {xs:List Value} (h:w.ownsRow base e size (.slice (some ⟨g,0,none⟩) n c) n xs) (k:w'.heap[g]?=w.heap[g]?):w'.ownsRow base e size (.slice (some ⟨g,0,none⟩) n c) n xs:=by
 refine ⟨h.1,?_⟩
 rcases h.2 with ⟨q,_⟩ | ⟨b,cap,cur,q,hb,hh,r⟩
 ·cases q
 ·injection q with q1 q2 q3
  injection q1 with q1
  injection q1 with q1
  subst q1 q3
  exact .inr ⟨g,c,cur,rfl,hb,k.trans hh,r⟩
theorem own_other15 {u w8:World} {o:Obj} {base e size n b c ob:Nat} {xs:List Value} (h:u.ownsRow base e size (.slice (some ⟨b,0,none⟩) n c) n xs) (r2:(u.alloc o).grownBy w8 (some ob)) (ne:b≠ob):w8.ownsRow base e size (.slice (some ⟨b,0,none⟩) n c) n xs:=by
 have hb:=(h.lt b rfl).2
 exact own_stay15 h ((r2.block b (by simp;omega) (fun e=>ne (by cases e;rfl))).trans (heap_alloc_old u _ hb))
theorem one_row15 (w:World) (x:Value) (t:TypeId):∀ j u,[x][j]?=some u→(w.alloc (.cells #[x] t)).cell? ((⟨w.heap.size,0,none⟩:Addr).add j)=some u:=new_v13' w x t
theorem keep15 {HR:HRt} (H:RunC HR) {w:World} {p:Nat} {rs:List (Option Rn)} {eps buf B W:Int} (h:HCl HR w p rs eps buf B W) (ao:Option Addr) (c:Nat) (l:List Ent) (may:Bool) (r0:Int) (cr0:ChkR (ek l) (ev l) (eg l) l.length r0) (hm:may=(decide (r0=0)&&decide ((l.length:Int)=buf))) (hl:EL w ao l) (hc:l.length≤c) (hz:ao=none→l.length=0∧c=0) (hs:l.length+tot rs≤2000000) (hB:0≤B∧B<4611686018427387904) (hW:0≤W∧W<4611686018427387904) :
  Calls Tryz.prog 13 #[.pointer (some ⟨p,0,none⟩), .slice ao l.length c] w fun e w'=>(∃ (x y z er:Int) (rs':List (Option Rn)) (B' W':Int),e=.returned (.tuple #[.agg #[.int .i64 x, .int .i64 y, .int .i64 z], .int .i64 er])∧(er == 0)=may∧HCl HR w' p rs' eps buf B' W'∧(∀ q,liveO (nw q rs')=liveO ((look Ent.k q (if may then l else [])).or (nw q rs))∧(liveO (nw q rs')=true→nw q rs'=(look Ent.k q (if may then l else [])).or (nw q rs)))∧tot rs'≤tot rs+l.length∧(0≤B'∧B'≤B+1)∧0≤W'∧W'≤W+2000000)∧Gx (fun q=>q=p) w w' :=
 (take15 H h ao c l hl hc hz hs hB hW).mono fun e w' ⟨⟨r1,cr,x⟩,g⟩=>by
  have e1:=cr.one cr0
  subst e1
  refine ⟨?_,g⟩
  rcases x with ⟨a,he,h1,_⟩ | ⟨a,b,he,h1,_⟩ | ⟨a,hb,o,kept,rn,tr,he,ld,h1⟩
  ·have m0:may=false:=by rw [hm,decide_eq_false a];rfl
   rw [m0]
   exact ⟨_,_,_,_,rs,B,W,he,rfl,h1,fun q=>⟨rfl,fun _=>rfl⟩,by omega,⟨by omega,by omega⟩,by omega,by omega⟩
  ·have m0:may=false:=by rw [hm,decide_eq_false b,Bool.and_false]
   rw [m0]
   exact ⟨_,_,_,_,rs,B,W,he,rfl,h1,fun q=>⟨rfl,fun _=>rfl⟩,by omega,⟨by omega,by omega⟩,by omega,by omega⟩
  ·have m0:may=true:=by rw [hm,decide_eq_true a,decide_eq_true hb];rfl
   rw [m0]
   have few:=tr.few.1
   have tk:=tot_take rs (freeC rs+1)
   unfold took at few
   have o1:0≤one15 kept∧one15 kept≤1:=by unfold one15;split<;>omega
   rw [a] at cr0
   exact ⟨_,_,_,_,_,_,_,he,rfl,h1,fun q=>laid_live cr0 (fun r hr=>(h.runs r hr).1.ok) tr ld q,laid_tot tr ld,⟨by omega,by omega⟩,by omega,by omega⟩
theorem info_b15:(Tryz.prog.info? 4).map (fun i=>(i.zero,i.size,i.bytes))=some (some (.bool false),1,1):=by kernel_rfl
def u64s (A:List Int):List Value:=A.map (Value.int .u64)
def bools (A:List Bool):List Value:=A.map Value.bool
set_option maxRecDepth 20000 in
set_option maxHeartbeats 16000000 in
theorem keep_walk {HR:HRt} (H:RunC HR) (eps:Int) (ao:Option Addr) (c:Nat) (L:List (List Ent)) (ko:Option Addr) (kn kc:Nat) (kf:Nat→Int) (hN:sizes L≤2000000) (hK:kn≤2000000) (hkz:ko=none→kn=0∧kc=0) (w:World) (h:EV w ao L) (hk:KS w ko kn kf) :
  Calls Tryz.prog 6 #[.int .i64 eps, .slice ao L.length c, .slice ko kn kc] w fun e w'=>e=.returned (.bool true)∧Gw w w':=by
 have SH:Hid (Calls Tryz.prog 9 #[] w fun e w'=>e=.returned (.bool true)∧Gw w w'):=shown15 H w
 have HE:Aside (EV w ao L):=h
 have HKS:Aside (KS w ko kn kf):=hk
 have HKZ:Aside (ko=none→kn=0∧kc=0):=hkz
 have HH:Aside (RunC HR):=H
 have HS:Aside (sizes L≤2000000):=hN
 obtain ⟨n,hn⟩:∃ n,L.length=n:=⟨_,rfl⟩
 have LN:Aside (L.length=n):=hn
 rw [hn]
 obtain ⟨ii,hii,hz',hs',hby⟩:=info_parts info_k
 obtain ⟨jj,hjj,jz,js,jby⟩:=info_parts info_b15
 clear h H hN hn hk hkz
 go_enter Tryz.func6,Tryz.ntmps6
 go_wp2_with fail
 refine Calls.mono SH.out ?_
 rintro e w1 ⟨rfl,g1⟩
 have G1:Aside (Gw w w1):=g1
 clear g1 SH
 by_cases n0:n=0
 ·subst n0
  go_wp2_with fail
  go_ret
  exact ⟨rfl,G1.out⟩
 by_cases n200:200<n
 ·have n200':(200:Int)<(n:Int):=by omega
  go_wp2_with fail
  go_ret
  exact ⟨rfl,G1.out⟩
 have n200':decide ((200:Int)<(n:Int))=false:=by simp;omega
 have n0b:((n:Int) == 0)=false:=by simp;omega
 have n0':0<n:=by omega
 have n0'':(0:Int)<(n:Int):=by omega
 obtain ⟨lb,lf,rfl,hlb,hlc⟩:=HE.out.cells (by rw [LN.out];omega)
 have CEL:Hid (∀ W,Gw w W→∀ i,i<n→∃ bo cc,W.cell? ⟨lb,lf+i,none⟩=some (.slice bo (L.getD i []).length cc)∧lb<W.heap.size∧(L.getD i []).length≤cc∧EL W bo (L.getD i [])∧(bo=none→(L.getD i []).length=0∧cc=0)):=fun W gg i hi=>by
  obtain ⟨bo,cc,q1,q2,q3,q4⟩:=hlc i (by rw [LN.out];exact hi)
  exact ⟨bo,cc,(gg.cell _ _ hlb).trans q1,Nat.lt_of_lt_of_le hlb gg.size,q2,q3.gw gg,q4⟩
 obtain ⟨bo0,cc0,p1,p2,_,_,_⟩:=CEL.out w1 G1.out 0 n0'
 have m1:(L.getD 0 []).length≤2000000:=Nat.le_trans (rows_le (by rw [LN.out];omega)) HS.out
 obtain ⟨m0,hm0⟩:∃ m,(L.getD 0 []).length=m:=⟨_,rfl⟩
 have M0:Aside ((L.getD 0 []).length=m0):=hm0
 rw [hm0] at p1 m1
 rw [Nat.add_zero] at p1
 have C0:Hid (∀ W,Gw w1 W→W.cell? ⟨lb,lf,none⟩=some (.slice bo0 m0 cc0)):=fun W gg=>(gg.cell _ _ p2).trans p1
 have NW:Hid (Calls Tryz.prog 10 #[.int .i64 eps, .int .i64 (m0:Int)] w1 fun e w'=>((¬ NewOk eps (m0:Int)∧e=.returned (.tuple #[.pointer none, .int .i64 1]))∨(NewOk eps (m0:Int)∧∃ p,e=.returned (.tuple #[.pointer (some ⟨p,0,none⟩), .int .i64 0])∧w1.heap.size≤p∧HCl HR w' p (List.replicate 40 none) eps (m0:Int) 0 0))∧Gw w1 w'):=new15 eps (m0:Int) w1
 clear hlc hm0 hlb
 go_wp2_with fail
 refine Calls.mono NW.out ?_
 rintro e w2 ⟨x,g2⟩
 have G2:Aside (Gw w w2):=G1.out.trans g2
 have G12:Aside (Gw w1 w2):=g2
 rcases x with ⟨nok,rfl⟩ | ⟨nok,p,rfl,hp,hcl⟩
 ·have cs:eps<2∨(¬ eps<2∧64<eps)∨(¬ eps<2∧¬ 64<eps∧m0=0):=by unfold NewOk at nok;omega
  have c0:=C0.out w2 g2
  have l2:lb<w2.heap.size:=Nat.lt_of_lt_of_le p2 g2.size
  clear nok g2 NW p1 p2
  rcases cs with a | ⟨a,b⟩ | ⟨a,b,rfl⟩
  ·have t1:decide (eps<2)=true:=by simpa using a
   clear a
   go_wp2_with fail
   go_ret
   exact ⟨rfl,G2.out⟩
  ·have t1:decide (eps<2)=false:=by simpa using a
   have t2:decide (64<eps)=true:=by simpa using b
   clear a b
   go_wp2_with fail
   go_ret
   exact ⟨rfl,G2.out⟩
  ·have t1:decide (eps<2)=false:=by simpa using a
   have t2:decide (64<eps)=false:=by simpa using b
   clear a b
   go_wp2_with fail
   go_ret
   exact ⟨rfl,G2.out⟩
 have PW:Aside (w.heap.size≤p):=Nat.le_trans G1.out.size hp
 have PW1:Aside (w1.heap.size≤p):=hp
 have HC0:Aside (HCl HR w2 p (List.replicate 40 none) eps (m0:Int) 0 0):=hcl
 have NOK:Aside (NewOk eps (m0:Int)):=nok
 have GWX:Hid (∀ a b,Gw w1 a→Gx (fun q=>q=p) a b→Gw w1 b):=fun a b g gx=>Gx.gw g gx (fun q hq=>by rw [hq];exact PW1.out)
 have P2:Aside (lb<w1.heap.size):=p2
 clear nok g2 NW hcl hp p1 p2 G2
 go_wp2_with fail
 go_loopg [10] n (fun gg s10 wr=>∃ (i:Nat) (rs:List (Option Rn)) (B W:Int),s10=.int .i64 (i:Int)∧i≤n∧n-i≤gg∧Aside (HCl HR wr p rs eps (m0:Int) B W)∧Aside (tot rs≤sizes (L.take i))∧Aside ((0≤B∧B≤i)∧0≤W∧W≤2000000*i)∧Aside (Gw w1 wr))
 case atStart=>exact ⟨0,_,0,0,rfl,Nat.zero_le _,by omega,HC0,(show Aside _ from Nat.zero_le _),(show Aside _ from ⟨⟨by omega,by omega⟩,by omega,by omega⟩),G12⟩
 case round =>
  clear HC0 G12
  obtain ⟨i,rs,B,W,rfl,a1,a2,HC,TOT,BW,G⟩:=hrel
  obtain ⟨wS,hwS⟩:∃ wx,wx=wr:=⟨_,rfl⟩
  subst hwS
  by_cases hlt:i<n
  ·have hlt':(i:Int)<(n:Int):=by omega
   have GS:Aside (Gw w wS):=G1.out.trans G.out
   obtain ⟨bo,cc,q1,q2,q3,q4,q5⟩:=CEL.out wS GS.out i hlt
   obtain ⟨s1,s2⟩:=sizes_take15 (L:=L) (i:=i) (by rw [LN.out];exact hlt)
   have li0:(L.getD i []).length≤2000000:=Nat.le_trans (rows_le (by rw [LN.out];exact hlt)) HS.out
   have TS:Aside (tot rs+(L.getD i []).length≤sizes (L.take (i+1))∧sizes (L.take (i+1))≤2000000):=⟨by have:=TOT.out;omega,Nat.le_trans s2 HS.out⟩
   obtain ⟨l,hl⟩:∃ l,L.getD i []=l:=⟨_,rfl⟩
   rw [hl] at q1 q3 q4 q5 li0 TS
   have ELI:Aside (EL wS bo l∧l.length≤cc∧(bo=none→l.length=0∧cc=0)):=⟨q4,q3,q5⟩
   obtain ⟨li,hli⟩:∃ m,l.length=m:=⟨_,rfl⟩
   have LI:Aside (l.length=li):=hli
   rw [hli] at q1 li0
   have CI15:Hid (∀ W,Gw wS W→W.cell? ⟨lb,lf+i,none⟩=some (.slice bo li cc)∧lb<W.heap.size):=fun W gg=>⟨(gg.cell _ _ q2).trans q1,Nat.lt_of_lt_of_le q2 gg.size⟩
   obtain ⟨r0,cr0⟩:=ChkR.ex (ek l) (ev l) (eg l) l.length
   have CR0:Aside (ChkR (ek l) (ev l) (eg l) l.length r0):=cr0
   have pS:=HC.out.lt
   clear q3 q4 q5 s1 s2 hli hl cr0 q1 q2
   have O0:Hid ((wS.alloc (.cells #[] 34)).ownsRow wS.heap.size 34 1 (.slice (some ⟨wS.heap.size,0,none⟩) 0 0) 0 []):=World.ownsRow_made wS #[] 0 (Nat.le_refl _) (Nat.zero_le _) rfl
   have NS:Hid (∀ x,ko=some x→∀ j u,((List.range kn).map fun i=>Value.int .u64 (kf i))[j]?=some u→(wS.alloc (.cells #[] 34)).cell? (x.add j)=some u):=ks_news (HKS.out.gw (GS.out.alloc _ _))
   go_wp2_with (at_builtin;refine wpList_append_src _ rfl _ _ 71 rfl wS.heap.size 34 ii (.int .u64 0) 1 8 Tryz.underlying71 hii hz' hs' hby rfl (by decide) _ 0 [] rfl O0.out ko kn kc ((List.range kn).map fun i=>Value.int .u64 (kf i)) rfl HKZ.out (by simp) NS.out (keys_one kn kf) (by simp only [maxLen];omega) (by omega) (by simp) ?_)
   intro v5 w5 r1 r2 r3
   obtain ⟨b5,c5,rfl,hb5,_,_⟩:=own_slice r1 (by simpa using r3)
   have G5:Aside (Gw wS w5):=((Gw.refl wS).alloc _ _).grown r2 (fun q hq=>by have e':wS.heap.size=q:=(by simpa [Value.ownBlock] using hq);omega)
   have O5:Aside (w5.ownsRow wS.heap.size 34 1 (.slice (some ⟨b5,0,none⟩) kn c5) kn (u64s ((List.range kn).map kf))):=by
    show World.ownsRow _ _ _ _ _ _ _
    have e:u64s ((List.range kn).map kf)=(List.range kn).map fun i=>Value.int .u64 (kf i):=by unfold u64s;rw [List.map_map];rfl
    rw [e]
    simpa using r1
   have A5:Aside (((List.range kn).map kf).length=kn∧∀ x∈(List.range kn).map kf,0≤x∧x<18446744073709551616):=⟨by simp,fun x hx=>by
    obtain ⟨j,hj,rfl⟩:=List.mem_map.1 hx
    exact HKS.out.bd j (List.mem_range.1 hj)⟩
   clear r1 r2 r3 O0 NS hb5
   go_upto_block 2 with fail
   go_cut [11,12] from 77 to 100 (fun s11 s12 wc=>∃ (m ab ac:Nat) (A:List Int),s11=.slice (some ⟨ab,0,none⟩) m ac∧m≤kn+50∧Aside (A.length=m∧∀ x∈A,0≤x∧x<18446744073709551616)∧Aside (wc.ownsRow wS.heap.size 34 1 (.slice (some ⟨ab,0,none⟩) m ac) m (u64s A))∧Aside (Gw wS wc))
   case first=>as_aux_lemma =>
    go_wp2_with fail
    go_loopg [11,12] 51 (fun gg s11 s12 wr=>∃ (k m ab ac:Nat) (A:List Int),s11=.slice (some ⟨ab,0,none⟩) m ac∧s12=.int .i64 (k:Int)∧k≤50∧k≤li∧51-k≤gg∧m≤kn+k∧Aside (A.length=m∧∀ x∈A,0≤x∧x<18446744073709551616)∧Aside (wr.ownsRow wS.heap.size 34 1 (.slice (some ⟨ab,0,none⟩) m ac) m (u64s A))∧Aside (Gw wS wr))
    case atStart=>exact ⟨0,kn,b5,c5,_,rfl,rfl,by omega,by omega,by omega,by omega,A5,O5,G5⟩
    case round=>as_aux_lemma =>
     clear O5 A5 G5
     obtain ⟨k,m,ab,ac,A,rfl,rfl,k1,k2,k3,k4,AF,OA,GK⟩:=hrel
     obtain ⟨wK,hwK⟩:∃ wx,wx=wr:=⟨_,rfl⟩
     subst hwK
     obtain ⟨ci1,ci2⟩:=CI15.out wK GK.out
     by_cases klt:k<li∧k<50
     ·obtain ⟨kl1,kl2⟩:=klt
      have kl1':(k:Int)<(li:Int):=by omega
      have kl2':(k:Int)<50:=by omega
      have hkl:k<l.length:=by rw [LI.out];exact kl1
      obtain ⟨eb,ef,rfl,heb,hec⟩:=(ELI.out.1.gw GK.out).cells (by omega)
      obtain ⟨d0,_,_⟩:=hec k hkl
      have xb:=(ELI.out.1.ok hkl).1
      generalize (l.getD k ent0).k=xk at d0 xb
      have wz:=GK.out.size
      clear hec hkl
      go_wp2_with (at_builtin;refine wpList_append_own _ rfl _ _ 71 rfl wS.heap.size 34 ii (.int .u64 0) 1 8 Tryz.underlying71 hii hz' hs' hby rfl (by decide) _ m _ rfl (OA.out.alloc _) ⟨wK.heap.size,0,none⟩ 1 1 [.int .u64 xk] rfl rfl (new_one wK xk) (fun u hu=>by simp at hu;subst hu;rfl) (by simp only [maxLen];omega) (by omega) (by simp;omega) ?_)
      intro v6 w6 r1 r2 r3
      obtain ⟨b6,c6,rfl,hb6,_,_⟩:=own_slice r1 (by simpa using r3)
      have G6:Aside (Gw wS w6):=(GK.out.alloc _ _).grown r2 (fun q hq=>(World.ownsRow.lt OA.out q hq).1)
      have O6:Aside (w6.ownsRow wS.heap.size 34 1 (.slice (some ⟨b6,0,none⟩) (m+1) c6) (m+1) (u64s (A++[xk]))):=by
       show World.ownsRow _ _ _ _ _ _ _
       unfold u64s at r1 ⊢
       rw [List.map_append]
       exact r1
      have A6:Aside ((A++[xk]).length=m+1∧∀ x∈A++[xk],0≤x∧x<18446744073709551616):=⟨by rw [List.length_append,AF.out.1];rfl,fun x hx=>by
       rcases List.mem_append.1 hx with q | q
       ·exact AF.out.2 x q
       ·rw [List.mem_singleton.1 q];exact xb⟩
      clear r1 r2 r3 OA AF hb6 xb
      go_wp2_with fail
      go_roundg (51-(k+1))
      case measure=>omega
      case rel=>exact ⟨k+1,m+1,b6,c6,_,rfl,by go_num,by omega,by omega,Nat.le_refl _,by omega,A6,O6,G6⟩
     ·have FIN:Aside (∃ (m ab ac:Nat) (A:List Int),Value.slice (some ⟨ab,0,none⟩) m ac=.slice (some ⟨ab,0,none⟩) m ac):=⟨m,ab,ac,A,rfl⟩
      have mb:m≤kn+50:=by omega
      by_cases kl:k<li
      ·have kl':(k:Int)<(li:Int):=by omega
       have k50:¬ (k:Int)<50:=by omega
       have k50':¬ k<50:=by omega
       go_wp2_with fail
       go_meet
       case rel=>exact ⟨m,ab,ac,A,rfl,mb,AF,OA,GK⟩
      ·have kl':¬ (k:Int)<(li:Int):=by omega
       go_wp2_with fail
       go_meet
       case rel=>exact ⟨m,ab,ac,A,rfl,mb,AF,OA,GK⟩
   case rest=>as_aux_lemma =>
    clear O5 A5 G5
    obtain ⟨m,ab,ac,A,rfl,mb,AF,OA,GA⟩:=hcut
    obtain ⟨wA,hwA⟩:∃ wx,wx=wc:=⟨_,rfl⟩
    subst hwA
    obtain ⟨may,hmay⟩:∃ may,(decide (r0=0)&&decide ((li:Int)=(m0:Int)))=may:=⟨_,rfl⟩
    have MAY:Hid ((decide (r0=0)&&decide ((li:Int)=(m0:Int)))=may):=hmay
    have GWA:Aside (Gw w1 wA):=G.out.trans GA.out
    clear hmay
    go_upto_region 17 with fail
    go_cut [13] from 101 to 118 (fun s13 wc=>s13=.bool may∧Aside (Gw wA wc))
    case first=>as_aux_lemma =>
     have ne:=GX.some wA
     have ci:=GX.cell (CI15.out wA GA.out).1 (CI15.out wA GA.out).2
     have c00:=GX.cell (C0.out wA GWA.out) (CI15.out wA GA.out).2
     have CK:Hid (∀ g:GX wA,Calls Tryz.prog 28 #[.slice bo li cc] g.1 fun e w'=>e=.returned (.int .i64 r0)∧Gw g.1 w'):=fun g=>by
      have:=rcheck3_any bo l.length cc (ek l) (ev l) (eg l) (by rw [LI.out];omega) g.1 (ELI.out.1.gw (GA.out.trans g.gw))
      rw [LI.out] at this
      refine this.mono fun e w' ⟨⟨r,he,cr⟩,gg⟩=>⟨?_,gg⟩
      have CRR:=CR0.out
      rw [LI.out] at CRR
      rw [he,cr.one CRR]
     have ln1:(i:Int)<(n:Int):=hlt'
     by_cases z:r0=0
     ·have z':(r0 == 0)=true:=by simpa using z
      by_cases y:li=m0
      ·have y':((li:Int) == (m0:Int))=true:=by simp;omega
       have e:may=true:=by rw [←MAY.out,decide_eq_true z,decide_eq_true (by omega)];rfl
       subst e
       clear z y
       refine wp_region_growx (by kernel_rfl) (by kernel_rfl) ?_
       repeat (go_big_quiet_step (fail))
       go_big_quiet_want
       go_big_quiet_op
       go_big_quiet_call (exact growx_of (CK.out _))
       repeat (go_big_quiet_step (fail))
       refine wpQuiet_nil ?_
       rintro _ ⟨gw,rfl⟩
       go_wp2_with fail
       go_meet
       case rel=>exact ⟨rfl,(show Aside _ from gw.gw)⟩
      ·have y':((li:Int) == (m0:Int))=false:=by simp;omega
       have e:may=false:=by rw [←MAY.out,decide_eq_false (show ¬ (li:Int)=(m0:Int) by omega),Bool.and_false]
       subst e
       clear z y
       refine wp_region_growx (by kernel_rfl) (by kernel_rfl) ?_
       repeat (go_big_quiet_step (fail))
       go_big_quiet_want
       go_big_quiet_op
       go_big_quiet_call (exact growx_of (CK.out _))
       repeat (go_big_quiet_step (fail))
       refine wpQuiet_nil ?_
       rintro _ ⟨gw,rfl⟩
       go_wp2_with fail
       go_meet
       case rel=>exact ⟨rfl,(show Aside _ from gw.gw)⟩
     ·have z':(r0 == 0)=false:=by simpa using z
      have e:may=false:=by rw [←MAY.out,decide_eq_false z];rfl
      subst e
      clear z
      refine wp_region_growx (by kernel_rfl) (by kernel_rfl) ?_
      repeat (go_big_quiet_step (fail))
      go_big_quiet_want
      go_big_quiet_op
      go_big_quiet_call (exact growx_of (CK.out _))
      repeat (go_big_quiet_step (fail))
      refine wpQuiet_nil ?_
      rintro _ ⟨gw,rfl⟩
      go_wp2_with fail
      go_meet
      case rel=>exact ⟨rfl,(show Aside _ from gw.gw)⟩
    case rest=>as_aux_lemma =>
     obtain ⟨rfl,GM⟩:=hcut
     obtain ⟨wM,hwM⟩:∃ wx,wx=wc:=⟨_,rfl⟩
     subst hwM
     obtain ⟨bq,hbq⟩:∃ bq:Int→Option Ent,(fun q=>(look Ent.k q (if may then l else [])).or (nw q rs))=bq:=⟨_,rfl⟩
     have BQ:Hid (∀ q,(look Ent.k q (if may then l else [])).or (nw q rs)=bq q):=fun q=>by rw [←hbq]
     have GSM:Aside (Gw wS wM):=GA.out.trans GM.out
     have OM:Aside (wM.ownsRow wS.heap.size 34 1 (.slice (some ⟨ab,0,none⟩) m ac) m (u64s A)):=orow13' OA.out GM.out
     have abl:=OM.out.lt ab rfl
     have ASK:Hid (∀ (W:World) (k:Nat),W.heap[ab]?=wM.heap[ab]?→k<m→W.cell? ⟨ab,k,none⟩=some (.int .u64 (A.getD k 0))∧0≤A.getD k 0∧A.getD k 0<18446744073709551616):=fun W k hW hk=>by
      have hkA:k<A.length:=by rw [AF.out.1];exact hk
      have e:A.getD k 0=A[k]:=by simp [List.getD,hkA]
      refine ⟨?_,?_⟩
      ·rw [World.cell?_of_block (a:=⟨ab,k,none⟩) hW,World.ownsRow.cellAt OM.out k (by omega),e]
       unfold u64s
       simp [hkA]
      ·rw [e];exact AF.out.2 _ (List.getElem_mem hkA)
     have O1:Hid ((wM.alloc (.cells #[] 34)).ownsRow wM.heap.size 34 1 (.slice (some ⟨wM.heap.size,0,none⟩) 0 0) 0 []):=World.ownsRow_made wM #[] 0 (Nat.le_refl _) (Nat.zero_le _) rfl
     obtain ⟨W1,hW1⟩:∃ W1,wM.alloc (.cells #[] 34)=W1:=⟨_,rfl⟩
     have sW1:W1.heap.size=wM.heap.size+1:=by rw [←hW1];simp
     have O2:Hid ((W1.alloc (.cells #[] 4)).ownsRow wM.heap.size 4 1 (.slice (some ⟨W1.heap.size,0,none⟩) 0 0) 0 []):=World.ownsRow_made W1 #[] 0 (by omega) (Nat.zero_le _) rfl
     obtain ⟨W2,hW2⟩:∃ W2,W1.alloc (.cells #[] 4)=W2:=⟨_,rfl⟩
     obtain ⟨sM,hsM⟩:∃ sM,wM.heap.size=sM:=⟨_,rfl⟩
     obtain ⟨s1',hs1'⟩:∃ s1',W1.heap.size=s1':=⟨_,rfl⟩
     have RV0:Aside (W2.ownsRow wM.heap.size 34 1 (.slice (some ⟨sM,0,none⟩) 0 0) 0 []):=by
      have q:=O1.out
      rw [hW1,hsM] at q
      rw [hsM,←hW2]
      exact orow13' q ((Gw.refl W1).alloc _ _)
     have RX0:Aside (W2.ownsRow wM.heap.size 4 1 (.slice (some ⟨s1',0,none⟩) 0 0) 0 []):=by
      have q:=O2.out
      rw [hW2,hs1'] at q
      exact q
     have GW2:Aside (Gw wM W2):=by rw [←hW2,←hW1];exact ((Gw.refl wM).alloc _ _).alloc _ _
     have nes:sM≠s1':=by omega
     have EW1:Hid (wM.alloc (.cells #[] 34)=W1):=hW1
     have EW2:Hid (W1.alloc (.cells #[] 4)=W2):=hW2
     have ESM:Hid (wM.heap.size=sM):=hsM
     have ES1:Hid (W1.heap.size=s1'):=hs1'
     clear hW1 hW2 hsM hs1' sW1 O1 O2 hbq OA AF
     go_upto_region 19 with fail
     rw [EW1.out,ESM.out]
     go_upto_region 20 with fail
     rw [EW2.out,ES1.out]
     clear EW1 EW2 ESM ES1
     go_wp2_with fail
     go_loopg [14,15,16] m (fun gg s14 s15 s16 wr=>∃ (k vb vc xb xc:Nat),s14=.slice (some ⟨vb,0,none⟩) k vc∧s15=.slice (some ⟨xb,0,none⟩) k xc∧s16=.int .i64 (k:Int)∧k≤m∧m-k≤gg∧vb≠xb∧Aside (wr.ownsRow wM.heap.size 34 1 (.slice (some ⟨vb,0,none⟩) k vc) k (u64s ((A.take k).map fun q=>valO (bq q))))∧Aside (wr.ownsRow wM.heap.size 4 1 (.slice (some ⟨xb,0,none⟩) k xc) k (bools ((A.take k).map fun q=>liveO (bq q))))∧Aside (Gw wM wr))
     case atStart=>exact ⟨0,sM,0,s1',0,rfl,rfl,rfl,Nat.zero_le _,by omega,nes,RV0,RX0,GW2⟩
     case round=>as_aux_lemma =>
      clear RV0 RX0 GW2 nes
      obtain ⟨k,vb,vc,xb,xc,rfl,rfl,rfl,k1,k2,vx,RV,RX,GK⟩:=hrel
      obtain ⟨wK,hwK⟩:∃ wx,wx=wr:=⟨_,rfl⟩
      subst hwK
      have GSK:Aside (Gw wS wK):=GSM.out.trans GK.out
      by_cases klt:k<m
      ·have klt':(k:Int)<(m:Int):=by omega
       obtain ⟨ca,qa,qb⟩:=ASK.out wK k (GK.out.below.block ab abl.2) klt
       obtain ⟨ci1,ci2⟩:=CI15.out wK GSK.out
       have abk:ab<wK.heap.size:=Nat.lt_of_lt_of_le abl.2 GK.out.size
       have TK:Aside (A.take (k+1)=A.take k++[A.getD k 0]):=by
        show _=_
        have hkA:k<A.length:=by
         have:=OM.out.1
         unfold u64s at this
         rw [List.length_map] at this
         omega
        rw [List.take_add_one,List.getElem?_eq_getElem hkA,List.getD_eq_getElem?_getD,List.getElem?_eq_getElem hkA]
        rfl
       obtain ⟨qk,hqk⟩:∃ q,A.getD k 0=q:=⟨_,rfl⟩
       rw [hqk] at ca qa qb TK
       obtain ⟨vv,hvv⟩:∃ v,valO (bq qk)=v:=⟨_,rfl⟩
       obtain ⟨aa,haa⟩:∃ a,liveO (bq qk)=a:=⟨_,rfl⟩
       have VV:Aside (valO (bq qk)=vv):=hvv
       have AA:Aside (liveO (bq qk)=aa):=haa
       have WB:Aside (∀ W,Gw wK W→ab<W.heap.size∧W.cell? ⟨ab,k,none⟩=some (.int .u64 qk)):=fun W gg=>⟨Nat.lt_of_lt_of_le abk gg.size,(gg.cell _ _ abk).trans ca⟩
       cases may with
       | true =>
        have NL:Hid (Calls Tryz.prog 29 #[.slice bo li cc, .pointer (some ⟨p,0,none⟩), .int .u64 qk] wK fun e w'=>e=.returned (.tuple #[.int .u64 vv, .bool aa])∧Gw wK w'):=by
         have:=newestL15 HH.out (HC.out.gw HH.out.kp GSK.out) bo cc l (ELI.out.1.gw GSK.out) (by rw [LI.out];exact li0) qk qa qb
         rw [LI.out,show (look Ent.k qk l).or (nw qk rs)=bq qk from BQ.out qk,hvv,haa] at this
         exact this
        clear hqk hvv haa
        go_wp2_with fail
        refine Calls.mono NL.out ?_
        rintro e u1 ⟨rfl,gg⟩
        have GU:Aside (Gw wK u1):=gg
        clear gg NL WB
        have R6:Aside (u1.ownsRow wM.heap.size 34 1 (.slice (some ⟨vb,0,none⟩) k vc) k (u64s ((A.take k).map fun q=>valO (bq q)))):=orow13' RV.out GU.out
        have X6:Aside (u1.ownsRow wM.heap.size 4 1 (.slice (some ⟨xb,0,none⟩) k xc) k (bools ((A.take k).map fun q=>liveO (bq q)))):=orow13' RX.out GU.out
        have GM1:Aside (Gw wM u1):=GK.out.trans GU.out
        have zM:=GM1.out.size
        have xbl:xb<u1.heap.size:=(World.ownsRow.lt X6.out xb rfl).2
        have vbl:vb<u1.heap.size:=(World.ownsRow.lt R6.out vb rfl).2
        clear RV RX GU
        go_wp2_with (at_builtin;refine wpList_append_own_at _ rfl _ _ 71 rfl wM.heap.size 34 ii (.int .u64 0) 1 8 Tryz.underlying71 hii hz' hs' hby rfl (by decide) _ k _ rfl (R6.out.alloc _) ⟨u1.heap.size,0,none⟩ 1 1 [.int .u64 vv] rfl rfl (new_one u1 vv) (fun u hu=>by simp at hu;subst hu;rfl) (by simp only [maxLen];omega) (by omega) (by simp;omega) ?_)
        intro v6 w6 r1 r2 r3 r4
        obtain ⟨b6,c6,rfl,hb6,_,b6l⟩:=own_slice r1 (by simpa using r3)
        have ne6:b6≠xb:=by
         rcases r4 with q | q
         ·have q':b6=vb:=by simpa [Value.ownBlock] using q
          omega
         ·have q':b6=u1.heap.size+1:=by simpa [Value.ownBlock] using q
          omega
        have X7:Aside (w6.ownsRow wM.heap.size 4 1 (.slice (some ⟨xb,0,none⟩) k xc) k (bools ((A.take k).map fun q=>liveO (bq q)))):=own_other15 X6.out r2 (fun e=>vx e.symm)
        have G6:Aside (Gw wM w6):=(GM1.out.alloc _ _).grown r2 (fun q hq=>(World.ownsRow.lt R6.out q hq).1)
        have R7:Aside (w6.ownsRow wM.heap.size 34 1 (.slice (some ⟨b6,0,none⟩) (k+1) c6) (k+1) (u64s ((A.take (k+1)).map fun q=>valO (bq q)))):=by
         show World.ownsRow _ _ _ _ _ _ _
         rw [TK.out,List.map_append]
         unfold u64s at r1 ⊢
         rw [List.map_append]
         rw [show List.map (Value.int IntKind.u64) (List.map (fun q=>valO (bq q)) [qk])=[.int .u64 vv] by show [Value.int .u64 (valO (bq qk))]=_;rw [VV.out]]
         first | exact r1 | (rw [←List.map_take] at r1;exact r1)
        have z6:=G6.out.size
        have x6l:xb<w6.heap.size:=(World.ownsRow.lt X7.out xb rfl).2
        have x7:(bools ((A.take k).map fun q=>liveO (bq q))).length=k*1:=X7.out.1
        clear r1 r2 r3 r4 hb6 R6 X6 x7
        go_wp2_with (at_builtin;refine wpList_append_own_at _ rfl _ _ 73 rfl wM.heap.size 4 jj (.bool false) 1 1 Tryz.underlying73 hjj jz js jby rfl (by decide) _ k _ rfl (X7.out.alloc _) ⟨w6.heap.size,0,none⟩ 1 1 [.bool aa] rfl rfl (one_row15 w6 (.bool aa) 4) (fun u hu=>by simp at hu;subst hu;rfl) (by simp only [maxLen];omega) (by omega) (by simp;omega) ?_)
        intro v8 w8 r1 r2 r3 r4
        obtain ⟨b8,c8,rfl,hb8,_,_⟩:=own_slice r1 (by simpa using r3)
        have ne8:b6≠b8:=by
         rcases r4 with q | q
         ·have q':b8=xb:=by simpa [Value.ownBlock] using q
          omega
         ·have q':b8=w6.heap.size+1:=by simpa [Value.ownBlock] using q
          omega
        have R8:Aside (w8.ownsRow wM.heap.size 34 1 (.slice (some ⟨b6,0,none⟩) (k+1) c6) (k+1) (u64s ((A.take (k+1)).map fun q=>valO (bq q)))):=own_other15 R7.out r2 ne6
        have G8:Aside (Gw wM w8):=(G6.out.alloc _ _).grown r2 (fun q hq=>(World.ownsRow.lt X7.out q hq).1)
        have X8:Aside (w8.ownsRow wM.heap.size 4 1 (.slice (some ⟨b8,0,none⟩) (k+1) c8) (k+1) (bools ((A.take (k+1)).map fun q=>liveO (bq q)))):=by
         show World.ownsRow _ _ _ _ _ _ _
         rw [TK.out,List.map_append]
         unfold bools at r1 ⊢
         rw [List.map_append]
         rw [show List.map Value.bool (List.map (fun q=>liveO (bq q)) [qk])=[.bool aa] by show [Value.bool (liveO (bq qk))]=_;rw [AA.out]]
         first | exact r1 | (rw [←List.map_take] at r1;exact r1)
        clear r1 r2 r3 r4 hb8 R7 X7
        go_wp2_with fail
        go_roundg (m-(k+1))
        case measure=>omega
        case rel=>exact ⟨k+1,b6,c6,b8,c8,rfl,rfl,by go_num,by omega,Nat.le_refl _,ne8,R8,X8,G8⟩
       | false =>
        have GE:Aside (Gw wK (wK.alloc (.cells #[] 40))):=(Gw.refl wK).alloc _ _
        have NL:Hid (∀ W b,Gw wK W→Calls Tryz.prog 29 #[.slice (some ⟨b,0,none⟩) 0 0, .pointer (some ⟨p,0,none⟩), .int .u64 qk] W fun e w'=>e=.returned (.tuple #[.int .u64 vv, .bool aa])∧Gw W w'):=fun W b gg=>by
         have:=newestL15 HH.out (HC.out.gw HH.out.kp (GSK.out.trans gg)) (some ⟨b,0,none⟩) 0 [] ⟨fun h=>by simp at h,fun i hi=>by simp at hi⟩ (by simp) qk qa qb
         rw [show (look Ent.k qk []).or (nw qk rs)=bq qk from BQ.out qk,hvv,haa] at this
         exact this
        obtain ⟨w1e,w2e⟩:=WB.out _ GE.out
        clear hqk hvv haa
        go_wp2_with fail
        refine Calls.mono (NL.out _ _ GE.out) ?_
        rintro e u1 ⟨rfl,gg⟩
        have GU:Aside (Gw wK u1):=GE.out.trans gg
        clear gg NL WB w1e w2e GE
        have R6:Aside (u1.ownsRow wM.heap.size 34 1 (.slice (some ⟨vb,0,none⟩) k vc) k (u64s ((A.take k).map fun q=>valO (bq q)))):=orow13' RV.out GU.out
        have X6:Aside (u1.ownsRow wM.heap.size 4 1 (.slice (some ⟨xb,0,none⟩) k xc) k (bools ((A.take k).map fun q=>liveO (bq q)))):=orow13' RX.out GU.out
        have GM1:Aside (Gw wM u1):=GK.out.trans GU.out
        have zM:=GM1.out.size
        have xbl:xb<u1.heap.size:=(World.ownsRow.lt X6.out xb rfl).2
        have vbl:vb<u1.heap.size:=(World.ownsRow.lt R6.out vb rfl).2
        clear RV RX GU
        go_wp2_with (at_builtin;refine wpList_append_own_at _ rfl _ _ 71 rfl wM.heap.size 34 ii (.int .u64 0) 1 8 Tryz.underlying71 hii hz' hs' hby rfl (by decide) _ k _ rfl (R6.out.alloc _) ⟨u1.heap.size,0,none⟩ 1 1 [.int .u64 vv] rfl rfl (new_one u1 vv) (fun u hu=>by simp at hu;subst hu;rfl) (by simp only [maxLen];omega) (by omega) (by simp;omega) ?_)
        intro v6 w6 r1 r2 r3 r4
        obtain ⟨b6,c6,rfl,hb6,_,b6l⟩:=own_slice r1 (by simpa using r3)
        have ne6:b6≠xb:=by
         rcases r4 with q | q
         ·have q':b6=vb:=by simpa [Value.ownBlock] using q
          omega
         ·have q':b6=u1.heap.size+1:=by simpa [Value.ownBlock] using q
          omega
        have X7:Aside (w6.ownsRow wM.heap.size 4 1 (.slice (some ⟨xb,0,none⟩) k xc) k (bools ((A.take k).map fun q=>liveO (bq q)))):=own_other15 X6.out r2 (fun e=>vx e.symm)
        have G6:Aside (Gw wM w6):=(GM1.out.alloc _ _).grown r2 (fun q hq=>(World.ownsRow.lt R6.out q hq).1)
        have R7:Aside (w6.ownsRow wM.heap.size 34 1 (.slice (some ⟨b6,0,none⟩) (k+1) c6) (k+1) (u64s ((A.take (k+1)).map fun q=>valO (bq q)))):=by
         show World.ownsRow _ _ _ _ _ _ _
         rw [TK.out,List.map_append]
         unfold u64s at r1 ⊢
         rw [List.map_append]
         rw [show List.map (Value.int IntKind.u64) (List.map (fun q=>valO (bq q)) [qk])=[.int .u64 vv] by show [Value.int .u64 (valO (bq qk))]=_;rw [VV.out]]
         first | exact r1 | (rw [←List.map_take] at r1;exact r1)
        have z6:=G6.out.size
        have x6l:xb<w6.heap.size:=(World.ownsRow.lt X7.out xb rfl).2
        have x7:(bools ((A.take k).map fun q=>liveO (bq q))).length=k*1:=X7.out.1
        clear r1 r2 r3 r4 hb6 R6 X6 x7
        go_wp2_with (at_builtin;refine wpList_append_own_at _ rfl _ _ 73 rfl wM.heap.size 4 jj (.bool false) 1 1 Tryz.underlying73 hjj jz js jby rfl (by decide) _ k _ rfl (X7.out.alloc _) ⟨w6.heap.size,0,none⟩ 1 1 [.bool aa] rfl rfl (one_row15 w6 (.bool aa) 4) (fun u hu=>by simp at hu;subst hu;rfl) (by simp only [maxLen];omega) (by omega) (by simp;omega) ?_)
        intro v8 w8 r1 r2 r3 r4
        obtain ⟨b8,c8,rfl,hb8,_,_⟩:=own_slice r1 (by simpa using r3)
        have ne8:b6≠b8:=by
         rcases r4 with q | q
         ·have q':b8=xb:=by simpa [Value.ownBlock] using q
          omega
         ·have q':b8=w6.heap.size+1:=by simpa [Value.ownBlock] using q
          omega
        have R8:Aside (w8.ownsRow wM.heap.size 34 1 (.slice (some ⟨b6,0,none⟩) (k+1) c6) (k+1) (u64s ((A.take (k+1)).map fun q=>valO (bq q)))):=own_other15 R7.out r2 ne6
        have G8:Aside (Gw wM w8):=(G6.out.alloc _ _).grown r2 (fun q hq=>(World.ownsRow.lt X7.out q hq).1)
        have X8:Aside (w8.ownsRow wM.heap.size 4 1 (.slice (some ⟨b8,0,none⟩) (k+1) c8) (k+1) (bools ((A.take (k+1)).map fun q=>liveO (bq q)))):=by
         show World.ownsRow _ _ _ _ _ _ _
         rw [TK.out,List.map_append]
         unfold bools at r1 ⊢
         rw [List.map_append]
         rw [show List.map Value.bool (List.map (fun q=>liveO (bq q)) [qk])=[.bool aa] by show [Value.bool (liveO (bq qk))]=_;rw [AA.out]]
         first | exact r1 | (rw [←List.map_take] at r1;exact r1)
        clear r1 r2 r3 r4 hb8 R7 X7
        go_wp2_with fail
        go_roundg (m-(k+1))
        case measure=>omega
        case rel=>exact ⟨k+1,b6,c6,b8,c8,rfl,rfl,by go_num,by omega,Nat.le_refl _,ne8,R8,X8,G8⟩
      ·have ek':k=m:=by omega
       subst ek'
       have am:A.take k=A:=List.take_of_length_le (by
        have:=OM.out.1
        unfold u64s at this
        rw [List.length_map] at this
        omega)
       rw [am] at RV RX
       obtain ⟨ci1,ci2⟩:=CI15.out wK GSK.out
       have TKE:Hid (Calls Tryz.prog 13 #[.pointer (some ⟨p,0,none⟩), .slice bo li cc] wK fun e w'=>(∃ (x y z er:Int) (rs':List (Option Rn)) (B' W':Int),e=.returned (.tuple #[.agg #[.int .i64 x, .int .i64 y, .int .i64 z], .int .i64 er])∧(er == 0)=may∧HCl HR w' p rs' eps (m0:Int) B' W'∧(∀ q,liveO (nw q rs')=liveO (bq q)∧(liveO (nw q rs')=true→nw q rs'=bq q))∧tot rs'≤tot rs+l.length∧(0≤B'∧B'≤B+1)∧0≤W'∧W'≤W+2000000)∧Gx (fun q=>q=p) wK w'):=by
        have:=keep15 HH.out (HC.out.gw HH.out.kp GSK.out) bo cc l may r0 CR0.out (by rw [LI.out];exact MAY.out.symm) (ELI.out.1.gw GSK.out) ELI.out.2.1 ELI.out.2.2 (by have:=TS.out;omega) (by have:=BW.out;omega) (by have:=BW.out;omega)
        rw [LI.out] at this
        simp only [BQ.out] at this
        rw [LI.out]
        exact this
       go_wp2_with fail
       refine Calls.mono TKE.out ?_
       rintro e u1 ⟨⟨x,y,z,er,rs',B',W',rfl,her,hc',lq,tot',b',c'⟩,gx⟩
       have HC1:Aside (HCl HR u1 p rs' eps (m0:Int) B' W'):=hc'
       have LQ:Aside (∀ q,liveO (nw q rs')=liveO (bq q)∧(liveO (nw q rs')=true→nw q rs'=bq q)):=lq
       have INV':Aside (tot rs'≤sizes (L.take (i+1))):=by have:=TS.out;show _≤_;omega
       have BW':Aside ((0≤B'∧B'≤((i+1:Nat):Int))∧0≤W'∧W'≤2000000*((i+1:Nat):Int)):=by have:=BW.out;exact ⟨⟨by omega,by omega⟩,by omega,by omega⟩
       have GN:Aside (Gw w1 u1):=GWX.out _ _ (G.out.trans GSK.out) gx
       have pM:=GSM.out.size
       have abp:ab≠p:=by have:=abl.1;omega
       have vbp:vb≠p:=by have:=(RV.out.lt vb rfl).1;omega
       have xbp:xb≠p:=by have:=(RX.out.lt xb rfl).1;omega
       have RV1:Aside (u1.ownsRow wM.heap.size 34 1 (.slice (some ⟨vb,0,none⟩) k vc) k (u64s (A.map fun q=>valO (bq q)))):=own_stay15 RV.out (gx.block vb (RV.out.lt vb rfl).2 vbp)
       have RX1:Aside (u1.ownsRow wM.heap.size 4 1 (.slice (some ⟨xb,0,none⟩) k xc) k (bools (A.map fun q=>liveO (bq q)))):=own_stay15 RX.out (gx.block xb (RX.out.lt xb rfl).2 xbp)
       have AB1:Aside (u1.heap[ab]?=wM.heap[ab]?∧ab<u1.heap.size):=⟨(gx.block ab (Nat.lt_of_lt_of_le abl.2 GK.out.size) abp).trans (GK.out.below.block ab abl.2),Nat.lt_of_lt_of_le (Nat.lt_of_lt_of_le abl.2 GK.out.size) gx.size⟩
       clear hc' lq tot' b' c' gx TKE RV RX GK GSK ci1 ci2 am
       obtain ⟨wT,hwT⟩:∃ wT,u1.alloc (.cells #[.int .i64 x, .int .i64 y, .int .i64 z] 42)=wT:=⟨_,rfl⟩
       have GT:Aside (Gw u1 wT):=by rw [←hwT];exact (Gw.refl u1).alloc _ _
       have EWT:Hid (u1.alloc (.cells #[.int .i64 x, .int .i64 y, .int .i64 z] 42)=wT):=hwT
       clear hwT
       go_upto_region 30 with fail
       rw [EWT.out]
       clear EWT
       have heq:∀ W:World,(binOp .neq 4 (.bool may) (.bool may)).run Tryz.prog W=.ok (.bool false) W:=fun W=>by cases may<;>kernel_rfl
       go_wp2_with fail
       go_loopg [22] k (fun gg s22 wr=>∃ a:Nat,s22=.int .i64 (a:Int)∧a≤k∧k-a≤gg∧Aside (Gw wT wr))
       case atStart=>exact ⟨0,rfl,Nat.zero_le _,by omega,(show Aside _ from Gw.refl wT)⟩
       case round=>as_aux_lemma =>
        obtain ⟨a,rfl,y1,y2,GY⟩:=hrel
        obtain ⟨wY,hwY⟩:∃ wx,wx=wr:=⟨_,rfl⟩
        subst hwY
        have GUY:Aside (Gw u1 wY):=GT.out.trans GY.out
        by_cases alt:a<k
        ·have alt':(a:Int)<(k:Int):=by omega
         have GE:Aside (Gw wY (wY.alloc (.cells #[] 40))):=(Gw.refl wY).alloc _ _
         have hA:A.length=k:=by
          have:=OM.out.1
          unfold u64s at this
          rw [List.length_map] at this
          omega
         have haA:a<A.length:=by omega
         have eA:A.getD a 0=A[a]:=by simp [List.getD,haA]
         have CQ:Hid (∀ W,Gw u1 W→(W.cell? ⟨ab,a,none⟩=some (.int .u64 (A.getD a 0))∧ab<W.heap.size)∧(W.cell? ⟨vb,a,none⟩=some (.int .u64 (valO (bq (A.getD a 0))))∧vb<W.heap.size)∧W.cell? ⟨xb,a,none⟩=some (.bool (liveO (bq (A.getD a 0))))∧xb<W.heap.size):=fun W gg=>by
          refine ⟨⟨(ASK.out W a ((gg.below.block ab AB1.out.2).trans AB1.out.1) alt).1,Nat.lt_of_lt_of_le AB1.out.2 gg.size⟩,⟨?_,Nat.lt_of_lt_of_le (RV1.out.lt vb rfl).2 gg.size⟩,?_,Nat.lt_of_lt_of_le (RX1.out.lt xb rfl).2 gg.size⟩
          ·rw [World.ownsRow.cellAt (orow13' RV1.out gg) a (by omega),eA]
           unfold u64s
           simp [haA]
          ·rw [World.ownsRow.cellAt (orow13' RX1.out gg) a (by omega),eA]
           unfold bools
           simp [haA]
         obtain ⟨qa,qb⟩:=(ASK.out wY a ((GUY.out.below.block ab AB1.out.2).trans AB1.out.1) alt).2
         have LQA:=LQ.out (A.getD a 0)
         obtain ⟨qk,hqk⟩:∃ q,A.getD a 0=q:=⟨_,rfl⟩
         rw [hqk] at CQ qa qb LQA
         obtain ⟨vv,hvv⟩:∃ v,valO (nw qk rs')=v:=⟨_,rfl⟩
         obtain ⟨aa,haa⟩:∃ a,liveO (nw qk rs')=a:=⟨_,rfl⟩
         have NL:Hid (∀ W b,Gw u1 W→Calls Tryz.prog 29 #[.slice (some ⟨b,0,none⟩) 0 0, .pointer (some ⟨p,0,none⟩), .int .u64 qk] W fun e w'=>e=.returned (.tuple #[.int .u64 vv, .bool aa])∧Gw W w'):=fun W b gg=>by
          have:=newestL15 HH.out (HC1.out.gw HH.out.kp gg) (some ⟨b,0,none⟩) 0 [] ⟨fun h=>by simp at h,fun i hi=>by simp at hi⟩ (by simp) qk qa qb
          rw [show (look Ent.k qk []).or (nw qk rs')=nw qk rs' from rfl,hvv,haa] at this
          exact this
         have CE:Hid (∀ W,Gw u1 W→(W.cell? ⟨ab,a,none⟩=some (.int .u64 qk)∧ab<W.heap.size)∧(∃ vx,W.cell? ⟨vb,a,none⟩=some (.int .u64 vx)∧(aa=true→vx=vv))∧vb<W.heap.size∧W.cell? ⟨xb,a,none⟩=some (.bool aa)∧xb<W.heap.size):=fun W gg=>by
          obtain ⟨q1,⟨q2,q3⟩,q4,q5⟩:=CQ.out W gg
          refine ⟨q1,⟨_,q2,fun h=>?_⟩,q3,by rw [q4,←LQA.1,haa],q5⟩
          rw [←haa] at h
          rw [←LQA.2 h,hvv]
         obtain ⟨⟨f1,f2⟩,_⟩:=CE.out _ (GUY.out.trans GE.out)
         clear hqk hvv haa LQA CQ hA haA eA qa qb
         go_wp2_with fail
         refine Calls.mono (NL.out _ _ (GUY.out.trans GE.out)) ?_
         rintro e u2 ⟨rfl,gg⟩
         have G2':Aside (Gw wT u2):=(GY.out.trans GE.out).trans gg
         obtain ⟨_,⟨vx,h1,h2⟩,h3,h4,h5⟩:=CE.out u2 (GT.out.trans G2'.out)
         clear gg NL CE f1 f2 GE
         cases aa with
         | true =>
          have e:=h2 rfl
          subst e
          clear h2
          go_wp2_with fail
          go_roundg (k-(a+1))
          case measure=>omega
          case rel=>exact ⟨a+1,by go_num,by omega,Nat.le_refl _,G2'⟩
         | false =>
          clear h2
          go_wp2_with fail
          go_roundg (k-(a+1))
          case measure=>omega
          case rel=>exact ⟨a+1,by go_num,by omega,Nat.le_refl _,G2'⟩
        ·have HCN:Aside (HCl HR wY p rs' eps (m0:Int) B' W'):=HC1.out.gw HH.out.kp GUY.out
         have GNN:Aside (Gw w1 wY):=GN.out.trans GUY.out
         have alt':¬ (a:Int)<(k:Int):=by omega
         go_wp2_with fail
         go_roundg (n-(i+1))
         case measure=>omega
         case rel=>exact ⟨i+1,rs',B',W',by go_num,by omega,Nat.le_refl _,HCN,INV',BW',GNN⟩
  ·have ei:i=n:=by omega
   subst ei
   go_wp2_with fail
   go_ret
   exact ⟨rfl,G1.out.trans G.out⟩
end Go.Proofs.YtepcddmkfdlcjaaGreat
