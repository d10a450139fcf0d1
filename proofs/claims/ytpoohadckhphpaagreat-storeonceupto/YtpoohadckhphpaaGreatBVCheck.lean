/- The document's Check of layer 8. -/
import Derived.Deep.DeepCutAuto
import Derived.Test.YtpoohadckhphpaaGreatBPFg
set_option linter.unusedVariables false
set_option maxHeartbeats 8000000
set_option maxRecDepth 10000
open Go.Proofs.Tryz
namespace Go.Proofs.YtpoohadckhphpaaGreat
open Go.RowKit
attribute [local go_sem] run_store_float
def CheckR (eps:Int) (f:Nat->Int) (n:Nat) (L:List (List Sg)) (E:Int):Prop :=
 (¬ (2<=eps/\eps<=64)/\E=1)\/((2<=eps/\eps<=64)/\¬ Up f n/\E=80)\/((2<=eps/\eps<=64)/\Up f n/\¬ ((L.length:Int)<=mxh 4294967296 eps/\(L.length=0↔n=0))/\E=81)\/((2<=eps/\eps<=64)/\Up f n/\((L.length:Int)<=mxh 4294967296 eps/\(L.length=0↔n=0))/\E=chkE eps f n L)
theorem CheckR.one {eps:Int} {f:Nat->Int} {n:Nat} {L:List (List Sg)} {E E':Int} (h:CheckR eps f n L E) (h':CheckR eps f n L E'):E=E':=by
 rcases h with ⟨a,rfl⟩ | ⟨a,b,rfl⟩ | ⟨a,b,c,rfl⟩ | ⟨a,b,c,rfl⟩<;>rcases h' with ⟨a',rfl⟩ | ⟨a',b',rfl⟩ | ⟨a',b',c',rfl⟩ | ⟨a',b',c',rfl⟩<;>first
  | rfl
  | exact absurd a a'
  | exact absurd a' a
  | exact absurd b b'
  | exact absurd b' b
  | exact absurd c c'
  | exact absurd c' c
theorem dropL_at {L:List (List Sg)} {i:Nat} (h:i<L.length):L.drop i=L.getD i []::L.drop (i+1):=by
 rw [List.drop_eq_getElem_cons h,List.getD_eq_getElem?_getD,List.getElem?_eq_getElem h];rfl
theorem ks_cut {w:World} {bk off n a b:Nat} {f:Nat->Int} (h:KS w (some ⟨bk,off,none⟩) n f) (hb:b<=n):KS w (some ⟨bk,off+a,none⟩) (b-a) (sh f a) :=
 ⟨fun h0=>by
  obtain ⟨b',o',e,hl,hc⟩:=h.cells (by omega)
  cases e
  exact ⟨bk,off+a,rfl,hl,fun i hi=>by rw [Nat.add_assoc];exact hc (a+i) (by omega)⟩,fun i hi=>h.bd (a+i) (by omega)⟩
def restE (eps:Int) (l:List Sg) (r:List (List Sg)):Int:=if r=[] then (if l.length=1 then 0 else 84) else chkE eps (fst8 l) l.length r
theorem chkE_cons {eps:Int} {f:Nat->Int} {n:Nat} {l:List Sg} {r:List (List Sg)}:chkE eps f n (l::r)=if (tileB n 0 l&&!l.isEmpty)=false then 82 else if lvlE eps f l≠0 then lvlE eps f l else restE eps l r:=rfl
theorem lvlE_cons {eps:Int} {f:Nat->Int} {s:Sg} {l:List Sg}:lvlE eps f (s::l)=if segE eps f s≠0 then segE eps f s else lvlE eps f l:=rfl
theorem rcheck8_any (eps:Int) (ao:Option Addr) (n cp:Nat) (f:Nat->Int) (lo:Option Addr) (lc:Nat) (L:List (List Sg)) (e0:-9223372036854775808<=eps) (e1:eps<9223372036854775808) (hn:n<=4000000) (hcp:n<=cp) (hL:L.length<=4000000) (hl:∀ i,i<L.length->(L.getD i []).length<=4000000) (w:World) (h:KS w ao n f) (hv:VS w lo L) :
  Calls prog 87 #[.slice ao n cp,.int .i64 eps,.slice lo L.length lc] w fun e w'=>(∃ E,e=.returned (.int .i64 E)/\CheckR eps f n L E)/\Gw w w':=by
 have HK:Aside (KS w ao n f):=h;have HV:Aside (VS w lo L):=hv;have HL:Aside (∀ i,i<L.length->(L.getD i []).length<=4000000):=hl;clear h hv hl;by_cases k0:¬ (2<=eps/\eps<=64)
 ·have R:Aside (CheckR eps f n L 1):=.inl ⟨k0,rfl⟩
  generalize L.length=ln at hL ⊢;by_cases h2:eps<2
  ·have t1:decide (eps<2)=true:=by simpa using h2
   clear k0 h2;go_enter func87,ntmps87;go_wp2_with fail;go_ret;exact ⟨⟨1,rfl,R.out⟩,Gw.refl w⟩
  ·have t1:decide (eps<2)=false:=by simpa using h2
   have t2:decide (64<eps)=true:=by simp;omega
   clear k0 h2;go_enter func87,ntmps87;go_wp2_with fail;go_ret;exact ⟨⟨1,rfl,R.out⟩,Gw.refl w⟩
 ·have KE:Aside (2<=eps/\eps<=64):=Classical.not_not.1 k0
  have t1:decide (eps<2)=false:=by have:=KE.out;simp;omega
  have t2:decide (64<eps)=false:=by have:=KE.out;simp;omega
  have RI:Hid _:=fun W h=>rrising_any ao n cp f (by omega) W h
  have MX:Hid (∀ W,Calls prog 133 #[.int .i64 4294967296,.int .i64 eps] W fun ex w'=>ex=.returned (.int .i64 (mxh 4294967296 eps))/\Gw W w'):=fun W=>rmaxh_any 4294967296 eps (by decide) (by decide) e0 e1 W
  obtain ⟨H,hH⟩:∃ H,mxh 4294967296 eps=H:=⟨_,rfl⟩;have HH:Aside (mxh 4294967296 eps=H):=hH;rw [hH] at MX;clear hH k0;obtain ⟨ln,hln⟩:∃ ln,L.length=ln:=⟨_,rfl⟩;have LN:Aside (L.length=ln):=hln;rw [hln] at hL ⊢;clear hln;go_enter func87,ntmps87;go_wp2_with fail;refine (RI.out _ HK.out).mono ?_;rintro ex w1 ⟨⟨r,rfl,hr⟩,g1⟩;have G1:Aside (Gw w w1):=g1;have HR:Aside (r=true↔Up f n):=hr;clear hr g1;cases r with
  | false =>
   have R:Aside (CheckR eps f n L 80):=.inr (.inl ⟨KE.out,fun q=>by have:=HR.out.2 q;simp at this,rfl⟩)
   go_wp2_with fail;go_ret
   exact ⟨⟨80,rfl,R.out⟩,G1.out⟩
  | true =>
   have UP:Aside (Up f n):=HR.out.1 rfl;clear HR;go_wp2_with fail;refine (MX.out _).mono ?_;rintro ex w2 ⟨rfl,g2⟩;have G2:Aside (Gw w w2):=G1.out.trans g2;clear g2 G1 MX;by_cases hh:((ln:Int)<=H/\(ln=0↔n=0))
   ·have tH:decide (H<(ln:Int))=false:=by simp;omega
    obtain ⟨E,hE⟩:∃ E,chkE eps f n L=E:=⟨_,rfl⟩;have RR:Aside (CheckR eps f n L E):=.inr (.inr (.inr ⟨KE.out,UP.out,by rw [LN.out,HH.out];exact hh,hE.symm⟩))
    have ZZ:Aside ((ln=0/\n=0)\/(0<ln/\0<n)):=by show _\/_;omega
    have HE:Aside (chkE eps f n L=E):=hE;clear hE;rcases ZZ.out with ⟨z1,z2⟩ | ⟨z1,z2⟩
    ·subst z1 z2
     have E0:E=0:=by
      rw [<-HE.out,List.eq_nil_of_length_eq_zero LN.out];rfl
     subst E0;go_wp2_with fail;go_loopg [7] 0 (fun gg s7 wr=>s7=.int .i64 0/\Aside (Gw w wr))
     case atStart=>exact ⟨rfl,G2⟩
     case round =>
      obtain ⟨rfl,G⟩:=hrel;go_wp2_with fail;go_ret;exact ⟨⟨0,rfl,RR.out⟩,G.out⟩
    ·have b1:((ln:Int) == 0)=false:=by simp;omega
     have b2:((n:Int) == 0)=false:=by simp;omega
     have nl:¬ ln=0:=by omega
     have nn:¬ n=0:=by omega
     go_wp2_with fail;go_loopg [0,7] ln (fun gg s0 s7 wr=>∃ (i m c:Nat) (bo:Option Addr) (g:Nat->Int),s0=.slice bo m c/\s7=.int .i64 i/\i<=ln/\ln-i<=gg/\m<=4000000/\m<=c/\Aside (KS wr bo m g)/\Aside (Up g m)/\Aside (i<ln->E=chkE eps g m (L.drop i))/\Aside (i=ln->E=if (L.getD (i-1) []).length=1 then 0 else 84)/\Aside (Gw w wr))
     case atStart=>exact ⟨0,n,cp,ao,f,rfl,rfl,Nat.zero_le _,by omega,hn,hcp,(show Aside _ from HK.out.gw G2.out),UP,(show Aside _ from fun _=>HE.out.symm),(show Aside _ from fun q=>by omega),G2⟩
     case round =>
      clear G2 HK UP HE;obtain ⟨i,m,c,bo,g,rfl,rfl,h1,h2,h3,h4,K,U,EC,EL,G⟩:=hrel;by_cases hlt:i<ln
      ·obtain ⟨lb,lf,rfl,hlb,hc⟩:=(HV.out.gw G.out).cells (by rw [LN.out];omega)
       obtain ⟨so,sc,q1,q2,q3,q4⟩:=hc i (by rw [LN.out];exact hlt)
       have sl:=HL.out i (by rw [LN.out];exact hlt)
       have ED:Aside (E=chkE eps g m (L.getD i []::L.drop (i+1))):=by rw [<-dropL_at (by rw [LN.out];exact hlt)];exact EC.out hlt
       have EF:Aside (i+1=ln->L.drop (i+1)=[]):=fun q=>List.drop_eq_nil_of_le (by rw [LN.out];omega)
       have EG:Aside (i+1<ln->L.drop (i+1)≠[]):=fun q e=>by have:=congrArg List.length e;rw [List.length_drop,LN.out] at this;simp at this;omega
       have LAST:Aside (L.getD (i+1-1) []=L.getD i []):=rfl;clear hc EC EL;generalize L.getD i []=l at q1 q2 q3 q4 sl ED LAST;obtain ⟨r,hr⟩:∃ r,L.drop (i+1)=r:=⟨_,rfl⟩;have RD:Aside (L.drop (i+1)=r):=hr;rw [hr] at ED EF EG;clear hr;have GL:Aside (GS wr so l):=q4;clear q4;have T:=rtiles_any so sc l m sl h3;obtain ⟨tb,htb⟩:∃ tb,(tileB m 0 l&&!l.isEmpty)=tb:=⟨_,rfl⟩;have TB:Aside ((tileB m 0 l&&!l.isEmpty)=tb):=htb;rw [htb] at T;clear htb;obtain ⟨sn,hsn⟩:∃ sn,l.length=sn:=⟨_,rfl⟩;have SN:Aside (l.length=sn):=hsn;rw [hsn] at T q1 q2 q3 sl;have TL:Hid (∀ W,GS W so l->Calls prog 134 #[.slice so sn sc,.int .i64 (m:Int)] W fun e w'=>e=.returned (.bool tb)/\Gw W w'):=fun W h=>T W h
       clear T hsn;go_wp2_with fail;refine (TL.out _ GL.out).mono ?_;rintro e w3 ⟨rfl,g3⟩;have G3:Aside (Gw w w3):=G.out.trans g3;have K3:Aside (KS w3 bo m g):=K.out.gw g3;have GL3:Aside (GS w3 so l):=GL.out.gw g3;have L3:w3.cell? ⟨lb,lf+i,none⟩=some (.slice so sn sc):=(g3.cell _ _ hlb).trans q1;have lb3:lb<w3.heap.size:=Nat.lt_of_lt_of_le hlb g3.size;clear g3 G K GL q1 hlb TL;cases tb with
       | false =>
        have E82:E=82:=by rw [ED.out,chkE_cons,if_pos TB.out]
        subst E82;go_wp2_with fail;go_ret;exact ⟨⟨82,rfl,RR.out⟩,G3.out⟩
       | true =>
        have EI:Aside (E=if lvlE eps g l≠0 then lvlE eps g l else restE eps l r):=by
         show E=_;rw [ED.out,chkE_cons,if_neg (by rw [TB.out];decide)]
        have TI:Aside (tileB m 0 l=true):=by
         have:=TB.out
         rw [Bool.and_eq_true] at this;exact this.1
        clear ED TB;go_wp2_with fail;go_loopg [8] sn (fun gg s8 wr=>∃ k:Nat,s8=.int .i64 k/\k<=sn/\sn-k<=gg/\Aside (E=if lvlE eps g (l.drop k)≠0 then lvlE eps g (l.drop k) else restE eps l r)/\Aside (∀ j,j<k->segE eps g (l.getD j sg0)=0)/\Aside (Gw w wr)/\Aside (Gw w3 wr))
        case atStart=>exact ⟨0,rfl,Nat.zero_le _,by omega,EI,(show Aside _ from fun j hj=>by omega),G3,(show Aside _ from Gw.refl w3)⟩
        case round =>
         clear EI G3;obtain ⟨k,rfl,j1,j2,EI,PR,G,GW⟩:=hrel;have q1:wr.cell? ⟨lb,lf+i,none⟩=some (.slice so sn sc):=(GW.out.cell _ _ lb3).trans L3;have hlb:lb<wr.heap.size:=Nat.lt_of_lt_of_le lb3 GW.out.size;by_cases klt:k<sn
         ·obtain ⟨sb,sf,rfl,hsb,hc⟩:=(GL3.out.gw GW.out).cells (by rw [SN.out];omega)
          have C:=hc k (by rw [SN.out];exact klt)
          have EJ:Aside (E=if lvlE eps g (l.getD k sg0::l.drop (k+1))≠0 then lvlE eps g (l.getD k sg0::l.drop (k+1)) else restE eps l r):=by
           rw [<-drop_at (by rw [SN.out];exact klt)];exact EI.out
          have TA:=tile_at TI.out k (by rw [SN.out];exact klt)
          have OK:=GL3.out.ok k (by rw [SN.out];exact klt)
          clear hc EI;obtain ⟨s,hs⟩:∃ s,l.getD k sg0=s:=⟨_,rfl⟩;have SK:Aside (l.getD k sg0=s):=hs;rw [hs] at C EJ TA OK;clear hs;obtain ⟨fa,hfa⟩:∃ fa:Nat,s.fr=fa:=⟨s.fr.toNat,by omega⟩
          obtain ⟨tb,htb⟩:∃ tb:Nat,s.te=tb:=⟨s.te.toNat,by omega⟩
          have fm:fa<m:=by omega
          have ft:fa<tb:=by omega
          have tm:tb<=m:=by omega
          clear TA;obtain ⟨sk,ssl,sic,sfr,ste⟩:=s;obtain rfl:sfr=fa:=hfa;obtain rfl:ste=tb:=htb;have c0:wr.cell? ⟨sb,sf+k*5,none⟩=some (.int .u64 sk):=C.c0;have c1:wr.cell? ⟨sb,sf+k*5+1,none⟩=some (.float .f64 ssl):=C.c1;have c2:wr.cell? ⟨sb,sf+k*5+2,none⟩=some (.float .f64 sic):=C.c2;have c3:wr.cell? ⟨sb,sf+k*5+3,none⟩=some (.int .i64 (fa:Int)):=C.c3;have c4:wr.cell? ⟨sb,sf+k*5+4,none⟩=some (.int .i64 (tb:Int)):=C.c4;have RC:=fun W=>rcheck_any sk ssl sic fa tb W (by omega) (by omega) (by omega) (by omega)
          have RO:Hid (∀ (bo:Option Addr) (cc:Nat) W,KS W bo (tb-fa) (sh g fa)->_):=fun bo cc W h=>roff_any sk ssl sic fa tb OK.k0 OK.k1 (by omega) (by omega) (by omega) (by omega) bo (tb-fa) cc (sh g fa) (by omega) W h
          obtain ⟨X,hX⟩:∃ X,errM ssl sic fa tb=X:=⟨_,rfl⟩;have EX:Aside (errM ssl sic fa tb=X):=hX;rw [hX] at RC;have RC':Hid (∀ W,Calls prog 135 #[segV sk ssl sic fa tb] W fun e w'=>e=.returned (.int .i64 X)/\Gw W w'):=RC
          have SB4:Aside (Sb (wr.alloc (.cells #[.int .u64 sk,.float .f64 ssl,.float .f64 sic,.int .i64 (fa:Int),.int .i64 (tb:Int)] 110)) wr.heap.size sk ssl sic fa tb):=heap_alloc_new wr _;have G4:Aside (Gw w (wr.alloc (.cells #[.int .u64 sk,.float .f64 ssl,.float .f64 sic,.int .i64 (fa:Int),.int .i64 (tb:Int)] 110))):=G.out.alloc _ _;have GW4:Aside (Gw w3 (wr.alloc (.cells #[.int .u64 sk,.float .f64 ssl,.float .f64 sic,.int .i64 (fa:Int),.int .i64 (tb:Int)] 110))):=GW.out.alloc _ _;clear C OK RC hX G GW;go_wp2_with fail;generalize wr.alloc (.cells #[.int .u64 sk,.float .f64 ssl,.float .f64 sic,.int .i64 (fa:Int),.int .i64 (tb:Int)] 110)=w4 at SB4 G4 GW4 ⊢;obtain ⟨xb,hxb⟩:∃ xb,wr.heap.size=xb:=⟨_,rfl⟩;rw [hxb] at SB4 ⊢;clear hxb c0 c1 c2 c3 c4 hlb hsb q1;refine (RC'.out _).mono ?_;rintro e w5 ⟨rfl,g5⟩;have SB5:Aside (Sb w5 xb sk ssl sic fa tb):=SB4.out.gw g5;have G5:Aside (Gw w w5):=G4.out.trans g5;have GW5:Aside (Gw w3 w5):=GW4.out.trans g5;clear g5 SB4 G4 GW4 RC';by_cases x0:X=0
          ·subst x0
           obtain ⟨z0,z1,z2,z3,z4⟩:=SB5.out.cells;have zl:=SB5.out.lt;have SE:Aside (segE eps g ⟨sk,ssl,sic,fa,tb⟩=if sk≠g fa then 83 else if eps<worst (away sk ssl sic fa tb (sh g fa)) (tb-fa) then 85 else 0):=by
            show segE eps g ⟨sk,ssl,sic,fa,tb⟩=_;unfold segE;show (if errM ssl sic fa tb≠0 then _ else _)=_
            rw [if_neg (fun q=>q EX.out)]
            show (if sk≠g (Int.toNat (fa:Int)) then 83 else if eps<worst (away sk ssl sic fa tb (sh g (Int.toNat (fa:Int)))) (Int.toNat ((tb:Int)-(fa:Int))) then 85 else 0)=_
            rw [Int.toNat_natCast,show Int.toNat ((tb:Int)-(fa:Int))=tb-fa by omega]
           obtain ⟨kb,kf,rfl,hkb,hkc⟩:=(K3.out.gw GW5.out).cells (by omega)
           have kc:=hkc fa fm;obtain ⟨gf,hgf⟩:∃ y,g fa=y:=⟨_,rfl⟩;have GF:Aside (g fa=gf):=hgf;rw [hgf] at kc;clear hkc hgf;by_cases kk:sk=gf
           ·have b3:(sk != gf)=false:=by simpa using kk
            have tc:tb<=c:=by omega
            have fc:¬ fa=c:=by omega
            have cf:¬ c=fa:=by omega
            have i1:(0:Int)<=(fa:Int):=by omega
            have i2:(fa:Int)<=(tb:Int):=by omega
            have i3:(tb:Int)<=(c:Int):=by omega
            have ft':fa<=tb:=by omega
            go_wp2_with fail;go_quiet (fail)
            go_wp2_with fail;have SB6:Aside (Sb (w5.drewN nq) xb sk ssl sic fa tb):=SB5.out.gw ((Gw.refl w5).drewN _)
            have G6:Aside (Gw w (w5.drewN nq)):=G5.out.drewN _;have GW6:Aside (Gw w3 (w5.drewN nq)):=GW5.out.drewN _;clear SB5 G5 GW5 z0 z1 z2 z3 z4 zl kc hkb;generalize w5.drewN nq=w6 at SB6 G6 GW6 ⊢;obtain ⟨N,hN⟩:∃ N,worst (away sk ssl sic fa tb (sh g fa)) (tb-fa)=N:=⟨_,rfl⟩;have ROF:Hid (∀ W,Gw w6 W->Calls prog 136 #[segV sk ssl sic fa tb,.slice (some ⟨kb,kf+fa,none⟩) (tb-fa) (c-fa)] W fun e w'=>e=.returned (.tuple #[.int .i64 N,.int .i64 0])/\Gw W w'):=fun W gg=>by
             refine (RO.out (some ⟨kb,kf+fa,none⟩) (c-fa) W (ks_cut ((K3.out.gw GW6.out).gw gg) tm)).mono ?_;rintro ex w' ⟨⟨N',er',rfl,hO⟩,gx⟩;obtain ⟨rfl,rfl⟩:=hO.uniq (N':=N) (er':=0) (.inr (.inr ⟨EX.out,⟨by omega,by show g (fa+0)=sk;rw [Nat.add_zero,GF.out,kk],sh_up U.out tm⟩,hN.symm,rfl⟩))
             exact ⟨rfl,gx⟩
            have SE':Aside (segE eps g ⟨sk,ssl,sic,fa,tb⟩=if eps<N then 85 else 0):=by
             show segE eps g ⟨sk,ssl,sic,fa,tb⟩=_;rw [SE.out,if_neg (fun q=>q (by rw [GF.out,kk])),hN]
            obtain ⟨z0,z1,z2,z3,z4⟩:=SB6.out.cells;have zl:=SB6.out.lt;have HW:Hid (∀ w',Gw w6 w'->Gw w6 w'/\w'.cell? ⟨xb,0,none⟩=some (.int .u64 sk)/\w'.cell? ⟨xb,1,none⟩=some (.float .f64 ssl)/\w'.cell? ⟨xb,2,none⟩=some (.float .f64 sic)/\w'.cell? ⟨xb,3,none⟩=some (.int .i64 (fa:Int))/\w'.cell? ⟨xb,4,none⟩=some (.int .i64 (tb:Int))):=fun w' g=>⟨g,(g.cell _ _ zl).trans z0,(g.cell _ _ zl).trans z1,(g.cell _ _ zl).trans z2,(g.cell _ _ zl).trans z3,(g.cell _ _ zl).trans z4⟩
            clear SE RO hN kk b3 GF EX;go_cut [11] (fun s11 wc=>s11=.int .i64 N/\Aside (Gw w6 wc))
            case first =>
             clear SE' EJ RR K3 GL3 TI U EF EG LAST HL HV LN RI HH KE G6 GW6 SB6 L3 SN ZZ;go_region_held3 (fun w'=>Gw w6 w'/\w'.cell? ⟨xb,0,none⟩=some (.int .u64 sk)/\w'.cell? ⟨xb,1,none⟩=some (.float .f64 ssl)/\w'.cell? ⟨xb,2,none⟩=some (.float .f64 sic)/\w'.cell? ⟨xb,3,none⟩=some (.int .i64 (fa:Int))/\w'.cell? ⟨xb,4,none⟩=some (.int .i64 (tb:Int)))
              ((refine HW.out _ ?_;(repeat (first | exact Gw.refl _ | exact And.left (by assumption) | exact Hid.out (by assumption) | refine Gw.drew ?_ | refine Gw.trans ?_ (by assumption)));done))
              ((go_at_call 136;refine (ROF.out _ (by repeat (first | exact Gw.refl _ | exact And.left (by assumption) | exact Hid.out (by assumption) | refine Gw.drew ?_ | refine Gw.drewN ?_ _))).mono ?_;rintro ex w7 ⟨rfl,g7⟩;have G7:Hid (Gw w6 w7):=(Gw.trans (by repeat (first | exact Gw.refl _ | exact And.left (by assumption) | exact Hid.out (by assumption) | refine Gw.drew ?_ | refine Gw.drewN ?_ _)) g7);clear g7))
             all_goals go_wp2_with fail
             all_goals go_meet
             all_goals
              case rel=>exact ⟨rfl,(show Aside _ from by repeat (first | exact Gw.refl _ | exact And.left (by assumption) | exact Hid.out (by assumption) | refine Gw.drew ?_ | refine Gw.drewN ?_ _))⟩
            case rest =>
             obtain ⟨w8,hwx⟩:∃ wx,wx=wc:=⟨_,rfl⟩;subst hwx;obtain ⟨rfl,G8⟩:=hcut;have G9:Aside (Gw w w8):=G6.out.trans G8.out;have GW9:Aside (Gw w3 w8):=GW6.out.trans G8.out;by_cases big:eps<N
             ·have b4:decide (eps<N)=true:=by simpa using big
              have E85:E=85:=by
               have q:segE eps g ⟨sk,ssl,sic,fa,tb⟩=85:=by rw [SE'.out,if_pos big]
               rw [EJ.out,lvlE_cons,q,if_pos (show (85:Int)≠0 by decide),if_pos (show (85:Int)≠0 by decide)]
              subst E85;go_wp2_with fail;go_ret;exact ⟨⟨85,rfl,RR.out⟩,G9.out⟩
             ·have b4:decide (eps<N)=false:=by simpa using big
              have EN:Aside (E=if lvlE eps g (l.drop (k+1))≠0 then lvlE eps g (l.drop (k+1)) else restE eps l r):=by
               have q:segE eps g ⟨sk,ssl,sic,fa,tb⟩=0:=by rw [SE'.out,if_neg big]
               have q2:lvlE eps g (⟨sk,ssl,sic,fa,tb⟩::l.drop (k+1))=lvlE eps g (l.drop (k+1)):=by rw [lvlE_cons,if_neg (fun q'=>q' q)]
               show E=_;rw [EJ.out,q2]
              have PN:Aside (∀ j,j<k+1->segE eps g (l.getD j sg0)=0):=fun j hj=>by
               by_cases jk:j=k
               ·rw [jk,SK.out,SE'.out,if_neg big]
               ·exact PR.out j (by omega)
              clear SE' EJ;go_wp2_with fail;go_roundg (sn-(k+1))
              case measure=>omega
              case rel=>exact ⟨k+1,by go_num,by omega,Nat.le_refl _,EN,PN,G9,GW9⟩
           ·have b3:(sk != gf)=true:=by simpa using kk
            have E83:E=83:=by
             have q:segE eps g ⟨sk,ssl,sic,fa,tb⟩=83:=by rw [SE.out,if_pos (by rw [GF.out];exact kk)]
             rw [EJ.out,lvlE_cons,if_pos (show segE eps g ⟨sk,ssl,sic,fa,tb⟩≠0 by rw [q];decide),q,if_pos (by decide)]
            subst E83;go_wp2_with fail;go_quiet (fail);go_wp2_with fail;go_ret;exact ⟨⟨83,rfl,RR.out⟩,G5.out.drewN _⟩
          ·have tx:(X != 0)=true:=by simpa using x0
           have EX':E=X:=by
            have q:segE eps g ⟨sk,ssl,sic,fa,tb⟩=X:=by
             unfold segE;show (if errM ssl sic fa tb≠0 then errM ssl sic fa tb else _)=X
             rw [if_pos (by rw [EX.out];exact x0),EX.out]
            rw [EJ.out,lvlE_cons,q,if_pos x0,if_pos x0]
           subst EX';go_wp2_with fail;go_ret;exact ⟨⟨_,rfl,RR.out⟩,G5.out⟩
         ·have ek:k=sn:=by omega
          subst ek;have ER:Aside (E=restE eps l r):=by
           have:=EI.out
           rw [List.drop_eq_nil_of_le (by rw [SN.out];exact Nat.le_refl _)] at this
           exact this
          have FI:=fun W h=>rfirsts_any so sc l (by rw [SN.out];exact sl) W h
          rw [SN.out] at FI;have FI':Hid (∀ W,GS W so l->_):=FI;have MM:∀ s∈l,s.k=g s.fr.toNat:=fun s hs=>by
           obtain ⟨j,hj,e⟩:=List.mem_iff_getElem.1 hs;have:=PR.out j (by rw [<-SN.out];exact hj)
           rw [List.getD_eq_getElem?_getD,List.getElem?_eq_getElem hj] at this;have e':(some l[j]).getD sg0=s:=e;rw [e'] at this;exact (segE_ok.1 this).2.1
          obtain ⟨u1,_,_⟩:=fst8_up U.out TI.out MM;have UN:Aside (Up (fst8 l) k):=by
           have:=u1
           rw [SN.out] at this;exact this
          have EC':Aside (i+1<ln->E=chkE eps (fst8 l) k r):=fun q=>by
           rw [ER.out];unfold restE;rw [if_neg (EG.out q),SN.out]
          have EL':Aside (i+1=ln->E=if (L.getD (i+1-1) []).length=1 then 0 else 84):=fun q=>by
           rw [LAST.out,ER.out];unfold restE;rw [if_pos (EF.out q)]
          have EQ:Aside (L.drop (i+1)=r):=RD;clear MM u1 FI EI PR ER U TI EF EG LAST;go_wp2_with fail;refine (FI'.out _ (GL3.out.gw GW.out)).mono ?_;rintro e w4 ⟨⟨nb,nc,rfl,_,ncl,nk⟩,g4⟩;have K4:Aside (KS w4 (some ⟨nb,0,none⟩) k (fst8 l)):=nk;have G4:Aside (Gw w w4):=G.out.trans g4;clear nk g4;go_wp2_with fail;go_roundg (ln-(i+1))
          case measure=>omega
          case rel=>exact ⟨i+1,k,nc,some ⟨nb,0,none⟩,fst8 l,rfl,by go_num,by omega,Nat.le_refl _,sl,ncl,K4,UN,(show Aside _ from fun q=>by rw [EQ.out];exact EC'.out q),EL',G4⟩
      ·have ei:i=ln:=by omega
       subst ei;have EE:=EL.out rfl;obtain ⟨lb,lf,rfl,hlb,hc⟩:=(HV.out.gw G.out).cells (by rw [LN.out];omega)
       obtain ⟨so,sc,q1,q2,q3,q4⟩:=hc (i-1) (by rw [LN.out];omega)
       have sl:=HL.out (i-1) (by rw [LN.out];omega)
       clear hc q4 q3 q2;generalize (L.getD (i-1) []).length=sn at q1 sl EE;have wi:IntKind.i64.wrap ((i:Int)-1)=((i-1:Nat):Int):=by rw [IntKind.wrap_i64];omega
       obtain ⟨i1,hi1⟩:∃ i1,i-1=i1:=⟨_,rfl⟩;rw [hi1] at q1 wi;have lt1:i1<i:=by omega
       have tn:decide ((0:Int)<(i:Int))=true:=by simp;omega
       clear hi1;by_cases s1:sn=1
       ·subst s1
        rw [if_pos rfl] at EE;subst EE;go_wp2_with fail;go_ret;exact ⟨⟨0,rfl,RR.out⟩,G.out⟩
       ·rw [if_neg s1] at EE
        have bs:((sn:Int) != 1)=true:=by simp;omega
        subst EE;go_wp2_with fail;go_ret;exact ⟨⟨84,rfl,RR.out⟩,G.out⟩
   ·have R:Aside (CheckR eps f n L 81):=.inr (.inr (.inl ⟨KE.out,UP.out,by rw [LN.out,HH.out];exact hh,rfl⟩))
    by_cases h3:H<(ln:Int)
    ·have tH:decide (H<(ln:Int))=true:=by simpa using h3
     go_wp2_with fail;go_ret
     exact ⟨⟨81,rfl,R.out⟩,G2.out⟩
    ·have tH:decide (H<(ln:Int))=false:=by simpa using h3
     have ZZ:(ln=0/\¬ n=0)\/(¬ ln=0/\n=0):=by omega
     rcases ZZ with ⟨z1,z2⟩ | ⟨z1,z2⟩
     ·subst z1
      have b2:((n:Int) == 0)=false:=by simp;omega
      go_wp2_with fail;go_ret
      exact ⟨⟨81,rfl,R.out⟩,G2.out⟩
     ·subst z2
      have b2:((ln:Int) == 0)=false:=by simp;omega
      go_wp2_with fail;go_ret
      exact ⟨⟨81,rfl,R.out⟩,G2.out⟩
end Go.Proofs.YtpoohadckhphpaaGreat
namespace Go.Proofs.YtpoohadckhphpaaGreat
open Go.RowKit
def CheckOut (ex:Ending) (eps:Int) (f:Nat->Int) (n:Nat) (L:List (List Sg)):Prop:=∃ E,ex=.returned (.int .i64 E)/\CheckR eps f n L E
def Short (L:List (List Sg)):Prop:=L.length<=2000000/\∀ i,i<L.length->(L.getD i []).length<=2000000
end Go.Proofs.YtpoohadckhphpaaGreat
namespace Go.Proofs.YtpoohadckhphpaaGreat
open Go.RowKit
attribute [local go_sem] run_store_float
def sgc (s:Sg):List Value:=[.int .u64 s.k,.float .f64 s.sl,.float .f64 s.ic,.int .i64 s.fr,.int .i64 s.te]
theorem flat_get:∀ (l:List Sg) (i:Nat),i<l.length->∀ j,j<5->(l.flatMap sgc)[i*5+j]?=(sgc (l.getD i sg0))[j]?:=by
 intro l;induction l with
 | nil=>intro i hi;simp at hi
 | cons s l ih =>
  intro i hi j hj;rw [List.flatMap_cons];have l5:(sgc s).length=5:=rfl;cases i with
  | zero =>
   rw [Nat.zero_mul,Nat.zero_add,List.getElem?_append_left (by rw [l5];exact hj)]
   rfl
  | succ i =>
   rw [List.getElem?_append_right (by rw [l5];omega),l5,show (i+1)*5+j-5=i*5+j by omega]
   exact ih i (by simpa using hi) j hj
end Go.Proofs.YtpoohadckhphpaaGreat
