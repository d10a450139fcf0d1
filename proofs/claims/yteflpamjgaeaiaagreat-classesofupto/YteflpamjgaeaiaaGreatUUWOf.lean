/- ClassesOf's walk. -/
import Derived.Test.YteflpamjgaeaiaaGreatUUOfL
import Derived.Test.YteflpamjgaeaiaaGreatUUDoc4
import Derived.Test.YteflpamjgaeaiaaGreatUUDoc5
set_option linter.unusedVariables false
set_option maxHeartbeats 16000000
set_option maxRecDepth 20000
open Go.Proofs.Tryz
namespace Go.Proofs.YteflpamjgaeaiaaGreat
open Go.RowKit
theorem of_walk {HR:HRt} (H:RunC HR) (O5:Of5C) (eps buf:Int) (ao:Option Addr) (c:Nat) (hs:List (List Ent×Int)) (hn:hs.length<=2000000) (mo:Option Addr) (cm:Nat) (more:List Ent) (hm:more.length<=1000000) (hmc:more.length<=cm) (hmz:mo=none->more.length=0/\cm=0) (w:World) (h:HeldL w ao hs) (he:EL w mo more) :
  Calls prog 4 #[.int .i64 eps,.int .i64 buf,.slice ao hs.length c,.slice mo more.length cm] w fun e w'=>e=.returned (.bool true)/\Gw w w':=by
 have HH:Aside (RunC HR):=H;have OO:Aside Of5C:=O5;have HL:Aside (HeldL w ao hs):=h;have EM:Aside (EL w mo more/\more.length<=cm/\(mo=none->more.length=0/\cm=0)):=⟨he,hmc,hmz⟩;have SH:Hid (Calls prog 8 #[] w fun e w'=>e=.returned (.bool true)/\Gw w w'):=shown15 H w
 obtain ⟨n,hln⟩:∃ n,hs.length=n:=⟨_,rfl⟩;have LN:Aside (hs.length=n):=hln;obtain ⟨m,hlm⟩:∃ m,more.length=m:=⟨_,rfl⟩;have LM:Aside (more.length=m):=hlm;rw [hln] at hn ⊢;rw [hlm] at hm ⊢;obtain ⟨ia,ha1,ha2,ha3,ha4⟩:=info_parts info_r15;obtain ⟨ib,hb1,hb2,hb3,hb4⟩:=info_parts info_d15;clear h he H O5 hln hlm hmc hmz;go_enter func4,ntmps4;go_wp2_with fail;refine Calls.mono SH.out ?_;rintro e w1 ⟨rfl,g1⟩;have I0:Aside (OfI HR w ((w1.alloc (.cells #[] 57)).alloc (.cells #[] 65)) w1.heap.size 0 (w1.heap.size+1) 0 [] []):=by
  have z1:=g1.size;refine ⟨?_,?_,by omega,(fun r hr=>by cases hr),(fun r hr=>by cases hr),(g1.alloc _ _).alloc _ _⟩
  ·exact (World.ownsRow_made w1 #[] 0 z1 (Nat.zero_le _) rfl).alloc _
  ·have:=World.ownsRow_made (base:=w.heap.size) (e:=65) (size:=1) (w1.alloc (.cells #[] 57)) #[] 0 (by simp;omega) (Nat.zero_le _) rfl
   rw [show (w1.alloc (.cells #[] 57)).heap.size=w1.heap.size+1 by simp] at this
   exact this
 clear g1 SH;go_wp2_with fail;generalize (w1.alloc (.cells #[] 57)).alloc (.cells #[] 65)=w2 at I0 ⊢;generalize w1.heap.size=mb0 at I0 ⊢;go_loopg [10,11,12,13] n (fun gg s10 s11 s12 s13 wr=>∃ (i mb mc tb tc s:Nat) (A D:List (Option Rn)),s10=.int .i64 (s:Int)/\s11=.slice (some ⟨mb,0,none⟩) i mc/\s12=.slice (some ⟨tb,0,none⟩) i tc/\s13=.int .i64 (i:Int)/\i<=n/\n-i<=gg/\s<=1000400/\Aside (A.length=i)/\Aside (D.length=i)/\Aside (m+tot A<=s)/\Aside (Al A D)/\Aside (OfI HR w wr mb mc tb tc A D))
 case atStart=>exact ⟨0,mb0,0,mb0+1,0,m,[],[],rfl,rfl,rfl,rfl,Nat.zero_le _,by omega,by omega,(show Aside _ from rfl),(show Aside _ from rfl),(show Aside _ from Nat.le_refl _),(show Aside _ from rfl),I0⟩
 case round =>
  clear I0;obtain ⟨i,mb,mc,tb,tc,s,A,D,rfl,rfl,rfl,rfl,a1,a2,a3,AN,DN,TT,AL,II⟩:=hrel;obtain ⟨wS,hwS⟩:∃ wx,wx=wr:=⟨_,rfl⟩;subst hwS;have ws:IntKind.i64.wrap (400-(s:Int))=400-(s:Int):=by rw [IntKind.wrap_i64];omega
  by_cases hlt:i<n
  ·have hlt':(i:Int)<(n:Int):=by omega
   obtain ⟨hb,ho,rfl,hbl,hcc⟩:=(HL.out.gw II.out.gw0).cells (by rw [LN.out];omega)
   obtain ⟨bo,bc,d0,d1,del,dle,dz,de0,de1⟩:=hcc i (by rw [LN.out];exact hlt)
   clear hcc;generalize hs.getD i held0=hx at d0 d1 del dle dz de0 de1;obtain ⟨lx,ex⟩:=hx;have d0':wS.cell? ⟨hb,ho+i*2,none⟩=some (.slice bo lx.length bc):=d0;have d1':wS.cell? ⟨hb,ho+i*2+1,none⟩=some (.int .i64 ex):=d1;obtain ⟨ln,hlx⟩:∃ ln,lx.length=ln:=⟨_,rfl⟩;have LX:Aside (lx.length=ln):=hlx;rw [hlx] at d0';by_cases big:400-(s:Int)<(ln:Int)
   ·have GE:Aside (Gw w wS):=II.out.gw0
    clear d0 d1 del dle dz II hlx;go_wp2_with fail;go_ret;exact ⟨rfl,GE.out⟩
   ·have lns:ln+s<=400:=by omega
    have wl:IntKind.i64.wrap ((s:Int)+(ln:Int))=((s+ln:Nat):Int):=by rw [IntKind.wrap_i64];omega
    have LE:Aside (EL wS bo lx):=del;have NR:Hid (∀ W,Gw wS W->Calls prog 23 #[.slice bo ln bc,.int .i64 ex] W fun e w'=>NewO HR wS.heap.size w' e ex lx/\Gw W w'):=fun W g=>by
     have:=HH.out.new ex bo lx.length bc (ek lx) (ev lx) (eg lx) de0 de1 (by omega) dle dz W (del.gw g)
     rw [LX.out] at this;exact this.mono fun e w' ⟨x,y⟩=>⟨RunOut.o (by rw [LX.out];exact x) LE.out.all (by omega) g.size,y⟩
    have ND:Hid (∀ W,Gw wS W->Calls prog 24 #[.slice bo ln bc,.int .i64 ex] W fun e w'=>NewO HDoc wS.heap.size w' e ex lx/\Gw W w'):=fun W g=>by
     have:=dc_new OO.out ex bo lx.length bc (ek lx) (ev lx) (eg lx) de0 de1 (by omega) dle dz W (del.gw g)
     rw [LX.out] at this;exact this.mono fun e w' ⟨x,y⟩=>⟨RunOut.o (by rw [LX.out];exact x) LE.out.all (by omega) g.size,y⟩
    have HW:Hid (∀ w',Gw wS w'->Gw wS w'/\w'.cell? ⟨hb,ho+i*2,none⟩=some (.slice bo ln bc)/\w'.cell? ⟨hb,ho+i*2+1,none⟩=some (.int .i64 ex)):=fun w' g=>⟨g,(g.cell _ _ hbl).trans d0',(g.cell _ _ hbl).trans d1'⟩
    have G0:Hid (Gw wS wS):=Gw.refl wS;clear d0 d1 del dle dz hlx;go_upto_region 13 with fail;clear d0' d1';go_region_held3 (fun w'=>Gw wS w'/\w'.cell? ⟨hb,ho+i*2,none⟩=some (.slice bo ln bc)/\w'.cell? ⟨hb,ho+i*2+1,none⟩=some (.int .i64 ex))
     (((refine HW.out _ ?_;repeat (first | exact And.left (by assumption) | exact Hid.out (by assumption) | refine Gw.drew ?_));done))
     ((
      first
      | (go_at_call 23;refine (NR.out _ (by repeat (first | exact Gw.refl _ | exact And.left (by assumption) | exact Hid.out (by assumption) | refine Gw.drew ?_ | refine Gw.drewN ?_ _))).mono ?_;rintro ex5 w5 ⟨⟨pA,EA,oA,rfl,hpA,nA,xA⟩,g5⟩;have G5:Hid (Gw wS w5):=(Gw.trans (by repeat (first | exact Gw.refl _ | exact And.left (by assumption) | exact Hid.out (by assumption) | refine Gw.drew ?_ | refine Gw.drewN ?_ _)) g5);have XA:Aside (pA=ptr oA/\NewE ex (ek lx) (ev lx) (eg lx) lx.length EA/\((EA≠0/\oA=none)\/(EA=0/\∃ r,oA=some r/\r.eps=ex/\r.l=lx/\BuildR ex (ek lx) lx.length r.L/\(∀ q,r.S q->wS.heap.size<=q)/\RA HR w5 r))):=⟨hpA,nA,xA⟩;clear g5 hpA nA xA)))
    all_goals
     clear G0 NR;go_upto_region 14 with fail;go_region_held3 (fun w'=>Gw wS w'/\w'.cell? ⟨hb,ho+i*2,none⟩=some (.slice bo ln bc)/\w'.cell? ⟨hb,ho+i*2+1,none⟩=some (.int .i64 ex))
      (((refine HW.out _ ?_;repeat (first | exact And.left (by assumption) | exact Hid.out (by assumption) | refine Gw.drew ?_));done))
      ((
       first
       | (go_at_call 24;refine (ND.out _ (by repeat (first | exact Gw.refl _ | exact And.left (by assumption) | exact Hid.out (by assumption) | refine Gw.drew ?_ | refine Gw.drewN ?_ _))).mono ?_;rintro ex6 w6 ⟨⟨pB,EB,oB,rfl,hpB,nB,xB⟩,g6⟩;have G6:Hid (Gw wS w6):=(Gw.trans (by repeat (first | exact Gw.refl _ | exact And.left (by assumption) | exact Hid.out (by assumption) | refine Gw.drew ?_ | refine Gw.drewN ?_ _)) g6);have G56:Hid (Gw w5 w6):=(Gw.trans (show Gw w5 _ from (by first | exact Gw.refl _ | exact (Gw.refl _).drew | exact (Gw.refl _).drewN _)) g6);have XB:Aside (pB=ptr oB/\NewE ex (ek lx) (ev lx) (eg lx) lx.length EB/\((EB≠0/\oB=none)\/(EB=0/\∃ r,oB=some r/\r.eps=ex/\r.l=lx/\BuildR ex (ek lx) lx.length r.L/\(∀ q,r.S q->wS.heap.size<=q)/\RA HDoc w6 r))):=⟨hpB,nB,xB⟩;clear g6 hpB nB xB)))
     all_goals
      obtain rfl:EA=EB:=XA.out.2.1.one XB.out.2.1;obtain ⟨hpA,nA,xA⟩:=XA.out;obtain ⟨hpB,nB,xB⟩:=XB.out;obtain ⟨sg,oo,szA⟩:=NewO.both nA nB xA xB;have I6:OfI HR w w6 mb mc tb tc A D:=II.out.gw HH.out.kp G6.out;have fr:∀ (HR':HRt) (K':Kp HR') (o:Option Rn) (wx:World),Gw wx w6->((EA≠0/\o=none)\/(EA=0/\∃ r,o=some r/\r.eps=ex/\r.l=lx/\BuildR ex (ek lx) lx.length r.L/\(∀ q,r.S q->wS.heap.size<=q)/\RA HR' wx r))->∀ r,o=some r->RA HR' w6 r/\¬ r.S mb/\¬ r.S tb:=fun HR' K' o wx g x r e=>by
       rcases x with ⟨_,y⟩ | ⟨_,r',y,_,_,_,y5,y6⟩
       ·rw [y] at e;cases e
       ·rw [y] at e
        cases e
        exact ⟨y6.gw K' g,fun q=>by have:=y5 _ q;have:=II.out.m;omega,fun q=>by have:=y5 _ q;have:=II.out.t;omega⟩
      have fA:=fr HR HH.out.kp oA w5 G56.out xA;have fB:=fr HDoc HDoc.kp oB w6 (Gw.refl _) xB;have OA:Aside (w6.ownsRow w.heap.size 57 1 (.slice (some ⟨mb,0,none⟩) i mc) i (A.map ptr)):=by have:=I6.own1;rw [AN.out] at this;exact this
      have NX1:Hid (∀ (w7:World) (b7 c7:Nat),w7.ownsRow w.heap.size 57 1 (.slice (some ⟨b7,0,none⟩) (A.length+1) c7) (A.length+1) (A.map ptr++[pA])->(w6.alloc (.cells #[pA] 57)).grownBy w7 (some mb)->(b7=mb\/w6.heap.size<=b7)->OfI HR w w7 b7 c7 tb tc (A++[oA]) D/\w7.ownsRow w.heap.size 65 1 (.slice (some ⟨tb,0,none⟩) i tc) i (D.map ptr)):=fun w7 b7 c7 r1 r2 o7=>by
       rw [hpA] at r1;have I7:=I6.app1 HH.out.kp fA r1 r2 o7;refine ⟨I7,?_⟩;have:=I7.own2;rw [DN.out] at this;exact this
      have NX2:Hid (∀ (w7 w8:World) (b7 c7 b8 c8:Nat),Gw w6 w7\/True->OfI HR w w7 b7 c7 tb tc (A++[oA]) D->(∀ r,oB=some r->RA HDoc w7 r/\¬ r.S b7/\¬ r.S tb)->w8.ownsRow w.heap.size 65 1 (.slice (some ⟨b8,0,none⟩) (D.length+1) c8) (D.length+1) (D.map ptr++[pB])->(w7.alloc (.cells #[pB] 65)).grownBy w8 (some tb)->(b8=tb\/w7.heap.size<=b8)->OfI HR w w8 b7 c7 b8 c8 (A++[oA]) (D++[oB])):=fun w7 w8 b7 c7 b8 c8 _ I7 f7 r1 r2 o8=>by
       rw [hpB] at r1;exact I7.app2 HH.out.kp f7 r1 r2 o8
      have KB:Hid (∀ (w7:World) (b7:Nat),(w6.alloc (.cells #[pA] 57)).grownBy w7 (some mb)->(b7=mb\/w6.heap.size<=b7)->∀ r,oB=some r->RA HDoc w7 r/\¬ r.S b7/\¬ r.S tb):=fun w7 b7 r2 o7 r e=>by
       obtain ⟨q1,q2,q3⟩:=fB r e;have gx:Gx (fun q=>q=mb) w6 w7:=Gx.grown (w':=w6.alloc (.cells #[pA] 57)) ((Gx.refl _ w6).alloc _ _) r2 (fun k e=>by cases e;exact .inl rfl)
       refine ⟨q1.gx HDoc.kp gx (fun q hq=>by rw [hq];exact q2),fun x=>?_,q3⟩
       rcases o7 with y | y
       ·rw [y] at x;exact q2 x
       ·have:=HDoc.lt q1.h b7 x;omega
      have AN8:Aside ((A++[oA]).length=i+1):=by show _=_;rw [List.length_append,AN.out];rfl
      have DN8:Aside ((D++[oB]).length=i+1):=by show _=_;rw [List.length_append,DN.out];rfl
      have AL8:Aside (Al (A++[oA]) (D++[oB])):=AL.out.app sg;have TT8:Aside (m+tot (A++[oA])<=s+ln):=by
       show _<=_;rw [tot_app,<-LX.out];have t1:tot [oA]=sizeO oA:=by
        cases oA with
        | none=>rfl
        | some r=>rw [tot_some];rfl
       have:=TT.out
       omega
      have sl8:s+ln<=1000400:=by omega
      clear nA nB xA xB sg szA I6 fr fA fB G5 G6 G56 XA XB ND HW II LE AL TT;rcases oo with ⟨e1,e2⟩ | ⟨r,r',e1,e2⟩
      have hpA':pA=.pointer none:=by rw [hpA,e1];rfl
      have hpB':pB=.pointer none:=by rw [hpB,e2];rfl
      rotate_left
      have hpA':pA=.pointer (some ⟨r.p,0,none⟩):=by rw [hpA,e1];rfl
      have hpB':pB=.pointer (some ⟨r'.p,0,none⟩):=by rw [hpB,e2];rfl
      generalize r.p=ra at hpA';generalize r'.p=rb at hpB'
      rotate_left
      all_goals
       clear hpA hpB e1 e2;subst hpA';subst hpB';go_wp2_with (at_builtin;refine wpList_append_own_at _ rfl _ _ 50 rfl w.heap.size 57 ia (.pointer none) 1 8 underlying50 ha1 ha2 ha3 ha4 rfl (by decide) _ i _ rfl (OA.out.alloc _) ⟨w6.heap.size,0,none⟩ 1 1 [_] rfl rfl (new_v13' w6 _ 57) (fun u hu=>by simp at hu;subst hu;rfl) (by simp only [maxLen];omega) (by omega) (by have:=OA.out.lt mb rfl;simp;omega) ?_)
       intro v7 w7 r1 r2 r3 r4;obtain ⟨b7,c7,rfl,_,_,_⟩:=own_slice r1 (by simpa using r3)
       have o7:b7=mb\/w6.heap.size<=b7:=by
        rcases r4 with q | q
        ·have q':b7=mb:=by simpa [Value.ownBlock] using q
         exact .inl q'
        ·have q':b7=w6.heap.size+1:=by simpa [Value.ownBlock] using q
         exact .inr (by omega)
       obtain ⟨I7,OB7⟩:=NX1.out w7 b7 c7 (by rw [AN.out];exact r1) r2 o7
       have F7:Aside (∀ r,oB=some r->RA HDoc w7 r/\¬ r.S b7/\¬ r.S tb):=KB.out w7 b7 r2 o7;have OBA:Aside (w7.ownsRow w.heap.size 65 1 (.slice (some ⟨tb,0,none⟩) i tc) i (D.map ptr)):=OB7;have I7A:Aside (OfI HR w w7 b7 c7 tb tc (A++[oA]) D):=I7;clear r1 r2 r3 r4 o7 I7 OB7 NX1 OA KB;go_wp2_with (at_builtin;refine wpList_append_own_at _ rfl _ _ 54 rfl w.heap.size 65 ib (.pointer none) 1 8 underlying54 hb1 hb2 hb3 hb4 rfl (by decide) _ i _ rfl (OBA.out.alloc _) ⟨w7.heap.size,0,none⟩ 1 1 [_] rfl rfl (new_v13' w7 _ 65) (fun u hu=>by simp at hu;subst hu;rfl) (by simp only [maxLen];omega) (by omega) (by have:=OBA.out.lt tb rfl;simp;omega) ?_)
       intro v8 w8 r1 r2 r3 r4;obtain ⟨b8,c8,rfl,_,_,_⟩:=own_slice r1 (by simpa using r3)
       have o8:b8=tb\/w7.heap.size<=b8:=by
        rcases r4 with q | q
        ·have q':b8=tb:=by simpa [Value.ownBlock] using q
         exact .inl q'
        ·have q':b8=w7.heap.size+1:=by simpa [Value.ownBlock] using q
         exact .inr (by omega)
       have I8:Aside (OfI HR w w8 b7 c7 b8 c8 (A++[oA]) (D++[oB])):=NX2.out w7 w8 b7 c7 b8 c8 (.inr trivial) I7A.out F7.out (by rw [DN.out];exact r1) r2 o8
       clear r1 r2 r3 r4 o8 NX2 OBA I7A F7;go_wp2_with fail;go_roundg (n-(i+1))
       case measure=>omega
       case rel=>exact ⟨i+1,b7,c7,b8,c8,s+ln,A++[oA],D++[oB],rfl,rfl,rfl,by go_num,by omega,Nat.le_refl _,sl8,AN8,DN8,TT8,AL8,I8⟩
  ·have ei:i=n:=by omega
   subst ei;have OFP:Hid (Calls prog 20 #[.int .i64 eps,.int .i64 buf,.slice (some ⟨mb,0,none⟩) i mc] wS fun e w'=>OfOut15 (fun w' p rs=>HCl HR w' p rs eps buf 0 0) wS w' e eps buf A/\Gw wS w'):=by
    have:=of15 HH.out eps buf (some ⟨mb,0,none⟩) mc A (by rw [AN.out];exact hn) II.out.cap (fun x=>by cases x) wS II.out.pr1
    rw [AN.out] at this;exact this
   go_wp2_with fail;refine Calls.mono OFP.out ?_
   rintro e w3 ⟨⟨E,or1,x1⟩,g3⟩;have OFD:Hid (Calls prog 21 #[.int .i64 eps,.int .i64 buf,.slice (some ⟨tb,0,none⟩) i tc] w3 fun e w'=>OfOut15 (fun w' p rs=>∃ b,HDl w' p b rs eps buf 0 0/\w3.heap.size<=b) w3 w' e eps buf D/\Gw w3 w'):=by
    have:=rof15 eps buf (some ⟨tb,0,none⟩) tc D (by rw [DN.out];exact hn) w3 (II.out.pr2.gw HDoc.kp g3)
    rw [DN.out] at this;exact this
   have OR1:Aside (OfR15 eps buf A E):=or1;have G3:Aside (Gw wS w3):=g3;rcases x1 with ⟨e0,rfl⟩ | ⟨e0,p,rfl,hp,hc⟩
   ·have E0:Aside (E≠0):=e0
    clear e0 or1 g3 OFP;go_wp2_with fail;refine Calls.mono OFD.out ?_;rintro e w4 ⟨⟨E',or2,x2⟩,g4⟩;obtain rfl:E=E':=(AL.out.of OR1.out).one or2;have GE:Aside (Gw w w4):=(II.out.gw0.trans G3.out).trans g4;rcases x2 with ⟨z,rfl⟩ | ⟨z,_⟩
    ·clear z or2 g4 OFD
     go_wp2_with fail;go_ret
     exact ⟨rfl,GE.out⟩
    ·exact absurd z E0.out
   ·subst e0
    have HC3:Aside (HCl HR w3 p (upR A) eps buf 0 0/\wS.heap.size<=p):=⟨hc,hp⟩;clear or1 g3 OFP hc hp;go_wp2_with fail;refine Calls.mono OFD.out ?_;rintro e w4 ⟨⟨E',or2,x2⟩,g4⟩;obtain rfl:0=E':=(AL.out.of OR1.out).one or2;rcases x2 with ⟨z,_⟩ | ⟨_,px,rfl,hpx,rb,hd,hrb⟩
    ·exact absurd rfl z
    have HC4:Aside (HCl HR w4 p (upR A) eps buf 0 0):=HC3.out.1.gw HH.out.kp g4;have HD4:Aside (HDl w4 px rb (upR D) eps buf 0 0/\w3.heap.size<=px/\w3.heap.size<=rb):=⟨hd,hpx,hrb⟩;have GE:Aside (Gw w w4):=(II.out.gw0.trans G3.out).trans g4;have GS4:Aside (Gw wS w4):=G3.out.trans g4;have AK:Hid (Calls prog 22 #[.pointer (some ⟨p,0,none⟩),.pointer (some ⟨px,0,none⟩)] w4 fun e w'=>e=.returned (.bool true)/\Gw w4 w'):=alike15 HH.out HC4.out hd AL.out.up
    clear or2 g4 OFD hd hpx hrb;by_cases big:400-(s:Int)<(m:Int)
    ·go_wp2_with fail
     refine Calls.mono AK.out ?_;rintro e w5 ⟨rfl,g5⟩;have G5:Aside (Gw w w5):=GE.out.trans g5;clear g5 AK;go_wp2_with fail;go_ret;exact ⟨rfl,G5.out⟩
    ·go_wp2_with fail
     refine Calls.mono AK.out ?_;rintro e w5 ⟨rfl,g5⟩;have G5:Aside (Gw w w5):=GE.out.trans g5;have GS5:Aside (Gw wS w5):=GS4.out.trans g5;have HC5:Aside (HCl HR w5 p (upR A) eps buf 0 0):=HC4.out.gw HH.out.kp g5;have HD5:Aside (HDl w5 px rb (upR D) eps buf 0 0):=HD4.out.1.gw g5;have pne:p≠px/\p≠rb:=by
      have h1:=HC3.out.1.lt;have h2:=HD4.out.2;omega
     have PNE:Aside (p≠px/\p≠rb):=pne;have tl:=TT.out;have tu:=tot_up15 A;have tud:=tot_up15 D;have tad:=AL.out.tot;have TB:Aside (more.length+tot (upR A)<=2000000/\more.length+tot (upR D)<=2000000):=by
      have:=LM.out
      refine ⟨by omega,by omega⟩
     have TK:Hid (Calls prog 12 #[.pointer (some ⟨p,0,none⟩),.slice mo m cm] w5 fun e w'=>TakeOut HR (fun w' rs B W=>HCl HR w' p rs eps buf B W) (fun q=>q=p) w5 w' e (upR A) more eps buf 0 0):=by
      have:=take15 HH.out HC5.out mo cm more (EM.out.1.gw G5.out) EM.out.2.1 EM.out.2.2 TB.out.1 (by omega) (by omega)
      rw [LM.out] at this;exact this
     clear g5 AK tl tu tud tad pne;go_wp2_with fail;refine Calls.mono TK.out ?_;intro e w6 tk;obtain ⟨ta,tb',tc',tE,he⟩:=take_form tk;subst he;have TKA:Aside (TakeOut HR (fun w' rs B W=>HCl HR w' p rs eps buf B W) (fun q=>q=p) w5 w6 (.returned (.tuple #[.agg #[.int .i64 ta,.int .i64 tb',.int .i64 tc'],.int .i64 tE])) (upR A) more eps buf 0 0):=tk
     have dA:∀ q,q=p->∀ r,some r∈upR D->¬ r.S q:=fun q hq r hr x=>by
      have:=HDoc.lt (II.out.rd r (upR_mem hr)).1.h q x
      have:=HC3.out.2
      omega
     have G6:Aside (Gw w w6):=Gx.gw G5.out tk.2 (fun q hq=>by have:=HC3.out.2;have:=II.out.gw0.size;omega)
     have EM6:Aside (EL w6 mo more):=(EM.out.1.gw G5.out).keep15 fun a x z=>tk.2.block _ (by
      obtain ⟨b,off,e',hb,_⟩:=(EM.out.1.gw G5.out).cells z;rw [x] at e';cases e';exact hb) (fun y=>by
      obtain ⟨b,off,e',hb,_⟩:=EM.out.1.cells z;rw [x] at e';cases e';have y':b=p:=y;have:=HC3.out.2;have:=II.out.gw0.size;omega)
     have HD6:Aside (HDl w6 px rb (upR D) eps buf 0 0):=HD5.out.gx tk.2 (fun x=>PNE.out.1 x.symm) (fun x=>PNE.out.2 x.symm) dA
     have B7:(w6.alloc (.cells #[.int .i64 ta,.int .i64 tb',.int .i64 tc'] 42)).heap[w6.heap.size]?=some (.cells #[.int .i64 ta,.int .i64 tb',.int .i64 tc'] 42 (0,0)):=heap_alloc_new _ _;have G67:Aside (Gw w6 (w6.alloc (.cells #[.int .i64 ta,.int .i64 tb',.int .i64 tc'] 42))):=(Gw.refl _).alloc _ _;have SZ6:Aside (w5.heap.size<=w6.heap.size):=tk.2.size;clear tk TK dA;go_wp2_with fail;obtain ⟨b7,hb7⟩:∃ b,w6.heap.size=b:=⟨_,rfl⟩;have HB7:Aside (w6.heap.size=b7):=hb7;rw [hb7] at B7 ⊢;have B7A:Aside ((w6.alloc (.cells #[.int .i64 ta,.int .i64 tb',.int .i64 tc'] 42)).heap[b7]?=some (.cells #[.int .i64 ta,.int .i64 tb',.int .i64 tc'] 42 (0,0))):=B7;generalize w6.alloc (.cells #[.int .i64 ta,.int .i64 tb',.int .i64 tc'] 42)=w7 at B7A G67 ⊢;have TD:Hid (Calls prog 13 #[.pointer (some ⟨px,0,none⟩),.slice mo m cm] w7 fun e w'=>TakeOut HDoc (fun w' rs B W=>HDl w' px rb rs eps buf B W) (fun q=>q=px\/q=rb) w7 w' e (upR D) more eps buf 0 0):=by
      have:=rtake15 OO.out (HD6.out.gw G67.out) mo cm more (EM6.out.gw G67.out) EM.out.2.1 EM.out.2.2 TB.out.2 (by omega) (by omega)
      rw [LM.out] at this;exact this
     clear B7 hb7;refine Calls.mono TD.out ?_;intro e w8 tk';obtain ⟨xa,xb,xc,xE,rs1,rs1',B1,W1,he1,he2,hc1,hd1,al1,f1,f2⟩:=take_both TKA.out tk' AL.out.up;have he:e=.returned (.tuple #[.agg #[.int .i64 ta,.int .i64 tb',.int .i64 tc'],.int .i64 tE]):=by rw [he2,<-he1]
     subst he;have nF:∀ q,q=px\/q=rb->q≠p:=fun q hq x=>by
      rcases hq with y | y
      ·exact PNE.out.1 (by rw [<-x,y])
      ·exact PNE.out.2 (by rw [<-x,y])
     have x5:=HD5.out.plt;have y5:=HD5.out.blt;have HC8:Aside (HCl HR w8 p rs1 eps buf B1 W1):=(hc1.gw HH.out.kp G67.out).gx HH.out.kp tk'.2 (fun x=>nF p x rfl) (fun q hq r hr x=>by
      have qlt:w3.heap.size<=q/\q<w5.heap.size:=by
       rcases hq with y | y
       ·rw [y];exact ⟨HD4.out.2.1,x5⟩
       ·rw [y];exact ⟨HD4.out.2.2,y5⟩
      rcases f1 r hr with y | y
      ·have h1:=HH.out.lt (II.out.ra r (upR_mem y)).1.h q x
       have h2:=G3.out.size;omega
      ·have:=y q x
       omega)
     have HD8:Aside (HDl w8 px rb rs1' eps buf B1 W1):=hd1;have AL8:Aside (Al rs1 rs1'):=al1;have G8:Aside (Gw w w8):=Gx.gw (G6.out.trans G67.out) tk'.2 (fun q hq=>by
      have h1:=II.out.gw0.size;have h2:=G3.out.size;rcases hq with y | y
      ·have:=HD4.out.2.1;omega
      ·have:=HD4.out.2.2;omega)
     have B8:w8.heap[b7]?=some (.cells #[.int .i64 ta,.int .i64 tb',.int .i64 tc'] 42 (0,0)):=(tk'.2.block b7 (blkl B7A.out) (fun y=>by
      have h1:=HB7.out;have h2:=SZ6.out;rcases y with y | y<;>omega)).trans B7A.out
     have GA:Aside (Gw w8 (w8.alloc (.cells #[.int .i64 ta,.int .i64 tb',.int .i64 tc'] 42))):=(Gw.refl _).alloc _ _;have C7:(w8.alloc (.cells #[.int .i64 ta,.int .i64 tb',.int .i64 tc'] 42)).heap[b7]?=some (.cells #[.int .i64 ta,.int .i64 tb',.int .i64 tc'] 42 (0,0)):=(heap_alloc_old _ _ (blkl B8)).trans B8;have C8:(w8.alloc (.cells #[.int .i64 ta,.int .i64 tb',.int .i64 tc'] 42)).heap[w8.heap.size]?=some (.cells #[.int .i64 ta,.int .i64 tb',.int .i64 tc'] 42 (0,0)):=heap_alloc_new _ _;obtain ⟨b8,hb8⟩:∃ b,w8.heap.size=b:=⟨_,rfl⟩;have HB8:Aside (w8.heap.size=b8):=hb8;rw [hb8] at C8;have CC:Aside ((w8.alloc (.cells #[.int .i64 ta,.int .i64 tb',.int .i64 tc'] 42)).heap[b7]?=some (.cells #[.int .i64 ta,.int .i64 tb',.int .i64 tc'] 42 (0,0))/\(w8.alloc (.cells #[.int .i64 ta,.int .i64 tb',.int .i64 tc'] 42)).heap[b8]?=some (.cells #[.int .i64 ta,.int .i64 tb',.int .i64 tc'] 42 (0,0))):=⟨C7,C8⟩;clear tk' he1 he2 hc1 hd1 al1 f1 f2 nF x5 y5 B8 C7 C8 TD hb8 TKA EM6;go_upto_region 29 with fail;rw [HB8.out];generalize w8.alloc (.cells #[.int .i64 ta,.int .i64 tb',.int .i64 tc'] 42)=w9 at CC GA ⊢;obtain ⟨m0,m1,m2,_,_,_,bl7,_⟩:=box_b CC.out.1;obtain ⟨n0,n1,n2,_,_,_,bl8,_⟩:=box_b CC.out.2;have AK:Hid (Calls prog 22 #[.pointer (some ⟨p,0,none⟩),.pointer (some ⟨px,0,none⟩)] w9 fun e w'=>e=.returned (.bool true)/\Gw w9 w'):=alike15 HH.out (HC8.out.gw HH.out.kp GA.out) (HD8.out.gw GA.out) AL8.out
     have G9:Aside (Gw w w9):=G8.out.trans GA.out;clear CC;go_wp2_with fail;refine Calls.mono AK.out ?_;rintro e wZ ⟨rfl,gZ⟩;have GZ:Aside (Gw w wZ):=G9.out.trans gZ;clear gZ AK;go_wp2_with fail;go_ret;exact ⟨rfl,GZ.out⟩
end Go.Proofs.YteflpamjgaeaiaaGreat
