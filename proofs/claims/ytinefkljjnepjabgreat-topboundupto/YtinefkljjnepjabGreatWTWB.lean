/- TopBound: the walk. -/
import Derived.Test.YtinefkljjnepjabGreatWTH
namespace Go.Proofs.YtinefkljjnepjabGreat
open Go.RowKit
set_option linter.unusedVariables false
set_option maxRecDepth 10000 in
set_option maxHeartbeats 4000000 in
theorem topbound_walk {HR:World→Nat→(Nat→Prop)→Int→(Nat→Int)→(Nat→Int)→(Nat→Bool)→Nat→List (List Sg)→Prop} (H:RunC HR) (M:ModelC) (ao:Option Addr) (n cp:Nat) (k v:Nat→Int) (g:Nat→Bool) (eps:Int) (e0:-9223372036854775808≤eps) (e1:eps<9223372036854775808) (qo:Option Addr) (qn qc:Nat) (qf:Nat→Int) (hn:n≤2000000) (hqn:qn≤2000000) (hcp:n≤cp) (hz:ao=none→n=0∧cp=0) (w:World) (h:ES w ao n k v g) (hq:KS w qo qn qf) :
  Calls Tryz.prog 4 #[.slice ao n cp, .int .i64 eps, .slice qo qn qc] w fun e w'=>e=.returned (.bool true)∧Gw w w':=by
 have HH:Hid (RunC HR):=H
 have HE:Hid (ES w ao n k v g):=h
 have HQ:Hid (KS w qo qn qf):=hq
 have NX:Hid (∀ W,Gw w W→Calls Tryz.prog 14 #[.slice ao n cp, .int .i64 eps] W fun ex w'=>RunOut HR W w' ex eps k v g n∧Gw W w'):=fun W gg=>HH.out.new eps ao n cp k v g e0 e1 hn hcp hz W (HE.out.gw gg)
 have HA:Hid (∀ (w1 W:World) (p:Nat) (S:Nat→Prop) (L:List (List Sg)),HR w1 p S eps k v g n L→Gw w1 W→∀ q:Int,0≤q→q<18446744073709551616→Calls Tryz.prog 17 #[.pointer (some ⟨p,0,none⟩), .int .u64 q] W fun e w'=>e=.returned (.bool true)∧Gw W w'):=fun w1 W p S L h1 gg q q0 q1=>holds_any HH.out M (HH.out.gw h1 gg) HE.out.bd q q0 q1
 clear H h hq hz M
 go_enter Tryz.func4,Tryz.ntmps4
 go_wp2_with fail
 refine Calls.mono (laid_any HH.out w) ?_
 rintro e w1 ⟨rfl,g1⟩
 have G1:Hid (Gw w w1):=g1
 clear g1
 go_wp2_with fail
 refine Calls.mono (NX.out _ G1.out) ?_
 rintro e w2 ⟨⟨E,ne,x⟩,g2⟩
 have G2:Hid (Gw w w2):=G1.out.trans g2
 have NE:Hid (NewE eps k v g n E):=ne
 have X:Hid ((E≠0∧e=.returned (.tuple #[.pointer none, .int .i64 E]))∨(E=0∧∃ p S L,e=.returned (.tuple #[.pointer (some ⟨p,0,none⟩), .int .i64 0])∧HR w2 p S eps k v g n L)):=x.elim .inl fun ⟨a,p,S,L,b,_,_,c⟩=>.inr ⟨a,p,S,L,b,c⟩
 clear ne x g2 NX
 by_cases ez:E=0
 ·rcases X.out with ⟨a,_⟩ | ⟨_,p,S,L,rfl,hr⟩
  ·exact absurd ez a
  subst ez
  have R2:Hid (HR w2 p S eps k v g n L):=hr
  have OK:Hid ((2≤eps∧eps≤64)∧ChkR k v g n 0):=by
   rcases NE.out with ⟨_,a⟩ | a
   ·cases a
   ·exact a
  clear hr X NE
  have TE:Hid (Calls Tryz.prog 15 #[.int .i64 eps] w2 fun e w'=>e=.returned (.bool true)∧w'=w2):=by
   have:=teps_any eps w2
   rw [decide_eq_true OK.out.1] at this
   exact this
  go_wp2_with fail
  refine Calls.mono TE.out ?_
  rintro e w3 ⟨rfl,e3⟩
  have e4:=e3.symm
  subst e4
  clear e3 TE
  go_wp2_with fail
  refine Calls.mono (tsound_any ao n cp k v g (by omega) w2 (HE.out.gw G2.out)) ?_
  rintro e w4 ⟨⟨b,rfl,hb⟩,g4⟩
  have eb:b=true:=hb.2 OK.out.2
  subst eb
  have G24:Hid (Gw w2 w4):=g4
  clear hb g4
  go_wp2_with fail
  go_loopg [12] n (fun gg s wr=>∃ i:Nat,s=.int .i64 (i:Int)∧i≤n∧n-i≤gg∧Aside (Gw w2 wr))
  case atStart=>exact ⟨0,rfl,Nat.zero_le _,by omega,(show Aside _ from G24.out)⟩
  case round =>
   obtain ⟨i,rfl,a1,a2,G⟩:=hrel
   by_cases hlt:i<n
   ·have hlt':(i:Int)<(n:Int):=by omega
    obtain ⟨lb,loff,rfl,hlb,hlc⟩:=((HE.out.gw G2.out).gw G.out).cells (by omega)
    have kc:=(hlc i hlt).1
    have kb:=(HE.out.bd i hlt).1
    clear hlc
    generalize k i=q at kc kb
    obtain ⟨q0,q1⟩:=kb
    go_wp2_with fail
    refine Calls.mono (HA.out w2 _ p S L R2.out G.out q q0 q1) ?_
    rintro e w5 ⟨rfl,g5⟩
    have G5:Aside (Gw w2 w5):=G.out.trans g5
    clear g5 kc hlb
    go_wp2_with fail
    go_roundg (n-(i+1))
    case measure=>omega
    case rel=>exact ⟨i+1,by go_num,by omega,Nat.le_refl _,G5⟩
   ·go_wp2_with fail
    go_loopg [14] qn (fun gg s wr=>∃ i:Nat,s=.int .i64 (i:Int)∧i≤qn∧qn-i≤gg∧Aside (Gw w2 wr))
    case atStart=>exact ⟨0,rfl,Nat.zero_le _,by omega,G⟩
    case round =>
     clear G
     obtain ⟨j,rfl,b1,b2,G⟩:=hrel
     by_cases jlt:j<qn
     ·have jlt':(j:Int)<(qn:Int):=by omega
      obtain ⟨qb,qoff,rfl,hqb,hqc⟩:=((HQ.out.gw G2.out).gw G.out).cells (by omega)
      have qi:=hqc j jlt
      have qbd:=HQ.out.bd j jlt
      clear hqc
      generalize qf j=q at qi qbd
      obtain ⟨q0,q1⟩:=qbd
      go_wp2_with fail
      refine Calls.mono (HA.out w2 _ p S L R2.out G.out q q0 q1) ?_
      rintro e w5 ⟨rfl,g5⟩
      have G5:Aside (Gw w2 w5):=G.out.trans g5
      clear g5 qi hqb
      go_wp2_with fail
      go_roundg (qn-(j+1))
      case measure=>omega
      case rel=>exact ⟨j+1,by go_num,by omega,Nat.le_refl _,G5⟩
     ·go_wp2_with fail
      go_ret
      exact ⟨rfl,G2.out.trans G.out⟩
 ·rcases X.out with ⟨_,rfl⟩ | ⟨a,_⟩
  rotate_left
  ·exact absurd a ez
  have ez':(E == 0)=false:=by simpa using ez
  have ez2:(E != 0)=true:=by simpa using ez
  have NO:Hid (∀ b:Bool,(b=true↔ChkR k v g n 0)→(decide (2≤eps∧eps≤64)&&b)=false):=by
   show ∀ b:Bool,_
   intro b hb
   rcases NE.out with ⟨a,_⟩ | ⟨_,a⟩
   ·rw [decide_eq_false a];rfl
   ·cases b with
    | false=>simp
    | true=>exact absurd ((hb.1 rfl).one a).symm ez
  clear X NE ez
  have TE:=teps_any eps w2
  obtain ⟨t,ht⟩:∃ t,decide (2≤eps∧eps≤64)=t:=⟨_,rfl⟩
  rw [ht] at TE NO
  clear ht
  have TEH:Hid (Calls Tryz.prog 15 #[.int .i64 eps] w2 fun e w'=>e=.returned (.bool t)∧w'=w2):=TE
  clear TE
  go_wp2_with fail
  refine Calls.mono TEH.out ?_
  rintro e w3 ⟨rfl,e3⟩
  have e4:=e3.symm
  subst e4
  clear e3 TEH
  go_wp2_with fail
  refine Calls.mono (tsound_any ao n cp k v g (by omega) w2 (HE.out.gw G2.out)) ?_
  rintro e w4 ⟨⟨b,rfl,hb⟩,g4⟩
  have tb:=NO.out b hb
  have G4:Hid (Gw w w4):=G2.out.trans g4
  clear hb g4 NO
  cases t with
  | true =>
   have eb:b=false:=by simpa using tb
   subst eb
   go_wp2_with fail
   go_ret
   exact ⟨rfl,G4.out⟩
  | false =>
   clear tb
   go_wp2_with fail
   go_ret
   exact ⟨rfl,G4.out⟩
end Go.Proofs.YtinefkljjnepjabGreat
