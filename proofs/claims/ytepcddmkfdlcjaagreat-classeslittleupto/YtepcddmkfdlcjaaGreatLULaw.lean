/- Layer 15's statements' own: sameList, above. -/
import Derived.BigQuiet
import Derived.Deep.QuietTactic
import Derived.Deep.RegionHeld3
import Derived.Laws.StructEq
import Derived.Lib.MinMax
import Derived.Test.YtepcddmkfdlcjaaGreatLUTake
namespace Go.Proofs.YtepcddmkfdlcjaaGreat
open Go.RowKit
set_option linter.unusedVariables false
set_option maxRecDepth 10000 in
set_option maxHeartbeats 4000000 in
theorem same15 (ao bo:Option Addr) (ca cb:Nat) (l:List Ent) (hn:l.length≤4000000) (w:World) (ha:EL w ao l) (hb:EL w bo l) :
  Calls Tryz.prog 15 #[.slice ao l.length ca, .slice bo l.length cb] w fun e w'=>e=.returned (.bool true)∧Gw w w':=by
 have EA:Aside (EL w ao l):=ha
 have EB:Aside (EL w bo l):=hb
 obtain ⟨n,hln⟩:∃ n,l.length=n:=⟨_,rfl⟩
 have LN:Aside (l.length=n):=hln
 rw [hln] at hn ⊢
 clear ha hb hln
 go_enter Tryz.func15,Tryz.ntmps15
 go_wp2_with fail
 go_loopg [5] n (fun gg s5 wr=>∃ i:Nat,s5=.int .i64 i∧i≤n∧n-i≤gg∧Aside (Gw w wr))
 case atStart=>exact ⟨0,rfl,Nat.zero_le _,by omega,(show Aside _ from Gw.refl w)⟩
 case round =>
  obtain ⟨i,rfl,h1,h2,G⟩:=hrel
  by_cases hlt:i<n
  ·obtain ⟨ab,af,rfl,hab,hac⟩:=(EA.out.gw G.out).cells (by rw [LN.out];omega)
   obtain ⟨bb,bf,rfl,hbb,hbc⟩:=(EB.out.gw G.out).cells (by rw [LN.out];omega)
   obtain ⟨c0,c1,c2⟩:=hac i (by rw [LN.out];exact hlt)
   obtain ⟨d0,d1,d2⟩:=hbc i (by rw [LN.out];exact hlt)
   have hlt':(i:Int)<(n:Int):=by omega
   generalize (l.getD i ent0).k=ki at c0 d0
   generalize (l.getD i ent0).v=vi at c1 d1
   generalize (l.getD i ent0).g=gi at c2 d2
   clear hac hbc
   go_wp2_with fail
   go_quiet (fail)
   go_wp2_with fail
   go_roundg (n-(i+1))
   case measure=>omega
   case rel=>exact ⟨i+1,by go_num,by omega,Nat.le_refl _,(show Aside _ from G.out.drewN _)⟩
  ·go_wp2_with fail
   go_ret
   exact ⟨rfl,G.out⟩
def eqO (o o':Option Rn):Prop:=(o=none∧o'=none)∨∃ r r',o=some r∧o'=some r'∧r.l=r'.l
set_option maxRecDepth 20000 in
set_option maxHeartbeats 8000000 in
theorem aboveL15 {HR:HRt} (H:RunC HR) (ao bo:Option Addr) (ca cb:Nat) (ra rb:List (Option Rn)) (j:Int) (j0:-1≤j) (j1:j<1000) (la:ra.length≤40) (lb:rb.length≤40) (w:World) (ha:PR HR w ao ra) (hb:PR HR w bo rb) (eq:∀ i:Nat,j<(i:Int)→(i<ra.length∨i<rb.length)→i<ra.length∧i<rb.length∧eqO (ra.getD i none) (rb.getD i none)) :
  Calls Tryz.prog 32 #[.slice ao ra.length ca, .slice bo rb.length cb, .int .i64 j] w fun e w'=>e=.returned (.bool true)∧Gw w w':=by
 have HA:Aside (PR HR w ao ra):=ha
 have HB:Aside (PR HR w bo rb):=hb
 have HH:Aside (RunC HR):=H
 obtain ⟨na,hna⟩:∃ n,ra.length=n:=⟨_,rfl⟩
 obtain ⟨nb,hnb⟩:∃ n,rb.length=n:=⟨_,rfl⟩
 have NA:Aside (ra.length=na∧rb.length=nb):=⟨hna,hnb⟩
 rw [hna] at la ⊢
 rw [hnb] at lb ⊢
 have EQ:Aside (∀ i:Nat,j<(i:Int)→i<max na nb→i<na∧i<nb∧eqO (ra.getD i none) (rb.getD i none)):=fun i hi hm=>by
  have:=eq i hi (by rw [hna,hnb];omega)
  rw [hna,hnb] at this
  exact this
 obtain ⟨k,hk⟩:∃ k:Nat,j+1=k:=⟨(j+1).toNat,by omega⟩
 have wk:IntKind.i64.wrap (j+1)=(k:Int):=by rw [IntKind.wrap_i64];omega
 obtain ⟨m,hm⟩:∃ m,max na nb=m:=⟨_,rfl⟩
 have mm:max (na:Int) (nb:Int)=(m:Int):=by omega
 have M40:m≤40:=by omega
 have MM:Aside (max na nb=m):=hm
 have K:Aside (j+1=k):=hk
 have k1000:k≤1000:=by omega
 clear ha hb H eq hna hnb hk hm
 go_enter Tryz.func32,Tryz.ntmps32
 go_wp2_with fail
 go_loopg [7] 1001 (fun gg s7 wr=>∃ i:Nat,s7=.int .i64 (i:Int)∧k≤i∧i≤1000∧1001-i≤gg∧Aside (Gw w wr))
 case atStart=>exact ⟨k,rfl,Nat.le_refl _,k1000,by omega,(show Aside _ from Gw.refl w)⟩
 case round =>
  obtain ⟨i,rfl,a0,a1,a2,G⟩:=hrel
  obtain ⟨wS,hwS⟩:∃ wx,wx=wr:=⟨_,rfl⟩
  subst hwS
  by_cases hlt:i<m
  ·have hlt':(i:Int)<(m:Int):=by omega
   obtain ⟨i1,i2,oo⟩:=EQ.out i (by have:=K.out;omega) (by rw [MM.out];exact hlt)
   have i1':(i:Int)<(na:Int):=by omega
   have i2':(i:Int)<(nb:Int):=by omega
   have n1:¬ na≤i:=by omega
   have n2:¬ nb≤i:=by omega
   have d1:decide ((na:Int)≤(i:Int))=false:=by simp;omega
   have d2:decide ((nb:Int)≤(i:Int))=false:=by simp;omega
   obtain ⟨ab,af,rfl,hab,hac⟩:=(HA.out.gw HH.out.kp G.out).cells (by rw [NA.out.1];omega)
   obtain ⟨bb,bf,rfl,hbb,hbc⟩:=(HB.out.gw HH.out.kp G.out).cells (by rw [NA.out.2];omega)
   have c0:=hac i (by rw [NA.out.1];exact i1)
   have c1:=hbc i (by rw [NA.out.2];exact i2)
   clear hac hbc
   rcases oo with ⟨e1,e2⟩ | ⟨rA,rB,e1,e2,el⟩
   ·rw [e1] at c0
    rw [e2] at c1
    have c0':wS.cell? ⟨ab,af+i,none⟩=some (.pointer none):=c0
    have c1':wS.cell? ⟨bb,bf+i,none⟩=some (.pointer none):=c1
    clear c0 c1 e1 e2 hlt
    go_wp2_with fail
    go_quiet (fail)
    go_wp2_with fail
    go_roundg (1001-(i+1))
    case measure=>omega
    case rel=>exact ⟨i+1,by go_num,by omega,by omega,Nat.le_refl _,(show Aside _ from G.out.drewN _)⟩
   ·have RA':=HA.out.runs rA (mem_rs (by rw [NA.out.1];exact i1) e1)
    have RB':=HB.out.runs rB (mem_rs (by rw [NA.out.2];exact i2) e2)
    rw [e1] at c0
    rw [e2] at c1
    have c0':wS.cell? ⟨ab,af+i,none⟩=some (.pointer (some ⟨rA.p,0,none⟩)):=c0
    have c1':wS.cell? ⟨bb,bf+i,none⟩=some (.pointer (some ⟨rB.p,0,none⟩)):=c1
    have LA:Hid (∀ W,Gw wS W→Calls Tryz.prog 35 #[.pointer (some ⟨rA.p,0,none⟩)] W fun e w'=>(∃ bo c,e=.returned (.slice bo rA.l.length c)∧EL w' bo rA.l)∧Gw W w'):=fun W gg=>(HH.out.told (RA'.gw HH.out.kp (G.out.trans gg))).mono fun e w' ⟨⟨bo,c,a,b,_⟩,d⟩=>⟨⟨bo,c,a,b⟩,d⟩
    have LB:Hid (∀ W,Gw wS W→Calls Tryz.prog 35 #[.pointer (some ⟨rB.p,0,none⟩)] W fun e w'=>(∃ bo c,e=.returned (.slice bo rA.l.length c)∧EL w' bo rA.l)∧Gw W w'):=fun W gg=>by rw [el];exact (HH.out.told (RB'.gw HH.out.kp (G.out.trans gg))).mono fun e w' ⟨⟨bo,c,a,b,_⟩,d⟩=>⟨⟨bo,c,a,b⟩,d⟩
    have few:=RA'.few
    obtain ⟨l,hl⟩:∃ l,rA.l=l:=⟨_,rfl⟩
    rw [hl] at LA LB few
    have SL:Hid (∀ (W:World) (xo yo:Option Addr) (xc yc:Nat),EL W xo l→EL W yo l→Calls Tryz.prog 15 #[.slice xo l.length xc, .slice yo l.length yc] W fun e w'=>e=.returned (.bool true)∧Gw W w'):=fun W xo yo xc yc hx hy=>same15 xo yo xc yc l (by omega) W hx hy
    obtain ⟨rrA,hrA⟩:∃ q,rA.p=q:=⟨_,rfl⟩
    obtain ⟨rrB,hrB⟩:∃ q,rB.p=q:=⟨_,rfl⟩
    rw [hrA] at c0' LA
    rw [hrB] at c1' LB
    obtain ⟨ln,hln⟩:∃ n,l.length=n:=⟨_,rfl⟩
    rw [hln] at LA LB SL few
    have HW:Hid (∀ w',Gw wS w'→Gw wS w'∧w'.cell? ⟨ab,af+i,none⟩=some (.pointer (some ⟨rrA,0,none⟩))∧w'.cell? ⟨bb,bf+i,none⟩=some (.pointer (some ⟨rrB,0,none⟩))):=fun w' gg=>⟨gg,(gg.cell _ _ hab).trans c0',(gg.cell _ _ hbb).trans c1'⟩
    have q1:∀ W:World,(binOp .eql 57 (.pointer (some ⟨rrA,0,none⟩)) (.pointer none)).run Tryz.prog W=.ok (.bool false) W:=fun _=>by kernel_rfl
    have q2:∀ W:World,(binOp .eql 57 (.pointer (some ⟨rrB,0,none⟩)) (.pointer none)).run Tryz.prog W=.ok (.bool false) W:=fun _=>by kernel_rfl
    clear c0 c1 e1 e2 hlt el hl hrA hrB hln RA' RB'
    go_wp2_with fail
    go_region_held3 (fun w'=>Gw wS w'∧w'.cell? ⟨ab,af+i,none⟩=some (.pointer (some ⟨rrA,0,none⟩))∧w'.cell? ⟨bb,bf+i,none⟩=some (.pointer (some ⟨rrB,0,none⟩)))
     ((refine HW.out _ ?_;(repeat (first | exact Gw.refl _ | exact And.left (by assumption) | exact Hid.out (by assumption) | refine Gw.drew ?_ | refine Gw.trans ?_ (by assumption)));done))
     ((
      first
      | (go_at_call_of 35 (Value.pointer (some ⟨rrA,0,none⟩));refine (LA.out _ (by repeat (first | exact Gw.refl _ | exact And.left (by assumption) | exact Hid.out (by assumption) | refine Gw.drew ?_ | refine Gw.drewN ?_ _))).mono ?_;rintro ex wA ⟨⟨boA,cA,rfl,elA⟩,gA⟩;have KA:Hid (∀ W,Gw wA W→EL W boA l):=(fun W gg=>elA.gw gg);have FA:Hid (Gw wS wA):=(Gw.trans (by repeat (first | exact Gw.refl _ | exact And.left (by assumption) | exact Hid.out (by assumption) | refine Gw.drew ?_ | refine Gw.drewN ?_ _)) gA);(try (have KB':Hid (∀ W,Gw wA W→EL W boB l):=(fun W gg=>KB.out W (Gw.trans (by first | exact gA | exact Gw.trans (Gw.drew (Gw.refl _)) gA) gg))));clear elA gA)
      | (go_at_call_of 35 (Value.pointer (some ⟨rrB,0,none⟩));refine (LB.out _ (by repeat (first | exact Gw.refl _ | exact And.left (by assumption) | exact Hid.out (by assumption) | refine Gw.drew ?_ | refine Gw.drewN ?_ _))).mono ?_;rintro ex wB ⟨⟨boB,cB,rfl,elB⟩,gB⟩;have KB:Hid (∀ W,Gw wB W→EL W boB l):=(fun W gg=>elB.gw gg);have FB:Hid (Gw wS wB):=(Gw.trans (by repeat (first | exact Gw.refl _ | exact And.left (by assumption) | exact Hid.out (by assumption) | refine Gw.drew ?_ | refine Gw.drewN ?_ _)) gB);(try (have KA':Hid (∀ W,Gw wB W→EL W boA l):=(fun W gg=>KA.out W (Gw.trans (by first | exact gB | exact Gw.trans (Gw.drew (Gw.refl _)) gB) gg))));clear elB gB)
      | (go_at_call 15;refine (SL.out _ boA boB cA cB (by first | exact KA'.out _ (Gw.refl _) | exact KA.out _ (Gw.refl _) | exact KA'.out _ (Gw.drew (Gw.refl _)) | exact KA.out _ (Gw.drew (Gw.refl _))) (by first | exact KB'.out _ (Gw.refl _) | exact KB.out _ (Gw.refl _) | exact KB'.out _ (Gw.drew (Gw.refl _)) | exact KB.out _ (Gw.drew (Gw.refl _)))).mono ?_;rintro ex wC ⟨rfl,gC⟩;have FC:Hid (Gw wS wC):=(Gw.trans (by repeat (first | exact Gw.refl _ | exact And.left (by assumption) | exact Hid.out (by assumption) | refine Gw.drew ?_ | refine Gw.drewN ?_ _)) gC);clear gC)))
    all_goals
     have G9:Aside (Gw w wC):=G.out.trans FC.out
     clear FC
     go_wp2_with fail
     go_roundg (1001-(i+1))
     case measure=>omega
     case rel=>exact ⟨i+1,by go_num,by omega,by omega,Nat.le_refl _,G9⟩
  ·have hlt':¬ (i:Int)<(m:Int):=by omega
   go_wp2_with fail
   go_ret
   exact ⟨rfl,G.out⟩
end Go.Proofs.YtepcddmkfdlcjaaGreat
