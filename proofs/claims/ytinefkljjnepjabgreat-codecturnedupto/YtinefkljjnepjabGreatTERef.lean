/- The document's Ends. -/
import Derived.Test.YtinefkljjnepjabGreatTPBs
import Derived.Test.YtinefkljjnepjabGreatTR4Add
namespace Go.Proofs.YtinefkljjnepjabGreat
open Go.RowKit
set_option linter.unusedVariables false
def EndsOut (base:Nat) (w':World) (ex:Ending) (eps:Int) (f:Nat→Int) (n:Nat):Prop:=∃ v l err,ex=.returned (.tuple #[v, .int .i64 err])∧EndsR eps f n l err∧IR w' base v l
set_option maxRecDepth 100000 in
set_option maxHeartbeats 8000000 in
theorem rends_any (eps:Int) (ao:Option Addr) (n cp:Nat) (f:Nat→Int) (p0:-9223372036854775808≤eps) (p1:eps<9223372036854775808) (hn:n≤2000000) (w:World) (h:KS w ao n f) :
  Calls Tryz.prog 99 #[.slice ao n cp, .int .i64 eps] w fun ex w'=>EndsOut w.heap.size w' ex eps f n∧Gw w w':=by
 have HK:Aside (KS w ao n f):=h
 clear h
 obtain ⟨ii,hii,hz,hs,hby⟩:=info_parts info_i
 by_cases k0:¬ (2≤eps∧eps≤64)
 ·have R:Aside (EndsR eps f n [] 1):=.inl ⟨k0,rfl,rfl⟩
  have BAD:Hid _:=fun W=>rnew_bad eps k0 W
  clear k0
  go_enter Tryz.func99,Tryz.ntmps99
  go_wp2_with fail
  refine (BAD.out _).mono ?_
  rintro ex w1 ⟨rfl,g1⟩
  go_wp2_with fail
  exact bodyPost_ret (v:=.tuple #[.slice none 0 0, .int .i64 1]) (by simp [results,Tryz.results99,go_sem]) rfl ⟨⟨_,[],1,rfl,R.out,ir_nil _ _⟩,g1⟩
 ·have KE:Aside (2≤eps∧eps≤64):=Classical.not_not.1 k0
  have k2:=KE.out.1
  have k3:=KE.out.2
  clear k0
  go_enter Tryz.func99,Tryz.ntmps99
  go_wp2_with fail
  refine (fitat_new w _ eps k2 k3 f 0 (Gw.refl w)).mono ?_
  rintro ex w1 ⟨⟨p,S,rfl,hF,_⟩,g1⟩
  have F1:Aside (FitAt w w1 p S (eps-1) f 0 0):=hF
  have G1:Aside (Gw w w1):=g1
  clear hF g1
  go_wp2_with fail
  refine (rrising_any ao n cp f (by omega) _ (HK.out.gw G1.out)).mono ?_
  rintro ex w2 ⟨⟨r,rfl,hr⟩,g2⟩
  have HR:Aside (r=true↔Up f n):=hr
  have G2:Aside (Gw w w2):=G1.out.trans g2
  have F2:Aside (FitAt w w2 p S (eps-1) f 0 0):=⟨rfit_keep F1.out.fit fun q hq=>g2.below.block q (rfit_lt F1.out.fit q hq),F1.out.new,F1.out.on⟩
  clear hr g2 F1 G1
  cases r with
  | false =>
   have R:Aside (EndsR eps f n [] 60):=.inr (.inl ⟨KE.out,fun q=>by have:=HR.out.2 q;simp at this,rfl,rfl⟩)
   go_wp2_with fail
   exact bodyPost_ret (v:=.tuple #[.slice none 0 0, .int .i64 60]) (by simp [results,Tryz.results99,go_sem]) rfl ⟨⟨_,[],60,rfl,R.out,ir_nil _ _⟩,G2.out⟩
  | true =>
   have UP:Aside (Up f n):=HR.out.1 rfl
   clear HR
   have I3:Aside (IR (w2.alloc (.cells #[] 3)) w.heap.size (.slice (some ⟨w2.heap.size,0,none⟩) 0 0) []):=ir_new w2 w.heap.size G2.out.size
   have G3:Aside (Gw w (w2.alloc (.cells #[] 3))):=G2.out.alloc _ _
   have F3:Aside (FitAt w (w2.alloc (.cells #[] 3)) p S (eps-1) f 0 0):=⟨rfit_keep F2.out.fit fun q hq=>((Gw.refl w2).alloc _ _).below.block q (rfit_lt F2.out.fit q hq),F2.out.new,F2.out.on⟩
   have N3:Aside (¬ S w2.heap.size):=fun q=>by have:=rfit_lt F2.out.fit _ q;omega
   have B3:Aside (w.heap.size≤w2.heap.size):=G2.out.size
   clear F2 G2
   go_wp2_with fail
   generalize w2.alloc (.cells #[] 3)=w3 at I3 G3 F3 ⊢
   go_loopg [6,8,9] n (fun gg s6 s8 s9 wr=>∃ (i s p b cap:Nat) (S:Nat→Prop) (l:List Nat),s6=.pointer (some ⟨p,0,none⟩)∧s8=.slice (some ⟨b,0,none⟩) l.length cap∧s9=.int .i64 i∧s≤i∧i≤n∧n-i≤gg∧l.length≤i∧(s=i→i=0)∧Aside (FitAt w wr p S (eps-1) f s i)∧Aside (IR wr w.heap.size (.slice (some ⟨b,0,none⟩) l.length cap) l)∧Aside (¬ S b)∧Aside (w.heap.size≤b)∧Aside (∀ l',EndsAt (eps-1) f n s l'→EndsAt (eps-1) f n 0 (l++l'))∧Aside (Gw w wr))
   case atStart=>exact ⟨0,0,p,w2.heap.size,0,S,[],rfl,rfl,rfl,Nat.le_refl _,Nat.zero_le _,by omega,Nat.le_refl _,fun _=>rfl,F3,I3,N3,B3,(show Aside _ from fun l' h=>h),G3⟩
   case round =>
    clear F3 I3 N3 B3 G3
    obtain ⟨i,s,p,b,cap,S,l,rfl,rfl,rfl,h1,h2,h3,h4,h5,F,I,NB,BB,PRE,G⟩:=hrel
    by_cases hlt:i<n
    ·obtain ⟨bk,off,rfl,hbk,hc⟩:=(HK.out.gw G.out).cells (by omega)
     have q1:=hc i hlt
     obtain ⟨y0,y1⟩:=HK.out.bd i hlt
     obtain ⟨fi,hfi⟩:∃ y,f i=y:=⟨_,rfl⟩
     have FI:Aside (f i=fi):=hfi
     rw [hfi] at q1 y0 y1
     clear hc hfi
     go_wp2_with fail
     refine (fitat_add F.out G.out h1 hlt UP.out fi FI.out y0 y1 (by omega)).mono ?_
     rintro ex w4 ⟨ok,err,S',rfl,hok,hF,hS',gs,g4⟩
     have OK:Aside (ok=true↔FitsOn (eps-1) (sh f s) (Prs (i+1-s))):=hok
     have G4:Aside (Gw w w4):=g4
     have I4:Aside (IR w4 w.heap.size (.slice (some ⟨b,0,none⟩) l.length cap) l):=ir_keep I.out fun q hq=>by
      cases hq
      exact gs.block b (ir_lt I.out b rfl).2 NB.out
     cases ok with
     | true =>
      have F4:Aside (FitAt w w4 p S' (eps-1) f s (i+1)):=hF rfl
      have NB4:Aside (¬ S' b):=fun q=>by
       rcases hS' b q with r | r
       ·exact NB.out r
       ·have:=(ir_lt I.out b rfl).2;omega
      clear hok hF hS' gs g4 F I NB G OK q1
      go_wp2_with fail
      go_roundg (n-(i+1))
      case measure=>omega
      case rel=>exact ⟨i+1,s,p,b,cap,S',l,rfl,rfl,by go_num,by omega,by omega,Nat.le_refl _,by omega,fun q=>by omega,F4,I4,NB4,BB,PRE,G4⟩
     | false =>
      have si:s<i:=by
       rcases Nat.lt_or_ge s i with q | q
       ·exact q
       ·exfalso
        have e:s=i:=by omega
        have:FitsOn (eps-1) (sh f s) (Prs (i+1-s)):=few_fit (by omega) (sh_up UP.out (show i+1≤n by omega)) (by omega)
        have:=OK.out.2 this
        simp at this
      have ON:Aside (FitsOn (eps-1) (sh f s) (Prs (i-s))):=F.out.on
      have NX:Aside (∀ l',EndsAt (eps-1) f n i l'→EndsAt (eps-1) f n 0 ((l++[i])++l')):=fun l' h=>by
       rw [List.append_assoc]
       exact PRE.out (i::l') ⟨si,by omega,ON.out,fun _ q=>by have:=OK.out.2 q;simp at this,h⟩
      have q2:w4.cell? ⟨bk,off+i,none⟩=some (.int .u64 fi):=by
       obtain ⟨bk',off',e,_,hc'⟩:=(HK.out.gw G4.out).cells (by omega)
       cases e
       rw [hc' i hlt,FI.out]
      have hb4:bk<w4.heap.size:=by
       have:=(HK.out.gw G4.out).cells (by omega)
       obtain ⟨bk',off',e,hb',_⟩:=this
       cases e
       exact hb'
      clear hok hF hS' gs g4 F I NB G OK PRE ON q1
      have z4:=G4.out.size
      go_wp2_with (at_builtin;refine wpList_append_own _ rfl _ _ 152 rfl w.heap.size 3 ii (.int .i64 0) 1 8 Tryz.underlying152 hii hz hs hby rfl (by decide) _ l.length _ rfl (I4.out.alloc _) ⟨w4.heap.size,0,none⟩ 1 1 [.int .i64 (i:Int)] rfl rfl (new_i w4 i) (ints_oneCell .i64 [(i:Int)]) (by simp only [maxLen];omega) (by omega) (by simp;omega) ?_)
      intro v' w5 r1 r2 r3
      obtain ⟨b5,cap5,rfl,hb5,_,_⟩:=own_slice r1 (by simpa using r3)
      have I5:Aside (IR w5 w.heap.size (.slice (some ⟨b5,0,none⟩) (l++[i]).length cap5) (l++[i])):=by
       have:=r1
       simp only [IR,List.length_append,List.length_cons,List.length_nil,List.map_append,List.map_cons,List.map_nil]
       show World.ownsRow _ _ _ _ _ _ _
       simpa using this
      have G5:Aside (Gw w w5):=(G4.out.alloc _ _).grown r2 (fun k hk=>by cases hk;exact BB.out)
      have B5:Aside (w.heap.size≤b5):=hb5
      have e5:(l++[i]).length=l.length+1:=by simp
      have q5:w5.cell? ⟨bk,off+i,none⟩=some (.int .u64 fi):=by
       obtain ⟨bk',off',e,_,hc'⟩:=(HK.out.gw G5.out).cells (by omega)
       cases e
       rw [hc' i hlt,FI.out]
      clear r1 r2 r3 I4 BB hb5 q2 hb4
      go_wp2_with fail
      refine (fitat_new w _ eps k2 k3 f i G5.out).mono ?_
      rintro ex w6 ⟨⟨p6,S6,rfl,hF6,hS6⟩,g6⟩
      have F6:Aside (FitAt w w6 p6 S6 (eps-1) f i i):=hF6
      have G6:Aside (Gw w w6):=G5.out.trans g6
      have I6:Aside (IR w6 w.heap.size (.slice (some ⟨b5,0,none⟩) (l++[i]).length cap5) (l++[i])):=ir_gw I5.out g6
      have NB6:Aside (¬ S6 b5):=fun q=>by have:=hS6 b5 q;have:=(ir_lt I5.out b5 rfl).2;omega
      have q6:w6.cell? ⟨bk,off+i,none⟩=some (.int .u64 fi):=by
       obtain ⟨bk',off',e,_,hc'⟩:=(HK.out.gw G6.out).cells (by omega)
       cases e
       rw [hc' i hlt,FI.out]
      clear hF6 hS6 g6 G5 I5 q5
      go_wp2_with fail
      refine (fitat_add F6.out G6.out (Nat.le_refl _) hlt UP.out fi FI.out y0 y1 (by omega)).mono ?_
      rintro ex w7 ⟨ok7,err7,S7,rfl,hok7,hF7,hS7,gs7,g7⟩
      have o7:ok7=true:=hok7.2 (few_fit (by omega) (sh_up UP.out (show i+1≤n by omega)) (by omega))
      have F7:Aside (FitAt w w7 p6 S7 (eps-1) f i (i+1)):=hF7 o7
      have G7:Aside (Gw w w7):=g7
      have I7:Aside (IR w7 w.heap.size (.slice (some ⟨b5,0,none⟩) (l++[i]).length cap5) (l++[i])):=ir_keep I6.out fun q hq=>by
       cases hq
       exact gs7.block b5 (ir_lt I6.out b5 rfl).2 NB6.out
      have NB7:Aside (¬ S7 b5):=fun q=>by
       rcases hS7 b5 q with r | r
       ·exact NB6.out r
       ·have:=(ir_lt I6.out b5 rfl).2;omega
      clear hok7 hF7 hS7 gs7 g7 F6 G6 I6 NB6 q6
      go_wp2_with fail
      go_roundg (n-(i+1))
      case measure=>omega
      case rel=>exact ⟨i+1,i,p6,b5,cap5,S7,l++[i],rfl,by rw [e5],by go_num,by omega,by omega,Nat.le_refl _,by omega,fun q=>by omega,F7,I7,NB7,B5,NX,G7⟩
    ·have e:i=n:=by omega
     subst e
     by_cases n0:0<i
     ·have si:s<i:=by
       rcases Nat.lt_or_ge s i with q | q
       ·exact q
       ·have:=h5 (by omega);omega
      have R:Aside (EndsR eps f i (l++[i]) 0):=.inr (.inr ⟨KE.out,UP.out,PRE.out [i] ⟨si,Nat.le_refl _,F.out.on,fun q=>absurd q (Nat.lt_irrefl _),rfl⟩,rfl⟩)
      have tn:(0:Int)<(i:Int):=by omega
      have z4:=G.out.size
      clear F PRE NB
      go_wp2_with (at_builtin;refine wpList_append_own _ rfl _ _ 152 rfl w.heap.size 3 ii (.int .i64 0) 1 8 Tryz.underlying152 hii hz hs hby rfl (by decide) _ l.length _ rfl (I.out.alloc _) ⟨wr.heap.size,0,none⟩ 1 1 [.int .i64 (i:Int)] rfl rfl (new_i wr i) (ints_oneCell .i64 [(i:Int)]) (by simp only [maxLen];omega) (by omega) (by simp;omega) ?_)
      intro v' w5 r1 r2 r3
      have I5:Aside (IR w5 w.heap.size v' (l++[i])):=by
       have:=r1
       simp only [IR,List.length_append,List.length_cons,List.length_nil,List.map_append,List.map_cons,List.map_nil]
       show World.ownsRow _ _ _ _ _ _ _
       simpa using this
      have G5:Aside (Gw w w5):=(G.out.alloc _ _).grown r2 (fun k hk=>by cases hk;exact BB.out)
      clear r1 r2 r3
      go_wp2_with fail
      exact bodyPost_ret (v:=.tuple #[v', .int .i64 0]) (by simp [results,Tryz.results99,go_sem]) rfl ⟨⟨_,_,0,rfl,R.out,I5.out⟩,G5.out⟩
     ·have ei:i=0:=by omega
      subst ei
      have es:s=0:=by omega
      subst es
      have R:Aside (EndsR eps f 0 l 0):=.inr (.inr ⟨KE.out,UP.out,by simpa using PRE.out [] rfl,rfl⟩)
      clear F PRE NB
      go_wp2_with fail
      exact bodyPost_ret (v:=.tuple #[.slice (some ⟨b,0,none⟩) l.length cap, .int .i64 0]) (by simp [results,Tryz.results99,go_sem]) rfl ⟨⟨_,_,0,rfl,R.out,I.out⟩,G.out⟩
end Go.Proofs.YtinefkljjnepjabGreat
