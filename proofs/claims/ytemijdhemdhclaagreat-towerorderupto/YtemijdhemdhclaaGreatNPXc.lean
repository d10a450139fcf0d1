/- What the statements of layer 6 ask of package cut, as one structure; lists of ints alike; the examples; which keys are right. -/
import Derived.Deep.CondSized
import Derived.Test.YtemijdhemdhclaaGreatNPY1
import Derived.Test.YtemijdhemdhclaaGreatNCFit
set_option linter.unusedVariables false
set_option maxHeartbeats 8000000
set_option maxRecDepth 100000
open Go.Proofs.Tryz
namespace Go.Proofs.YtemijdhemdhclaaGreat
open Go.RowKit
structure CutC:Prop where
 ends:∀ (eps:Int) (ao:Option Addr) (n cp:Nat) (f:Nat->Int),-9223372036854775808<=eps->eps<9223372036854775808->n<=2000000->n<=cp->∀ w:World,KS w ao n f->Calls prog 117 #[.slice ao n cp,.int .i64 eps] w fun ex w'=>EndsOut w.heap.size w' ex eps f n/\Gw w w'
structure XFitAt (HF:World->Nat->(Nat->Prop)->Int->Nat->(Nat->Int)->Prop) (w0 w:World) (p:Nat) (S:Nat->Prop) (e:Int) (f:Nat->Int) (s i:Nat):Prop where
 fit:HF w p S e (i-s) (cut0 (sh f s) (i-s))
 new:∀ q,S q->w0.heap.size<=q
 on:FitsOn e (sh f s) (Prs (i-s))
theorem xfit_add {HF:World->Nat->(Nat->Prop)->Int->Nat->(Nat->Int)->Prop} (H:HullC HF) {w0 w:World} {p:Nat} {S:Nat->Prop} {e:Int} {f:Nat->Int} {s i n:Nat} (h:XFitAt HF w0 w p S e f s i) (g0:Gw w0 w) (hs:s<=i) (hi:i<n) (u:Up f n) (x:Int) (hx:f i=x) (x0:0<=x) (x1:x<18446744073709551616) (hn:n<=2000000) :
  Calls prog 143 #[.pointer (some ⟨p,0,none⟩),.int .u64 x] w fun ex w' =>
   ∃ (ok:Bool) (err:Int) (S':Nat->Prop),ex=.returned (.tuple #[.bool ok,.int .i64 err])/\(ok=true↔FitsOn e (sh f s) (Prs (i+1-s)))/\(ok=true->XFitAt HF w0 w' p S' e f s (i+1))/\(∀ q,S' q->S q\/w.heap.size<=q)/\Gs S w w'/\Gw w0 w':=by
 refine (H.add h.fit x x0 x1 (by omega)).mono ?_
 rintro ex w' ⟨⟨ok,err,S',rfl,hA,hF,hS'⟩,g⟩;have ei:i+1-s=i-s+1:=by omega
 have hxs:sh f s (i-s)=x:=by show f (s+(i-s))=x;rw [show s+(i-s)=i by omega];exact hx
 have UF:∀ j,j<i-s+1->upd (cut0 (sh f s) (i-s)) (i-s) x j=sh f s j:=fun j hj=>by
  rw [<-hxs,cut0_next,cut0_lo hj]
 have HC:ok=true↔FitsOn e (sh f s) (Prs (i+1-s)):=by
  rw [ei];rcases hA with ⟨q1,q2,_⟩ | ⟨_,_,q3⟩
  ·exfalso
   rw [cut0_lo (by omega)] at q2
   have q4:f (s+(i-s-1))<f i:=u.lt (by omega) hi
   have q5:sh f s (i-s-1)=f (s+(i-s-1)):=rfl;omega
  ·refine q3.trans ⟨fun q=>q.congr (fun _ _ s=>s) (fun a b s=>?_),fun q=>q.congr (fun _ _ s=>s) (fun a b s=>?_)⟩
   all_goals rw [UF b (by have:=s.2;omega),UF a (by have:=s.1;have:=s.2;omega)]
 refine ⟨ok,err,S',rfl,HC,fun q=>?_,hS',g,gs_gw g0 g h.new⟩
 have on:=HC.1 q;subst q;refine ⟨?_,fun q hq=>?_,on⟩
 ·rw [if_pos rfl,if_pos rfl,<-hxs,cut0_next] at hF
  rw [ei];exact hF
 ·rcases hS' q hq with r | r
  ·exact h.new q r
  ·have:=g0.size;omega
theorem xfit_new {HF:World->Nat->(Nat->Prop)->Int->Nat->(Nat->Int)->Prop} (H:HullC HF) (w0 w:World) (eps:Int) (e1:2<=eps) (e2:eps<=64) (f:Nat->Int) (s:Nat) (g0:Gw w0 w) :
  Calls prog 127 #[.int .i64 eps] w fun ex w'=>(∃ p S,ex=.returned (.tuple #[.pointer (some ⟨p,0,none⟩),.int .i64 0])/\XFitAt HF w0 w' p S (eps-1) f s s/\(∀ q,S q->w.heap.size<=q))/\Gw w w':=by
 refine (H.new eps e1 e2 w).mono ?_;rintro ex w' ⟨⟨p,S,rfl,hS,hF⟩,g⟩;refine ⟨⟨p,S,rfl,⟨?_,fun q hq=>?_,?_⟩,hS⟩,g⟩
 ·rw [Nat.sub_self,cut0_none]
  exact hF
 ·have:=hS q hq;have:=g0.size;omega
 ·rw [Nat.sub_self]
  intro a b a' b' q;have:=q.1;have:=q.2;omega
theorem ks_tail {w:World} {bk off n:Nat} {f:Nat->Int} {s:Nat} (h:KS w (some ⟨bk,off,none⟩) n f) (hs:s<=n):∀ j,j<n-s->w.cell? ⟨bk,off+s+j,none⟩=some (.int .u64 (f (s+j))):=by
 intro j hj;obtain ⟨b,o,e,_,hc⟩:=h.cells (by omega)
 cases e
 rw [Nat.add_assoc];exact hc (s+j) (by omega)
def EndsOf (base:Nat) (w':World) (ex:Ending) (e:Int) (f:Nat->Int) (n:Nat):Prop:=∃ v l,ex=.returned v/\EndsAt e f n 0 l/\IR w' base v l
theorem xends_any {HF:World->Nat->(Nat->Prop)->Int->Nat->(Nat->Int)->Prop} (H:HullC HF) (eps:Int) (ao:Option Addr) (n cp:Nat) (f:Nat->Int) (k2:2<=eps) (k3:eps<=64) (u:Up f n) (hn:n<=2000000) (hcp:n<=cp) (w0 w:World) (h:KS w0 ao n f) (g0:Gw w0 w) :
  Calls prog 129 #[.slice ao n cp,.int .i64 eps] w fun ex w'=>EndsOf w0.heap.size w' ex (eps-1) f n/\Gw w0 w':=by
 have HH:Aside _:=H;have HK:Aside _:=h;have UP:Aside _:=u;have G0:Aside _:=g0;clear H h u g0;obtain ⟨ii,hii,hz,hs,hby⟩:=info_parts info_i;go_enter func129,ntmps129;go_wp2_with fail;go_step3;go_wp2_with fail;go_step3;go_wp2_with fail;have I0:Aside (IR w w0.heap.size (.slice none 0 0) []):=ir_nil _ _;go_loopg [5,6] n (fun gg s5 s6 wr=>∃ (s cap:Nat) (bo:Option Addr) (l:List Nat),s5=.slice bo l.length cap/\s6=.int .i64 s/\s<=n/\n-s<=gg/\l.length<=s/\Aside (IR wr w0.heap.size (.slice bo l.length cap) l)/\Aside (∀ l',EndsAt (eps-1) f n s l'->EndsAt (eps-1) f n 0 (l++l'))/\Aside (Gw w0 wr))
 case atStart=>exact ⟨0,0,none,[],rfl,rfl,Nat.zero_le _,by omega,Nat.le_refl _,I0,(show Aside _ from fun l' h=>h),G0⟩
 case round =>
  clear I0 G0;obtain ⟨s,cap,bo,l,rfl,rfl,h1,h2,h3,I,PRE,G⟩:=hrel;by_cases hlt:s<n
  ·obtain ⟨bk,off,rfl,hbk,hc⟩:=(HK.out.gw G.out).cells (by omega)
   clear hc;have scp:s<=cp:=by omega
   have scp':¬ s=cp:=by omega
   go_wp2_with fail;refine (xfit_new HH.out w0 _ eps k2 k3 f s G.out).mono ?_
   rintro ex w1 ⟨⟨p,S,rfl,hF,hS⟩,g1⟩;have F1:Aside _:=hF;have G1:Aside _:=G.out.trans g1;have I1:Aside _:=ir_gw I.out g1;have NB1:Aside (∀ q,(Value.slice bo l.length cap).ownBlock=some q->¬ S q):=fun q hq r=>by have:=hS q r;have:=(ir_lt I.out q hq).2;omega
   clear hF hS g1 I G;go_wp2_with fail;obtain ⟨m,hm⟩:∃ m,n-s=m:=⟨_,rfl⟩;rw [hm];have M:Aside (s+m=n):=show s+m=n by omega
   have ML:m<=2000000:=by omega
   clear hm;go_loopg [5,6,26] m (fun gg s5 s6 s26 wr=>∃ (j:Nat) (S:Nat->Prop),s5=.slice bo l.length cap/\s6=.int .i64 s/\s26=.int .i64 j/\j<=m/\m-j<=gg/\Aside (XFitAt HF w0 wr p S (eps-1) f s (s+j))/\Aside (IR wr w0.heap.size (.slice bo l.length cap) l)/\Aside (∀ q,(Value.slice bo l.length cap).ownBlock=some q->¬ S q)/\Aside (Gw w0 wr))
   case atStart=>exact ⟨0,S,rfl,rfl,rfl,Nat.zero_le _,by omega,F1,I1,NB1,G1⟩
   case round =>
    clear F1 I1 NB1 G1 hbk;obtain ⟨j,S,rfl,rfl,rfl,r1,r2,F,I,NB,G⟩:=hrel;by_cases jlt:j<m
    ·obtain ⟨i,hi⟩:∃ i,s+j=i:=⟨_,rfl⟩
     have II:Aside _:=hi;have ilt:i<n:=by have:=M.out;omega
     have sle:s<=i:=by omega
     have q1:wr.cell? ⟨bk,off+s+j,none⟩=some (.int .u64 (f i)):=by rw [<-hi];exact ks_tail (HK.out.gw G.out) h1 j (by have:=M.out;omega)
     obtain ⟨y0,y1⟩:=HK.out.bd i ilt;obtain ⟨fi,hfi⟩:∃ y,f i=y:=⟨_,rfl⟩;have FI:Aside _:=hfi;rw [hfi] at q1 y0 y1;rw [hi] at F;clear hfi;have wi:IntKind.i64.wrap ((s:Int)+(j:Int))=(i:Int):=by rw [IntKind.wrap_i64];omega
     clear hi;go_wp2_with fail;refine (xfit_add HH.out F.out G.out sle ilt UP.out fi FI.out y0 y1 hn).mono ?_;rintro ex w4 ⟨ok,err,S',rfl,hok,hF,hS',gs,g4⟩;have OK:Aside _:=hok;have G4:Aside _:=g4;have I4:Aside _:=ir_keep I.out fun q hq=>gs.block q (ir_lt I.out q hq).2 (NB.out q hq)
     cases ok with
     | true =>
      have F4:Aside (XFitAt HF w0 w4 p S' (eps-1) f s (s+(j+1))):=by
       have:=hF rfl
       rw [<-II.out] at this;exact this
      have NB4:Aside (∀ q,(Value.slice bo l.length cap).ownBlock=some q->¬ S' q):=fun q hq r=>by
       rcases hS' q r with r | r
       ·exact NB.out q hq r
       ·have:=(ir_lt I.out q hq).2;omega
      clear hok hF hS' gs g4 F I NB G OK q1;go_wp2_with fail;go_roundg (m-(j+1))
      case measure=>omega
      case rel=>exact ⟨j+1,S',rfl,rfl,by go_num,by omega,Nat.le_refl _,F4,I4,NB4,G4⟩
     | false =>
      have si:s<i:=by
       rcases Nat.lt_or_ge s i with q | q
       ·exact q
       ·exfalso
        have:FitsOn (eps-1) (sh f s) (Prs (i+1-s)):=few_fit (by omega) (sh_up UP.out (show i+1<=n by omega)) (by omega)
        have:=OK.out.2 this
        simp at this
      have NX:Aside (∀ l',EndsAt (eps-1) f n i l'->EndsAt (eps-1) f n 0 ((l++[i])++l')):=fun l' h=>by
       rw [List.append_assoc];exact PRE.out (i::l') ⟨si,by omega,F.out.on,fun _ q=>by have:=OK.out.2 q;simp at this,h⟩
      clear hok hF hS' gs g4 F I NB G OK PRE q1;have z4:=G4.out.size;go_wp2_with (at_builtin;refine wpList_append_own _ rfl _ _ 50 rfl w0.heap.size 3 ii (.int .i64 0) 1 8 underlying50 hii hz hs hby rfl (by decide) _ l.length _ rfl (I4.out.alloc _) ⟨w4.heap.size,0,none⟩ 1 1 [.int .i64 (i:Int)] rfl rfl (new_i w4 i) (ints_oneCell .i64 [(i:Int)]) (by simp only [maxLen];omega) (by omega) (by simp;omega) ?_)
      intro v' w5 r1 r2 r3;obtain ⟨b5,cap5,rfl,hb5,_,_⟩:=own_slice r1 (by simpa using r3)
      have e5:(l++[i]).length=l.length+1:=by simp
      have I5:Aside (IR w5 w0.heap.size (.slice (some ⟨b5,0,none⟩) (l++[i]).length cap5) (l++[i])):=by
       have:=r1
       simp only [IR,List.length_append,List.length_cons,List.length_nil,List.map_append,List.map_cons,List.map_nil];show World.ownsRow _ _ _ _ _ _ _;simpa using this
      have G5:Aside (Gw w0 w5):=(G4.out.alloc _ _).grown r2 (fun k hk=>(ir_lt I4.out k hk).1)
      clear r1 r2 r3 I4 hb5;go_wp2_with fail;go_roundg (n-i)
      case measure=>omega
      case rel=>exact ⟨i,cap5,some ⟨b5,0,none⟩,l++[i],by rw [e5],rfl,by omega,Nat.le_refl _,by omega,I5,NX,G5⟩
    ·have e:j=m:=by omega
     subst e;have e:s+j=n:=M.out;rw [e] at F;have R:Aside (EndsAt (eps-1) f n 0 (l++[n])):=PRE.out [n] ⟨hlt,Nat.le_refl _,F.out.on,fun q=>absurd q (Nat.lt_irrefl _),rfl⟩
     clear F PRE NB e M;have z4:=G.out.size;go_wp2_with (at_builtin;refine wpList_append_own _ rfl _ _ 50 rfl w0.heap.size 3 ii (.int .i64 0) 1 8 underlying50 hii hz hs hby rfl (by decide) _ l.length _ rfl (I.out.alloc _) ⟨wr.heap.size,0,none⟩ 1 1 [.int .i64 (n:Int)] rfl rfl (new_i wr n) (ints_oneCell .i64 [(n:Int)]) (by simp only [maxLen];omega) (by omega) (by simp;omega) ?_)
     intro v' w5 r1 r2 r3;have I5:Aside (IR w5 w0.heap.size v' (l++[n])):=by
      have:=r1
      simp only [IR,List.length_append,List.length_cons,List.length_nil,List.map_append,List.map_cons,List.map_nil];show World.ownsRow _ _ _ _ _ _ _;simpa using this
     have G5:Aside (Gw w0 w5):=(G.out.alloc _ _).grown r2 (fun k hk=>(ir_lt I.out k hk).1)
     clear r1 r2 r3;go_wp2_with fail
     first | rw [Exit.noGoto_ret] | skip
     exact bodyPost_ret (v:=v') (by simp [results,results129,go_sem]) rfl ⟨⟨v',_,rfl,R.out,I5.out⟩,G5.out⟩
  ·have e:s=n:=by omega
   subst e;have R:Aside (EndsAt (eps-1) f s 0 l):=show EndsAt (eps-1) f s 0 l by simpa using PRE.out [] rfl
   clear PRE;go_wp2_with fail
   first | rw [Exit.noGoto_ret] | skip
   exact bodyPost_ret (v:=.slice bo l.length cap) (by simp [results,results129,go_sem]) rfl ⟨⟨_,l,rfl,R.out,I.out⟩,G.out⟩
theorem rise_any (ao:Option Addr) (n c:Nat) (f:Nat->Int) (hn:n<4611686018427387904) (w:World) (h:KS w ao n f) :
  Calls prog 128 #[.slice ao n c] w fun e w'=>(∃ r:Bool,e=.returned (.bool r)/\(r=true↔Up f n))/\Gw w w':=by
 have HK:Aside _:=h;clear h;go_enter func128,ntmps128;go_wp2_with fail;refine (rising_any ao n c f hn w HK.out).mono ?_;rintro e w1 ⟨⟨r,rfl,hr⟩,g1⟩;have HR:Aside _:=hr;clear hr;go_wp2_with fail;go_ret;exact ⟨⟨r,rfl,HR.out⟩,g1⟩
theorem cutc_of {HF:World->Nat->(Nat->Prop)->Int->Nat->(Nat->Int)->Prop} (H:HullC HF):CutC where
 ends eps ao n cp f p0 p1 hn hcp w h:=by
  have HH:Aside _:=H;have HK:Aside _:=h;clear H h;by_cases k0:¬ (2<=eps/\eps<=64)
  ·have R:Aside (EndsR eps f n [] 1):=.inl ⟨k0,rfl,rfl⟩
   have BAD:Hid _:=fun W=>HH.out.bad eps k0 W
   clear k0;go_enter func117,ntmps117;go_wp2_with fail;refine (BAD.out _).mono ?_;rintro ex w1 ⟨rfl,g1⟩;go_wp2_with fail;exact bodyPost_ret (v:=.tuple #[.slice none 0 0,.int .i64 1]) (by simp [results,results117,go_sem]) rfl ⟨⟨_,[],1,rfl,R.out,ir_nil _ _⟩,g1⟩
  ·have KE:Aside (2<=eps/\eps<=64):=Classical.not_not.1 k0
   have NEW:Hid _:=fun W=>HH.out.new eps KE.out.1 KE.out.2 W
   clear k0;go_enter func117,ntmps117;go_wp2_with fail;refine (NEW.out _).mono ?_;rintro ex w1 ⟨⟨p,S,rfl,_,_⟩,g1⟩;have G1:Aside _:=g1;clear g1;go_wp2_with fail;refine (rise_any ao n cp f (by omega) _ (HK.out.gw G1.out)).mono ?_
   rintro ex w2 ⟨⟨r,rfl,hr⟩,g2⟩;have HR:Aside _:=hr;have G2:Aside _:=G1.out.trans g2;clear hr g2 G1;cases r with
   | false =>
    have R:Aside (EndsR eps f n [] 60):=.inr (.inl ⟨KE.out,fun q=>by have:=HR.out.2 q;simp at this,rfl,rfl⟩)
    go_wp2_with fail;exact bodyPost_ret (v:=.tuple #[.slice none 0 0,.int .i64 60]) (by simp [results,results117,go_sem]) rfl ⟨⟨_,[],60,rfl,R.out,ir_nil _ _⟩,G2.out⟩
   | true =>
    have UP:Aside _:=HR.out.1 rfl;clear HR;go_wp2_with fail;refine (xends_any HH.out eps ao n cp f KE.out.1 KE.out.2 UP.out hn hcp w _ HK.out G2.out).mono ?_;rintro ex w3 ⟨⟨v,l,rfl,hE,hI⟩,g3⟩;have R:Aside (EndsR eps f n l 0):=.inr (.inr ⟨KE.out,UP.out,hE,rfl⟩);have I3:Aside _:=hI;clear hE hI;go_wp2_with fail;exact bodyPost_ret (v:=.tuple #[v,.int .i64 0]) (by simp [results,results117,go_sem]) rfl ⟨⟨_,_,0,rfl,R.out,I3.out⟩,g3⟩
theorem cutc:CutC:=cutc_of hullc
end Go.Proofs.YtemijdhemdhclaaGreat
