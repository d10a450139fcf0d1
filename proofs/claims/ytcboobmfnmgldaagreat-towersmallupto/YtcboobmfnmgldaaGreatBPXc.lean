/- What the statements of layer 6 ask of package cut, as one structure; lists of ints alike; the examples; which keys are right. -/
import Derived.Deep.CondSized
import Derived.Test.YtcboobmfnmgldaaGreatBPY1
import Derived.Test.YtcboobmfnmgldaaGreatBPCl
set_option linter.unusedVariables false
set_option maxHeartbeats 8000000
set_option maxRecDepth 100000
open Go.Proofs.Tryz
namespace Go.Proofs.YtcboobmfnmgldaaGreat
open Go.RowKit
structure uF:Prop where
 ends:∀ (eps:Int) (ao:Option Addr) (n cp:Nat) (f:Nat->Int),-9223372036854775808<=eps->eps<9223372036854775808->n<=2000000->n<=cp->∀ w:World,KS w ao n f->Calls prog 96 #[.slice ao n cp,AI eps] w fun ex w'=>MI w.heap.size w' ex eps f n/\Gw w w'
structure yp (HF:World->Nat->(Nat->Prop)->Int->Nat->(Nat->Int)->Prop) (w0 w:World) (p:Nat) (S:Nat->Prop) (e:Int) (f:Nat->Int) (s i:Nat):Prop where
 fit:HF w p S e (i-s) (nJ (sh f s) (i-s))
 new:∀ q,S q->w0.heap.size<=q
 on:aY e (sh f s) (aB (i-s))
variable {HF:World->Nat->(Nat->Prop)->Int->Nat->(Nat->Int)->Prop}
theorem aei (H:nI HF) {w0 w:World} {p:Nat} {S:Nat->Prop} {e:Int} {f:Nat->Int} {s i n:Nat} (h:yp HF w0 w p S e f s i) (g0:Gw w0 w) (hs:s<=i) (hi:i<n) (u:Up f n) (x:Int) (hx:f i=x) (x0:0<=x) (x1:x<18446744073709551616) (hn:n<=2000000) :
  Calls prog 142 #[BY p,By x] w fun ex w' =>
   ∃ (ok:Bool) (err:Int) (S':Nat->Prop),ex=.returned (.tuple #[.bool ok,AI err])/\(ok=true↔aY e (sh f s) (aB (i+1-s)))/\(ok=true->yp HF w0 w' p S' e f s (i+1))/\(∀ q,S' q->S q\/w.heap.size<=q)/\Gs S w w'/\Gw w0 w':=by
 refine (H.add h.fit x x0 x1 (by omega)).mono ?_
 rintro ex w' ⟨⟨ok,err,S',rfl,hA,hF,fV⟩,g⟩;have ei:i+1-s=i-s+1:=by omega
 have vB:sh f s (i-s)=x:=by show f (s+(i-s))=x;rw [show s+(i-s)=i by omega];exact hx
 have UF:∀ j,j<i-s+1->aD (nJ (sh f s) (i-s)) (i-s) x j=sh f s j:=fun j hj=>by
  rw [<-vB,zO,qS hj]
 have HC:ok=true↔aY e (sh f s) (aB (i+1-s)):=by
  rw [ei];rcases hA with ⟨q1,q2,_⟩ | ⟨_,_,q3⟩
  ·exfalso
   rw [qS (by omega)] at q2
   have q4:f (s+(i-s-1))<f i:=u.lt (by omega) hi
   have q5:sh f s (i-s-1)=f (s+(i-s-1)):=rfl;omega
  ·refine q3.trans ⟨fun q=>q.congr (fun _ _ s=>s) (fun a b s=>?_),fun q=>q.congr (fun _ _ s=>s) (fun a b s=>?_)⟩
   all_goals rw [UF b (by have:=s.2;omega),UF a (by have:=s.1;have:=s.2;omega)]
 refine ⟨ok,err,S',rfl,HC,fun q=>?_,fV,g,MD g0 g h.new⟩
 have on:=HC.1 q;subst q;refine ⟨?_,fun q hq=>?_,on⟩
 ·rw [if_pos rfl,if_pos rfl,<-vB,zO] at hF
  rw [ei];exact hF
 ·rcases fV q hq with r | r
  ·exact h.new q r
  ·have:=g0.size;omega
theorem aej (H:nI HF) (w0 w:World) (eps:Int) (e1:2<=eps) (e2:eps<=64) (f:Nat->Int) (s:Nat) (g0:Gw w0 w) :
  Calls prog 120 #[AI eps] w fun ex w'=>(∃ p S,ex=.returned (.tuple #[BY p,AI 0])/\yp HF w0 w' p S (eps-1) f s s/\(∀ q,S q->w.heap.size<=q))/\Gw w w':=by
 refine (H.new eps e1 e2 w).mono ?_;rintro ex w' ⟨⟨p,S,rfl,hS,hF⟩,g⟩;refine ⟨⟨p,S,rfl,⟨?_,fun q hq=>?_,?_⟩,hS⟩,g⟩
 ·rw [Nat.sub_self,MA]
  exact hF
 ·have:=hS q hq;have:=g0.size;omega
 ·rw [Nat.sub_self]
  intro a b a' b' q;have:=q.1;have:=q.2;omega
theorem aek {w:World} {bk off n:Nat} {f:Nat->Int} {s:Nat} (h:KS w (some ⟨bk,off,none⟩) n f) (hs:s<=n):∀ j,j<n-s->w.cell? ⟨bk,off+s+j,none⟩=some (By (f (s+j))):=by
 intro j hj;obtain ⟨b,o,e,_,hc⟩:=h.cells (by omega)
 cases e
 rw [Nat.add_assoc];exact hc (s+j) (by omega)
def ael (base:Nat) (w':World) (ex:Ending) (e:Int) (f:Nat->Int) (n:Nat):Prop:=∃ v l,ex=.returned v/\cV e f n 0 l/\IR w' base v l
theorem aem (H:nI HF) (eps:Int) (ao:Option Addr) (n cp:Nat) (f:Nat->Int) (k2:2<=eps) (k3:eps<=64) (u:Up f n) (hn:n<=2000000) (dc:n<=cp) (w0 w:World) (h:KS w0 ao n f) (g0:Gw w0 w) :
  Calls prog 122 #[.slice ao n cp,AI eps] w fun ex w'=>ael w0.heap.size w' ex (eps-1) f n/\Gw w0 w':=by
 have HH:ag _:=H;have HK:ag _:=h;have UP:ag _:=u;have G0:ag _:=g0;clear H h u g0;obtain ⟨ii,aQ,hz,hs,aR⟩:=info_parts Mx;go_enter func122,ntmps122;go_wp2_with fail;go_step3;go_wp2_with fail;go_step3;go_wp2_with fail;have I0:ag (IR w w0.heap.size (.slice none 0 0) []):=vA _ _;go_loopg [5,6] n (fun gg s5 s6 wr=>∃ (s cap:Nat) (bo:Option Addr) (l:List Nat),s5=.slice bo l.length cap/\s6=AI s/\s<=n/\n-s<=gg/\l.length<=s/\ag (IR wr w0.heap.size (.slice bo l.length cap) l)/\ag (∀ l',cV (eps-1) f n s l'->cV (eps-1) f n 0 (l++l'))/\ag (Gw w0 wr))
 case atStart=>exact ⟨0,0,none,[],rfl,rfl,Nat.zero_le _,by omega,Nat.le_refl _,I0,(show ag _ from fun l' h=>h),G0⟩
 case round =>
  clear I0 G0;obtain ⟨s,cap,bo,l,rfl,rfl,h1,h2,h3,I,dX,G⟩:=hrel;by_cases ar:s<n
  ·obtain ⟨bk,off,rfl,fT,hc⟩:=(HK.o.gw G.o).cells (by omega)
   clear hc;have scp:s<=cp:=by omega
   have agd:¬ s=cp:=by omega
   go_wp2_with fail;refine (aej HH.o w0 _ eps k2 k3 f s G.o).mono ?_
   rintro ex w1 ⟨⟨p,S,rfl,hF,hS⟩,g1⟩;have F1:ag _:=hF;have G1:ag _:=G.o.trans g1;have I1:ag _:=My I.o g1;have UZ:ag (∀ q,(Value.slice bo l.length cap).ownBlock=some q->¬ S q):=fun q hq r=>by have:=hS q r;have:=(ly I.o q hq).2;omega
   clear hF hS g1 I G;go_wp2_with fail;obtain ⟨m,hm⟩:∃ m,n-s=m:=⟨_,rfl⟩;rw [hm];have M:ag (s+m=n):=show s+m=n by omega
   have ML:m<=2000000:=by omega
   clear hm;go_loopg [5,6,26] m (fun gg s5 s6 yr wr=>∃ (j:Nat) (S:Nat->Prop),s5=.slice bo l.length cap/\s6=AI s/\yr=AI j/\j<=m/\m-j<=gg/\ag (yp HF w0 wr p S (eps-1) f s (s+j))/\ag (IR wr w0.heap.size (.slice bo l.length cap) l)/\ag (∀ q,(Value.slice bo l.length cap).ownBlock=some q->¬ S q)/\ag (Gw w0 wr))
   case atStart=>exact ⟨0,S,rfl,rfl,rfl,Nat.zero_le _,by omega,F1,I1,UZ,G1⟩
   case round =>
    clear F1 I1 UZ G1 fT;obtain ⟨j,S,rfl,rfl,rfl,r1,r2,F,I,NB,G⟩:=hrel;by_cases pO:j<m
    ·obtain ⟨i,hi⟩:∃ i,s+j=i:=⟨_,rfl⟩
     have II:ag _:=hi;have fX:i<n:=by have:=M.o;omega
     have sle:s<=i:=by omega
     have q1:wr.cell? ⟨bk,off+s+j,none⟩=some (By (f i)):=by rw [<-hi];exact aek (HK.o.gw G.o) h1 j (by have:=M.o;omega)
     obtain ⟨y0,y1⟩:=HK.o.bd i fX;obtain ⟨fi,eF⟩:∃ y,f i=y:=⟨_,rfl⟩;have FI:ag _:=eF;rw [eF] at q1 y0 y1;rw [hi] at F;clear eF;have wi:IntKind.i64.wrap ((s:Int)+(j:Int))=(i:Int):=by rw [IntKind.wrap_i64];omega
     clear hi;go_wp2_with fail;refine (aei HH.o F.o G.o sle fX UP.o fi FI.o y0 y1 hn).mono ?_;rintro ex w4 ⟨ok,err,S',rfl,eH,hF,fV,gs,g4⟩;have OK:ag _:=eH;have G4:ag _:=g4;have I4:ag _:=zM I.o fun q hq=>gs.block q (ly I.o q hq).2 (NB.o q hq)
     cases ok with
     | true =>
      have F4:ag (yp HF w0 w4 p S' (eps-1) f s (s+(j+1))):=by
       have:=hF rfl
       rw [<-II.o] at this;exact this
      have DY:ag (∀ q,(Value.slice bo l.length cap).ownBlock=some q->¬ S' q):=fun q hq r=>by
       rcases fV q r with r | r
       ·exact NB.o q hq r
       ·have:=(ly I.o q hq).2;omega
      clear eH hF fV gs g4 F I NB G OK q1;go_wp2_with fail;go_roundg (m-(j+1))
      case measure=>omega
      case rel=>exact ⟨j+1,S',rfl,rfl,by go_num,by omega,Nat.le_refl _,F4,I4,DY,G4⟩
     | false =>
      have si:s<i:=by
       rcases Nat.lt_or_ge s i with q | q
       ·exact q
       ·exfalso
        have:aY (eps-1) (sh f s) (aB (i+1-s)):=yW (by omega) (oJ UP.o (show i+1<=n by omega)) (by omega)
        have:=OK.o.2 this
        simp at this
      have NX:ag (∀ l',cV (eps-1) f n i l'->cV (eps-1) f n 0 ((l++[i])++l')):=fun l' h=>by
       rw [List.append_assoc];exact dX.o (i::l') ⟨si,by omega,F.o.on,fun _ q=>by have:=OK.o.2 q;simp at this,h⟩
      clear eH hF fV gs g4 F I NB G OK dX q1;have z4:=G4.o.size;go_wp2_with (at_builtin;refine wpList_append_own _ rfl _ _ 50 rfl w0.heap.size 3 ii (AI 0) 1 8 underlying50 aQ hz hs aR rfl (by decide) _ l.length _ rfl (I4.o.alloc _) ⟨w4.heap.size,0,none⟩ 1 1 [AI (i:Int)] rfl rfl (zN w4 i) (ints_oneCell .i64 [(i:Int)]) (by simp only [maxLen];omega) (by omega) (by simp;omega) ?_)
      intro v' w5 r1 r2 r3;obtain ⟨b5,dJ,rfl,fI,_,_⟩:=dh r1 (by simpa using r3)
      have e5:(l++[i]).length=l.length+1:=by simp
      have I5:ag (IR w5 w0.heap.size (.slice (some ⟨b5,0,none⟩) (l++[i]).length dJ) (l++[i])):=by
       have:=r1
       simp only [IR,List.length_append,List.length_cons,List.length_nil,List.map_append,List.map_cons,List.map_nil];show World.ownsRow _ _ _ _ _ _ _;simpa using this
      have G5:ag (Gw w0 w5):=(G4.o.alloc _ _).grown r2 (fun k hk=>(ly I4.o k hk).1)
      clear r1 r2 r3 I4 fI;go_wp2_with fail;go_roundg (n-i)
      case measure=>omega
      case rel=>exact ⟨i,dJ,some ⟨b5,0,none⟩,l++[i],by rw [e5],rfl,by omega,Nat.le_refl _,by omega,I5,NX,G5⟩
    ·have e:j=m:=by omega
     subst e;have e:s+j=n:=M.o;rw [e] at F;have R:ag (cV (eps-1) f n 0 (l++[n])):=dX.o [n] ⟨ar,Nat.le_refl _,F.o.on,fun q=>absurd q (Nat.lt_irrefl _),rfl⟩
     clear F dX NB e M;have z4:=G.o.size;go_wp2_with (at_builtin;refine wpList_append_own _ rfl _ _ 50 rfl w0.heap.size 3 ii (AI 0) 1 8 underlying50 aQ hz hs aR rfl (by decide) _ l.length _ rfl (I.o.alloc _) ⟨wr.heap.size,0,none⟩ 1 1 [AI (n:Int)] rfl rfl (zN wr n) (ints_oneCell .i64 [(n:Int)]) (by simp only [maxLen];omega) (by omega) (by simp;omega) ?_)
     intro v' w5 r1 r2 r3;have I5:ag (IR w5 w0.heap.size v' (l++[n])):=by
      have:=r1
      simp only [IR,List.length_append,List.length_cons,List.length_nil,List.map_append,List.map_cons,List.map_nil];show World.ownsRow _ _ _ _ _ _ _;simpa using this
     have G5:ag (Gw w0 w5):=(G.o.alloc _ _).grown r2 (fun k hk=>(ly I.o k hk).1)
     clear r1 r2 r3;go_wp2_with fail
     first | rw [Exit.noGoto_ret] | skip
     exact bodyPost_ret (v:=v') (by simp [results,results122,go_sem]) rfl ⟨⟨v',_,rfl,R.o,I5.o⟩,G5.o⟩
  ·have e:s=n:=by omega
   subst e;have R:ag (cV (eps-1) f s 0 l):=show cV (eps-1) f s 0 l by simpa using dX.o [] rfl
   clear dX;go_wp2_with fail
   first | rw [Exit.noGoto_ret] | skip
   exact bodyPost_ret (v:=.slice bo l.length cap) (by simp [results,results122,go_sem]) rfl ⟨⟨_,l,rfl,R.o,I.o⟩,G.o⟩
theorem aen (ao:Option Addr) (n c:Nat) (f:Nat->Int) (hn:n<4611686018427387904) (w:World) (h:KS w ao n f) :
  Calls prog 121 #[.slice ao n c] w fun e w'=>(∃ r:Bool,e=.returned (.bool r)/\(r=true↔Up f n))/\Gw w w':=by
 have HK:ag _:=h;clear h;go_enter func121,ntmps121;go_wp2_with fail;refine (Ir ao n c f hn w HK.o).mono ?_;rintro e w1 ⟨⟨r,rfl,hr⟩,g1⟩;have HR:ag _:=hr;clear hr;go_wp2_with fail;go_ret;exact ⟨⟨r,rfl,HR.o⟩,g1⟩
theorem aeo (H:nI HF):uF where
 ends eps ao n cp f p0 p1 hn dc w h:=by
  have HH:ag _:=H;have HK:ag _:=h;clear H h;by_cases k0:¬ (2<=eps/\eps<=64)
  ·have R:ag (oI eps f n [] 1):=.inl ⟨k0,rfl,rfl⟩
   have vC:ag _:=fun W=>HH.o.bad eps k0 W
   clear k0;go_enter func96,ntmps96;go_wp2_with fail;refine (vC.o _).mono ?_;rintro ex w1 ⟨rfl,g1⟩;go_wp2_with fail;exact bodyPost_ret (v:=.tuple #[.slice none 0 0,AI 1]) (by simp [results,results96,go_sem]) rfl ⟨⟨_,[],1,rfl,R.o,vA _ _⟩,g1⟩
  ·have KE:ag (2<=eps/\eps<=64):=Classical.not_not.1 k0
   have oi:ag _:=fun W=>HH.o.new eps KE.o.1 KE.o.2 W
   clear k0;go_enter func96,ntmps96;go_wp2_with fail;refine (oi.o _).mono ?_;rintro ex w1 ⟨⟨p,S,rfl,_,_⟩,g1⟩;have G1:ag _:=g1;clear g1;go_wp2_with fail;refine (aen ao n cp f (by omega) _ (HK.o.gw G1.o)).mono ?_
   rintro ex w2 ⟨⟨r,rfl,hr⟩,g2⟩;have HR:ag _:=hr;have G2:ag _:=G1.o.trans g2;clear hr g2 G1;cases r with
   | false =>
    have R:ag (oI eps f n [] 60):=.inr (.inl ⟨KE.o,fun q=>by have:=HR.o.2 q;simp at this,rfl,rfl⟩)
    go_wp2_with fail;exact bodyPost_ret (v:=.tuple #[.slice none 0 0,AI 60]) (by simp [results,results96,go_sem]) rfl ⟨⟨_,[],60,rfl,R.o,vA _ _⟩,G2.o⟩
   | true =>
    have UP:ag _:=HR.o.1 rfl;clear HR;go_wp2_with fail;refine (aem HH.o eps ao n cp f KE.o.1 KE.o.2 UP.o hn dc w _ HK.o G2.o).mono ?_;rintro ex w3 ⟨⟨v,l,rfl,hE,hI⟩,g3⟩;have R:ag (oI eps f n l 0):=.inr (.inr ⟨KE.o,UP.o,hE,rfl⟩);have I3:ag _:=hI;clear hE hI;go_wp2_with fail;exact bodyPost_ret (v:=.tuple #[v,AI 0]) (by simp [results,results96,go_sem]) rfl ⟨⟨_,_,0,rfl,R.o,I3.o⟩,g3⟩
theorem aep:uF:=aeo UY
end Go.Proofs.YtcboobmfnmgldaaGreat
