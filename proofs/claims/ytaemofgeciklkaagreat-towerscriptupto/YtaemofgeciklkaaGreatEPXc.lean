import Derived.Test.YtaemofgeciklkaaGreatEPY1
import Derived.Test.YtaemofgeciklkaaGreatEPCl
set_option linter.unusedVariables false
set_option maxHeartbeats 8000000
set_option maxRecDepth 100000
open Go.Proofs.Tryz
namespace Go.Proofs.YtaemofgeciklkaaGreat
open Go.RowKit
structure xr:Prop where
 ends:∀ (eps:Int) (ao:Option Addr) (n cp:Nat) (f:Nat->Int),-9223372036854775808<=eps->eps<9223372036854775808->n<=2000000->n<=cp->∀ w:World,KS w ao n f->Calls prog 157 #[.slice ao n cp,By eps] w fun ex w'=>Pq w.heap.size w' ex eps f n/\Gw w w'
structure zZ (HF:World->Nat->(Nat->Prop)->Int->Nat->(Nat->Int)->Prop) (w0 w:World) (p:Nat) (S:Nat->Prop) (e:Int) (f:Nat->Int) (s i:Nat):Prop where
 fit:HF w p S e (i-s) (pI (sh f s) (i-s))
 new:∀ q,S q->w0.heap.size<=q
 on:aY e (sh f s) (aC (i-s))
variable {HF:World->Nat->(Nat->Prop)->Int->Nat->(Nat->Int)->Prop}
theorem agv (H:pH HF) {w0 w:World} {p:Nat} {S:Nat->Prop} {e:Int} {f:Nat->Int} {s i n:Nat} (h:zZ HF w0 w p S e f s i) (g0:Gw w0 w) (hs:s<=i) (hi:i<n) (u:Up f n) (x:Int) (hx:f i=x) (x0:0<=x) (x1:x<18446744073709551616) (hn:n<=2000000) :
  Calls prog 190 #[IS p,BY x] w fun ex w' =>
   ∃ (ok:Bool) (err:Int) (S':Nat->Prop),ex=π #[.bool ok,By err]/\(ok=true↔aY e (sh f s) (aC (i+1-s)))/\(ok=true->zZ HF w0 w' p S' e f s (i+1))/\(∀ q,S' q->S q\/w.heap.size<=q)/\Gs S w w'/\Gw w0 w':=by
 refine (H.add h.fit x x0 x1 ω).mono ?_;rintro ex w' ⟨⟨ok,err,S',rfl,hA,hF,gU⟩,g⟩;have ei:i+1-s=i-s+1:=ω;have ye:sh f s (i-s)=x:=by show f (s+(i-s))=x;rw [show s+(i-s)=i by omega];exact hx
 have UF:∀ j,j<i-s+1->aG (pI (sh f s) (i-s)) (i-s) x j=sh f s j:=fun j hj=>by rw [<-ye,BA,tv hj]
 have HC:ok=true↔aY e (sh f s) (aC (i+1-s)):=by
  rw [ei];rcases hA with ⟨q1,q2,_⟩ | ⟨_,_,q3⟩
  ·exfalso
   rw [tv ω] at q2;have q4:f (s+(i-s-1))<f i:=u.lt ω hi;have q5:sh f s (i-s-1)=f (s+(i-s-1)):=rfl;omega
  ·refine q3.trans ⟨fun q=>q.congr (fun _ _ s=>s) (fun a b s=>?_),fun q=>q.congr (fun _ _ s=>s) (fun a b s=>?_)⟩
   all_goals rw [UF b (by have:=s.2;omega),UF a (by have:=s.1;have:=s.2;omega)]
 refine ⟨ok,err,S',rfl,HC,fun q=>?_,gU,g,Pn g0 g h.new⟩
 have on:=HC.1 q;subst q;refine ⟨?_,fun q hq=>?_,on⟩
 ·rw [Ym rfl,Ym rfl,<-ye,BA] at hF
  rw [ei];exact hF
 ·rcases gU q hq with r | r
  ·exact h.new q r
  ·have:=g0.size;omega
theorem agw (H:pH HF) (w0 w:World) (eps:Int) (e1:2<=eps) (e2:eps<=64) (f:Nat->Int) (s:Nat) (g0:Gw w0 w) :
  Calls prog 173 #[By eps] w fun ex w'=>(∃ p S,ex=π #[IS p,By 0]/\zZ HF w0 w' p S (eps-1) f s s/\(∀ q,S q->w.heap.size<=q))/\Gw w w':=by
 refine (H.new eps e1 e2 w).mono ?_;rintro ex w' ⟨⟨p,S,rfl,hS,hF⟩,g⟩;refine ⟨⟨p,S,rfl,⟨?_,fun q hq=>?_,?_⟩,hS⟩,g⟩
 ·rw [Nat.sub_self,Pk]
  exact hF
 ·have:=hS q hq;have:=g0.size;omega
 ·rw [Nat.sub_self]
  intro a b a' b' q;have:=q.1;have:=q.2;omega
theorem agx {w:World} {bk off n:Nat} {f:Nat->Int} {s:Nat} (h:KS w (some (φ bk off)) n f) (hs:s<=n):∀ j,j<n-s->w.cell? (φ bk (off+s+j))=some (BY (f (s+j))):=by intro j hj;obtain ⟨b,o,e,_,hc⟩:=h.cells ω;cases e;rw [Nat.add_assoc];exact hc (s+j) ω
def agy (base:Nat) (w':World) (ex:Ending) (e:Int) (f:Nat->Int) (n:Nat):Prop:=∃ v l,ex=χ v/\dr e f n 0 l/\IR w' base v l
theorem agz (H:pH HF) (eps:Int) (ao:Option Addr) (n cp:Nat) (f:Nat->Int) (k2:2<=eps) (k3:eps<=64) (u:Up f n) (hn:n<=2000000) (dA:n<=cp) (w0 w:World) (h:KS w0 ao n f) (g0:Gw w0 w) :
  Calls prog 175 #[.slice ao n cp,By eps] w fun ex w'=>agy w0.heap.size w' ex (eps-1) f n/\Gw w0 w':=by
 have HH:ag _:=H;have HK:ag _:=h;have UP:ag _:=u;have G0:ag _:=g0;clear H h u g0;obtain ⟨ii,aK,hz,hs,aJ⟩:=info_parts GM;go_enter func175,ntmps175;go_wp2_with fail;go_step3;go_wp2_with fail;go_step3;go_wp2_with fail;have I0:ag (IR w w0.heap.size (.slice none 0 0) []):=yd _ _;go_loopg [5,6] n (fun gg s5 s6 wr=>∃ (s cap:Nat) (bo:Option Addr) (l:List Nat),s5=.slice bo l.length cap/\s6=By s/\s<=n/\n-s<=gg/\l.length<=s/\ag (IR wr w0.heap.size (.slice bo l.length cap) l)/\ag (∀ l',dr (eps-1) f n s l'->dr (eps-1) f n 0 (l++l'))/\ag (Gw w0 wr))
 case atStart=>exact ⟨0,0,none,[],rfl,rfl,Γ _,ω,Yk _,I0,(show ag _ from fun l' h=>h),G0⟩
 case round =>
  clear I0 G0;obtain ⟨s,cap,bo,l,rfl,rfl,h1,h2,h3,I,eS,G⟩:=hrel;by_cases ar:s<n
  ·obtain ⟨bk,off,rfl,gR,hc⟩:=(HK.o.gw G.o).cells ω
   clear hc;have scp:s<=cp:=ω;have aiA:¬ s=cp:=ω;go_wp2_with fail;refine (agw HH.o w0 _ eps k2 k3 f s G.o).mono ?_;rintro ex w1 ⟨⟨p,S,rfl,hF,hS⟩,g1⟩;have F1:ag _:=hF;have G1:ag _:=G.o.trans g1;have I1:ag _:=Ph I.o g1;have Xn:ag (∀ q,(Value.slice bo l.length cap).ownBlock=some q->¬ S q):=fun q hq r=>by have:=hS q r;have:=(mZ I.o q hq).2;omega
   clear hF hS g1 I G;go_wp2_with fail;obtain ⟨m,hm⟩:=qbr (n-s);rw [hm];have M:ag (s+m=n):=show s+m=n by omega
   have ML:m<=2000000:=ω;clear hm;go_loopg [5,6,26] m (fun gg s5 s6 z7 wr=>∃ (j:Nat) (S:Nat->Prop),s5=.slice bo l.length cap/\s6=By s/\z7=By j/\j<=m/\m-j<=gg/\ag (zZ HF w0 wr p S (eps-1) f s (s+j))/\ag (IR wr w0.heap.size (.slice bo l.length cap) l)/\ag (∀ q,(Value.slice bo l.length cap).ownBlock=some q->¬ S q)/\ag (Gw w0 wr))
   case atStart=>exact ⟨0,S,rfl,rfl,rfl,Γ _,ω,F1,I1,Xn,G1⟩
   case round =>
    clear F1 I1 Xn G1 gR;obtain ⟨j,S,rfl,rfl,rfl,r1,r2,F,I,NB,G⟩:=hrel;by_cases kF:j<m
    ·obtain ⟨i,hi⟩:=qbr (s+j)
     have II:ag _:=hi;have dP:i<n:=(by have:=M.o;omega);have sle:s<=i:=ω;have q1:wr.cell? (φ bk (off+s+j))=some (BY (f i)):=(by rw [<-hi];exact agx (HK.o.gw G.o) h1 j (by have:=M.o;omega));obtain ⟨y0,y1⟩:=HK.o.bd i dP;obtain ⟨fi,fB⟩:=qbr (f i);have FI:ag _:=fB;rw [fB] at q1 y0 y1;rw [hi] at F;clear fB;have wi:IntKind.i64.wrap ((s:Int)+(j:Int))=(i:Int):=(by rw [Δ];omega);clear hi;go_wp2_with fail;refine (agv HH.o F.o G.o sle dP UP.o fi FI.o y0 y1 hn).mono ?_;rintro ex w4 ⟨ok,err,S',rfl,fD,hF,gU,gs,g4⟩;have OK:ag _:=fD;have G4:ag _:=g4;have I4:ag _:=Bw I.o fun q hq=>gs.block q (mZ I.o q hq).2 (NB.o q hq)
     cases ok with
     | true =>
      have F4:ag (zZ HF w0 w4 p S' (eps-1) f s (s+(j+1))):=by
       have:=hF rfl
       rw [<-II.o] at this;exact this
      have GO:ag (∀ q,(Value.slice bo l.length cap).ownBlock=some q->¬ S' q):=fun q hq r=>by
       rcases gU q r with r | r
       ·exact NB.o q hq r
       ·have:=(mZ I.o q hq).2;omega
      clear fD hF gU gs g4 F I NB G OK q1;go_wp2_with fail;go_roundg (m-(j+1))
      case measure=>omega
      case rel=>exact ⟨j+1,S',rfl,rfl,by go_num,ω,Yk _,F4,I4,GO,G4⟩
     | false =>
      have si:s<i:=by
       rcases qaB s i with q | q
       ·exact q
       ·exfalso
        have:aY (eps-1) (sh f s) (aC (i+1-s)):=Az ω (qK UP.o (show i+1<=n by omega)) ω
        have:=OK.o.2 this
        simp at this
      have NX:ag (∀ l',dr (eps-1) f n i l'->dr (eps-1) f n 0 ((l++[i])++l')):=fun l' h=>by rw [qaI];exact eS.o (i::l') ⟨si,ω,F.o.on,fun _ q=>by have:=OK.o.2 q;simp at this,h⟩
      clear fD hF gU gs g4 F I NB G OK eS q1;have z4:=G4.o.size;go_wp2_with (at_builtin;refine wpList_append_own _ rfl _ _ 44 rfl w0.heap.size 3 ii (By 0) 1 8 underlying44 aK hz hs aJ rfl γ _ l.length _ rfl (I4.o.alloc _) ⟨w4.heap.size,0,none⟩ 1 1 [By (i:Int)] rfl rfl (Bz w4 i) (ints_oneCell .i64 [(i:Int)]) θ ω ζ ?_);intro v' w5 r1 r2 r3;obtain ⟨b5,cB,rfl,dZ,_,_⟩:=cJ r1 (by simpa using r3)
      have e5:(l++[i]).length=l.length+1:=ε;have I5:ag (IR w5 w0.heap.size (ψ b5 0 (l++[i]).length cB) (l++[i])):=by
       have:=r1
       simp only [IR,Ψ,qak,List.length_nil,qaV,qaw,List.map_nil];show World.ownsRow _ _ _ _ _ _ _;simpa using this
      have G5:ag (Gw w0 w5):=(G4.o.alloc _ _).grown r2 (fun k hk=>(mZ I4.o k hk).1)
      clear r1 r2 r3 I4 dZ;go_wp2_with fail;go_roundg (n-i)
      case measure=>omega
      case rel=>exact ⟨i,cB,some ⟨b5,0,none⟩,l++[i],by rw [e5],rfl,ω,Yk _,ω,I5,NX,G5⟩
    ·have e:j=m:=(by omega);subst e;have e:s+j=n:=M.o;rw [e] at F;have R:ag (dr (eps-1) f n 0 (l++[n])):=eS.o [n] ⟨ar,Yk _,F.o.on,fun q=>absurd q (Nat.lt_irrefl _),rfl⟩
     clear F eS NB e M;have z4:=G.o.size;go_wp2_with (at_builtin;refine wpList_append_own _ rfl _ _ 44 rfl w0.heap.size 3 ii (By 0) 1 8 underlying44 aK hz hs aJ rfl γ _ l.length _ rfl (I.o.alloc _) ⟨wr.heap.size,0,none⟩ 1 1 [By (n:Int)] rfl rfl (Bz wr n) (ints_oneCell .i64 [(n:Int)]) θ ω ζ ?_);intro v' w5 r1 r2 r3;have I5:ag (IR w5 w0.heap.size v' (l++[n])):=by
      have:=r1
      simp only [IR,Ψ,qak,List.length_nil,qaV,qaw,List.map_nil];show World.ownsRow _ _ _ _ _ _ _;simpa using this
     have G5:ag (Gw w0 w5):=(G.o.alloc _ _).grown r2 (fun k hk=>(mZ I.o k hk).1)
     clear r1 r2 r3;go_wp2_with fail
     first | rw [Exit.noGoto_ret] | skip
     exact bodyPost_ret (v:=v') (by simp [results,results175,go_sem]) rfl ⟨⟨v',_,rfl,R.o,I5.o⟩,G5.o⟩
  ·have e:s=n:=(by omega);subst e;have R:ag (dr (eps-1) f s 0 l):=show dr (eps-1) f s 0 l by simpa using eS.o [] rfl
   clear eS;go_wp2_with fail
   first | rw [Exit.noGoto_ret] | skip
   exact bodyPost_ret (v:=.slice bo l.length cap) (by simp [results,results175,go_sem]) rfl ⟨⟨_,l,rfl,R.o,I.o⟩,G.o⟩
theorem agA (ao:Option Addr) (n c:Nat) (f:Nat->Int) (hn:n<4611686018427387904) (w:World) (h:KS w ao n f) :
  Calls prog 174 #[.slice ao n c] w fun e w'=>(∃ r:Bool,e=χ (.bool r)/\(r=true↔Up f n))/\Gw w w':=by
 have HK:ag _:=h;clear h;go_enter func174,ntmps174;go_wp2_with fail;refine (Kr ao n c f hn w HK.o).mono ?_;rintro e w1 ⟨⟨r,rfl,hr⟩,g1⟩;have HR:ag _:=hr;clear hr;go_wp2_with fail;go_ret;exact ⟨⟨r,rfl,HR.o⟩,g1⟩
theorem agB (H:pH HF):xr where
 ends eps ao n cp f p0 p1 hn dA w h:=by
  have HH:ag _:=H;have HK:ag _:=h;clear H h;by_cases k0:¬ (2<=eps/\eps<=64)
  ·have R:ag (qJ eps f n [] 1):=.inl ⟨k0,rfl,rfl⟩
   have pJ:ag _:=fun W=>HH.o.bad eps k0 W
   clear k0;go_enter func157,ntmps157;go_wp2_with fail;refine (pJ.o _).mono ?_;rintro ex w1 ⟨rfl,g1⟩;go_wp2_with fail;exact bodyPost_ret (v:=.tuple #[.slice none 0 0,By 1]) (by simp [results,results157,go_sem]) rfl ⟨⟨_,[],1,rfl,R.o,yd _ _⟩,g1⟩
  ·have KE:ag (2<=eps/\eps<=64):=Classical.not_not.1 k0
   have mw:ag _:=fun W=>HH.o.new eps KE.o.1 KE.o.2 W
   clear k0;go_enter func157,ntmps157;go_wp2_with fail;refine (mw.o _).mono ?_;rintro ex w1 ⟨⟨p,S,rfl,_,_⟩,g1⟩;have G1:ag _:=g1;clear g1;go_wp2_with fail;refine (agA ao n cp f ω _ (HK.o.gw G1.o)).mono ?_;rintro ex w2 ⟨⟨r,rfl,hr⟩,g2⟩;have HR:ag _:=hr;have G2:ag _:=G1.o.trans g2;clear hr g2 G1;cases r with
   | false =>
    have R:ag (qJ eps f n [] 60):=.inr (.inl ⟨KE.o,fun q=>by have:=HR.o.2 q;simp at this,rfl,rfl⟩)
    go_wp2_with fail;exact bodyPost_ret (v:=.tuple #[.slice none 0 0,By 60]) (by simp [results,results157,go_sem]) rfl ⟨⟨_,[],60,rfl,R.o,yd _ _⟩,G2.o⟩
   | true =>
    have UP:ag _:=HR.o.1 rfl;clear HR;go_wp2_with fail;refine (agz HH.o eps ao n cp f KE.o.1 KE.o.2 UP.o hn dA w _ HK.o G2.o).mono ?_;rintro ex w3 ⟨⟨v,l,rfl,hE,hI⟩,g3⟩;have R:ag (qJ eps f n l 0):=.inr (.inr ⟨KE.o,UP.o,hE,rfl⟩);have I3:ag _:=hI;clear hE hI;go_wp2_with fail;exact bodyPost_ret (v:=.tuple #[v,By 0]) (by simp [results,results157,go_sem]) rfl ⟨⟨_,_,0,rfl,R.o,I3.o⟩,g3⟩
theorem agC:xr:=agB Xm
