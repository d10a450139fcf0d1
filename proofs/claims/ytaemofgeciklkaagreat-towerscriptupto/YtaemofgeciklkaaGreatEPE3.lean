import Derived.Test.YtaemofgeciklkaaGreatEPBs
set_option linter.unusedVariables false
set_option maxHeartbeats 2000000
open Go.Proofs.Tryz
namespace Go.Proofs.YtaemofgeciklkaaGreat
open Go.RowKit
structure ES (w:World) (ao:Option Addr) (n:Nat) (k v:Nat->Int) (g:Nat->Bool):Prop where
 cells:0<n->∃ b off,ao=some (φ b off)/\b<w.heap.size/\∀ i,i<n->w.cell? (φ b (off+i*3))=some (BY (k i))/\w.cell? (φ b (off+i*3+1))=some (BY (v i))/\w.cell? (φ b (off+i*3+2))=some (.bool (g i))
 bd:∀ i,i<n->(0<=k i/\k i<18446744073709551616)/\(0<=v i/\v i<18446744073709551616)
variable {w:World} {ao:Option Addr} {n:Nat} {k v:Nat->Int} {g:Nat->Bool}
theorem ES.gw {w':World} (h:ES w ao n k v g) (gg:Gw w w'):ES w' ao n k v g :=
 ⟨fun hn=>by
  obtain ⟨b,off,e,hb,hc⟩:=h.cells hn;exact ⟨b,off,e,Θ hb gg.size,fun i hi=>⟨(gg.cell _ _ hb).trans (hc i hi).1,(gg.cell _ _ hb).trans (hc i hi).2.1,(gg.cell _ _ hb).trans (hc i hi).2.2⟩⟩,h.bd⟩
def kY (k v:Nat->Int) (g:Nat->Bool) (j:Nat):Value :=
 if j%3=0 then BY (k (j/3)) else if j%3=1 then BY (v (j/3)) else .bool (g (j/3))
theorem ab7 (k v:Nat->Int) (g:Nat->Bool) (i:Nat):kY k v g (i*3)=BY (k i):=by unfold kY;rw [Ym ω,show i*3/3=i by omega]
theorem ab8 (k v:Nat->Int) (g:Nat->Bool) (i:Nat):kY k v g (i*3+1)=BY (v i):=by unfold kY;rw [Yl ω,Ym ω,show (i*3+1)/3=i by omega]
theorem ab9 (k v:Nat->Int) (g:Nat->Bool) (i:Nat):kY k v g (i*3+2)=.bool (g i):=by unfold kY;rw [Yl ω,Yl ω,show (i*3+2)/3=i by omega]
theorem aca (k v:Nat->Int) (g:Nat->Bool) (j:Nat):(kY k v g j).oneCell'=true:=by
 unfold kY;split
 ·rfl
 ·split<;>rfl
theorem ES.flat (h:ES w ao n k v g) (hn:0<n):∃ b off,ao=some (φ b off)/\b<w.heap.size/\∀ j,j<n*3->w.cell? (φ b (off+j))=some (kY k v g j):=by
 obtain ⟨b,off,e,hb,hc⟩:=h.cells hn;refine ⟨b,off,e,hb,fun j hj=>?_⟩
 obtain ⟨c0,c1,c2⟩:=hc (j/3) ω;unfold kY;by_cases h0:j%3=0
 ·rw [Ym h0,<-c0];congr 2;omega
 ·rw [Yl h0]
  by_cases h1:j%3=1
  ·rw [Ym h1,<-c1];congr 2;omega
  ·rw [Yl h1,<-c2];congr 2;omega
theorem kZ:(prog.info? 71).map (fun i=>(i.zero,i.size,i.bytes))=some (some (.agg #[BY 0,BY 0,.bool false]),3,24):=η
theorem BV (a b:Int) (g:Bool) (w:World):Calls prog 70 #[.agg #[BY a,BY b,.bool g]] w fun e w'=>e=χ (BY a)/\Gw w w':=by go_enter func70,ntmps70;go_wp2;go_ret;exact ⟨rfl,(Gw.refl w).alloc _ _⟩
theorem acb (a b:Int) (g:Bool) (w:World):Calls prog 72 #[.agg #[BY a,BY b,.bool g]] w fun e w'=>e=χ (.bool (g&&(b != 0)))/\Gw w w':=by
 go_enter func72,ntmps72;cases g with
 | false =>
  go_wp2
  go_ret
  exact ⟨rfl,(Gw.refl w).alloc _ _⟩
 | true =>
  go_wp2
  go_ret
  exact ⟨rfl,(Gw.refl w).alloc _ _⟩
theorem acd (ao:Option Addr) (n c:Nat) (k v:Nat->Int) (g:Nat->Bool) (hn:n<4611686018427387904) (w:World) (h:ES w ao n k v g) :
  Calls prog 69 #[.slice ao n c,.func (.func 70) #[] #[]] w fun e w'=>(∃ r:Nat,e=χ (By r)/\r<=n/\Up k r/\(r<n->1<=r/\k r<=k (r-1)))/\Gw w w':=by
 go_enter func69,ntmps69;go_wp2_with fail;go_loopg [5] n (fun gg s5 wr=>∃ i:Nat,s5=By i/\1<=i/\(i<=n\/i=1)/\n-i<=gg/\ag (Up k i)/\ag (Gw w wr))
 case atStart=>exact ⟨1,rfl,Yk _,.inr rfl,ω,fun j hj=>ω,Gw.refl w⟩
 case round =>
  obtain ⟨i,rfl,h1,h2,h3,H4,G⟩:=hrel;by_cases ar:i<n
  ·obtain ⟨b,off,rfl,hb,hc⟩:=(h.gw G.o).cells ω
   obtain ⟨m,hm⟩:∃ m:Nat,(i:Int)-1=m:=⟨i-1,ω⟩;have pj:m<n:=ω;have hw:=sJ m ω;obtain ⟨c1,c2,c3⟩:=hc i ar;obtain ⟨d1,d2,d3⟩:=hc m pj;clear hc;generalize iS:k i=y1 at c1;generalize iT:k m=y0 at d1;have Y:ag (k i=y1/\k m=y0/\i=m+1):=⟨iS,iT,ω⟩;clear iS iT h h2;generalize v i=v1 at c2;generalize v m=v0 at d2;generalize g i=g1 at c3;generalize g m=g0 at d3;have e1:=GX.cell c1 hb;have e2:=GX.cell c2 hb;have e3:=GX.cell c3 hb;have e4:=GX.cell d1 hb;have e5:=GX.cell d2 hb;have e6:=GX.cell d3 hb;have ne:=GX.some wr;by_cases hle:y1<=y0
   ·go_wp2_with fail
    refine od η η ?_
    repeat (go_big_quiet_step (fail))
    go_big_quiet_want;go_big_quiet_op
    go_big_quiet_call (exact gO (BV _ _ _ _))
    repeat (go_big_quiet_step (fail))
    go_big_quiet_want;go_big_quiet_op
    go_big_quiet_call (exact gO (BV _ _ _ _))
    repeat (go_big_quiet_step (fail))
    refine wpQuiet_nil ?_;rintro _ ⟨gw,rfl⟩;clear e1 e2 e3 e4 e5 e6;go_wp2_with fail;go_ret;obtain ⟨e1,e2,e3⟩:=Y.o;refine ⟨⟨i,rfl,ω,H4.o,fun _=>⟨h1,?_⟩⟩,G.o.trans gw.2⟩
    rw [e1,show i-1=m by omega,e2];exact hle
   ·go_wp2_with fail
    refine od η η ?_
    repeat (go_big_quiet_step (fail))
    go_big_quiet_want;go_big_quiet_op
    go_big_quiet_call (exact gO (BV _ _ _ _))
    repeat (go_big_quiet_step (fail))
    go_big_quiet_want;go_big_quiet_op
    go_big_quiet_call (exact gO (BV _ _ _ _))
    repeat (go_big_quiet_step (fail))
    refine wpQuiet_nil ?_;rintro _ ⟨gw,rfl⟩;clear e1 e2 e3 e4 e5 e6;go_wp2_with fail;go_roundg (n-(m+2))
    case measure=>omega
    case rel =>
     obtain ⟨e1,e2,e3⟩:=Y.o;refine ⟨m+2,by go_num,ω,ω,Yk _,(show ag _ from fun j hj=>?_),(show ag _ from G.o.trans gw.2)⟩
     by_cases mT:j=m
     ·subst mT;rw [e2,<-e3,e1];omega
     ·exact H4.o j ω
  ·go_wp2_with fail
   go_ret
   exact ⟨⟨n,rfl,Yk _,fun j hj=>H4.o j ω,fun hh=>ω⟩,G.o⟩
def k6 (v:Nat->Int) (g:Nat->Bool) (j:Nat):Prop:=g j=true/\v j≠0
theorem P5 {j:Nat}:(g j&&(v j != 0))=true↔k6 v g j:=by simp [k6]
theorem ace (ao:Option Addr) (n c:Nat) (k v:Nat->Int) (g:Nat->Bool) (hn:n<4611686018427387904) (w:World) (h:ES w ao n k v g) :
  Calls prog 100 #[.slice ao n c,.func (.func 72) #[] #[]] w fun e w'=>(∃ r:Int,e=χ (By r)/\((∃ i:Nat,r=i/\i<n/\k6 v g i/\∀ j,j<i->¬ k6 v g j)\/(r=-1/\∀ j,j<n->¬ k6 v g j)))/\Gw w w':=by
 go_enter func100,ntmps100;go_wp2_with fail;go_loopg [5,8] n (fun gg _ s8 wr=>∃ i:Nat,s8=By i/\i<=n/\n-i<=gg/\ag (∀ j,j<i->¬ k6 v g j)/\ag (Gw w wr))
 case atStart=>exact ⟨0,rfl,Γ _,ω,fun j hj=>ω,Gw.refl w⟩
 case round =>
  obtain ⟨i,rfl,h1,h2,A,G⟩:=hrel;by_cases ar:i<n
  ·obtain ⟨b,off,rfl,hb,hc⟩:=(h.gw G.o).cells ω
   obtain ⟨c1,c2,c3⟩:=hc i ar;clear hc h;generalize k i=k1 at c1;have Y:ag ((g i&&(v i != 0))=true↔k6 v g i):=P5;generalize hp:(g i&&(v i != 0))=p at Y;have hv:=acb k1 (v i) (g i);rw [hp] at hv;have aZ:ag _:=hv;clear hv hp;generalize v i=v1 at c2 aZ;generalize g i=g1 at c3 aZ;cases p with
   | true =>
    have B:ag _:=Y.o.1 rfl;clear Y;go_wp2_with fail;refine (aZ.o _).mono ?_;rintro e w1 ⟨rfl,g1⟩;go_wp2_with fail;go_ret;exact ⟨⟨_,rfl,.inl ⟨i,rfl,ar,B.o,A.o⟩⟩,G.o.trans g1⟩
   | false =>
    have B:ag (¬ k6 v g i):=fun hb=>Bool.noConfusion (Y.o.2 hb)
    clear Y;go_wp2_with fail;refine (aZ.o _).mono ?_;rintro e w1 ⟨rfl,g1⟩;go_wp2_with fail;go_roundg (n-(i+1))
    case measure=>omega
    case rel =>
     refine ⟨i+1,by go_num,ω,Yk _,(show ag _ from fun j hj=>?_),(show ag _ from G.o.trans g1)⟩
     by_cases e:j=i
     ·subst e;exact B.o
     ·exact A.o j ω
  ·obtain rfl:i=n:=by omega
   go_wp2_with fail;go_ret
   exact ⟨⟨_,rfl,.inr ⟨rfl,A.o⟩⟩,G.o⟩
theorem acf (ao:Option Addr) (n c:Nat) (k v:Nat->Int) (g:Nat->Bool) (hn:n<4611686018427387904) (w:World) (h:ES w ao n k v g) :
  Calls prog 71 #[.slice ao n c,.func (.func 72) #[] #[]] w fun e w'=>(∃ r:Bool,e=χ (.bool r)/\(r=true->∃ i:Nat,i<n/\k6 v g i/\∀ j,j<i->¬ k6 v g j)/\(r=false->∀ j,j<n->¬ k6 v g j))/\Gw w w':=by
 go_enter func71,ntmps71;go_wp2_with fail;refine (ace ao n c k v g hn w h).mono ?_;rintro e w1 ⟨⟨r,rfl,hr⟩,g1⟩;have R:ag _:=hr;clear hr;by_cases h0:0<=r
 ·go_wp2_with fail
  go_ret
  refine ⟨⟨true,ε,fun _=>?_,fun hh=>Bool.noConfusion hh⟩,g1⟩
  rcases R.o with ⟨i,e,q⟩ | ⟨e,q⟩
  ·exact ⟨i,q⟩
  ·omega
 ·go_wp2_with fail
  go_ret
  refine ⟨⟨false,by simp;omega,fun hh=>Bool.noConfusion hh,fun _=>?_⟩,g1⟩
  rcases R.o with ⟨i,e,q⟩ | ⟨e,q⟩
  ·omega
  ·exact q
theorem ES.take (h:ES w ao n k v g) {m:Nat} (hm:m<=n):ES w ao m k v g :=
 ⟨fun hn=>by
  obtain ⟨b,off,e,hb,hc⟩:=h.cells ω;exact ⟨b,off,e,hb,fun i hi=>hc i ω⟩,fun i hi=>h.bd i ω⟩
theorem Hl (ao:Option Addr) (n c:Nat) (k v:Nat->Int) (g:Nat->Bool) (hn:n<4611686018427387904) (hc:n<=c) (w:World) (h:ES w ao n k v g) :
  Calls prog 42 #[.slice ao n c] w fun e w'=>(∃ r:Int,e=χ (By r)/\dS k v g n r)/\Gw w w':=by
 go_enter func42,ntmps42;go_wp2_with fail;refine (acd ao n c k v g hn w h).mono ?_;rintro e w1 ⟨⟨r,rfl,h1,h2,h3⟩,g1⟩;have H:ag (Up k r/\(r<n->1<=r/\k r<=k (r-1))):=⟨h2,h3⟩;clear h2 h3;have vE:r<=c:=ω;go_wp2_with fail;refine (acf ao r c k v g ω w1 ((h.gw g1).take h1)).mono ?_;rintro e w2 ⟨⟨t,rfl,k1,k2⟩,g2⟩;cases t with
 | true =>
  have B:ag _:=k1 rfl;clear k1 k2;go_wp2_with fail;go_ret;obtain ⟨i,hi,hb,hj⟩:=B.o;refine ⟨⟨31,rfl,.gone i ω (fun j hj=>H.o.1 j ω) hj hb⟩,g1.trans g2⟩
 | false =>
  have B:ag _:=k2 rfl;clear k1 k2;by_cases ar:r<n
  ·go_wp2_with fail
   go_ret
   obtain ⟨q1,q2⟩:=H.o.2 ar;obtain ⟨m,rfl⟩:∃ m,r=m+1:=⟨r-1,ω⟩;exact ⟨⟨30,rfl,.order m ar H.o.1 B.o q2⟩,g1.trans g2⟩
  ·obtain rfl:r=n:=by omega
   go_wp2_with fail;go_ret
   exact ⟨⟨0,rfl,.ok H.o.1 B.o⟩,g1.trans g2⟩
theorem Qa (ao:Option Addr) (n c:Nat) (k v:Nat->Int) (g:Nat->Bool) (hn:n*8<=281474976710656) (w:World) (h:ES w ao n k v g) :
  Calls prog 126 #[.slice ao n c] w fun e w'=>(∃ b,e=χ (ψ b 0 n n)/\w.heap.size<=b/\w'.rowIs b 35 n (fun i=>BY (k i)))/\Gw w w':=by
 have vF:=run_make_row' (P:=prog) 143 35 (BY 0) 8 underlying143 qF rfl .i64 .i64 n ω ω;have hR:=World.rowIs_made w (BY 0) n 35;have hG:=(Gw.refl w).alloc (madeCells #[BY 0] n) 35;go_enter func126,ntmps126;go_wp2_with fail;generalize w.alloc (.cells (madeCells #[BY 0] n) 35)=w0 at hR hG ⊢;obtain ⟨b,hb⟩:=qbs w.heap.size;rw [<-hb] at hR ⊢;have yr:w.heap.size<=b:=ω;clear hb vF;have RR:ag (w0.rowIs b 35 n (fun _=>BY 0)):=hR
 have GG:ag (Gw w w0):=hG;clear hR hG;go_loopg [11] n (fun gg lj wr=>∃ i:Nat,lj=By i/\i<=n/\n-i<=gg/\ag (wr.rowIs b 35 n (fun j=>BY (if j<i then k j else 0)))/\ag (Gw w wr))
 case atStart=>exact ⟨0,rfl,Γ _,ω,(show ag _ from RR.o.congr fun j hj=>ε),GG⟩
 case round =>
  obtain ⟨i,rfl,h1,h2,R,G⟩:=hrel;by_cases ar:i<n
  ·obtain ⟨b',off,rfl,eQ,hc⟩:=(h.gw G.o).cells ω
   obtain ⟨c1,c2,c3⟩:=hc i ar;have r1:=R.o.cell ar;have r2:=R.o.frozen i;have r3:=R.o.lt;clear hc h RR GG;generalize ru:k i=k1 at c1;have Y:ag _:=ru;clear ru;generalize v i=v1 at c2;generalize g i=g1 at c3;go_wp2_with fail;go_roundg (n-(i+1))
   case measure=>omega
   case rel =>
    refine ⟨i+1,by go_num,ω,Yk _,(show ag _ from (((R.o.set i (BY k1)).alloc _).congr fun j hj=>?_)),(show ag _ from ((G.o.setCell yr _).alloc _ _))⟩
    by_cases e:j=i
    ·subst e;rw [Ym rfl,Ym ω,Y.o]
    ·rw [Yl e]
     by_cases q:j<i
     ·rw [Ym q,Ym ω]
     ·rw [Yl q,Yl ω]
  ·obtain rfl:i=n:=by omega
   go_wp2_with fail;go_ret
   exact ⟨⟨b,rfl,yr,R.o.congr fun j hj=>by simp [hj]⟩,G.o⟩
theorem acg {base e:Nat} {v:Value} {xs:List Value} (h:w.ownsRow base e 1 v n xs) (hv:¬ v=.slice none 0 0):∃ g cap,v=ψ g 0 n cap/\base<=g:=by
 rcases h.2 with ⟨e,_⟩ | ⟨g,cap,cur,rfl,hg,_⟩
 ·exact absurd e hv
 ·exact ⟨g,cap,rfl,hg⟩
theorem ach (w:World) (x:Int):∀ j u,[Value.int .u64 x][j]?=some u->(w.alloc (.cells #[BY x] 35)).cell? ((⟨w.heap.size,0,none⟩:Addr).add j)=some u:=by
 intro j u hu;cases j with
 | zero =>
  simp only [List.getElem?_cons_zero,Option.some.injEq] at hu;subst hu;simp [Addr.add,go_sem]
 | succ j=>simp at hu
theorem aci (ao:Option Addr) (n c:Nat) (k v:Nat->Int) (g:Nat->Bool) (hn:n*8<=140737488355328) (w:World) (h:ES w ao n k v g) :
  Calls prog 116 #[.slice ao n c] w fun e w'=>(∃ b cap,e=χ (ψ b 0 n cap)/\w.heap.size<=b/\w'.ownsRow w.heap.size 35 1 (ψ b 0 n cap) n ((List.range n).map fun i=>Value.int .u64 (k i)))/\Gw w w':=by
 obtain ⟨ii,aK,hz,hs,aJ⟩:=info_parts qF;have hO:=World.ownsRow_made (base:=w.heap.size) (e:=35) (size:=1) w #[] 0 (Yk _) (by simp [maxLen]) ε
 have hG:=(Gw.refl w).alloc #[] 35;go_enter func116,ntmps116;go_wp2_with fail;generalize w.alloc (.cells #[] 35)=w0 at hO hG ⊢;have RR:ag _:=hO;have GG:ag _:=hG;clear hO hG;go_loopg [3,4] n (fun gg s3 s4 wr=>∃ i b cap:Nat,s3=ψ b 0 i cap/\s4=By i/\i<=n/\n-i<=gg/\w.heap.size<=b/\ag (wr.ownsRow w.heap.size 35 1 (ψ b 0 i cap) i ((List.range i).map fun i=>Value.int .u64 (k i)))/\ag (Gw w wr))
 case atStart=>exact ⟨0,w.heap.size,0,rfl,rfl,Γ _,ω,Yk _,RR,GG⟩
 case round =>
  obtain ⟨i,b,cap,rfl,rfl,h1,h2,yr,R,G⟩:=hrel;by_cases ar:i<n
  ·obtain ⟨b',off,rfl,eQ,hc⟩:=(h.gw G.o).cells ω
   obtain ⟨c1,c2,c3⟩:=hc i ar;have iZ:=G.o.size;clear hc h RR GG;generalize ru:k i=k1 at c1;have Y:ag _:=ru;clear ru;go_wp2_with (at_builtin;refine wpList_append_own _ rfl _ _ 143 rfl w.heap.size 35 ii (BY 0) 1 8 underlying143 aK hz hs aJ rfl γ _ i _ rfl (R.o.alloc _) ⟨wr.heap.size,0,none⟩ 1 1 [BY k1] rfl rfl (ach wr k1) (ints_oneCell .u64 [k1]) θ ω ζ ?_);intro v' w' q1 q2 q3;obtain ⟨b2,acj,rfl,jY⟩:=acg q1 q3;have Q1:ag _:=q1;have Q2:ag _:=q2;clear q1 q2 q3;go_wp2_with fail;go_roundg (n-(i+1))
   case measure=>omega
   case rel =>
    refine ⟨i+1,b2,acj,rfl,by go_num,ω,Yk _,jY,?_,(show ag _ from (G.o.alloc _ _).grown Q2.o (fun q hq=>by cases hq;exact yr))⟩
    have:=Q1.o
    rw [<-Y.o] at this;rw [List.range_succ,qaV];exact this
  ·obtain rfl:i=n:=by omega
   go_wp2_with fail;go_ret
   exact ⟨⟨b,cap,rfl,yr,R.o⟩,G.o⟩
theorem Qb (ao:Option Addr) (n c:Nat) (k v:Nat->Int) (g:Nat->Bool) (hn:n<4611686018427387904) (w:World) (h:ES w ao n k v g) :
  Calls prog 91 #[.slice ao n c] w fun e w'=>(∃ r:Int,e=χ (By r)/\dS k v g n r)/\Gw w w':=by
 go_enter func91,ntmps91;go_wp2_with fail;go_loopg [3] n (fun gg s3 wr=>∃ i:Nat,s3=By i/\i<=n/\n-i<=gg/\ag (Up k i/\∀ j,j<i->¬ k6 v g j)/\ag (Gw w wr))
 case atStart=>exact ⟨0,rfl,Γ _,ω,⟨fun j hj=>ω,fun j hj=>ω⟩,Gw.refl w⟩
 case round =>
  obtain ⟨i,rfl,h1,h2,A,G⟩:=hrel;by_cases ar:i<n
  ·obtain ⟨b,off,rfl,hb,hc⟩:=(h.gw G.o).cells ω
   obtain ⟨c1,c2,c3⟩:=hc i ar;have Y:ag ((g i&&(v i != 0))=true↔k6 v g i):=P5;clear h;by_cases c9:i=0
   ·subst c9
    clear hc;generalize k 0=k1 at c1;generalize yt:v 0=v1 at c2;generalize yu:g 0=g1 at c3;have Z:ag (v 0=v1/\g 0=g1):=⟨yt,yu⟩;clear yt yu Y;simp only [qaR,Nat.add_zero] at c1 c2 c3;cases g1 with
    | true =>
     by_cases hv:v1=0
     ·subst hv
      go_wp2_with fail;go_quiet (fail)
      go_wp2_with fail;go_roundg (n-1)
      case measure=>omega
      case rel =>
       refine ⟨1,rfl,ω,Yk _,(show ag _ from ⟨fun j hj=>ω,fun j hj=>?_⟩),(show ag _ from G.o.drewN _)⟩
       obtain rfl:j=0:=ω;intro ⟨_,h2⟩;exact h2 Z.o.1
     ·go_wp2_with fail
      go_quiet (fail);go_wp2_with fail
      go_ret
      exact ⟨⟨31,rfl,.gone 0 ar (fun j hj=>ω) (fun j hj=>ω) ⟨Z.o.2,by rw [Z.o.1];exact hv⟩⟩,G.o.drewN _⟩
    | false =>
     go_wp2_with fail;go_quiet (fail)
     go_wp2_with fail;go_roundg (n-1)
     case measure=>omega
     case rel =>
      refine ⟨1,rfl,ω,Yk _,(show ag _ from ⟨fun j hj=>ω,fun j hj=>?_⟩),(show ag _ from G.o.drewN _)⟩
      obtain rfl:j=0:=ω;intro ⟨h1,_⟩;rw [Z.o.2] at h1;exact Bool.noConfusion h1
   ·obtain ⟨m,hm⟩:∃ m:Nat,(i:Int)-1=m:=⟨i-1,ω⟩
    have pj:m<n:=ω;have hw:=sJ m ω;have pF:0<i:=ω;have d1:=(hc m pj).1;clear hc;generalize iS:k i=y1 at c1;generalize iT:k m=y0 at d1;generalize yt:v i=v1 at c2;generalize yu:g i=g1 at c3;have Z:ag (k i=y1/\k m=y0/\v i=v1/\g i=g1/\i=m+1):=⟨iS,iT,yt,yu,ω⟩;clear iS iT yt yu Y c9;by_cases hle:y1<=y0
    ·go_wp2_with fail
     go_quiet (fail);go_wp2_with fail
     go_ret
     obtain ⟨e1,e2,e3,e4,rfl⟩:=Z.o;exact ⟨⟨30,rfl,.order m ar A.o.1 A.o.2 (by rw [e1,e2];exact hle)⟩,G.o.drewN _⟩
    ·cases g1 with
     | true =>
      by_cases hv:v1=0
      ·subst hv
       go_wp2_with fail;go_quiet (fail)
       go_wp2_with fail;go_roundg (n-(i+1))
       case measure=>omega
       case rel =>
        obtain ⟨e1,e2,e3,e4,e5⟩:=Z.o;refine ⟨i+1,by go_num,ω,Yk _,(show ag _ from ⟨fun j hj=>?_,fun j hj=>?_⟩),(show ag _ from G.o.drewN _)⟩
        ·by_cases q:j=m
         ·subst q;rw [e2,<-e5,e1];omega
         ·exact A.o.1 j ω
        ·by_cases q:j=i
         ·subst q;intro ⟨_,h2⟩;exact h2 e3
         ·exact A.o.2 j ω
      ·go_wp2_with fail
       go_quiet (fail);go_wp2_with fail
       go_ret
       obtain ⟨e1,e2,e3,e4,e5⟩:=Z.o;refine ⟨⟨31,rfl,.gone i ar (fun j hj=>?_) A.o.2 ⟨e4,by rw [e3];exact hv⟩⟩,G.o.drewN _⟩
       by_cases q:j=m
       ·subst q;rw [e2,<-e5,e1];omega
       ·exact A.o.1 j ω
     | false =>
      go_wp2_with fail;go_quiet (fail)
      go_wp2_with fail;go_roundg (n-(i+1))
      case measure=>omega
      case rel =>
       obtain ⟨e1,e2,e3,e4,e5⟩:=Z.o;refine ⟨i+1,by go_num,ω,Yk _,(show ag _ from ⟨fun j hj=>?_,fun j hj=>?_⟩),(show ag _ from G.o.drewN _)⟩
       ·by_cases q:j=m
        ·subst q;rw [e2,<-e5,e1];omega
        ·exact A.o.1 j ω
       ·by_cases q:j=i
        ·subst q;intro ⟨h1,_⟩;rw [e4] at h1;exact Bool.noConfusion h1
        ·exact A.o.2 j ω
  ·obtain rfl:i=n:=by omega
   go_wp2_with fail;go_ret
   exact ⟨⟨0,rfl,.ok A.o.1 A.o.2⟩,G.o⟩
