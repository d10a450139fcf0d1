/- Lists of entries in memory. -/
import Derived.Test.YtklkpldicbkjeaaGreatVPZa
set_option linter.unusedVariables false
set_option maxHeartbeats 4000000
set_option maxRecDepth 10000
open Go.Proofs.Tryz
namespace Go.Proofs.YtklkpldicbkjeaaGreat
open Go.RowKit
structure ES (w:World) (ao:Option Addr) (n:Nat) (k v:Nat->Int) (g:Nat->Bool):Prop where
 cells:0<n->∃ b off,ao=some ⟨b,off,none⟩/\b<w.heap.size/\∀ i,i<n->w.cell? ⟨b,off+i*3,none⟩=some (.int .u64 (k i))/\w.cell? ⟨b,off+i*3+1,none⟩=some (.int .u64 (v i))/\w.cell? ⟨b,off+i*3+2,none⟩=some (.bool (g i))
 bd:∀ i,i<n->(0<=k i/\k i<18446744073709551616)/\(0<=v i/\v i<18446744073709551616)
theorem ES.gw {w w':World} {ao:Option Addr} {n:Nat} {k v:Nat->Int} {g:Nat->Bool} (h:ES w ao n k v g) (gg:Gw w w'):ES w' ao n k v g :=
 ⟨fun hn=>by
  obtain ⟨b,off,e,hb,hc⟩:=h.cells hn;exact ⟨b,off,e,Nat.lt_of_lt_of_le hb gg.size,fun i hi=>⟨(gg.cell _ _ hb).trans (hc i hi).1,(gg.cell _ _ hb).trans (hc i hi).2.1,(gg.cell _ _ hb).trans (hc i hi).2.2⟩⟩,h.bd⟩
def jD (k v:Nat->Int) (g:Nat->Bool) (j:Nat):Value :=
 if j%3=0 then .int .u64 (k (j/3)) else if j%3=1 then .int .u64 (v (j/3)) else .bool (g (j/3))
theorem aag (k v:Nat->Int) (g:Nat->Bool) (i:Nat):jD k v g (i*3)=.int .u64 (k i):=by
 unfold jD;rw [if_pos (by omega),show i*3/3=i by omega]
theorem aah (k v:Nat->Int) (g:Nat->Bool) (i:Nat):jD k v g (i*3+1)=.int .u64 (v i):=by
 unfold jD;rw [if_neg (by omega),if_pos (by omega),show (i*3+1)/3=i by omega]
theorem aai (k v:Nat->Int) (g:Nat->Bool) (i:Nat):jD k v g (i*3+2)=.bool (g i):=by
 unfold jD;rw [if_neg (by omega),if_neg (by omega),show (i*3+2)/3=i by omega]
theorem aaj (k v:Nat->Int) (g:Nat->Bool) (j:Nat):(jD k v g j).oneCell'=true:=by
 unfold jD;split
 ·rfl
 ·split<;>rfl
theorem ES.flat {w:World} {ao:Option Addr} {n:Nat} {k v:Nat->Int} {g:Nat->Bool} (h:ES w ao n k v g) (hn:0<n):∃ b off,ao=some ⟨b,off,none⟩/\b<w.heap.size/\∀ j,j<n*3->w.cell? ⟨b,off+j,none⟩=some (jD k v g j):=by
 obtain ⟨b,off,e,hb,hc⟩:=h.cells hn;refine ⟨b,off,e,hb,fun j hj=>?_⟩
 obtain ⟨c0,c1,c2⟩:=hc (j/3) (by omega)
 unfold jD;by_cases h0:j%3=0
 ·rw [if_pos h0,<-c0];congr 2;omega
 ·rw [if_neg h0]
  by_cases h1:j%3=1
  ·rw [if_pos h1,<-c1];congr 2;omega
  ·rw [if_neg h1,<-c2];congr 2;omega
theorem qN:(prog.info? 40).map (fun i=>(i.zero,i.size,i.bytes))=some (some (.agg #[.int .u64 0,.int .u64 0,.bool false]),3,24):=by kernel_rfl
theorem zq (a b:Int) (g:Bool) (w:World):Calls prog 61 #[.agg #[.int .u64 a,.int .u64 b,.bool g]] w fun e w'=>e=.returned (.int .u64 a)/\Gw w w':=by
 go_enter func61,ntmps61;go_wp2;go_ret;exact ⟨rfl,(Gw.refl w).alloc _ _⟩
theorem aak (a b:Int) (g:Bool) (w:World):Calls prog 63 #[.agg #[.int .u64 a,.int .u64 b,.bool g]] w fun e w'=>e=.returned (.bool (g&&(b != 0)))/\Gw w w':=by
 go_enter func63,ntmps63;cases g with
 | false =>
  go_wp2
  go_ret
  exact ⟨rfl,(Gw.refl w).alloc _ _⟩
 | true =>
  go_wp2
  go_ret
  exact ⟨rfl,(Gw.refl w).alloc _ _⟩
theorem aal (ao:Option Addr) (n c:Nat) (k v:Nat->Int) (g:Nat->Bool) (hn:n<4611686018427387904) (w:World) (h:ES w ao n k v g) :
  Calls prog 60 #[.slice ao n c,.func (.func 61) #[] #[]] w fun e w'=>(∃ r:Nat,e=.returned (.int .i64 r)/\r<=n/\Up k r/\(r<n->1<=r/\k r<=k (r-1)))/\Gw w w':=by
 go_enter func60,ntmps60;go_wp2_with fail;go_loopg [5] n (fun gg s5 wr=>∃ i:Nat,s5=.int .i64 i/\1<=i/\(i<=n\/i=1)/\n-i<=gg/\ag (Up k i)/\ag (Gw w wr))
 case atStart=>exact ⟨1,rfl,Nat.le_refl _,.inr rfl,by omega,fun j hj=>by omega,Gw.refl w⟩
 case round =>
  obtain ⟨i,rfl,h1,h2,h3,H4,G⟩:=hrel;by_cases ak:i<n
  ·obtain ⟨b,off,rfl,hb,hc⟩:=(h.gw G.o).cells (by omega)
   obtain ⟨m,hm⟩:∃ m:Nat,(i:Int)-1=m:=⟨i-1,by omega⟩
   have nE:m<n:=by omega
   have hw:=qm m (by omega)
   obtain ⟨c1,c2,c3⟩:=hc i ak;obtain ⟨d1,d2,d3⟩:=hc m nE;clear hc;generalize gR:k i=y1 at c1;generalize gS:k m=y0 at d1;have Y:ag (k i=y1/\k m=y0/\i=m+1):=⟨gR,gS,by omega⟩
   clear gR gS h h2;generalize v i=v1 at c2;generalize v m=v0 at d2;generalize g i=g1 at c3;generalize g m=g0 at d3;have e1:=GX.cell c1 hb;have e2:=GX.cell c2 hb;have e3:=GX.cell c3 hb;have e4:=GX.cell d1 hb;have e5:=GX.cell d2 hb;have e6:=GX.cell d3 hb;have ne:=GX.some wr;by_cases hle:y1<=y0
   ·go_wp2_with fail
    refine fO (by kernel_rfl) (by kernel_rfl) ?_
    repeat (go_big_quiet_step (fail))
    go_big_quiet_want;go_big_quiet_op
    go_big_quiet_call (exact dQ (zq _ _ _ _))
    repeat (go_big_quiet_step (fail))
    go_big_quiet_want;go_big_quiet_op
    go_big_quiet_call (exact dQ (zq _ _ _ _))
    repeat (go_big_quiet_step (fail))
    refine wpQuiet_nil ?_;rintro _ ⟨gw,rfl⟩;clear e1 e2 e3 e4 e5 e6;go_wp2_with fail;go_ret;obtain ⟨e1,e2,e3⟩:=Y.o;refine ⟨⟨i,rfl,by omega,H4.o,fun _=>⟨h1,?_⟩⟩,G.o.trans gw.2⟩
    rw [e1,show i-1=m by omega,e2];exact hle
   ·go_wp2_with fail
    refine fO (by kernel_rfl) (by kernel_rfl) ?_
    repeat (go_big_quiet_step (fail))
    go_big_quiet_want;go_big_quiet_op
    go_big_quiet_call (exact dQ (zq _ _ _ _))
    repeat (go_big_quiet_step (fail))
    go_big_quiet_want;go_big_quiet_op
    go_big_quiet_call (exact dQ (zq _ _ _ _))
    repeat (go_big_quiet_step (fail))
    refine wpQuiet_nil ?_;rintro _ ⟨gw,rfl⟩;clear e1 e2 e3 e4 e5 e6;go_wp2_with fail;go_roundg (n-(m+2))
    case measure=>omega
    case rel =>
     obtain ⟨e1,e2,e3⟩:=Y.o;refine ⟨m+2,by go_num,by omega,by omega,Nat.le_refl _,(show ag _ from fun j hj=>?_),(show ag _ from G.o.trans gw.2)⟩
     by_cases qt:j=m
     ·subst qt;rw [e2,<-e3,e1];omega
     ·exact H4.o j (by omega)
  ·go_wp2_with fail
   go_ret
   exact ⟨⟨n,rfl,Nat.le_refl _,fun j hj=>H4.o j (by omega),fun hh=>by omega⟩,G.o⟩
def jE (v:Nat->Int) (g:Nat->Bool) (j:Nat):Prop:=g j=true/\v j≠0
theorem Mx {v:Nat->Int} {g:Nat->Bool} {j:Nat}:(g j&&(v j != 0))=true↔jE v g j:=by simp [jE]
theorem aam (ao:Option Addr) (n c:Nat) (k v:Nat->Int) (g:Nat->Bool) (hn:n<4611686018427387904) (w:World) (h:ES w ao n k v g) :
  Calls prog 89 #[.slice ao n c,.func (.func 63) #[] #[]] w fun e w'=>(∃ r:Int,e=.returned (.int .i64 r)/\((∃ i:Nat,r=i/\i<n/\jE v g i/\∀ j,j<i->¬ jE v g j)\/(r=-1/\∀ j,j<n->¬ jE v g j)))/\Gw w w':=by
 go_enter func89,ntmps89;go_wp2_with fail;go_loopg [5,8] n (fun gg _ s8 wr=>∃ i:Nat,s8=.int .i64 i/\i<=n/\n-i<=gg/\ag (∀ j,j<i->¬ jE v g j)/\ag (Gw w wr))
 case atStart=>exact ⟨0,rfl,Nat.zero_le _,by omega,fun j hj=>by omega,Gw.refl w⟩
 case round =>
  obtain ⟨i,rfl,h1,h2,A,G⟩:=hrel;by_cases ak:i<n
  ·obtain ⟨b,off,rfl,hb,hc⟩:=(h.gw G.o).cells (by omega)
   obtain ⟨c1,c2,c3⟩:=hc i ak;clear hc h;generalize k i=k1 at c1;have Y:ag ((g i&&(v i != 0))=true↔jE v g i):=Mx;generalize hp:(g i&&(v i != 0))=p at Y;have hv:=aak k1 (v i) (g i);rw [hp] at hv;have aO:ag _:=hv;clear hv hp;generalize v i=v1 at c2 aO;generalize g i=g1 at c3 aO;cases p with
   | true =>
    have B:ag _:=Y.o.1 rfl;clear Y;go_wp2_with fail;refine (aO.o _).mono ?_;rintro e w1 ⟨rfl,g1⟩;go_wp2_with fail;go_ret;exact ⟨⟨_,rfl,.inl ⟨i,rfl,ak,B.o,A.o⟩⟩,G.o.trans g1⟩
   | false =>
    have B:ag (¬ jE v g i):=fun hb=>Bool.noConfusion (Y.o.2 hb)
    clear Y;go_wp2_with fail;refine (aO.o _).mono ?_;rintro e w1 ⟨rfl,g1⟩;go_wp2_with fail;go_roundg (n-(i+1))
    case measure=>omega
    case rel =>
     refine ⟨i+1,by go_num,by omega,Nat.le_refl _,(show ag _ from fun j hj=>?_),(show ag _ from G.o.trans g1)⟩
     by_cases e:j=i
     ·subst e;exact B.o
     ·exact A.o j (by omega)
  ·obtain rfl:i=n:=by omega
   go_wp2_with fail;go_ret
   exact ⟨⟨_,rfl,.inr ⟨rfl,A.o⟩⟩,G.o⟩
theorem aan (ao:Option Addr) (n c:Nat) (k v:Nat->Int) (g:Nat->Bool) (hn:n<4611686018427387904) (w:World) (h:ES w ao n k v g) :
  Calls prog 62 #[.slice ao n c,.func (.func 63) #[] #[]] w fun e w'=>(∃ r:Bool,e=.returned (.bool r)/\(r=true->∃ i:Nat,i<n/\jE v g i/\∀ j,j<i->¬ jE v g j)/\(r=false->∀ j,j<n->¬ jE v g j))/\Gw w w':=by
 go_enter func62,ntmps62;go_wp2_with fail;refine (aam ao n c k v g hn w h).mono ?_;rintro e w1 ⟨⟨r,rfl,hr⟩,g1⟩;have R:ag _:=hr;clear hr;by_cases h0:0<=r
 ·go_wp2_with fail
  go_ret
  refine ⟨⟨true,by simp,fun _=>?_,fun hh=>Bool.noConfusion hh⟩,g1⟩
  rcases R.o with ⟨i,e,q⟩ | ⟨e,q⟩
  ·exact ⟨i,q⟩
  ·omega
 ·go_wp2_with fail
  go_ret
  refine ⟨⟨false,by simp;omega,fun hh=>Bool.noConfusion hh,fun _=>?_⟩,g1⟩
  rcases R.o with ⟨i,e,q⟩ | ⟨e,q⟩
  ·omega
  ·exact q
theorem ES.take {w:World} {ao:Option Addr} {n:Nat} {k v:Nat->Int} {g:Nat->Bool} (h:ES w ao n k v g) {m:Nat} (hm:m<=n):ES w ao m k v g :=
 ⟨fun hn=>by
  obtain ⟨b,off,e,hb,hc⟩:=h.cells (by omega)
  exact ⟨b,off,e,hb,fun i hi=>hc i (by omega)⟩,fun i hi=>h.bd i (by omega)⟩
theorem My (ao:Option Addr) (n c:Nat) (k v:Nat->Int) (g:Nat->Bool) (hn:n<4611686018427387904) (hc:n<=c) (w:World) (h:ES w ao n k v g) :
  Calls prog 26 #[.slice ao n c] w fun e w'=>(∃ r:Int,e=.returned (.int .i64 r)/\dS k v g n r)/\Gw w w':=by
 go_enter func26,ntmps26;go_wp2_with fail;refine (aal ao n c k v g hn w h).mono ?_;rintro e w1 ⟨⟨r,rfl,h1,h2,h3⟩,g1⟩;have H:ag (Up k r/\(r<n->1<=r/\k r<=k (r-1))):=⟨h2,h3⟩;clear h2 h3;have tA:r<=c:=by omega
 go_wp2_with fail;refine (aan ao r c k v g (by omega) w1 ((h.gw g1).take h1)).mono ?_
 rintro e w2 ⟨⟨t,rfl,k1,k2⟩,g2⟩;cases t with
 | true =>
  have B:ag _:=k1 rfl;clear k1 k2;go_wp2_with fail;go_ret;obtain ⟨i,hi,hb,hj⟩:=B.o;refine ⟨⟨31,rfl,.gone i (by omega) (fun j hj=>H.o.1 j (by omega)) hj hb⟩,g1.trans g2⟩
 | false =>
  have B:ag _:=k2 rfl;clear k1 k2;by_cases ak:r<n
  ·go_wp2_with fail
   go_ret
   obtain ⟨q1,q2⟩:=H.o.2 ak;obtain ⟨m,rfl⟩:∃ m,r=m+1:=⟨r-1,by omega⟩
   exact ⟨⟨30,rfl,.order m ak H.o.1 B.o q2⟩,g1.trans g2⟩
  ·obtain rfl:r=n:=by omega
   go_wp2_with fail;go_ret
   exact ⟨⟨0,rfl,.ok H.o.1 B.o⟩,g1.trans g2⟩
theorem Mz (ao:Option Addr) (n c:Nat) (k v:Nat->Int) (g:Nat->Bool) (hn:n*8<=281474976710656) (w:World) (h:ES w ao n k v g) :
  Calls prog 55 #[.slice ao n c] w fun e w'=>(∃ b,e=.returned (.slice (some ⟨b,0,none⟩) n n)/\w.heap.size<=b/\w'.rowIs b 34 n (fun i=>.int .u64 (k i)))/\Gw w w':=by
 have tB:=run_make_row' (P:=prog) 90 34 (.int .u64 0) 8 underlying90 oF rfl .i64 .i64 n (by omega) (by omega)
 have hR:=World.rowIs_made w (.int .u64 0) n 34;have hG:=(Gw.refl w).alloc (madeCells #[.int .u64 0] n) 34;go_enter func55,ntmps55;go_wp2_with fail;generalize w.alloc (.cells (madeCells #[.int .u64 0] n) 34)=w0 at hR hG ⊢;obtain ⟨b,hb⟩:∃ b,b=w.heap.size:=⟨_,rfl⟩;rw [<-hb] at hR ⊢;have vr:w.heap.size<=b:=by omega
 clear hb tB;have RR:ag (w0.rowIs b 34 n (fun _=>.int .u64 0)):=hR
 have GG:ag (Gw w w0):=hG;clear hR hG;go_loopg [11] n (fun gg nP wr=>∃ i:Nat,nP=.int .i64 i/\i<=n/\n-i<=gg/\ag (wr.rowIs b 34 n (fun j=>.int .u64 (if j<i then k j else 0)))/\ag (Gw w wr))
 case atStart=>exact ⟨0,rfl,Nat.zero_le _,by omega,(show ag _ from RR.o.congr fun j hj=>by simp),GG⟩
 case round =>
  obtain ⟨i,rfl,h1,h2,R,G⟩:=hrel;by_cases ak:i<n
  ·obtain ⟨b',off,rfl,cY,hc⟩:=(h.gw G.o).cells (by omega)
   obtain ⟨c1,c2,c3⟩:=hc i ak;have r1:=R.o.cell ak;have r2:=R.o.frozen i;have r3:=R.o.lt;clear hc h RR GG;generalize o9:k i=k1 at c1;have Y:ag _:=o9;clear o9;generalize v i=v1 at c2;generalize g i=g1 at c3;go_wp2_with fail;go_roundg (n-(i+1))
   case measure=>omega
   case rel =>
    refine ⟨i+1,by go_num,by omega,Nat.le_refl _,(show ag _ from (((R.o.set i (.int .u64 k1)).alloc _).congr fun j hj=>?_)),(show ag _ from ((G.o.setCell vr _).alloc _ _))⟩
    by_cases e:j=i
    ·subst e;rw [if_pos rfl,if_pos (by omega),Y.o]
    ·rw [if_neg e]
     by_cases q:j<i
     ·rw [if_pos q,if_pos (by omega)]
     ·rw [if_neg q,if_neg (by omega)]
  ·obtain rfl:i=n:=by omega
   go_wp2_with fail;go_ret
   exact ⟨⟨b,rfl,vr,R.o.congr fun j hj=>by simp [hj]⟩,G.o⟩
theorem aao {w:World} {base e n:Nat} {v:Value} {xs:List Value} (h:w.ownsRow base e 1 v n xs) (hv:¬ v=.slice none 0 0):∃ g cap,v=.slice (some ⟨g,0,none⟩) n cap/\base<=g:=by
 rcases h.2 with ⟨e,_⟩ | ⟨g,cap,cur,rfl,hg,_⟩
 ·exact absurd e hv
 ·exact ⟨g,cap,rfl,hg⟩
theorem aap (w:World) (x:Int):∀ j u,[Value.int .u64 x][j]?=some u->(w.alloc (.cells #[.int .u64 x] 34)).cell? ((⟨w.heap.size,0,none⟩:Addr).add j)=some u:=by
 intro j u hu;cases j with
 | zero =>
  simp only [List.getElem?_cons_zero,Option.some.injEq] at hu;subst hu;simp [Addr.add,go_sem]
 | succ j=>simp at hu
theorem aaq (ao:Option Addr) (n c:Nat) (k v:Nat->Int) (g:Nat->Bool) (hn:n*8<=140737488355328) (w:World) (h:ES w ao n k v g) :
  Calls prog 58 #[.slice ao n c] w fun e w'=>(∃ b cap,e=.returned (.slice (some ⟨b,0,none⟩) n cap)/\w.heap.size<=b/\w'.ownsRow w.heap.size 34 1 (.slice (some ⟨b,0,none⟩) n cap) n ((List.range n).map fun i=>Value.int .u64 (k i)))/\Gw w w':=by
 obtain ⟨ii,aM,hz,hs,aL⟩:=info_parts oF;have hO:=World.ownsRow_made (base:=w.heap.size) (e:=34) (size:=1) w #[] 0 (Nat.le_refl _) (by simp [maxLen]) (by simp)
 have hG:=(Gw.refl w).alloc #[] 34;go_enter func58,ntmps58;go_wp2_with fail;generalize w.alloc (.cells #[] 34)=w0 at hO hG ⊢;have RR:ag _:=hO;have GG:ag _:=hG;clear hO hG;go_loopg [3,4] n (fun gg s3 s4 wr=>∃ i b cap:Nat,s3=.slice (some ⟨b,0,none⟩) i cap/\s4=.int .i64 i/\i<=n/\n-i<=gg/\w.heap.size<=b/\ag (wr.ownsRow w.heap.size 34 1 (.slice (some ⟨b,0,none⟩) i cap) i ((List.range i).map fun i=>Value.int .u64 (k i)))/\ag (Gw w wr))
 case atStart=>exact ⟨0,w.heap.size,0,rfl,rfl,Nat.zero_le _,by omega,Nat.le_refl _,RR,GG⟩
 case round =>
  obtain ⟨i,b,cap,rfl,rfl,h1,h2,vr,R,G⟩:=hrel;by_cases ak:i<n
  ·obtain ⟨b',off,rfl,cY,hc⟩:=(h.gw G.o).cells (by omega)
   obtain ⟨c1,c2,c3⟩:=hc i ak;have pa:=G.o.size;clear hc h RR GG;generalize o9:k i=k1 at c1;have Y:ag _:=o9;clear o9;go_wp2_with (at_builtin;refine wpList_append_own _ rfl _ _ 90 rfl w.heap.size 34 ii (.int .u64 0) 1 8 underlying90 aM hz hs aL rfl (by decide) _ i _ rfl (R.o.alloc _) ⟨wr.heap.size,0,none⟩ 1 1 [.int .u64 k1] rfl rfl (aap wr k1) (ints_oneCell .u64 [k1]) (by simp only [maxLen];omega) (by omega) (by simp;omega) ?_)
   intro v' w' q1 q2 q3;obtain ⟨b2,aar,rfl,kW⟩:=aao q1 q3;have Q1:ag _:=q1;have Q2:ag _:=q2;clear q1 q2 q3;go_wp2_with fail;go_roundg (n-(i+1))
   case measure=>omega
   case rel =>
    refine ⟨i+1,b2,aar,rfl,by go_num,by omega,Nat.le_refl _,kW,?_,(show ag _ from (G.o.alloc _ _).grown Q2.o (fun q hq=>by cases hq;exact vr))⟩
    have:=Q1.o
    rw [<-Y.o] at this;rw [List.range_succ,List.map_append];exact this
  ·obtain rfl:i=n:=by omega
   go_wp2_with fail;go_ret
   exact ⟨⟨b,cap,rfl,vr,R.o⟩,G.o⟩
theorem aas (ao:Option Addr) (n c:Nat) (k v:Nat->Int) (g:Nat->Bool) (hn:n<4611686018427387904) (w:World) (h:ES w ao n k v g) :
  Calls prog 46 #[.slice ao n c] w fun e w'=>e=.returned (.int .i64 (lv g n))/\Gw w w':=by
 go_enter func46,ntmps46;go_wp2_with fail;go_loopg [3,4] n (fun gg s3 s4 wr=>∃ i m:Nat,s3=.int .i64 m/\s4=.int .i64 i/\i<=n/\n-i<=gg/\m<=i/\ag (m=lv g i)/\ag (Gw w wr))
 case atStart=>exact ⟨0,0,rfl,rfl,Nat.zero_le _,by omega,Nat.le_refl _,rfl,Gw.refl w⟩
 case round =>
  obtain ⟨i,m,rfl,rfl,h1,h2,h3,A,G⟩:=hrel;by_cases ak:i<n
  ·obtain ⟨b,off,rfl,hb,hc⟩:=(h.gw G.o).cells (by omega)
   obtain ⟨c1,c2,c3⟩:=hc i ak;clear hc h;generalize k i=k1 at c1;generalize v i=v1 at c2;generalize hg:g i=g1 at c3;have Y:ag _:=hg;clear hg;cases g1 with
   | true =>
    go_wp2_with fail;go_roundg (n-(i+1))
    case measure=>omega
    case rel =>
     refine ⟨i+1,m,rfl,by go_num,by omega,Nat.le_refl _,by omega,(show ag _ from ?_),G⟩
     show m=lv g (i+1);rw [lv,Y.o,if_pos rfl,<-A.o];omega
   | false =>
    go_wp2_with fail;go_roundg (n-(i+1))
    case measure=>omega
    case rel =>
     refine ⟨i+1,m+1,by go_num,by go_num,by omega,Nat.le_refl _,by omega,(show ag _ from ?_),G⟩
     show m+1=lv g (i+1);rw [lv,Y.o,if_neg (by simp),<-A.o]
  ·obtain rfl:i=n:=by omega
   go_wp2_with fail;go_ret
   exact ⟨by rw [A.o];rfl,G.o⟩
theorem MA (ao:Option Addr) (n c:Nat) (k v:Nat->Int) (g:Nat->Bool) (hn:n<4611686018427387904) (w:World) (h:ES w ao n k v g) :
  Calls prog 35 #[.slice ao n c] w fun e w'=>(∃ r:Int,e=.returned (.int .i64 r)/\dS k v g n r)/\Gw w w':=by
 go_enter func35,ntmps35;go_wp2_with fail;go_loopg [3] n (fun gg s3 wr=>∃ i:Nat,s3=.int .i64 i/\i<=n/\n-i<=gg/\ag (Up k i/\∀ j,j<i->¬ jE v g j)/\ag (Gw w wr))
 case atStart=>exact ⟨0,rfl,Nat.zero_le _,by omega,⟨fun j hj=>by omega,fun j hj=>by omega⟩,Gw.refl w⟩
 case round =>
  obtain ⟨i,rfl,h1,h2,A,G⟩:=hrel;by_cases ak:i<n
  ·obtain ⟨b,off,rfl,hb,hc⟩:=(h.gw G.o).cells (by omega)
   obtain ⟨c1,c2,c3⟩:=hc i ak;have Y:ag ((g i&&(v i != 0))=true↔jE v g i):=Mx;clear h;by_cases cG:i=0
   ·subst cG
    clear hc;generalize k 0=k1 at c1;generalize vt:v 0=v1 at c2;generalize vu:g 0=g1 at c3;have Z:ag (v 0=v1/\g 0=g1):=⟨vt,vu⟩;clear vt vu Y;simp only [Nat.zero_mul,Nat.add_zero] at c1 c2 c3;cases g1 with
    | true =>
     by_cases hv:v1=0
     ·subst hv
      go_wp2_with fail;go_quiet (fail)
      go_wp2_with fail;go_roundg (n-1)
      case measure=>omega
      case rel =>
       refine ⟨1,rfl,by omega,Nat.le_refl _,(show ag _ from ⟨fun j hj=>by omega,fun j hj=>?_⟩),(show ag _ from G.o.drewN _)⟩
       obtain rfl:j=0:=by omega
       intro ⟨_,h2⟩;exact h2 Z.o.1
     ·go_wp2_with fail
      go_quiet (fail);go_wp2_with fail
      go_ret
      exact ⟨⟨31,rfl,.gone 0 ak (fun j hj=>by omega) (fun j hj=>by omega) ⟨Z.o.2,by rw [Z.o.1];exact hv⟩⟩,G.o.drewN _⟩
    | false =>
     go_wp2_with fail;go_quiet (fail)
     go_wp2_with fail;go_roundg (n-1)
     case measure=>omega
     case rel =>
      refine ⟨1,rfl,by omega,Nat.le_refl _,(show ag _ from ⟨fun j hj=>by omega,fun j hj=>?_⟩),(show ag _ from G.o.drewN _)⟩
      obtain rfl:j=0:=by omega
      intro ⟨h1,_⟩;rw [Z.o.2] at h1;exact Bool.noConfusion h1
   ·obtain ⟨m,hm⟩:∃ m:Nat,(i:Int)-1=m:=⟨i-1,by omega⟩
    have nE:m<n:=by omega
    have hw:=qm m (by omega)
    have nL:0<i:=by omega
    have d1:=(hc m nE).1;clear hc;generalize gR:k i=y1 at c1;generalize gS:k m=y0 at d1;generalize vt:v i=v1 at c2;generalize vu:g i=g1 at c3;have Z:ag (k i=y1/\k m=y0/\v i=v1/\g i=g1/\i=m+1):=⟨gR,gS,vt,vu,by omega⟩
    clear gR gS vt vu Y cG;by_cases hle:y1<=y0
    ·go_wp2_with fail
     go_quiet (fail);go_wp2_with fail
     go_ret
     obtain ⟨e1,e2,e3,e4,rfl⟩:=Z.o;exact ⟨⟨30,rfl,.order m ak A.o.1 A.o.2 (by rw [e1,e2];exact hle)⟩,G.o.drewN _⟩
    ·cases g1 with
     | true =>
      by_cases hv:v1=0
      ·subst hv
       go_wp2_with fail;go_quiet (fail)
       go_wp2_with fail;go_roundg (n-(i+1))
       case measure=>omega
       case rel =>
        obtain ⟨e1,e2,e3,e4,e5⟩:=Z.o;refine ⟨i+1,by go_num,by omega,Nat.le_refl _,(show ag _ from ⟨fun j hj=>?_,fun j hj=>?_⟩),(show ag _ from G.o.drewN _)⟩
        ·by_cases q:j=m
         ·subst q;rw [e2,<-e5,e1];omega
         ·exact A.o.1 j (by omega)
        ·by_cases q:j=i
         ·subst q;intro ⟨_,h2⟩;exact h2 e3
         ·exact A.o.2 j (by omega)
      ·go_wp2_with fail
       go_quiet (fail);go_wp2_with fail
       go_ret
       obtain ⟨e1,e2,e3,e4,e5⟩:=Z.o;refine ⟨⟨31,rfl,.gone i ak (fun j hj=>?_) A.o.2 ⟨e4,by rw [e3];exact hv⟩⟩,G.o.drewN _⟩
       by_cases q:j=m
       ·subst q;rw [e2,<-e5,e1];omega
       ·exact A.o.1 j (by omega)
     | false =>
      go_wp2_with fail;go_quiet (fail)
      go_wp2_with fail;go_roundg (n-(i+1))
      case measure=>omega
      case rel =>
       obtain ⟨e1,e2,e3,e4,e5⟩:=Z.o;refine ⟨i+1,by go_num,by omega,Nat.le_refl _,(show ag _ from ⟨fun j hj=>?_,fun j hj=>?_⟩),(show ag _ from G.o.drewN _)⟩
       ·by_cases q:j=m
        ·subst q;rw [e2,<-e5,e1];omega
        ·exact A.o.1 j (by omega)
       ·by_cases q:j=i
        ·subst q;intro ⟨h1,_⟩;rw [e4] at h1;exact Bool.noConfusion h1
        ·exact A.o.2 j (by omega)
  ·obtain rfl:i=n:=by omega
   go_wp2_with fail;go_ret
   exact ⟨⟨0,rfl,.ok A.o.1 A.o.2⟩,G.o⟩
end Go.Proofs.YtklkpldicbkjeaaGreat
namespace Go.Proofs.YtklkpldicbkjeaaGreat
open Go.RowKit
attribute [local go_sem] fZ
abbrev mx (k v:Int) (g:Bool):Value:=.agg #[.int .u64 k,.int .u64 v,.bool g]
def qO (k v:Nat->Int) (g:Nat->Bool) (n:Nat) (i:Int):Value×Int:=if 0<=i/\i<n then (mx (k i.toNat) (v i.toNat) (g i.toNat),0) else (mx 0 0 false,1)
def iX (k v:Nat->Int) (g:Nat->Bool) (n:Nat) (q:Int):Value×Bool:=if ax k q n<n/\k (ax k q n)=q then (mx (k (ax k q n)) (v (ax k q n)) (g (ax k q n)),true) else (mx 0 0 false,false)
theorem ES.kept {u w:World} {eo:Option Addr} {n:Nat} {k v:Nat->Int} {g:Nat->Bool} {base:Nat} (h:ES u eo n k v g) (hb:∀ a,eo=some a->base<=a.block) (hs:u.heap.size<=w.heap.size) (hk:∀ q,base<=q->q<u.heap.size->w.heap[q]?=u.heap[q]?):ES w eo n k v g:=by
 refine ⟨fun hn=>?_,h.bd⟩
 obtain ⟨b,off,e,cY,hc⟩:=h.cells hn;have bb:base<=b:=hb _ e;have eq:∀ o,w.cell? ⟨b,o,none⟩=u.cell? ⟨b,o,none⟩:=fun o=>World.cell?_of_block (a:=⟨b,o,none⟩) (hk b bb cY)
 exact ⟨b,off,e,by omega,fun i hi=>⟨(eq _).trans (hc i hi).1,(eq _).trans (hc i hi).2.1,(eq _).trans (hc i hi).2.2⟩⟩
structure aR (w:World) (p:Nat) (S:Nat->Prop) (eps:Int) (k v:Nat->Int) (g:Nat->Bool) (n:Nat) (L:List (List Sg)):Prop where
 lies:∃ (u:World) (base:Nat) (eo:Option Addr) (ec:Nat) (lo:Option Addr) (lc:Nat),(∀ q,S q↔base<=q/\q<u.heap.size)/\u.heap.size<=w.heap.size/\(∀ q,base<=q->q<u.heap.size->w.heap[q]?=u.heap[q]?)/\u.heap[p]?=some (.cells #[.slice eo n ec,.int .i64 eps,.slice lo L.length lc] 87 (0,0))/\base<=p/\ES u eo n k v g/\(∀ a,eo=some a->base<=a.block)/\gE u base lo L/\n<=ec/\(eo=none->n=0/\ec=0)
 n1:n<=2000000
 sh:kT L
section
variable {w:World} {p:Nat} {S:Nat->Prop} {eps:Int} {k v:Nat->Int} {g:Nat->Bool} {n:Nat} {L:List (List Sg)}
theorem aR.lt (h:aR w p S eps k v g n L):∀ q,S q->q<w.heap.size:=by
 obtain ⟨u,base,ko,kc,lo,lc,h1,h2,_⟩:=h.lies;intro q hq;have:=(h1 q).1 hq;omega
theorem aR.keep {w':World} (h:aR w p S eps k v g n L) (kk:∀ q,S q->w'.heap[q]?=w.heap[q]?):aR w' p S eps k v g n L:=by
 obtain ⟨u,base,ko,kc,lo,lc,h1,h2,h3,h4,h5,h6⟩:=h.lies;have pu:p<u.heap.size:=(Array.getElem?_eq_some_iff.1 h4).1;refine ⟨⟨u,base,ko,kc,lo,lc,h1,?_,fun q a b=>(kk q ((h1 q).2 ⟨a,b⟩)).trans (h3 q a b),h4,h5,h6⟩,h.n1,h.sh⟩
 have e:=kk (u.heap.size-1) ((h1 _).2 ⟨by omega,by omega⟩)
 rw [Array.getElem?_eq_getElem (show u.heap.size-1<w.heap.size by omega)] at e
 have:=(Array.getElem?_eq_some_iff.1 e).1
 omega
theorem aR.gw {w':World} (h:aR w p S eps k v g n L) (gg:Gw w w'):aR w' p S eps k v g n L:=h.keep fun q hq=>gg.below.block q (h.lt q hq)
theorem aR.opened (h:aR w p S eps k v g n L):∃ eo ec lo lc,w.heap[p]?=some (.cells #[.slice eo n ec,.int .i64 eps,.slice lo L.length lc] 87 (0,0))/\ES w eo n k v g/\VS w lo L:=by
 obtain ⟨u,base,ko,kc,lo,lc,h1,h2,h3,h4,h5,h6,h7,h8,_⟩:=h.lies;have pu:p<u.heap.size:=(Array.getElem?_eq_some_iff.1 h4).1;exact ⟨ko,kc,lo,lc,(h3 p h5 pu).trans h4,h6.kept h7 h2 h3,(h8.keep (fun q a b=>h3 q a b) h2).vs⟩
end
theorem qP {w:World} {p:Nat} {a b c:Value} {t:TypeId} (h:w.heap[p]?=some (.cells #[a,b,c] t (0,0))):w.cell? ⟨p,0,none⟩=some a/\w.cell? ⟨p,1,none⟩=some b/\w.cell? ⟨p,2,none⟩=some c:=by
 refine ⟨?_,?_,?_⟩<;>simp [World.cell?,h]
theorem aat {w:World} {p:Nat} {S:Nat->Prop} {eps:Int} {k v:Nat->Int} {g:Nat->Bool} {n:Nat} {L:List (List Sg)} (h:aR w p S eps k v g n L) (up:Up k n) (q:Int) :
  Calls prog 71 #[.pointer (some ⟨p,0,none⟩),.int .u64 q] w fun e w'=>e=.returned (.tuple #[(iX k v g n q).1,.bool (iX k v g n q).2])/\Gw w w':=by
 have HD:ag _:=h;have hn:=h.n1;have nQ:ag (∀ j,j<n->k j=q->iX k v g n q=(mx (k j) (v j) (g j),true)):=fun j hj e=>by
  obtain ⟨a,b⟩:=oN up q n (Nat.le_refl _);have c1:ax k q n<=j:=by
   rcases Nat.lt_or_ge j (ax k q n) with x | x
   ·have:=a j x;omega
   ·exact x
  have c2:ax k q n=j:=by
   rcases Nat.lt_or_ge (ax k q n) j with x | x
   ·have x1:=b (ax k q n) (Nat.le_refl _) (by omega)
    have x2:=up.lt x hj;omega
   ·omega
  unfold iX;rw [c2,if_pos ⟨hj,e⟩]
 have NO:ag ((∀ j,j<n->k j≠q)->iX k v g n q=(mx 0 0 false,false)):=fun x=>by
  unfold iX;rw [if_neg (fun y=>x _ y.1 y.2)]
 obtain ⟨⟨V,B⟩,hV⟩:∃ r,iX k v g n q=r:=⟨_,rfl⟩;rw [hV] at nQ NO ⊢;clear h hV up;go_enter func71,ntmps71;go_wp2_with fail;obtain ⟨bb,iY⟩:∃ bb,w.heap.size=bb:=⟨_,rfl⟩;have BB:ag _:=iY;rw [iY];clear iY;go_loopg [6] n (fun gg s5 wr=>∃ j:Nat,s5=.int .i64 (j:Int)/\j<=n/\n-j<=gg/\ag (∀ i,i<j->k i≠q)/\ag (Gw (w.alloc (.cells #[.int .u64 0,.int .u64 0,.bool false] 40)) wr))
 case atStart=>exact ⟨0,rfl,Nat.zero_le _,by omega,(show ag _ from fun i hi=>by omega),(show ag _ from Gw.refl _)⟩
 case round =>
  obtain ⟨j,rfl,a1,a2,NE,G⟩:=hrel;obtain ⟨wS,aZ⟩:∃ wx,wx=wr:=⟨_,rfl⟩;subst aZ;obtain ⟨eo,ec,lo,lc,h1,hk,hv⟩:=(HD.o.gw (((Gw.refl w).alloc _ _).trans G.o)).opened;obtain ⟨c0,c1,c2⟩:=qP h1;have pl:p<wS.heap.size:=(Array.getElem?_eq_some_iff.1 h1).1;have bx:wS.heap[bb]?=some (.cells #[.int .u64 0,.int .u64 0,.bool false] 40 (0,0)):=by rw [<-BB.o];exact (G.o.below.block _ (by simp)).trans (heap_alloc_new w _)
  obtain ⟨x0,x1,x2⟩:=qP bx;have z0:wS.frozen? ⟨bb,0,none⟩=false:=by simp [World.frozen?,bx]
  have z1:wS.frozen? ⟨bb,1,none⟩=false:=by simp [World.frozen?,bx]
  have z2:wS.frozen? ⟨bb,2,none⟩=false:=by simp [World.frozen?,bx]
  have zb:bb<wS.heap.size:=(Array.getElem?_eq_some_iff.1 bx).1;clear h1 hv c1 c2 bx;by_cases ak:j<n
  ·obtain ⟨kb,ko,rfl,fT,cQ⟩:=hk.cells (by omega)
   obtain ⟨d1,d2,d3⟩:=cQ j ak;have tD:(j:Int)<(n:Int):=by omega
   by_cases c:k j=q
   ·have R:ag ((V,B)=(mx (k j) (v j) (g j),true)):=nQ.o j ak c
    have t1:(k j == q)=true:=by simpa using c
    generalize k j=kj at d1 t1 R;generalize v j=vj at d2 R;generalize g j=gj at d3 R;clear hk cQ c;have r:=R.o;simp only [Prod.mk.injEq] at r;obtain ⟨rfl,rfl⟩:=r;clear R nQ NO;go_wp2_with fail;have hb:w.heap.size<=bb:=Nat.le_of_eq BB.o;have gg:Gw w wS:=((Gw.refl w).alloc _ _).trans G.o;exact bodyPost_ret (v:=.tuple #[.agg #[.int .u64 kj,.int .u64 vj,.bool gj],.bool true]) (by simp [results,results71,go_sem,x0,x1,x2]) rfl ⟨rfl,((gg.setCell hb _).setCell hb _).setCell hb _⟩
   ·have N2:ag (∀ i,i<j+1->k i≠q):=fun i hi=>by
     by_cases x:i=j
     ·rw [x];exact c
     ·exact NE.o i (by omega)
    have t1:(k j == q)=false:=by simpa using c
    generalize k j=kj at d1 t1;clear hk cQ d2 d3 c NE;go_wp2_with fail;go_roundg (n-(j+1))
    case measure=>omega
    case rel=>exact ⟨j+1,by go_num,by omega,Nat.le_refl _,N2,G⟩
  ·have ej:j=n:=by omega
   subst ej;have r:=NO.o NE.o;simp only [Prod.mk.injEq] at r;obtain ⟨rfl,rfl⟩:=r;clear hk nQ NO;go_wp2_with fail;have hb:w.heap.size<=bb:=Nat.le_of_eq BB.o;have gg:Gw w wS:=((Gw.refl w).alloc _ _).trans G.o
   first
    | exact bodyPost_ret (v:=.tuple #[.agg #[.int .u64 0,.int .u64 0,.bool false],.bool false]) (by simp [results,results71,go_sem,x0,x1,x2]) rfl ⟨rfl,((gg.setCell hb _).setCell hb _).setCell hb _⟩
    | exact bodyPost_ret (v:=.tuple #[.agg #[.int .u64 0,.int .u64 0,.bool false],.bool false]) (by simp [results,results71,go_sem,x0,x1,x2]) rfl ⟨rfl,gg⟩
end Go.Proofs.YtklkpldicbkjeaaGreat
