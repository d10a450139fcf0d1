/- Lists of entries in memory. -/
import Derived.Laws.IdiomCopy
import Derived.Test.YtcboobmfnmgldaaGreatBPBs
set_option linter.unusedVariables false
set_option maxHeartbeats 2000000
open Go.Proofs.Tryz
namespace Go.Proofs.YtcboobmfnmgldaaGreat
open Go.RowKit
structure ES (w:World) (ao:Option Addr) (n:Nat) (k v:Nat->Int) (g:Nat->Bool):Prop where
 cells:0<n->∃ b off,ao=some ⟨b,off,none⟩/\b<w.heap.size/\∀ i,i<n->w.cell? ⟨b,off+i*3,none⟩=some (By (k i))/\w.cell? ⟨b,off+i*3+1,none⟩=some (By (v i))/\w.cell? ⟨b,off+i*3+2,none⟩=some (.bool (g i))
 bd:∀ i,i<n->(0<=k i/\k i<18446744073709551616)/\(0<=v i/\v i<18446744073709551616)
variable {w:World} {ao:Option Addr} {n:Nat} {k v:Nat->Int} {g:Nat->Bool}
theorem ES.gw {w':World} (h:ES w ao n k v g) (gg:Gw w w'):ES w' ao n k v g :=
 ⟨fun hn=>by
  obtain ⟨b,off,e,hb,hc⟩:=h.cells hn;exact ⟨b,off,e,Nat.lt_of_lt_of_le hb gg.size,fun i hi=>⟨(gg.cell _ _ hb).trans (hc i hi).1,(gg.cell _ _ hb).trans (hc i hi).2.1,(gg.cell _ _ hb).trans (hc i hi).2.2⟩⟩,h.bd⟩
def jM (k v:Nat->Int) (g:Nat->Bool) (j:Nat):Value :=
 if j%3=0 then By (k (j/3)) else if j%3=1 then By (v (j/3)) else .bool (g (j/3))
theorem aaz (k v:Nat->Int) (g:Nat->Bool) (i:Nat):jM k v g (i*3)=By (k i):=by
 unfold jM;rw [if_pos (by omega),show i*3/3=i by omega]
theorem aaA (k v:Nat->Int) (g:Nat->Bool) (i:Nat):jM k v g (i*3+1)=By (v i):=by
 unfold jM;rw [if_neg (by omega),if_pos (by omega),show (i*3+1)/3=i by omega]
theorem aaB (k v:Nat->Int) (g:Nat->Bool) (i:Nat):jM k v g (i*3+2)=.bool (g i):=by
 unfold jM;rw [if_neg (by omega),if_neg (by omega),show (i*3+2)/3=i by omega]
theorem aaC (k v:Nat->Int) (g:Nat->Bool) (j:Nat):(jM k v g j).oneCell'=true:=by
 unfold jM;split
 ·rfl
 ·split<;>rfl
theorem ES.flat (h:ES w ao n k v g) (hn:0<n):∃ b off,ao=some ⟨b,off,none⟩/\b<w.heap.size/\∀ j,j<n*3->w.cell? ⟨b,off+j,none⟩=some (jM k v g j):=by
 obtain ⟨b,off,e,hb,hc⟩:=h.cells hn;refine ⟨b,off,e,hb,fun j hj=>?_⟩
 obtain ⟨c0,c1,c2⟩:=hc (j/3) (by omega)
 unfold jM;by_cases h0:j%3=0
 ·rw [if_pos h0,<-c0];congr 2;omega
 ·rw [if_neg h0]
  by_cases h1:j%3=1
  ·rw [if_pos h1,<-c1];congr 2;omega
  ·rw [if_neg h1,<-c2];congr 2;omega
theorem nK:(prog.info? 75).map (fun i=>(i.zero,i.size,i.bytes))=some (some (.agg #[By 0,By 0,.bool false]),3,24):=by kernel_rfl
theorem zT (a b:Int) (g:Bool) (w:World):Calls prog 61 #[.agg #[By a,By b,.bool g]] w fun e w'=>e=.returned (By a)/\Gw w w':=by
 go_enter func61,ntmps61;go_wp2;go_ret;exact ⟨rfl,(Gw.refl w).alloc _ _⟩
theorem aaD (a b:Int) (g:Bool) (w:World):Calls prog 63 #[.agg #[By a,By b,.bool g]] w fun e w'=>e=.returned (.bool (g&&(b != 0)))/\Gw w w':=by
 go_enter func63,ntmps63;cases g with
 | false =>
  go_wp2
  go_ret
  exact ⟨rfl,(Gw.refl w).alloc _ _⟩
 | true =>
  go_wp2
  go_ret
  exact ⟨rfl,(Gw.refl w).alloc _ _⟩
theorem aaE (ao:Option Addr) (n c:Nat) (k v:Nat->Int) (g:Nat->Bool) (hn:n<4611686018427387904) (w:World) (h:ES w ao n k v g) :
  Calls prog 60 #[.slice ao n c,.func (.func 61) #[] #[]] w fun e w'=>(∃ r:Nat,e=.returned (AI r)/\r<=n/\Up k r/\(r<n->1<=r/\k r<=k (r-1)))/\Gw w w':=by
 go_enter func60,ntmps60;go_wp2_with fail;go_loopg [5] n (fun gg s5 wr=>∃ i:Nat,s5=AI i/\1<=i/\(i<=n\/i=1)/\n-i<=gg/\ag (Up k i)/\ag (Gw w wr))
 case atStart=>exact ⟨1,rfl,Nat.le_refl _,.inr rfl,by omega,fun j hj=>by omega,Gw.refl w⟩
 case round =>
  obtain ⟨i,rfl,h1,h2,h3,H4,G⟩:=hrel;by_cases ar:i<n
  ·obtain ⟨b,off,rfl,hb,hc⟩:=(h.gw G.o).cells (by omega)
   obtain ⟨m,hm⟩:∃ m:Nat,(i:Int)-1=m:=⟨i-1,by omega⟩
   have nj:m<n:=by omega
   have hw:=qu m (by omega)
   obtain ⟨c1,c2,c3⟩:=hc i ar;obtain ⟨d1,d2,d3⟩:=hc m nj;clear hc;generalize iu:k i=y1 at c1;generalize iv:k m=y0 at d1;have Y:ag (k i=y1/\k m=y0/\i=m+1):=⟨iu,iv,by omega⟩
   clear iu iv h h2;generalize v i=v1 at c2;generalize v m=v0 at d2;generalize g i=g1 at c3;generalize g m=g0 at d3;have e1:=GX.cell c1 hb;have e2:=GX.cell c2 hb;have e3:=GX.cell c3 hb;have e4:=GX.cell d1 hb;have e5:=GX.cell d2 hb;have e6:=GX.cell d3 hb;have ne:=GX.some wr;by_cases hle:y1<=y0
   ·go_wp2_with fail
    refine jc (by kernel_rfl) (by kernel_rfl) ?_
    repeat (go_big_quiet_step (fail))
    go_big_quiet_want;go_big_quiet_op
    go_big_quiet_call (exact eW (zT _ _ _ _))
    repeat (go_big_quiet_step (fail))
    go_big_quiet_want;go_big_quiet_op
    go_big_quiet_call (exact eW (zT _ _ _ _))
    repeat (go_big_quiet_step (fail))
    refine wpQuiet_nil ?_;rintro _ ⟨gw,rfl⟩;clear e1 e2 e3 e4 e5 e6;go_wp2_with fail;go_ret;obtain ⟨e1,e2,e3⟩:=Y.o;refine ⟨⟨i,rfl,by omega,H4.o,fun _=>⟨h1,?_⟩⟩,G.o.trans gw.2⟩
    rw [e1,show i-1=m by omega,e2];exact hle
   ·go_wp2_with fail
    refine jc (by kernel_rfl) (by kernel_rfl) ?_
    repeat (go_big_quiet_step (fail))
    go_big_quiet_want;go_big_quiet_op
    go_big_quiet_call (exact eW (zT _ _ _ _))
    repeat (go_big_quiet_step (fail))
    go_big_quiet_want;go_big_quiet_op
    go_big_quiet_call (exact eW (zT _ _ _ _))
    repeat (go_big_quiet_step (fail))
    refine wpQuiet_nil ?_;rintro _ ⟨gw,rfl⟩;clear e1 e2 e3 e4 e5 e6;go_wp2_with fail;go_roundg (n-(m+2))
    case measure=>omega
    case rel =>
     obtain ⟨e1,e2,e3⟩:=Y.o;refine ⟨m+2,by go_num,by omega,by omega,Nat.le_refl _,(show ag _ from fun j hj=>?_),(show ag _ from G.o.trans gw.2)⟩
     by_cases kW:j=m
     ·subst kW;rw [e2,<-e3,e1];omega
     ·exact H4.o j (by omega)
  ·go_wp2_with fail
   go_ret
   exact ⟨⟨n,rfl,Nat.le_refl _,fun j hj=>H4.o j (by omega),fun hh=>by omega⟩,G.o⟩
def jN (v:Nat->Int) (g:Nat->Bool) (j:Nat):Prop:=g j=true/\v j≠0
theorem Nh {j:Nat}:(g j&&(v j != 0))=true↔jN v g j:=by simp [jN]
theorem aaF (ao:Option Addr) (n c:Nat) (k v:Nat->Int) (g:Nat->Bool) (hn:n<4611686018427387904) (w:World) (h:ES w ao n k v g) :
  Calls prog 101 #[.slice ao n c,.func (.func 63) #[] #[]] w fun e w'=>(∃ r:Int,e=.returned (AI r)/\((∃ i:Nat,r=i/\i<n/\jN v g i/\∀ j,j<i->¬ jN v g j)\/(r=-1/\∀ j,j<n->¬ jN v g j)))/\Gw w w':=by
 go_enter func101,ntmps101;go_wp2_with fail;go_loopg [5,8] n (fun gg _ s8 wr=>∃ i:Nat,s8=AI i/\i<=n/\n-i<=gg/\ag (∀ j,j<i->¬ jN v g j)/\ag (Gw w wr))
 case atStart=>exact ⟨0,rfl,Nat.zero_le _,by omega,fun j hj=>by omega,Gw.refl w⟩
 case round =>
  obtain ⟨i,rfl,h1,h2,A,G⟩:=hrel;by_cases ar:i<n
  ·obtain ⟨b,off,rfl,hb,hc⟩:=(h.gw G.o).cells (by omega)
   obtain ⟨c1,c2,c3⟩:=hc i ar;clear hc h;generalize k i=k1 at c1;have Y:ag ((g i&&(v i != 0))=true↔jN v g i):=Nh;generalize hp:(g i&&(v i != 0))=p at Y;have hv:=aaD k1 (v i) (g i);rw [hp] at hv;have ba:ag _:=hv;clear hv hp;generalize v i=v1 at c2 ba;generalize g i=g1 at c3 ba;cases p with
   | true =>
    have B:ag _:=Y.o.1 rfl;clear Y;go_wp2_with fail;refine (ba.o _).mono ?_;rintro e w1 ⟨rfl,g1⟩;go_wp2_with fail;go_ret;exact ⟨⟨_,rfl,.inl ⟨i,rfl,ar,B.o,A.o⟩⟩,G.o.trans g1⟩
   | false =>
    have B:ag (¬ jN v g i):=fun hb=>Bool.noConfusion (Y.o.2 hb)
    clear Y;go_wp2_with fail;refine (ba.o _).mono ?_;rintro e w1 ⟨rfl,g1⟩;go_wp2_with fail;go_roundg (n-(i+1))
    case measure=>omega
    case rel =>
     refine ⟨i+1,by go_num,by omega,Nat.le_refl _,(show ag _ from fun j hj=>?_),(show ag _ from G.o.trans g1)⟩
     by_cases e:j=i
     ·subst e;exact B.o
     ·exact A.o j (by omega)
  ·obtain rfl:i=n:=by omega
   go_wp2_with fail;go_ret
   exact ⟨⟨_,rfl,.inr ⟨rfl,A.o⟩⟩,G.o⟩
theorem aaG (ao:Option Addr) (n c:Nat) (k v:Nat->Int) (g:Nat->Bool) (hn:n<4611686018427387904) (w:World) (h:ES w ao n k v g) :
  Calls prog 62 #[.slice ao n c,.func (.func 63) #[] #[]] w fun e w'=>(∃ r:Bool,e=.returned (.bool r)/\(r=true->∃ i:Nat,i<n/\jN v g i/\∀ j,j<i->¬ jN v g j)/\(r=false->∀ j,j<n->¬ jN v g j))/\Gw w w':=by
 go_enter func62,ntmps62;go_wp2_with fail;refine (aaF ao n c k v g hn w h).mono ?_;rintro e w1 ⟨⟨r,rfl,hr⟩,g1⟩;have R:ag _:=hr;clear hr;by_cases h0:0<=r
 ·go_wp2_with fail
  go_ret
  refine ⟨⟨true,by simp,fun _=>?_,fun hh=>Bool.noConfusion hh⟩,g1⟩
  rcases R.o with ⟨i,e,q⟩ | ⟨e,q⟩
  ·exact ⟨i,q⟩
  ·omega
 ·go_wp2_with fail
  go_ret
  refine ⟨⟨false,by simp;omega,fun hh=>Bool.noConfusion hh,fun _=>?_⟩,g1⟩
  rcases R.o with ⟨i,e,q⟩ | ⟨e,q⟩
  ·omega
  ·exact q
theorem ES.take (h:ES w ao n k v g) {m:Nat} (hm:m<=n):ES w ao m k v g :=
 ⟨fun hn=>by
  obtain ⟨b,off,e,hb,hc⟩:=h.cells (by omega)
  exact ⟨b,off,e,hb,fun i hi=>hc i (by omega)⟩,fun i hi=>h.bd i (by omega)⟩
theorem D8 (ao:Option Addr) (n c:Nat) (k v:Nat->Int) (g:Nat->Bool) (hn:n<4611686018427387904) (hc:n<=c) (w:World) (h:ES w ao n k v g) :
  Calls prog 33 #[.slice ao n c] w fun e w'=>(∃ r:Int,e=.returned (AI r)/\dw k v g n r)/\Gw w w':=by
 go_enter func33,ntmps33;go_wp2_with fail;refine (aaE ao n c k v g hn w h).mono ?_;rintro e w1 ⟨⟨r,rfl,h1,h2,h3⟩,g1⟩;have H:ag (Up k r/\(r<n->1<=r/\k r<=k (r-1))):=⟨h2,h3⟩;clear h2 h3;have hrc:r<=c:=by omega
 go_wp2_with fail;refine (aaG ao r c k v g (by omega) w1 ((h.gw g1).take h1)).mono ?_
 rintro e w2 ⟨⟨t,rfl,k1,k2⟩,g2⟩;cases t with
 | true =>
  have B:ag _:=k1 rfl;clear k1 k2;go_wp2_with fail;go_ret;obtain ⟨i,hi,hb,hj⟩:=B.o;refine ⟨⟨31,rfl,.gone i (by omega) (fun j hj=>H.o.1 j (by omega)) hj hb⟩,g1.trans g2⟩
 | false =>
  have B:ag _:=k2 rfl;clear k1 k2;by_cases ar:r<n
  ·go_wp2_with fail
   go_ret
   obtain ⟨q1,q2⟩:=H.o.2 ar;obtain ⟨m,rfl⟩:∃ m,r=m+1:=⟨r-1,by omega⟩
   exact ⟨⟨30,rfl,.order m ar H.o.1 B.o q2⟩,g1.trans g2⟩
  ·obtain rfl:r=n:=by omega
   go_wp2_with fail;go_ret
   exact ⟨⟨0,rfl,.ok H.o.1 B.o⟩,g1.trans g2⟩
theorem Ni (ao:Option Addr) (n c:Nat) (k v:Nat->Int) (g:Nat->Bool) (hn:n*8<=281474976710656) (w:World) (h:ES w ao n k v g) :
  Calls prog 30 #[.slice ao n c] w fun e w'=>(∃ b,e=.returned (.slice (some ⟨b,0,none⟩) n n)/\w.heap.size<=b/\w'.rowIs b 42 n (fun i=>By (k i)))/\Gw w w':=by
 have zU:=run_make_row' (P:=prog) 83 42 (By 0) 8 underlying83 qv rfl .i64 .i64 n (by omega) (by omega)
 have hR:=World.rowIs_made w (By 0) n 42;have hG:=(Gw.refl w).alloc (madeCells #[By 0] n) 42;go_enter func30,ntmps30;go_wp2_with fail;generalize w.alloc (.cells (madeCells #[By 0] n) 42)=w0 at hR hG ⊢;obtain ⟨b,hb⟩:∃ b,b=w.heap.size:=⟨_,rfl⟩;rw [<-hb] at hR ⊢;have vE:w.heap.size<=b:=by omega
 clear hb zU;have RR:ag (w0.rowIs b 42 n (fun _=>By 0)):=hR
 have GG:ag (Gw w w0):=hG;clear hR hG;go_loopg [11] n (fun gg gV wr=>∃ i:Nat,gV=AI i/\i<=n/\n-i<=gg/\ag (wr.rowIs b 42 n (fun j=>By (if j<i then k j else 0)))/\ag (Gw w wr))
 case atStart=>exact ⟨0,rfl,Nat.zero_le _,by omega,(show ag _ from RR.o.congr fun j hj=>by simp),GG⟩
 case round =>
  obtain ⟨i,rfl,h1,h2,R,G⟩:=hrel;by_cases ar:i<n
  ·obtain ⟨b',off,rfl,eP,hc⟩:=(h.gw G.o).cells (by omega)
   obtain ⟨c1,c2,c3⟩:=hc i ar;have r1:=R.o.cell ar;have r2:=R.o.frozen i;have r3:=R.o.lt;clear hc h RR GG;generalize pj:k i=k1 at c1;have Y:ag _:=pj;clear pj;generalize v i=v1 at c2;generalize g i=g1 at c3;go_wp2_with fail;go_roundg (n-(i+1))
   case measure=>omega
   case rel =>
    refine ⟨i+1,by go_num,by omega,Nat.le_refl _,(show ag _ from (((R.o.set i (By k1)).alloc _).congr fun j hj=>?_)),(show ag _ from ((G.o.setCell vE _).alloc _ _))⟩
    by_cases e:j=i
    ·subst e;rw [if_pos rfl,if_pos (by omega),Y.o]
    ·rw [if_neg e]
     by_cases q:j<i
     ·rw [if_pos q,if_pos (by omega)]
     ·rw [if_neg q,if_neg (by omega)]
  ·obtain rfl:i=n:=by omega
   go_wp2_with fail;go_ret
   exact ⟨⟨b,rfl,vE,R.o.congr fun j hj=>by simp [hj]⟩,G.o⟩
theorem aaH {base e:Nat} {v:Value} {xs:List Value} (h:w.ownsRow base e 1 v n xs) (hv:¬ v=.slice none 0 0):∃ g cap,v=.slice (some ⟨g,0,none⟩) n cap/\base<=g:=by
 rcases h.2 with ⟨e,_⟩ | ⟨g,cap,cur,rfl,hg,_⟩
 ·exact absurd e hv
 ·exact ⟨g,cap,rfl,hg⟩
theorem aaI (w:World) (x:Int):∀ j u,[Value.int .u64 x][j]?=some u->(w.alloc (.cells #[By x] 42)).cell? ((⟨w.heap.size,0,none⟩:Addr).add j)=some u:=by
 intro j u hu;cases j with
 | zero =>
  simp only [List.getElem?_cons_zero,Option.some.injEq] at hu;subst hu;simp [Addr.add,go_sem]
 | succ j=>simp at hu
theorem aaJ (ao:Option Addr) (n c:Nat) (k v:Nat->Int) (g:Nat->Bool) (hn:n*8<=140737488355328) (w:World) (h:ES w ao n k v g) :
  Calls prog 39 #[.slice ao n c] w fun e w'=>(∃ b cap,e=.returned (.slice (some ⟨b,0,none⟩) n cap)/\w.heap.size<=b/\w'.ownsRow w.heap.size 42 1 (.slice (some ⟨b,0,none⟩) n cap) n ((List.range n).map fun i=>Value.int .u64 (k i)))/\Gw w w':=by
 obtain ⟨ii,aQ,hz,hs,aR⟩:=info_parts qv;have hO:=World.ownsRow_made (base:=w.heap.size) (e:=42) (size:=1) w #[] 0 (Nat.le_refl _) (by simp [maxLen]) (by simp)
 have hG:=(Gw.refl w).alloc #[] 42;go_enter func39,ntmps39;go_wp2_with fail;generalize w.alloc (.cells #[] 42)=w0 at hO hG ⊢;have RR:ag _:=hO;have GG:ag _:=hG;clear hO hG;go_loopg [3,4] n (fun gg s3 s4 wr=>∃ i b cap:Nat,s3=.slice (some ⟨b,0,none⟩) i cap/\s4=AI i/\i<=n/\n-i<=gg/\w.heap.size<=b/\ag (wr.ownsRow w.heap.size 42 1 (.slice (some ⟨b,0,none⟩) i cap) i ((List.range i).map fun i=>Value.int .u64 (k i)))/\ag (Gw w wr))
 case atStart=>exact ⟨0,w.heap.size,0,rfl,rfl,Nat.zero_le _,by omega,Nat.le_refl _,RR,GG⟩
 case round =>
  obtain ⟨i,b,cap,rfl,rfl,h1,h2,vE,R,G⟩:=hrel;by_cases ar:i<n
  ·obtain ⟨b',off,rfl,eP,hc⟩:=(h.gw G.o).cells (by omega)
   obtain ⟨c1,c2,c3⟩:=hc i ar;have pn:=G.o.size;clear hc h RR GG;generalize pj:k i=k1 at c1;have Y:ag _:=pj;clear pj;go_wp2_with (at_builtin;refine wpList_append_own _ rfl _ _ 83 rfl w.heap.size 42 ii (By 0) 1 8 underlying83 aQ hz hs aR rfl (by decide) _ i _ rfl (R.o.alloc _) ⟨wr.heap.size,0,none⟩ 1 1 [By k1] rfl rfl (aaI wr k1) (ints_oneCell .u64 [k1]) (by simp only [maxLen];omega) (by omega) (by simp;omega) ?_)
   intro v' w' q1 q2 q3;obtain ⟨b2,aaK,rfl,iU⟩:=aaH q1 q3;have Q1:ag _:=q1;have Q2:ag _:=q2;clear q1 q2 q3;go_wp2_with fail;go_roundg (n-(i+1))
   case measure=>omega
   case rel =>
    refine ⟨i+1,b2,aaK,rfl,by go_num,by omega,Nat.le_refl _,iU,?_,(show ag _ from (G.o.alloc _ _).grown Q2.o (fun q hq=>by cases hq;exact vE))⟩
    have:=Q1.o
    rw [<-Y.o] at this;rw [List.range_succ,List.map_append];exact this
  ·obtain rfl:i=n:=by omega
   go_wp2_with fail;go_ret
   exact ⟨⟨b,cap,rfl,vE,R.o⟩,G.o⟩
theorem aaL (ao:Option Addr) (n c:Nat) (k v:Nat->Int) (g:Nat->Bool) (hn:n<4611686018427387904) (w:World) (h:ES w ao n k v g) :
  Calls prog 78 #[.slice ao n c] w fun e w'=>e=.returned (AI (lv g n))/\Gw w w':=by
 go_enter func78,ntmps78;go_wp2_with fail;go_loopg [3,4] n (fun gg s3 s4 wr=>∃ i m:Nat,s3=AI m/\s4=AI i/\i<=n/\n-i<=gg/\m<=i/\ag (m=lv g i)/\ag (Gw w wr))
 case atStart=>exact ⟨0,0,rfl,rfl,Nat.zero_le _,by omega,Nat.le_refl _,rfl,Gw.refl w⟩
 case round =>
  obtain ⟨i,m,rfl,rfl,h1,h2,h3,A,G⟩:=hrel;by_cases ar:i<n
  ·obtain ⟨b,off,rfl,hb,hc⟩:=(h.gw G.o).cells (by omega)
   obtain ⟨c1,c2,c3⟩:=hc i ar;clear hc h;generalize k i=k1 at c1;generalize v i=v1 at c2;generalize hg:g i=g1 at c3;have Y:ag _:=hg;clear hg;cases g1 with
   | true =>
    go_wp2_with fail;go_roundg (n-(i+1))
    case measure=>omega
    case rel =>
     refine ⟨i+1,m,rfl,by go_num,by omega,Nat.le_refl _,by omega,(show ag _ from ?_),G⟩
     show m=lv g (i+1);rw [lv,Y.o,if_pos rfl,<-A.o];omega
   | false =>
    go_wp2_with fail;go_roundg (n-(i+1))
    case measure=>omega
    case rel =>
     refine ⟨i+1,m+1,by go_num,by go_num,by omega,Nat.le_refl _,by omega,(show ag _ from ?_),G⟩
     show m+1=lv g (i+1);rw [lv,Y.o,if_neg (by simp),<-A.o]
  ·obtain rfl:i=n:=by omega
   go_wp2_with fail;go_ret
   exact ⟨by rw [A.o];rfl,G.o⟩
theorem Nj (ao:Option Addr) (n c:Nat) (k v:Nat->Int) (g:Nat->Bool) (hn:n<4611686018427387904) (w:World) (h:ES w ao n k v g) :
  Calls prog 37 #[.slice ao n c] w fun e w'=>(∃ r:Int,e=.returned (AI r)/\dw k v g n r)/\Gw w w':=by
 go_enter func37,ntmps37;go_wp2_with fail;go_loopg [3] n (fun gg s3 wr=>∃ i:Nat,s3=AI i/\i<=n/\n-i<=gg/\ag (Up k i/\∀ j,j<i->¬ jN v g j)/\ag (Gw w wr))
 case atStart=>exact ⟨0,rfl,Nat.zero_le _,by omega,⟨fun j hj=>by omega,fun j hj=>by omega⟩,Gw.refl w⟩
 case round =>
  obtain ⟨i,rfl,h1,h2,A,G⟩:=hrel;by_cases ar:i<n
  ·obtain ⟨b,off,rfl,hb,hc⟩:=(h.gw G.o).cells (by omega)
   obtain ⟨c1,c2,c3⟩:=hc i ar;have Y:ag ((g i&&(v i != 0))=true↔jN v g i):=Nh;clear h;by_cases cH:i=0
   ·subst cH
    clear hc;generalize k 0=k1 at c1;generalize vF:v 0=v1 at c2;generalize vG:g 0=g1 at c3;have Z:ag (v 0=v1/\g 0=g1):=⟨vF,vG⟩;clear vF vG Y;simp only [Nat.zero_mul,Nat.add_zero] at c1 c2 c3;cases g1 with
    | true =>
     by_cases hv:v1=0
     ·subst hv
      go_wp2_with fail;go_quiet (fail)
      go_wp2_with fail;go_roundg (n-1)
      case measure=>omega
      case rel =>
       refine ⟨1,rfl,by omega,Nat.le_refl _,(show ag _ from ⟨fun j hj=>by omega,fun j hj=>?_⟩),(show ag _ from G.o.drewN _)⟩
       obtain rfl:j=0:=by omega
       intro ⟨_,h2⟩;exact h2 Z.o.1
     ·go_wp2_with fail
      go_quiet (fail);go_wp2_with fail
      go_ret
      exact ⟨⟨31,rfl,.gone 0 ar (fun j hj=>by omega) (fun j hj=>by omega) ⟨Z.o.2,by rw [Z.o.1];exact hv⟩⟩,G.o.drewN _⟩
    | false =>
     go_wp2_with fail;go_quiet (fail)
     go_wp2_with fail;go_roundg (n-1)
     case measure=>omega
     case rel =>
      refine ⟨1,rfl,by omega,Nat.le_refl _,(show ag _ from ⟨fun j hj=>by omega,fun j hj=>?_⟩),(show ag _ from G.o.drewN _)⟩
      obtain rfl:j=0:=by omega
      intro ⟨h1,_⟩;rw [Z.o.2] at h1;exact Bool.noConfusion h1
   ·obtain ⟨m,hm⟩:∃ m:Nat,(i:Int)-1=m:=⟨i-1,by omega⟩
    have nj:m<n:=by omega
    have hw:=qu m (by omega)
    have nG:0<i:=by omega
    have d1:=(hc m nj).1;clear hc;generalize iu:k i=y1 at c1;generalize iv:k m=y0 at d1;generalize vF:v i=v1 at c2;generalize vG:g i=g1 at c3;have Z:ag (k i=y1/\k m=y0/\v i=v1/\g i=g1/\i=m+1):=⟨iu,iv,vF,vG,by omega⟩
    clear iu iv vF vG Y cH;by_cases hle:y1<=y0
    ·go_wp2_with fail
     go_quiet (fail);go_wp2_with fail
     go_ret
     obtain ⟨e1,e2,e3,e4,rfl⟩:=Z.o;exact ⟨⟨30,rfl,.order m ar A.o.1 A.o.2 (by rw [e1,e2];exact hle)⟩,G.o.drewN _⟩
    ·cases g1 with
     | true =>
      by_cases hv:v1=0
      ·subst hv
       go_wp2_with fail;go_quiet (fail)
       go_wp2_with fail;go_roundg (n-(i+1))
       case measure=>omega
       case rel =>
        obtain ⟨e1,e2,e3,e4,e5⟩:=Z.o;refine ⟨i+1,by go_num,by omega,Nat.le_refl _,(show ag _ from ⟨fun j hj=>?_,fun j hj=>?_⟩),(show ag _ from G.o.drewN _)⟩
        ·by_cases q:j=m
         ·subst q;rw [e2,<-e5,e1];omega
         ·exact A.o.1 j (by omega)
        ·by_cases q:j=i
         ·subst q;intro ⟨_,h2⟩;exact h2 e3
         ·exact A.o.2 j (by omega)
      ·go_wp2_with fail
       go_quiet (fail);go_wp2_with fail
       go_ret
       obtain ⟨e1,e2,e3,e4,e5⟩:=Z.o;refine ⟨⟨31,rfl,.gone i ar (fun j hj=>?_) A.o.2 ⟨e4,by rw [e3];exact hv⟩⟩,G.o.drewN _⟩
       by_cases q:j=m
       ·subst q;rw [e2,<-e5,e1];omega
       ·exact A.o.1 j (by omega)
     | false =>
      go_wp2_with fail;go_quiet (fail)
      go_wp2_with fail;go_roundg (n-(i+1))
      case measure=>omega
      case rel =>
       obtain ⟨e1,e2,e3,e4,e5⟩:=Z.o;refine ⟨i+1,by go_num,by omega,Nat.le_refl _,(show ag _ from ⟨fun j hj=>?_,fun j hj=>?_⟩),(show ag _ from G.o.drewN _)⟩
       ·by_cases q:j=m
        ·subst q;rw [e2,<-e5,e1];omega
        ·exact A.o.1 j (by omega)
       ·by_cases q:j=i
        ·subst q;intro ⟨h1,_⟩;rw [e4] at h1;exact Bool.noConfusion h1
        ·exact A.o.2 j (by omega)
  ·obtain rfl:i=n:=by omega
   go_wp2_with fail;go_ret
   exact ⟨⟨0,rfl,.ok A.o.1 A.o.2⟩,G.o⟩
end Go.Proofs.YtcboobmfnmgldaaGreat
