/- Lists of entries in memory. -/
import Derived.Laws.IdiomCopy
import Derived.Test.YtpoohadckhphpaaGreatBPBs
set_option linter.unusedVariables false
set_option maxHeartbeats 2000000
open Go.Proofs.Tryz
namespace Go.Proofs.YtpoohadckhphpaaGreat
open Go.RowKit
structure ES (w:World) (ao:Option Addr) (n:Nat) (k v:Nat->Int) (g:Nat->Bool):Prop where
 cells:0<n->∃ b off,ao=some ⟨b,off,none⟩/\b<w.heap.size/\∀ i,i<n->w.cell? ⟨b,off+i*3,none⟩=some (.int .u64 (k i))/\w.cell? ⟨b,off+i*3+1,none⟩=some (.int .u64 (v i))/\w.cell? ⟨b,off+i*3+2,none⟩=some (.bool (g i))
 bd:∀ i,i<n->(0<=k i/\k i<18446744073709551616)/\(0<=v i/\v i<18446744073709551616)
theorem ES.gw {w w':World} {ao:Option Addr} {n:Nat} {k v:Nat->Int} {g:Nat->Bool} (h:ES w ao n k v g) (gg:Gw w w'):ES w' ao n k v g :=
 ⟨fun hn=>by
  obtain ⟨b,off,e,hb,hc⟩:=h.cells hn;exact ⟨b,off,e,Nat.lt_of_lt_of_le hb gg.size,fun i hi=>⟨(gg.cell _ _ hb).trans (hc i hi).1,(gg.cell _ _ hb).trans (hc i hi).2.1,(gg.cell _ _ hb).trans (hc i hi).2.2⟩⟩,h.bd⟩
def ecell (k v:Nat->Int) (g:Nat->Bool) (j:Nat):Value :=
 if j%3=0 then .int .u64 (k (j/3)) else if j%3=1 then .int .u64 (v (j/3)) else .bool (g (j/3))
theorem ecell_0 (k v:Nat->Int) (g:Nat->Bool) (i:Nat):ecell k v g (i*3)=.int .u64 (k i):=by
 unfold ecell;rw [if_pos (by omega),show i*3/3=i by omega]
theorem ecell_1 (k v:Nat->Int) (g:Nat->Bool) (i:Nat):ecell k v g (i*3+1)=.int .u64 (v i):=by
 unfold ecell;rw [if_neg (by omega),if_pos (by omega),show (i*3+1)/3=i by omega]
theorem ecell_2 (k v:Nat->Int) (g:Nat->Bool) (i:Nat):ecell k v g (i*3+2)=.bool (g i):=by
 unfold ecell;rw [if_neg (by omega),if_neg (by omega),show (i*3+2)/3=i by omega]
theorem ecell_one (k v:Nat->Int) (g:Nat->Bool) (j:Nat):(ecell k v g j).oneCell'=true:=by
 unfold ecell;split
 ·rfl
 ·split<;>rfl
theorem ecell_congr {k v k' v':Nat->Int} {g g':Nat->Bool} {n:Nat} (q:∀ i,i<n->k i=k' i/\v i=v' i/\g i=g' i) (j:Nat) (hj:j<n*3):ecell k v g j=ecell k' v' g' j:=by
 obtain ⟨a,b,c⟩:=q (j/3) (by omega)
 unfold ecell;rw [a,b,c]
theorem es_of_row {w:World} {b m n:Nat} {k v:Nat->Int} {g:Nat->Bool} (h:w.rowIs b 81 (m*3) (ecell k v g)) (hn:n<=m) (bd:∀ i,i<n->(0<=k i/\k i<18446744073709551616)/\(0<=v i/\v i<18446744073709551616)) :
  ES w (some ⟨b,0,none⟩) n k v g :=
 ⟨fun h0=>⟨b,0,rfl,h.lt,fun i hi=>by
  refine ⟨?_,?_,?_⟩
  ·rw [show 0+i*3=i*3 by omega,h.cell (by omega),ecell_0]
  ·rw [show 0+i*3+1=i*3+1 by omega,h.cell (by omega),ecell_1]
  ·rw [show 0+i*3+2=i*3+2 by omega,h.cell (by omega),ecell_2]⟩,bd⟩
theorem ES.flat {w:World} {ao:Option Addr} {n:Nat} {k v:Nat->Int} {g:Nat->Bool} (h:ES w ao n k v g) (hn:0<n):∃ b off,ao=some ⟨b,off,none⟩/\b<w.heap.size/\∀ j,j<n*3->w.cell? ⟨b,off+j,none⟩=some (ecell k v g j):=by
 obtain ⟨b,off,e,hb,hc⟩:=h.cells hn;refine ⟨b,off,e,hb,fun j hj=>?_⟩
 obtain ⟨c0,c1,c2⟩:=hc (j/3) (by omega)
 unfold ecell;by_cases h0:j%3=0
 ·rw [if_pos h0,<-c0];congr 2;omega
 ·rw [if_neg h0]
  by_cases h1:j%3=1
  ·rw [if_pos h1,<-c1];congr 2;omega
  ·rw [if_neg h1,<-c2];congr 2;omega
theorem info_e:(prog.info? 81).map (fun i=>(i.zero,i.size,i.bytes))=some (some (.agg #[.int .u64 0,.int .u64 0,.bool false]),3,24):=by kernel_rfl
theorem keyOf_any (a b:Int) (g:Bool) (w:World):Calls prog 74 #[.agg #[.int .u64 a,.int .u64 b,.bool g]] w fun e w'=>e=.returned (.int .u64 a)/\Gw w w':=by
 go_enter func74,ntmps74;go_wp2;go_ret;exact ⟨rfl,(Gw.refl w).alloc _ _⟩
theorem valued_any (a b:Int) (g:Bool) (w:World):Calls prog 76 #[.agg #[.int .u64 a,.int .u64 b,.bool g]] w fun e w'=>e=.returned (.bool (g&&(b != 0)))/\Gw w w':=by
 go_enter func76,ntmps76;cases g with
 | false =>
  go_wp2
  go_ret
  exact ⟨rfl,(Gw.refl w).alloc _ _⟩
 | true =>
  go_wp2
  go_ret
  exact ⟨rfl,(Gw.refl w).alloc _ _⟩
theorem rises_entries (ao:Option Addr) (n c:Nat) (k v:Nat->Int) (g:Nat->Bool) (hn:n<4611686018427387904) (w:World) (h:ES w ao n k v g) :
  Calls prog 73 #[.slice ao n c,.func (.func 74) #[] #[]] w fun e w'=>(∃ r:Nat,e=.returned (.int .i64 r)/\r<=n/\Up k r/\(r<n->1<=r/\k r<=k (r-1)))/\Gw w w':=by
 go_enter func73,ntmps73;go_wp2_with fail;go_loopg [5] n (fun gg s5 wr=>∃ i:Nat,s5=.int .i64 i/\1<=i/\(i<=n\/i=1)/\n-i<=gg/\Aside (Up k i)/\Aside (Gw w wr))
 case atStart=>exact ⟨1,rfl,Nat.le_refl _,.inr rfl,by omega,fun j hj=>by omega,Gw.refl w⟩
 case round =>
  obtain ⟨i,rfl,h1,h2,h3,H4,G⟩:=hrel;by_cases hlt:i<n
  ·obtain ⟨b,off,rfl,hb,hc⟩:=(h.gw G.out).cells (by omega)
   obtain ⟨m,hm⟩:∃ m:Nat,(i:Int)-1=m:=⟨i-1,by omega⟩
   have hmn:m<n:=by omega
   have hw:=wrap_nat m (by omega)
   obtain ⟨c1,c2,c3⟩:=hc i hlt;obtain ⟨d1,d2,d3⟩:=hc m hmn;clear hc;generalize hy1:k i=y1 at c1;generalize hy0:k m=y0 at d1;have Y:Aside (k i=y1/\k m=y0/\i=m+1):=⟨hy1,hy0,by omega⟩
   clear hy1 hy0 h h2;generalize v i=v1 at c2;generalize v m=v0 at d2;generalize g i=g1 at c3;generalize g m=g0 at d3;have e1:=GX.cell c1 hb;have e2:=GX.cell c2 hb;have e3:=GX.cell c3 hb;have e4:=GX.cell d1 hb;have e5:=GX.cell d2 hb;have e6:=GX.cell d3 hb;have ne:=GX.some wr;by_cases hle:y1<=y0
   ·go_wp2_with fail
    refine wp_region_growx (by kernel_rfl) (by kernel_rfl) ?_
    repeat (go_big_quiet_step (fail))
    go_big_quiet_want;go_big_quiet_op
    go_big_quiet_call (exact growx_of (keyOf_any _ _ _ _))
    repeat (go_big_quiet_step (fail))
    go_big_quiet_want;go_big_quiet_op
    go_big_quiet_call (exact growx_of (keyOf_any _ _ _ _))
    repeat (go_big_quiet_step (fail))
    refine wpQuiet_nil ?_;rintro _ ⟨gw,rfl⟩;clear e1 e2 e3 e4 e5 e6;go_wp2_with fail;go_ret;obtain ⟨e1,e2,e3⟩:=Y.out;refine ⟨⟨i,rfl,by omega,H4.out,fun _=>⟨h1,?_⟩⟩,G.out.trans gw.2⟩
    rw [e1,show i-1=m by omega,e2];exact hle
   ·go_wp2_with fail
    refine wp_region_growx (by kernel_rfl) (by kernel_rfl) ?_
    repeat (go_big_quiet_step (fail))
    go_big_quiet_want;go_big_quiet_op
    go_big_quiet_call (exact growx_of (keyOf_any _ _ _ _))
    repeat (go_big_quiet_step (fail))
    go_big_quiet_want;go_big_quiet_op
    go_big_quiet_call (exact growx_of (keyOf_any _ _ _ _))
    repeat (go_big_quiet_step (fail))
    refine wpQuiet_nil ?_;rintro _ ⟨gw,rfl⟩;clear e1 e2 e3 e4 e5 e6;go_wp2_with fail;go_roundg (n-(m+2))
    case measure=>omega
    case rel =>
     obtain ⟨e1,e2,e3⟩:=Y.out;refine ⟨m+2,by go_num,by omega,by omega,Nat.le_refl _,(show Aside _ from fun j hj=>?_),(show Aside _ from G.out.trans gw.2)⟩
     by_cases hj':j=m
     ·subst hj';rw [e2,<-e3,e1];omega
     ·exact H4.out j (by omega)
  ·go_wp2_with fail
   go_ret
   exact ⟨⟨n,rfl,Nat.le_refl _,fun j hj=>H4.out j (by omega),fun hh=>by omega⟩,G.out⟩
def Bad (v:Nat->Int) (g:Nat->Bool) (j:Nat):Prop:=g j=true/\v j≠0
theorem bad_and {v:Nat->Int} {g:Nat->Bool} {j:Nat}:(g j&&(v j != 0))=true↔Bad v g j:=by simp [Bad]
theorem indexf_any (ao:Option Addr) (n c:Nat) (k v:Nat->Int) (g:Nat->Bool) (hn:n<4611686018427387904) (w:World) (h:ES w ao n k v g) :
  Calls prog 127 #[.slice ao n c,.func (.func 76) #[] #[]] w fun e w'=>(∃ r:Int,e=.returned (.int .i64 r)/\((∃ i:Nat,r=i/\i<n/\Bad v g i/\∀ j,j<i->¬ Bad v g j)\/(r=-1/\∀ j,j<n->¬ Bad v g j)))/\Gw w w':=by
 go_enter func127,ntmps127;go_wp2_with fail;go_loopg [5,8] n (fun gg _ s8 wr=>∃ i:Nat,s8=.int .i64 i/\i<=n/\n-i<=gg/\Aside (∀ j,j<i->¬ Bad v g j)/\Aside (Gw w wr))
 case atStart=>exact ⟨0,rfl,Nat.zero_le _,by omega,fun j hj=>by omega,Gw.refl w⟩
 case round =>
  obtain ⟨i,rfl,h1,h2,A,G⟩:=hrel;by_cases hlt:i<n
  ·obtain ⟨b,off,rfl,hb,hc⟩:=(h.gw G.out).cells (by omega)
   obtain ⟨c1,c2,c3⟩:=hc i hlt;clear hc h;generalize k i=k1 at c1;have Y:Aside ((g i&&(v i != 0))=true↔Bad v g i):=bad_and;generalize hp:(g i&&(v i != 0))=p at Y;have hv:=valued_any k1 (v i) (g i);rw [hp] at hv;have hv':Aside _:=hv;clear hv hp;generalize v i=v1 at c2 hv';generalize g i=g1 at c3 hv';cases p with
   | true =>
    have B:Aside _:=Y.out.1 rfl;clear Y;go_wp2_with fail;refine (hv'.out _).mono ?_;rintro e w1 ⟨rfl,g1⟩;go_wp2_with fail;go_ret;exact ⟨⟨_,rfl,.inl ⟨i,rfl,hlt,B.out,A.out⟩⟩,G.out.trans g1⟩
   | false =>
    have B:Aside (¬ Bad v g i):=fun hb=>Bool.noConfusion (Y.out.2 hb)
    clear Y;go_wp2_with fail;refine (hv'.out _).mono ?_;rintro e w1 ⟨rfl,g1⟩;go_wp2_with fail;go_roundg (n-(i+1))
    case measure=>omega
    case rel =>
     refine ⟨i+1,by go_num,by omega,Nat.le_refl _,(show Aside _ from fun j hj=>?_),(show Aside _ from G.out.trans g1)⟩
     by_cases e:j=i
     ·subst e;exact B.out
     ·exact A.out j (by omega)
  ·obtain rfl:i=n:=by omega
   go_wp2_with fail;go_ret
   exact ⟨⟨_,rfl,.inr ⟨rfl,A.out⟩⟩,G.out⟩
theorem containsf_any (ao:Option Addr) (n c:Nat) (k v:Nat->Int) (g:Nat->Bool) (hn:n<4611686018427387904) (w:World) (h:ES w ao n k v g) :
  Calls prog 75 #[.slice ao n c,.func (.func 76) #[] #[]] w fun e w'=>(∃ r:Bool,e=.returned (.bool r)/\(r=true->∃ i:Nat,i<n/\Bad v g i/\∀ j,j<i->¬ Bad v g j)/\(r=false->∀ j,j<n->¬ Bad v g j))/\Gw w w':=by
 go_enter func75,ntmps75;go_wp2_with fail;refine (indexf_any ao n c k v g hn w h).mono ?_;rintro e w1 ⟨⟨r,rfl,hr⟩,g1⟩;have R:Hid _:=hr;clear hr;by_cases h0:0<=r
 ·go_wp2_with fail
  go_ret
  refine ⟨⟨true,by simp,fun _=>?_,fun hh=>Bool.noConfusion hh⟩,g1⟩
  rcases R.out with ⟨i,e,q⟩ | ⟨e,q⟩
  ·exact ⟨i,q⟩
  ·omega
 ·go_wp2_with fail
  go_ret
  refine ⟨⟨false,by simp;omega,fun hh=>Bool.noConfusion hh,fun _=>?_⟩,g1⟩
  rcases R.out with ⟨i,e,q⟩ | ⟨e,q⟩
  ·omega
  ·exact q
theorem ES.take {w:World} {ao:Option Addr} {n:Nat} {k v:Nat->Int} {g:Nat->Bool} (h:ES w ao n k v g) {m:Nat} (hm:m<=n):ES w ao m k v g :=
 ⟨fun hn=>by
  obtain ⟨b,off,e,hb,hc⟩:=h.cells (by omega)
  exact ⟨b,off,e,hb,fun i hi=>hc i (by omega)⟩,fun i hi=>h.bd i (by omega)⟩
theorem check3_any (ao:Option Addr) (n c:Nat) (k v:Nat->Int) (g:Nat->Bool) (hn:n<4611686018427387904) (hc:n<=c) (w:World) (h:ES w ao n k v g) :
  Calls prog 42 #[.slice ao n c] w fun e w'=>(∃ r:Int,e=.returned (.int .i64 r)/\ChkR k v g n r)/\Gw w w':=by
 go_enter func42,ntmps42;go_wp2_with fail;refine (rises_entries ao n c k v g hn w h).mono ?_;rintro e w1 ⟨⟨r,rfl,h1,h2,h3⟩,g1⟩;have H:Hid (Up k r/\(r<n->1<=r/\k r<=k (r-1))):=⟨h2,h3⟩;clear h2 h3;have hrc:r<=c:=by omega
 go_wp2_with fail;refine (containsf_any ao r c k v g (by omega) w1 ((h.gw g1).take h1)).mono ?_
 rintro e w2 ⟨⟨t,rfl,k1,k2⟩,g2⟩;cases t with
 | true =>
  have B:Hid _:=k1 rfl;clear k1 k2;go_wp2_with fail;go_ret;obtain ⟨i,hi,hb,hj⟩:=B.out;refine ⟨⟨31,rfl,.gone i (by omega) (fun j hj=>H.out.1 j (by omega)) hj hb⟩,g1.trans g2⟩
 | false =>
  have B:Hid _:=k2 rfl;clear k1 k2;by_cases hlt:r<n
  ·go_wp2_with fail
   go_ret
   obtain ⟨q1,q2⟩:=H.out.2 hlt;obtain ⟨m,rfl⟩:∃ m,r=m+1:=⟨r-1,by omega⟩
   exact ⟨⟨30,rfl,.order m hlt H.out.1 B.out q2⟩,g1.trans g2⟩
  ·obtain rfl:r=n:=by omega
   go_wp2_with fail;go_ret
   exact ⟨⟨0,rfl,.ok H.out.1 B.out⟩,g1.trans g2⟩
theorem of3_any (ao:Option Addr) (n c:Nat) (k v:Nat->Int) (g:Nat->Bool) (hn:n*8<=281474976710656) (w:World) (h:ES w ao n k v g) :
  Calls prog 157 #[.slice ao n c] w fun e w'=>(∃ b,e=.returned (.slice (some ⟨b,0,none⟩) n n)/\w.heap.size<=b/\w'.rowIs b 37 n (fun i=>.int .u64 (k i)))/\Gw w w':=by
 have hmk:=run_make_row' (P:=prog) 103 37 (.int .u64 0) 8 underlying103 info_k rfl .i64 .i64 n (by omega) (by omega)
 have hR:=World.rowIs_made w (.int .u64 0) n 37;have hG:=(Gw.refl w).alloc (madeCells #[.int .u64 0] n) 37;go_enter func157,ntmps157;go_wp2_with fail;generalize w.alloc (.cells (madeCells #[.int .u64 0] n) 37)=w0 at hR hG ⊢;obtain ⟨b,hb⟩:∃ b,b=w.heap.size:=⟨_,rfl⟩;rw [<-hb] at hR ⊢;have hbw:w.heap.size<=b:=by omega
 clear hb hmk;have RR:Aside (w0.rowIs b 37 n (fun _=>.int .u64 0)):=hR
 have GG:Aside (Gw w w0):=hG;clear hR hG;go_loopg [11] n (fun gg s11 wr=>∃ i:Nat,s11=.int .i64 i/\i<=n/\n-i<=gg/\Aside (wr.rowIs b 37 n (fun j=>.int .u64 (if j<i then k j else 0)))/\Aside (Gw w wr))
 case atStart=>exact ⟨0,rfl,Nat.zero_le _,by omega,(show Aside _ from RR.out.congr fun j hj=>by simp),GG⟩
 case round =>
  obtain ⟨i,rfl,h1,h2,R,G⟩:=hrel;by_cases hlt:i<n
  ·obtain ⟨b',off,rfl,hb',hc⟩:=(h.gw G.out).cells (by omega)
   obtain ⟨c1,c2,c3⟩:=hc i hlt;have r1:=R.out.cell hlt;have r2:=R.out.frozen i;have r3:=R.out.lt;clear hc h RR GG;generalize hk1:k i=k1 at c1;have Y:Aside _:=hk1;clear hk1;generalize v i=v1 at c2;generalize g i=g1 at c3;go_wp2_with fail;go_roundg (n-(i+1))
   case measure=>omega
   case rel =>
    refine ⟨i+1,by go_num,by omega,Nat.le_refl _,(show Aside _ from (((R.out.set i (.int .u64 k1)).alloc _).congr fun j hj=>?_)),(show Aside _ from ((G.out.setCell hbw _).alloc _ _))⟩
    by_cases e:j=i
    ·subst e;rw [if_pos rfl,if_pos (by omega),Y.out]
    ·rw [if_neg e]
     by_cases q:j<i
     ·rw [if_pos q,if_pos (by omega)]
     ·rw [if_neg q,if_neg (by omega)]
  ·obtain rfl:i=n:=by omega
   go_wp2_with fail;go_ret
   exact ⟨⟨b,rfl,hbw,R.out.congr fun j hj=>by simp [hj]⟩,G.out⟩
theorem own_some {w:World} {base e n:Nat} {v:Value} {xs:List Value} (h:w.ownsRow base e 1 v n xs) (hv:¬ v=.slice none 0 0):∃ g cap,v=.slice (some ⟨g,0,none⟩) n cap/\base<=g:=by
 rcases h.2 with ⟨e,_⟩ | ⟨g,cap,cur,rfl,hg,_⟩
 ·exact absurd e hv
 ·exact ⟨g,cap,rfl,hg⟩
theorem new_one3 (w:World) (x:Int):∀ j u,[Value.int .u64 x][j]?=some u->(w.alloc (.cells #[.int .u64 x] 37)).cell? ((⟨w.heap.size,0,none⟩:Addr).add j)=some u:=by
 intro j u hu;cases j with
 | zero =>
  simp only [List.getElem?_cons_zero,Option.some.injEq] at hu;subst hu;simp [Addr.add,go_sem]
 | succ j=>simp at hu
theorem rof3_any (ao:Option Addr) (n c:Nat) (k v:Nat->Int) (g:Nat->Bool) (hn:n*8<=140737488355328) (w:World) (h:ES w ao n k v g) :
  Calls prog 88 #[.slice ao n c] w fun e w'=>(∃ b cap,e=.returned (.slice (some ⟨b,0,none⟩) n cap)/\w.heap.size<=b/\w'.ownsRow w.heap.size 37 1 (.slice (some ⟨b,0,none⟩) n cap) n ((List.range n).map fun i=>Value.int .u64 (k i)))/\Gw w w':=by
 obtain ⟨ii,hii,hz,hs,hby⟩:=info_parts info_k;have hO:=World.ownsRow_made (base:=w.heap.size) (e:=37) (size:=1) w #[] 0 (Nat.le_refl _) (by simp [maxLen]) (by simp)
 have hG:=(Gw.refl w).alloc #[] 37;go_enter func88,ntmps88;go_wp2_with fail;generalize w.alloc (.cells #[] 37)=w0 at hO hG ⊢;have RR:Aside _:=hO;have GG:Aside _:=hG;clear hO hG;go_loopg [3,4] n (fun gg s3 s4 wr=>∃ i b cap:Nat,s3=.slice (some ⟨b,0,none⟩) i cap/\s4=.int .i64 i/\i<=n/\n-i<=gg/\w.heap.size<=b/\Aside (wr.ownsRow w.heap.size 37 1 (.slice (some ⟨b,0,none⟩) i cap) i ((List.range i).map fun i=>Value.int .u64 (k i)))/\Aside (Gw w wr))
 case atStart=>exact ⟨0,w.heap.size,0,rfl,rfl,Nat.zero_le _,by omega,Nat.le_refl _,RR,GG⟩
 case round =>
  obtain ⟨i,b,cap,rfl,rfl,h1,h2,hbw,R,G⟩:=hrel;by_cases hlt:i<n
  ·obtain ⟨b',off,rfl,hb',hc⟩:=(h.gw G.out).cells (by omega)
   obtain ⟨c1,c2,c3⟩:=hc i hlt;have hz0:=G.out.size;clear hc h RR GG;generalize hk1:k i=k1 at c1;have Y:Aside _:=hk1;clear hk1;go_wp2_with (at_builtin;refine wpList_append_own _ rfl _ _ 103 rfl w.heap.size 37 ii (.int .u64 0) 1 8 underlying103 hii hz hs hby rfl (by decide) _ i _ rfl (R.out.alloc _) ⟨wr.heap.size,0,none⟩ 1 1 [.int .u64 k1] rfl rfl (new_one3 wr k1) (ints_oneCell .u64 [k1]) (by simp only [maxLen];omega) (by omega) (by simp;omega) ?_)
   intro v' w' q1 q2 q3;obtain ⟨b2,cap2,rfl,hb2⟩:=own_some q1 q3;have Q1:Aside _:=q1;have Q2:Aside _:=q2;clear q1 q2 q3;go_wp2_with fail;go_roundg (n-(i+1))
   case measure=>omega
   case rel =>
    refine ⟨i+1,b2,cap2,rfl,by go_num,by omega,Nat.le_refl _,hb2,?_,(show Aside _ from (G.out.alloc _ _).grown Q2.out (fun q hq=>by cases hq;exact hbw))⟩
    have:=Q1.out
    rw [<-Y.out] at this;rw [List.range_succ,List.map_append];exact this
  ·obtain rfl:i=n:=by omega
   go_wp2_with fail;go_ret
   exact ⟨⟨b,cap,rfl,hbw,R.out⟩,G.out⟩
theorem rlive3_any (ao:Option Addr) (n c:Nat) (k v:Nat->Int) (g:Nat->Bool) (hn:n<4611686018427387904) (w:World) (h:ES w ao n k v g) :
  Calls prog 92 #[.slice ao n c] w fun e w'=>e=.returned (.int .i64 (lv g n))/\Gw w w':=by
 go_enter func92,ntmps92;go_wp2_with fail;go_loopg [3,4] n (fun gg s3 s4 wr=>∃ i m:Nat,s3=.int .i64 m/\s4=.int .i64 i/\i<=n/\n-i<=gg/\m<=i/\Aside (m=lv g i)/\Aside (Gw w wr))
 case atStart=>exact ⟨0,0,rfl,rfl,Nat.zero_le _,by omega,Nat.le_refl _,rfl,Gw.refl w⟩
 case round =>
  obtain ⟨i,m,rfl,rfl,h1,h2,h3,A,G⟩:=hrel;by_cases hlt:i<n
  ·obtain ⟨b,off,rfl,hb,hc⟩:=(h.gw G.out).cells (by omega)
   obtain ⟨c1,c2,c3⟩:=hc i hlt;clear hc h;generalize k i=k1 at c1;generalize v i=v1 at c2;generalize hg:g i=g1 at c3;have Y:Aside _:=hg;clear hg;cases g1 with
   | true =>
    go_wp2_with fail;go_roundg (n-(i+1))
    case measure=>omega
    case rel =>
     refine ⟨i+1,m,rfl,by go_num,by omega,Nat.le_refl _,by omega,(show Aside _ from ?_),G⟩
     show m=lv g (i+1);rw [lv,Y.out,if_pos rfl,<-A.out];omega
   | false =>
    go_wp2_with fail;go_roundg (n-(i+1))
    case measure=>omega
    case rel =>
     refine ⟨i+1,m+1,by go_num,by go_num,by omega,Nat.le_refl _,by omega,(show Aside _ from ?_),G⟩
     show m+1=lv g (i+1);rw [lv,Y.out,if_neg (by simp),<-A.out]
  ·obtain rfl:i=n:=by omega
   go_wp2_with fail;go_ret
   exact ⟨by rw [A.out];rfl,G.out⟩
theorem rcheck3_any (ao:Option Addr) (n c:Nat) (k v:Nat->Int) (g:Nat->Bool) (hn:n<4611686018427387904) (w:World) (h:ES w ao n k v g) :
  Calls prog 53 #[.slice ao n c] w fun e w'=>(∃ r:Int,e=.returned (.int .i64 r)/\ChkR k v g n r)/\Gw w w':=by
 go_enter func53,ntmps53;go_wp2_with fail;go_loopg [3] n (fun gg s3 wr=>∃ i:Nat,s3=.int .i64 i/\i<=n/\n-i<=gg/\Aside (Up k i/\∀ j,j<i->¬ Bad v g j)/\Aside (Gw w wr))
 case atStart=>exact ⟨0,rfl,Nat.zero_le _,by omega,⟨fun j hj=>by omega,fun j hj=>by omega⟩,Gw.refl w⟩
 case round =>
  obtain ⟨i,rfl,h1,h2,A,G⟩:=hrel;by_cases hlt:i<n
  ·obtain ⟨b,off,rfl,hb,hc⟩:=(h.gw G.out).cells (by omega)
   obtain ⟨c1,c2,c3⟩:=hc i hlt;have Y:Aside ((g i&&(v i != 0))=true↔Bad v g i):=bad_and;clear h;by_cases hi0:i=0
   ·subst hi0
    clear hc;generalize k 0=k1 at c1;generalize hv1:v 0=v1 at c2;generalize hg1:g 0=g1 at c3;have Z:Aside (v 0=v1/\g 0=g1):=⟨hv1,hg1⟩;clear hv1 hg1 Y;simp only [Nat.zero_mul,Nat.add_zero] at c1 c2 c3;cases g1 with
    | true =>
     by_cases hv:v1=0
     ·subst hv
      go_wp2_with fail;go_quiet (fail)
      go_wp2_with fail;go_roundg (n-1)
      case measure=>omega
      case rel =>
       refine ⟨1,rfl,by omega,Nat.le_refl _,(show Aside _ from ⟨fun j hj=>by omega,fun j hj=>?_⟩),(show Aside _ from G.out.drewN _)⟩
       obtain rfl:j=0:=by omega
       intro ⟨_,h2⟩;exact h2 Z.out.1
     ·go_wp2_with fail
      go_quiet (fail);go_wp2_with fail
      go_ret
      exact ⟨⟨31,rfl,.gone 0 hlt (fun j hj=>by omega) (fun j hj=>by omega) ⟨Z.out.2,by rw [Z.out.1];exact hv⟩⟩,G.out.drewN _⟩
    | false =>
     go_wp2_with fail;go_quiet (fail)
     go_wp2_with fail;go_roundg (n-1)
     case measure=>omega
     case rel =>
      refine ⟨1,rfl,by omega,Nat.le_refl _,(show Aside _ from ⟨fun j hj=>by omega,fun j hj=>?_⟩),(show Aside _ from G.out.drewN _)⟩
      obtain rfl:j=0:=by omega
      intro ⟨h1,_⟩;rw [Z.out.2] at h1;exact Bool.noConfusion h1
   ·obtain ⟨m,hm⟩:∃ m:Nat,(i:Int)-1=m:=⟨i-1,by omega⟩
    have hmn:m<n:=by omega
    have hw:=wrap_nat m (by omega)
    have hpos:0<i:=by omega
    have d1:=(hc m hmn).1;clear hc;generalize hy1:k i=y1 at c1;generalize hy0:k m=y0 at d1;generalize hv1:v i=v1 at c2;generalize hg1:g i=g1 at c3;have Z:Aside (k i=y1/\k m=y0/\v i=v1/\g i=g1/\i=m+1):=⟨hy1,hy0,hv1,hg1,by omega⟩
    clear hy1 hy0 hv1 hg1 Y hi0;by_cases hle:y1<=y0
    ·go_wp2_with fail
     go_quiet (fail);go_wp2_with fail
     go_ret
     obtain ⟨e1,e2,e3,e4,rfl⟩:=Z.out;exact ⟨⟨30,rfl,.order m hlt A.out.1 A.out.2 (by rw [e1,e2];exact hle)⟩,G.out.drewN _⟩
    ·cases g1 with
     | true =>
      by_cases hv:v1=0
      ·subst hv
       go_wp2_with fail;go_quiet (fail)
       go_wp2_with fail;go_roundg (n-(i+1))
       case measure=>omega
       case rel =>
        obtain ⟨e1,e2,e3,e4,e5⟩:=Z.out;refine ⟨i+1,by go_num,by omega,Nat.le_refl _,(show Aside _ from ⟨fun j hj=>?_,fun j hj=>?_⟩),(show Aside _ from G.out.drewN _)⟩
        ·by_cases q:j=m
         ·subst q;rw [e2,<-e5,e1];omega
         ·exact A.out.1 j (by omega)
        ·by_cases q:j=i
         ·subst q;intro ⟨_,h2⟩;exact h2 e3
         ·exact A.out.2 j (by omega)
      ·go_wp2_with fail
       go_quiet (fail);go_wp2_with fail
       go_ret
       obtain ⟨e1,e2,e3,e4,e5⟩:=Z.out;refine ⟨⟨31,rfl,.gone i hlt (fun j hj=>?_) A.out.2 ⟨e4,by rw [e3];exact hv⟩⟩,G.out.drewN _⟩
       by_cases q:j=m
       ·subst q;rw [e2,<-e5,e1];omega
       ·exact A.out.1 j (by omega)
     | false =>
      go_wp2_with fail;go_quiet (fail)
      go_wp2_with fail;go_roundg (n-(i+1))
      case measure=>omega
      case rel =>
       obtain ⟨e1,e2,e3,e4,e5⟩:=Z.out;refine ⟨i+1,by go_num,by omega,Nat.le_refl _,(show Aside _ from ⟨fun j hj=>?_,fun j hj=>?_⟩),(show Aside _ from G.out.drewN _)⟩
       ·by_cases q:j=m
        ·subst q;rw [e2,<-e5,e1];omega
        ·exact A.out.1 j (by omega)
       ·by_cases q:j=i
        ·subst q;intro ⟨h1,_⟩;rw [e4] at h1;exact Bool.noConfusion h1
        ·exact A.out.2 j (by omega)
  ·obtain rfl:i=n:=by omega
   go_wp2_with fail;go_ret
   exact ⟨⟨0,rfl,.ok A.out.1 A.out.2⟩,G.out⟩
end Go.Proofs.YtpoohadckhphpaaGreat
