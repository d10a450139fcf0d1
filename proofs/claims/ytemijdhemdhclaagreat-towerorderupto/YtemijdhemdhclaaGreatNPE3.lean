/- Lists of entries in memory. -/
import Derived.Laws.IdiomCopy
import Derived.Test.YtemijdhemdhclaaGreatNPBs
set_option linter.unusedVariables false
set_option maxHeartbeats 1000000
open Go.Proofs.Tryz
namespace Go.Proofs.YtemijdhemdhclaaGreat
open Go.RowKit
structure ES (w:World) (ao:Option Addr) (n:Nat) (k v:Nat->Int) (g:Nat->Bool):Prop where
 cells:0<n->∃ b off,ao=some ⟨b,off,none⟩/\b<w.heap.size/\∀ i,i<n->w.cell? ⟨b,off+i*3,none⟩=some (.int .u64 (k i))/\w.cell? ⟨b,off+i*3+1,none⟩=some (.int .u64 (v i))/\w.cell? ⟨b,off+i*3+2,none⟩=some (.bool (g i))
 bd:∀ i,i<n->(0<=k i/\k i<18446744073709551616)/\(0<=v i/\v i<18446744073709551616)
theorem ES.gw {w w':World} {ao:Option Addr} {n:Nat} {k v:Nat->Int} {g:Nat->Bool} (h:ES w ao n k v g) (gg:Gw w w'):ES w' ao n k v g :=
 ⟨fun hn=>by
  obtain ⟨b,off,e,hb,hc⟩:=h.cells hn;exact ⟨b,off,e,Nat.lt_of_lt_of_le hb gg.size,fun i hi=>⟨(gg.cell _ _ hb).trans (hc i hi).1,(gg.cell _ _ hb).trans (hc i hi).2.1,(gg.cell _ _ hb).trans (hc i hi).2.2⟩⟩,h.bd⟩
def ecell (k v:Nat->Int) (g:Nat->Bool) (j:Nat):Value :=
 if j%3=0 then .int .u64 (k (j/3)) else if j%3=1 then .int .u64 (v (j/3)) else .bool (g (j/3))
theorem ecell_0 (k v:Nat->Int) (g:Nat->Bool) (i:Nat):ecell k v g (i*3)=.int .u64 (k i):=by
 unfold ecell;rw [if_pos (by omega),show i*3/3=i by omega]
theorem ecell_1 (k v:Nat->Int) (g:Nat->Bool) (i:Nat):ecell k v g (i*3+1)=.int .u64 (v i):=by
 unfold ecell;rw [if_neg (by omega),if_pos (by omega),show (i*3+1)/3=i by omega]
theorem ecell_2 (k v:Nat->Int) (g:Nat->Bool) (i:Nat):ecell k v g (i*3+2)=.bool (g i):=by
 unfold ecell;rw [if_neg (by omega),if_neg (by omega),show (i*3+2)/3=i by omega]
theorem ecell_one (k v:Nat->Int) (g:Nat->Bool) (j:Nat):(ecell k v g j).oneCell'=true:=by
 unfold ecell;split
 ·rfl
 ·split<;>rfl
theorem ES.flat {w:World} {ao:Option Addr} {n:Nat} {k v:Nat->Int} {g:Nat->Bool} (h:ES w ao n k v g) (hn:0<n):∃ b off,ao=some ⟨b,off,none⟩/\b<w.heap.size/\∀ j,j<n*3->w.cell? ⟨b,off+j,none⟩=some (ecell k v g j):=by
 obtain ⟨b,off,e,hb,hc⟩:=h.cells hn;refine ⟨b,off,e,hb,fun j hj=>?_⟩
 obtain ⟨c0,c1,c2⟩:=hc (j/3) (by omega)
 unfold ecell;by_cases h0:j%3=0
 ·rw [if_pos h0,<-c0];congr 2;omega
 ·rw [if_neg h0]
  by_cases h1:j%3=1
  ·rw [if_pos h1,<-c1];congr 2;omega
  ·rw [if_neg h1,<-c2];congr 2;omega
theorem info_e:(prog.info? 69).map (fun i=>(i.zero,i.size,i.bytes))=some (some (.agg #[.int .u64 0,.int .u64 0,.bool false]),3,24):=by kernel_rfl
theorem keyOf_any (a b:Int) (g:Bool) (w:World):Calls prog 50 #[.agg #[.int .u64 a,.int .u64 b,.bool g]] w fun e w'=>e=.returned (.int .u64 a)/\Gw w w':=by
 go_enter func50,ntmps50;go_wp2;go_ret;exact ⟨rfl,(Gw.refl w).alloc _ _⟩
theorem valued_any (a b:Int) (g:Bool) (w:World):Calls prog 52 #[.agg #[.int .u64 a,.int .u64 b,.bool g]] w fun e w'=>e=.returned (.bool (g&&(b != 0)))/\Gw w w':=by
 go_enter func52,ntmps52;cases g with
 | false =>
  go_wp2
  go_ret
  exact ⟨rfl,(Gw.refl w).alloc _ _⟩
 | true =>
  go_wp2
  go_ret
  exact ⟨rfl,(Gw.refl w).alloc _ _⟩
theorem rises_entries (ao:Option Addr) (n c:Nat) (k v:Nat->Int) (g:Nat->Bool) (hn:n<4611686018427387904) (w:World) (h:ES w ao n k v g) :
  Calls prog 49 #[.slice ao n c,.func (.func 50) #[] #[]] w fun e w'=>(∃ r:Nat,e=.returned (.int .i64 r)/\r<=n/\Up k r/\(r<n->1<=r/\k r<=k (r-1)))/\Gw w w':=by
 go_enter func49,ntmps49;go_wp2_with fail;go_loopg [5] n (fun gg s5 wr=>∃ i:Nat,s5=.int .i64 i/\1<=i/\(i<=n\/i=1)/\n-i<=gg/\Aside (Up k i)/\Aside (Gw w wr))
 case atStart=>exact ⟨1,rfl,Nat.le_refl _,.inr rfl,by omega,fun j hj=>by omega,Gw.refl w⟩
 case round =>
  obtain ⟨i,rfl,h1,h2,h3,H4,G⟩:=hrel;by_cases hlt:i<n
  ·obtain ⟨b,off,rfl,hb,hc⟩:=(h.gw G.out).cells (by omega)
   obtain ⟨m,hm⟩:∃ m:Nat,(i:Int)-1=m:=⟨i-1,by omega⟩
   have hmn:m<n:=by omega
   have hw:=wrap_nat m (by omega)
   obtain ⟨c1,c2,c3⟩:=hc i hlt;obtain ⟨d1,d2,d3⟩:=hc m hmn;clear hc;generalize hy1:k i=y1 at c1;generalize hy0:k m=y0 at d1;have Y:Aside (k i=y1/\k m=y0/\i=m+1):=⟨hy1,hy0,by omega⟩
   clear hy1 hy0 h h2;generalize v i=v1 at c2;generalize v m=v0 at d2;generalize g i=g1 at c3;generalize g m=g0 at d3;have e1:=GX.cell c1 hb;have e2:=GX.cell c2 hb;have e3:=GX.cell c3 hb;have e4:=GX.cell d1 hb;have e5:=GX.cell d2 hb;have e6:=GX.cell d3 hb;have ne:=GX.some wr;by_cases hle:y1<=y0
   ·go_wp2_with fail
    refine wp_region_growx (by kernel_rfl) (by kernel_rfl) ?_
    repeat (go_big_quiet_step (fail))
    go_big_quiet_want;go_big_quiet_op
    go_big_quiet_call (exact growx_of (keyOf_any _ _ _ _))
    repeat (go_big_quiet_step (fail))
    go_big_quiet_want;go_big_quiet_op
    go_big_quiet_call (exact growx_of (keyOf_any _ _ _ _))
    repeat (go_big_quiet_step (fail))
    refine wpQuiet_nil ?_;rintro _ ⟨gw,rfl⟩;clear e1 e2 e3 e4 e5 e6;go_wp2_with fail;go_ret;obtain ⟨e1,e2,e3⟩:=Y.out;refine ⟨⟨i,rfl,by omega,H4.out,fun _=>⟨h1,?_⟩⟩,G.out.trans gw.2⟩
    rw [e1,show i-1=m by omega,e2];exact hle
   ·go_wp2_with fail
    refine wp_region_growx (by kernel_rfl) (by kernel_rfl) ?_
    repeat (go_big_quiet_step (fail))
    go_big_quiet_want;go_big_quiet_op
    go_big_quiet_call (exact growx_of (keyOf_any _ _ _ _))
    repeat (go_big_quiet_step (fail))
    go_big_quiet_want;go_big_quiet_op
    go_big_quiet_call (exact growx_of (keyOf_any _ _ _ _))
    repeat (go_big_quiet_step (fail))
    refine wpQuiet_nil ?_;rintro _ ⟨gw,rfl⟩;clear e1 e2 e3 e4 e5 e6;go_wp2_with fail;go_roundg (n-(m+2))
    case measure=>omega
    case rel =>
     obtain ⟨e1,e2,e3⟩:=Y.out;refine ⟨m+2,by go_num,by omega,by omega,Nat.le_refl _,(show Aside _ from fun j hj=>?_),(show Aside _ from G.out.trans gw.2)⟩
     by_cases hj':j=m
     ·subst hj';rw [e2,<-e3,e1];omega
     ·exact H4.out j (by omega)
  ·go_wp2_with fail
   go_ret
   exact ⟨⟨n,rfl,Nat.le_refl _,fun j hj=>H4.out j (by omega),fun hh=>by omega⟩,G.out⟩
def Bad (v:Nat->Int) (g:Nat->Bool) (j:Nat):Prop:=g j=true/\v j≠0
theorem bad_and {v:Nat->Int} {g:Nat->Bool} {j:Nat}:(g j&&(v j != 0))=true↔Bad v g j:=by simp [Bad]
theorem indexf_any (ao:Option Addr) (n c:Nat) (k v:Nat->Int) (g:Nat->Bool) (hn:n<4611686018427387904) (w:World) (h:ES w ao n k v g) :
  Calls prog 73 #[.slice ao n c,.func (.func 52) #[] #[]] w fun e w'=>(∃ r:Int,e=.returned (.int .i64 r)/\((∃ i:Nat,r=i/\i<n/\Bad v g i/\∀ j,j<i->¬ Bad v g j)\/(r=-1/\∀ j,j<n->¬ Bad v g j)))/\Gw w w':=by
 go_enter func73,ntmps73;go_wp2_with fail;go_loopg [5,8] n (fun gg _ s8 wr=>∃ i:Nat,s8=.int .i64 i/\i<=n/\n-i<=gg/\Aside (∀ j,j<i->¬ Bad v g j)/\Aside (Gw w wr))
 case atStart=>exact ⟨0,rfl,Nat.zero_le _,by omega,fun j hj=>by omega,Gw.refl w⟩
 case round =>
  obtain ⟨i,rfl,h1,h2,A,G⟩:=hrel;by_cases hlt:i<n
  ·obtain ⟨b,off,rfl,hb,hc⟩:=(h.gw G.out).cells (by omega)
   obtain ⟨c1,c2,c3⟩:=hc i hlt;clear hc h;generalize k i=k1 at c1;have Y:Aside ((g i&&(v i != 0))=true↔Bad v g i):=bad_and;generalize hp:(g i&&(v i != 0))=p at Y;have hv:=valued_any k1 (v i) (g i);rw [hp] at hv;have hv':Aside _:=hv;clear hv hp;generalize v i=v1 at c2 hv';generalize g i=g1 at c3 hv';cases p with
   | true =>
    have B:Aside _:=Y.out.1 rfl;clear Y;go_wp2_with fail;refine (hv'.out _).mono ?_;rintro e w1 ⟨rfl,g1⟩;go_wp2_with fail;go_ret;exact ⟨⟨_,rfl,.inl ⟨i,rfl,hlt,B.out,A.out⟩⟩,G.out.trans g1⟩
   | false =>
    have B:Aside (¬ Bad v g i):=fun hb=>Bool.noConfusion (Y.out.2 hb)
    clear Y;go_wp2_with fail;refine (hv'.out _).mono ?_;rintro e w1 ⟨rfl,g1⟩;go_wp2_with fail;go_roundg (n-(i+1))
    case measure=>omega
    case rel =>
     refine ⟨i+1,by go_num,by omega,Nat.le_refl _,(show Aside _ from fun j hj=>?_),(show Aside _ from G.out.trans g1)⟩
     by_cases e:j=i
     ·subst e;exact B.out
     ·exact A.out j (by omega)
  ·obtain rfl:i=n:=by omega
   go_wp2_with fail;go_ret
   exact ⟨⟨_,rfl,.inr ⟨rfl,A.out⟩⟩,G.out⟩
theorem containsf_any (ao:Option Addr) (n c:Nat) (k v:Nat->Int) (g:Nat->Bool) (hn:n<4611686018427387904) (w:World) (h:ES w ao n k v g) :
  Calls prog 51 #[.slice ao n c,.func (.func 52) #[] #[]] w fun e w'=>(∃ r:Bool,e=.returned (.bool r)/\(r=true->∃ i:Nat,i<n/\Bad v g i/\∀ j,j<i->¬ Bad v g j)/\(r=false->∀ j,j<n->¬ Bad v g j))/\Gw w w':=by
 go_enter func51,ntmps51;go_wp2_with fail;refine (indexf_any ao n c k v g hn w h).mono ?_;rintro e w1 ⟨⟨r,rfl,hr⟩,g1⟩;have R:Hid _:=hr;clear hr;by_cases h0:0<=r
 ·go_wp2_with fail
  go_ret
  refine ⟨⟨true,by simp,fun _=>?_,fun hh=>Bool.noConfusion hh⟩,g1⟩
  rcases R.out with ⟨i,e,q⟩ | ⟨e,q⟩
  ·exact ⟨i,q⟩
  ·omega
 ·go_wp2_with fail
  go_ret
  refine ⟨⟨false,by simp;omega,fun hh=>Bool.noConfusion hh,fun _=>?_⟩,g1⟩
  rcases R.out with ⟨i,e,q⟩ | ⟨e,q⟩
  ·omega
  ·exact q
theorem ES.take {w:World} {ao:Option Addr} {n:Nat} {k v:Nat->Int} {g:Nat->Bool} (h:ES w ao n k v g) {m:Nat} (hm:m<=n):ES w ao m k v g :=
 ⟨fun hn=>by
  obtain ⟨b,off,e,hb,hc⟩:=h.cells (by omega)
  exact ⟨b,off,e,hb,fun i hi=>hc i (by omega)⟩,fun i hi=>h.bd i (by omega)⟩
theorem check3_any (ao:Option Addr) (n c:Nat) (k v:Nat->Int) (g:Nat->Bool) (hn:n<4611686018427387904) (hc:n<=c) (w:World) (h:ES w ao n k v g) :
  Calls prog 35 #[.slice ao n c] w fun e w'=>(∃ r:Int,e=.returned (.int .i64 r)/\ChkR k v g n r)/\Gw w w':=by
 go_enter func35,ntmps35;go_wp2_with fail;refine (rises_entries ao n c k v g hn w h).mono ?_;rintro e w1 ⟨⟨r,rfl,h1,h2,h3⟩,g1⟩;have H:Hid (Up k r/\(r<n->1<=r/\k r<=k (r-1))):=⟨h2,h3⟩;clear h2 h3;have hrc:r<=c:=by omega
 go_wp2_with fail;refine (containsf_any ao r c k v g (by omega) w1 ((h.gw g1).take h1)).mono ?_
 rintro e w2 ⟨⟨t,rfl,k1,k2⟩,g2⟩;cases t with
 | true =>
  have B:Hid _:=k1 rfl;clear k1 k2;go_wp2_with fail;go_ret;obtain ⟨i,hi,hb,hj⟩:=B.out;refine ⟨⟨31,rfl,.gone i (by omega) (fun j hj=>H.out.1 j (by omega)) hj hb⟩,g1.trans g2⟩
 | false =>
  have B:Hid _:=k2 rfl;clear k1 k2;by_cases hlt:r<n
  ·go_wp2_with fail
   go_ret
   obtain ⟨q1,q2⟩:=H.out.2 hlt;obtain ⟨m,rfl⟩:∃ m,r=m+1:=⟨r-1,by omega⟩
   exact ⟨⟨30,rfl,.order m hlt H.out.1 B.out q2⟩,g1.trans g2⟩
  ·obtain rfl:r=n:=by omega
   go_wp2_with fail;go_ret
   exact ⟨⟨0,rfl,.ok H.out.1 B.out⟩,g1.trans g2⟩
theorem of3_any (ao:Option Addr) (n c:Nat) (k v:Nat->Int) (g:Nat->Bool) (hn:n*8<=281474976710656) (w:World) (h:ES w ao n k v g) :
  Calls prog 94 #[.slice ao n c] w fun e w'=>(∃ b,e=.returned (.slice (some ⟨b,0,none⟩) n n)/\w.heap.size<=b/\w'.rowIs b 36 n (fun i=>.int .u64 (k i)))/\Gw w w':=by
 have hmk:=run_make_row' (P:=prog) 133 36 (.int .u64 0) 8 underlying133 info_k rfl .i64 .i64 n (by omega) (by omega)
 have hR:=World.rowIs_made w (.int .u64 0) n 36;have hG:=(Gw.refl w).alloc (madeCells #[.int .u64 0] n) 36;go_enter func94,ntmps94;go_wp2_with fail;generalize w.alloc (.cells (madeCells #[.int .u64 0] n) 36)=w0 at hR hG ⊢;obtain ⟨b,hb⟩:∃ b,b=w.heap.size:=⟨_,rfl⟩;rw [<-hb] at hR ⊢;have hbw:w.heap.size<=b:=by omega
 clear hb hmk;have RR:Aside (w0.rowIs b 36 n (fun _=>.int .u64 0)):=hR
 have GG:Aside (Gw w w0):=hG;clear hR hG;go_loopg [11] n (fun gg s11 wr=>∃ i:Nat,s11=.int .i64 i/\i<=n/\n-i<=gg/\Aside (wr.rowIs b 36 n (fun j=>.int .u64 (if j<i then k j else 0)))/\Aside (Gw w wr))
 case atStart=>exact ⟨0,rfl,Nat.zero_le _,by omega,(show Aside _ from RR.out.congr fun j hj=>by simp),GG⟩
 case round =>
  obtain ⟨i,rfl,h1,h2,R,G⟩:=hrel;by_cases hlt:i<n
  ·obtain ⟨b',off,rfl,hb',hc⟩:=(h.gw G.out).cells (by omega)
   obtain ⟨c1,c2,c3⟩:=hc i hlt;have r1:=R.out.cell hlt;have r2:=R.out.frozen i;have r3:=R.out.lt;clear hc h RR GG;generalize hk1:k i=k1 at c1;have Y:Aside _:=hk1;clear hk1;generalize v i=v1 at c2;generalize g i=g1 at c3;go_wp2_with fail;go_roundg (n-(i+1))
   case measure=>omega
   case rel =>
    refine ⟨i+1,by go_num,by omega,Nat.le_refl _,(show Aside _ from (((R.out.set i (.int .u64 k1)).alloc _).congr fun j hj=>?_)),(show Aside _ from ((G.out.setCell hbw _).alloc _ _))⟩
    by_cases e:j=i
    ·subst e;rw [if_pos rfl,if_pos (by omega),Y.out]
    ·rw [if_neg e]
     by_cases q:j<i
     ·rw [if_pos q,if_pos (by omega)]
     ·rw [if_neg q,if_neg (by omega)]
  ·obtain rfl:i=n:=by omega
   go_wp2_with fail;go_ret
   exact ⟨⟨b,rfl,hbw,R.out.congr fun j hj=>by simp [hj]⟩,G.out⟩
end Go.Proofs.YtemijdhemdhclaaGreat
