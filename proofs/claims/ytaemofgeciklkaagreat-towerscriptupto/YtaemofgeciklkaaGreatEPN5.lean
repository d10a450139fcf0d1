import Derived.Deep.DrawnRows
import Derived.Handy
import Derived.Test.YtaemofgeciklkaaGreatEPBs
set_option linter.unusedVariables false
set_option maxHeartbeats 8000000
set_option maxRecDepth 10000
open Go.Proofs.Tryz
namespace Go.Proofs.YtaemofgeciklkaaGreat
open Go.RowKit
theorem EU (w:World) (n:Nat) (a:Addr) (v:Value):(w.drewN n).setCell a v=(w.setCell a v).drewN n:=rfl
theorem EW (w:World) (n:Nat) (o:Obj):(w.drewN n).alloc o=(w.alloc o).drewN n:=rfl
attribute [local go_sem] frozen?_alloc_cells fL EU EW World.drewN_drewN
theorem ah5 (H h l:Int) (e:IntKind.u64.wrap H=h) (b1:0<=h) (b2:h<18446744073709551616) (a1:0<=l) (a2:l<18446744073709551616) (w:World) :
  Calls prog 200 #[.agg #[By H,BY l]] w fun e w'=>e=χ (.agg #[By (l%65536),By (l/65536%65536),By (l/65536/65536%65536),By (l/65536/65536/65536%65536),By (h%65536),By (h/65536%65536),By (h/65536/65536%65536),By (h/65536/65536/65536%65536)])/\Gk 3 w w':=by
 go_enter func200,ntmps200;go_wp2;refine wp_loop_rounds 5 ?_
 repeat (rw [rounds_succ];go_wp2)
 refine bodyPost_ret (v:=.agg #[By (l%65536),By (l/65536%65536),By (l/65536/65536%65536),By (l/65536/65536/65536%65536),By (h%65536),By (h/65536%65536),By (h/65536/65536%65536),By (h/65536/65536/65536%65536)]) (by simp [results,results200,go_sem]) rfl ⟨rfl,(((Gb.refl _).alloc _ _).alloc _ _).alloc _ _,ε⟩
theorem Aw (x:Int) (w:World) :
  Calls prog 200 #[.agg #[By (ay (x)),BY (az (x))]] w fun e w'=>e=χ (.agg #[By (dg (x) 0),By (dg (x) 1),By (dg (x) 2),By (dg (x) 3),By (dg (x) 4),By (dg (x) 5),By (dg (x) 6),By (dg (x) 7)])/\Gk 3 w w':=by
 obtain ⟨a1,a2⟩:=sO x;obtain ⟨b1,b2⟩:=Ax (ay x);obtain ⟨d0,d1,d2,d3⟩:=ZG x;obtain ⟨d4,d5,d6,d7⟩:=ZH x;rw [<-d0,<-d1,<-d2,<-d3,<-d4,<-d5,<-d6,<-d7];exact ah5 (ay x) _ (az x) rfl b1 b2 a1 a2 w
theorem EY (x:Int) (w:World) :
  Calls prog 203 #[.agg #[By (dg (x) 0),By (dg (x) 1),By (dg (x) 2),By (dg (x) 3),By (dg (x) 4),By (dg (x) 5),By (dg (x) 6),By (dg (x) 7)]] w fun e w'=>e=χ (.agg #[By (ay (x)),BY (az (x))])/\Gk 2 w w':=by
 obtain ⟨p0,q0⟩:=aA x 0;obtain ⟨p1,q1⟩:=aA x 1;obtain ⟨p2,q2⟩:=aA x 2;obtain ⟨p3,q3⟩:=aA x 3;obtain ⟨p4,q4⟩:=aA x 4;obtain ⟨p5,q5⟩:=aA x 5;obtain ⟨p6,q6⟩:=aA x 6;obtain ⟨p7,q7⟩:=aA x 7;have el:=ZI x;have eh:=ZJ x;go_enter func203,ntmps203;go_wp2;refine wp_loop_rounds 5 ?_
 repeat (rw [rounds_succ];go_wp2)
 refine bodyPost_ret (v:=.agg #[By (ay (x)),BY (az (x))]) (by simp [results,results203,go_sem,eh]) rfl ⟨rfl,((Gb.refl _).alloc _ _).alloc _ _,ε⟩
theorem pg (x y:Int) (w:World) :
  Calls prog 204 #[.agg #[By (dg (x) 0),By (dg (x) 1),By (dg (x) 2),By (dg (x) 3),By (dg (x) 4),By (dg (x) 5),By (dg (x) 6),By (dg (x) 7)],.agg #[By (dg (y) 0),By (dg (y) 1),By (dg (y) 2),By (dg (y) 3),By (dg (y) 4),By (dg (y) 5),By (dg (y) 6),By (dg (y) 7)]] w fun e w'=>e=χ (.agg #[By (dg (x+y) 0),By (dg (x+y) 1),By (dg (x+y) 2),By (dg (x+y) 3),By (dg (x+y) 4),By (dg (x+y) 5),By (dg (x+y) 6),By (dg (x+y) 7)])/\Gk 3 w w':=by
 obtain ⟨p0,q0⟩:=aA x 0;obtain ⟨r0,s0⟩:=aA y 0;obtain ⟨p1,q1⟩:=aA x 1;obtain ⟨r1,s1⟩:=aA y 1;obtain ⟨p2,q2⟩:=aA x 2;obtain ⟨r2,s2⟩:=aA y 2;obtain ⟨p3,q3⟩:=aA x 3;obtain ⟨r3,s3⟩:=aA y 3;obtain ⟨p4,q4⟩:=aA x 4;obtain ⟨r4,s4⟩:=aA y 4;obtain ⟨p5,q5⟩:=aA x 5;obtain ⟨r5,s5⟩:=aA y 5;obtain ⟨p6,q6⟩:=aA x 6;obtain ⟨r6,s6⟩:=aA y 6;obtain ⟨p7,q7⟩:=aA x 7;obtain ⟨r7,s7⟩:=aA y 7;obtain ⟨c1,d1⟩:=qM x y 1;obtain ⟨c2,d2⟩:=qM x y 2;obtain ⟨c3,d3⟩:=qM x y 3;obtain ⟨c4,d4⟩:=qM x y 4;obtain ⟨c5,d5⟩:=qM x y 5;obtain ⟨c6,d6⟩:=qM x y 6;obtain ⟨c7,d7⟩:=qM x y 7;obtain ⟨c8,d8⟩:=qM x y 8;have e0:=qN x y 0;have f0:=qO x y 0;rw [ZK,Int.add_zero] at e0 f0;have e1:=qN x y 1;have f1:=qO x y 1;have e2:=qN x y 2;have f2:=qO x y 2;have e3:=qN x y 3;have f3:=qO x y 3;have e4:=qN x y 4;have f4:=qO x y 4;have e5:=qN x y 5;have f5:=qO x y 5;have e6:=qN x y 6;have f6:=qO x y 6;have e7:=qN x y 7;have f7:=qO x y 7;simp only [qai,Nat.reduceAdd] at f0 f1 f2 f3 f4 f5 f6 f7;go_enter func204,ntmps204;go_wp2;refine wp_loop_rounds 9 ?_;rw [rounds_succ];go_wp2;go_quiet (fail);go_wp2;rw [rounds_succ];go_wp2;go_quiet (fail);go_wp2;rw [rounds_succ];go_wp2;go_quiet (fail);go_wp2;rw [rounds_succ];go_wp2;go_quiet (fail);go_wp2;rw [rounds_succ];go_wp2;go_quiet (fail);go_wp2;rw [rounds_succ];go_wp2;go_quiet (fail);go_wp2;rw [rounds_succ];go_wp2;go_quiet (fail);go_wp2;rw [rounds_succ];go_wp2;go_quiet (fail);go_wp2;rw [rounds_succ];go_wp2;refine bodyPost_ret (v:=.agg #[By (dg (x+y) 0),By (dg (x+y) 1),By (dg (x+y) 2),By (dg (x+y) 3),By (dg (x+y) 4),By (dg (x+y) 5),By (dg (x+y) 6),By (dg (x+y) 7)]) (by simp [results,results204,go_sem]) rfl ⟨rfl,?_,ε⟩
 exact ((((Gb.refl w).alloc _ _).alloc _ _).alloc _ _).drewN _
theorem ah6 (x z:Int) (hz:x+1=z) (w:World) :
  Calls prog 204 #[.agg #[By (dg (x) 0),By (dg (x) 1),By (dg (x) 2),By (dg (x) 3),By (dg (x) 4),By (dg (x) 5),By (dg (x) 6),By (dg (x) 7)],.agg #[By 1,By 0,By 0,By 0,By 0,By 0,By 0,By 0]] w fun e w'=>e=χ (.agg #[By (dg (z) 0),By (dg (z) 1),By (dg (z) 2),By (dg (z) 3),By (dg (z) 4),By (dg (z) 5),By (dg (z) 6),By (dg (z) 7)])/\Gk 3 w w':=by
 have h:=pg x 1 w;rw [show dg 1 0=1 by decide +kernel,show dg 1 1=0 by decide +kernel,show dg 1 2=0 by decide +kernel,show dg 1 3=0 by decide +kernel,show dg 1 4=0 by decide +kernel,show dg 1 5=0 by decide +kernel,show dg 1 6=0 by decide +kernel,show dg 1 7=0 by decide +kernel,hz] at h
 exact h
theorem Mv (x:Int) (w:World) :
  Calls prog 202 #[.agg #[By (dg (x) 0),By (dg (x) 1),By (dg (x) 2),By (dg (x) 3),By (dg (x) 4),By (dg (x) 5),By (dg (x) 6),By (dg (x) 7)]] w fun e w'=>e=χ (.agg #[By (dg (-x) 0),By (dg (-x) 1),By (dg (-x) 2),By (dg (-x) 3),By (dg (-x) 4),By (dg (-x) 5),By (dg (-x) 6),By (dg (-x) 7)])/\Gk 6 w w':=by
 obtain ⟨p0,q0⟩:=aA x 0;have e0:=qP x 0;obtain ⟨p1,q1⟩:=aA x 1;have e1:=qP x 1;obtain ⟨p2,q2⟩:=aA x 2;have e2:=qP x 2;obtain ⟨p3,q3⟩:=aA x 3;have e3:=qP x 3;obtain ⟨p4,q4⟩:=aA x 4;have e4:=qP x 4;obtain ⟨p5,q5⟩:=aA x 5;have e5:=qP x 5;obtain ⟨p6,q6⟩:=aA x 6;have e6:=qP x 6;obtain ⟨p7,q7⟩:=aA x 7;have e7:=qP x 7;go_enter func202,ntmps202;go_wp2;refine wp_loop_rounds 9 ?_
 repeat (rw [rounds_succ];go_wp2_with fail)
 refine (ah6 (-1-x) (-x) ω _).mono ?_;rintro e w1 ⟨rfl,g1⟩;obtain ⟨k1,f1,z1⟩:=g1.facts;go_wp2;refine bodyPost_ret (v:=.agg #[By (dg (-x) 0),By (dg (-x) 1),By (dg (-x) 2),By (dg (-x) 3),By (dg (-x) 4),By (dg (-x) 5),By (dg (-x) 6),By (dg (-x) 7)]) (by simp [results,results202,go_sem, *]) rfl ⟨rfl,?_,by simp [World.setCell,z1]⟩
 exact ((((((((((((Gb.refl w).alloc _ _).alloc _ _).alloc _ _).trans g1.gb).setCell ε _).setCell ε _).setCell ε _).setCell ε _).setCell ε _).setCell ε _).setCell ε _).setCell ε _
end Go.Proofs.YtaemofgeciklkaaGreat
namespace Go.Proofs.YtaemofgeciklkaaGreat
open Go.RowKit
attribute [local go_sem] frozen?_alloc_cells fL
theorem ah7 (x:Int):32768<=dg x 7↔sv x<0:=by rw [AQ];unfold dg;omega
theorem ah8 (x:Int) (w:World) :
  Calls prog 201 #[.agg #[By (dg (x) 0),By (dg (x) 1),By (dg (x) 2),By (dg (x) 3),By (dg (x) 4),By (dg (x) 5),By (dg (x) 6),By (dg (x) 7)]] w fun e w'=>e=χ (.bool (decide (32768<=dg x 7)))/\Gk 1 w w':=by
 go_enter func201,ntmps201;go_wp2;go_ret;exact ⟨rfl,(Gb.refl _).alloc _ _,ε⟩
structure H8 (w:World) (b:Nat) (x:Int):Prop where
 lt:b<w.heap.size
 c:∀ k,k<8->w.cell? (φ b k)=some (By (dg x k))
variable {w w':World} {b:Nat} {x:Int}
theorem H8.gb (h:H8 w b x) (g:Gb w w'):H8 w' b x :=
 ⟨Θ h.lt g.size,fun k hk=>(g.cell b k h.lt).trans (h.c k hk)⟩
theorem H8.alloc (h:H8 w b x) (c:Array Value) (t:TypeId):H8 (w.alloc (.cells c t)) b x :=
 h.gb ((Gb.refl w).alloc c t)
theorem nD (k:Nat) (h:k<8):k=0\/k=1\/k=2\/k=3\/k=4\/k=5\/k=6\/k=7:=ω
theorem H8.new (w:World) (x:Int) (t:TypeId):H8 (w.alloc (.cells #[By (dg x 0),By (dg x 1),By (dg x 2),By (dg x 3),By (dg x 4),By (dg x 5),By (dg x 6),By (dg x 7)] t)) w.heap.size x :=
 ⟨ε,fun k hk=>by rcases nD k hk with rfl | rfl | rfl | rfl | rfl | rfl | rfl | rfl<;>simp [go_sem]⟩
end Go.Proofs.YtaemofgeciklkaaGreat
namespace Go.Proofs.YtaemofgeciklkaaGreat
open Go.RowKit
attribute [local go_sem] frozen?_alloc_cells fL
theorem ah9 (x y:Int) (w:World) :
  Calls prog 185 #[.agg #[By (ay (x)),BY (az (x))],.agg #[By (ay (y)),BY (az (y))]] w fun e w'=>e=χ (.agg #[By (ay (x+y)),BY (az (x+y))])/\Gb w w':=by
 have HK:ag (∀ w',Gb ((w.alloc (.cells #[By (ay x),BY (az x)] 247)).alloc (.cells #[By (ay y),BY (az y)] 247)) w'->Gb ((w.alloc (.cells #[By (ay x),BY (az x)] 247)).alloc (.cells #[By (ay y),BY (az y)] 247)) w'/\w'.cell? (φ w.heap.size 0)=some (By (ay x))/\w'.cell? (φ w.heap.size 1)=some (BY (az x))/\w'.cell? (φ (w.heap.size+1) 0)=some (By (ay y))/\w'.cell? (φ (w.heap.size+1) 1)=some (BY (az y))):=by
  intro w' g;refine ⟨g,?_,?_,?_,?_⟩
  all_goals (rw [g.cell _ _ (by first | (simp;done) | (simp;omega))];simp [go_sem])
 have hR:((w.alloc (.cells #[By (ay x),BY (az x)] 247)).alloc (.cells #[By (ay y),BY (az y)] 247)).heap.size<=w.heap.size+1+1:=ε;go_enter func185,ntmps185;go_wp2_with fail;go_region_held3 (fun w'=>Gb ((w.alloc (.cells #[By (ay x),BY (az x)] 247)).alloc (.cells #[By (ay y),BY (az y)] 247)) w'/\w'.cell? (φ w.heap.size 0)=some (By (ay x))/\w'.cell? (φ w.heap.size 1)=some (BY (az x))/\w'.cell? (φ (w.heap.size+1) 0)=some (By (ay y))/\w'.cell? (φ (w.heap.size+1) 1)=some (BY (az y))) ((refine HK.o _ ?_;(repeat (first | exact Gb.refl _ | exact Ξ δ | refine Gb.drew ?_ | refine Gb.setCell ?_ hR _ | refine Gb.trans ?_ (Gk.gb δ) | refine Gb.alloc ?_ _ _));done))
  (first
   | (go_at_call 200;refine (Aw _ _).mono ?_;rintro e w4 ⟨rfl,g4⟩;obtain ⟨k4,f4,_⟩:=g4.facts;have h4:w.heap.size+1+1<w4.heap.size:=(by have h9:=g4.gb.size;first | omega | (simp at h9;omega)))
   | (go_at_call 204;refine (pg _ _ _).mono ?_;rintro e w4 ⟨rfl,g4⟩;obtain ⟨k4,f4,_⟩:=g4.facts;have h4:w.heap.size+1+1<w4.heap.size:=(by have h9:=g4.gb.size;first | omega | (simp at h9;omega)))
   | (go_at_call 202;refine (Mv _ _).mono ?_;rintro e w4 ⟨rfl,g4⟩;obtain ⟨k4,f4,_⟩:=g4.facts;have h4:w.heap.size+1+1<w4.heap.size:=(by have h9:=g4.gb.size;first | omega | (simp at h9;omega)))
   | (go_at_call 203;refine (EY _ _).mono ?_;rintro e w4 ⟨rfl,g4⟩;obtain ⟨k4,f4,_⟩:=g4.facts;have h4:w.heap.size+1+1<w4.heap.size:=(by have h9:=g4.gb.size;first | omega | (simp at h9;omega))))
 go_wp2
 have G:Gb w _:=Gb.trans (b:=((w.alloc (.cells #[By (ay x),BY (az x)] 247)).alloc (.cells #[By (ay y),BY (az y)] 247))) (by repeat (first | exact Gb.refl _ | refine Gb.alloc ?_ _ _)) (Ξ δ)
 refine bodyPost_ret (v:=.agg #[By (ay (x+y)),BY (az (x+y))]) (by simp [results,results185,go_sem, *]) rfl ⟨rfl,G⟩
end Go.Proofs.YtaemofgeciklkaaGreat
namespace Go.Proofs.YtaemofgeciklkaaGreat
open Go.RowKit
attribute [local go_sem] frozen?_alloc_cells fL EU EW World.drewN_drewN
theorem ah' (o a y z:Int) (hz:o+a*y*65536^0=z) (w:World) :
  Calls prog 204 #[.agg #[By (dg (o) 0),By (dg (o) 1),By (dg (o) 2),By (dg (o) 3),By (dg (o) 4),By (dg (o) 5),By (dg (o) 6),By (dg (o) 7)],.agg #[By (dg (a*y) 0),By (dg (a*y) 1),By (dg (a*y) 2),By (dg (a*y) 3),By (dg (a*y) 4),By (dg (a*y) 5),By (dg (a*y) 6),By (dg (a*y) 7)]] w fun e w'=>e=χ (.agg #[By (dg (z) 0),By (dg (z) 1),By (dg (z) 2),By (dg (z) 3),By (dg (z) 4),By (dg (z) 5),By (dg (z) 6),By (dg (z) 7)])/\Gk 3 w w':=by
 have h:=pg o (a*y*65536^0) w;rw [show dg (a*y*65536^0) 0=dg (a*y) 0 from cT (a*y) 0 0,show dg (a*y*65536^0) 1=dg (a*y) 1 from cT (a*y) 0 1,show dg (a*y*65536^0) 2=dg (a*y) 2 from cT (a*y) 0 2,show dg (a*y*65536^0) 3=dg (a*y) 3 from cT (a*y) 0 3,show dg (a*y*65536^0) 4=dg (a*y) 4 from cT (a*y) 0 4,show dg (a*y*65536^0) 5=dg (a*y) 5 from cT (a*y) 0 5,show dg (a*y*65536^0) 6=dg (a*y) 6 from cT (a*y) 0 6,show dg (a*y*65536^0) 7=dg (a*y) 7 from cT (a*y) 0 7,hz] at h;exact h
theorem aia (o a y z:Int) (hz:o+a*y*65536^1=z) (w:World) :
  Calls prog 204 #[.agg #[By (dg (o) 0),By (dg (o) 1),By (dg (o) 2),By (dg (o) 3),By (dg (o) 4),By (dg (o) 5),By (dg (o) 6),By (dg (o) 7)],.agg #[By (0),By (dg (a*y) 0),By (dg (a*y) 1),By (dg (a*y) 2),By (dg (a*y) 3),By (dg (a*y) 4),By (dg (a*y) 5),By (dg (a*y) 6)]] w fun e w'=>e=χ (.agg #[By (dg (z) 0),By (dg (z) 1),By (dg (z) 2),By (dg (z) 3),By (dg (z) 4),By (dg (z) 5),By (dg (z) 6),By (dg (z) 7)])/\Gk 3 w w':=by
 have h:=pg o (a*y*65536^1) w;rw [dN (a*y) 1 0 γ,show dg (a*y*65536^1) 1=dg (a*y) 0 from cT (a*y) 1 0,show dg (a*y*65536^1) 2=dg (a*y) 1 from cT (a*y) 1 1,show dg (a*y*65536^1) 3=dg (a*y) 2 from cT (a*y) 1 2,show dg (a*y*65536^1) 4=dg (a*y) 3 from cT (a*y) 1 3,show dg (a*y*65536^1) 5=dg (a*y) 4 from cT (a*y) 1 4,show dg (a*y*65536^1) 6=dg (a*y) 5 from cT (a*y) 1 5,show dg (a*y*65536^1) 7=dg (a*y) 6 from cT (a*y) 1 6,hz] at h;exact h
theorem aib (o a y z:Int) (hz:o+a*y*65536^2=z) (w:World) :
  Calls prog 204 #[.agg #[By (dg (o) 0),By (dg (o) 1),By (dg (o) 2),By (dg (o) 3),By (dg (o) 4),By (dg (o) 5),By (dg (o) 6),By (dg (o) 7)],.agg #[By (0),By (0),By (dg (a*y) 0),By (dg (a*y) 1),By (dg (a*y) 2),By (dg (a*y) 3),By (dg (a*y) 4),By (dg (a*y) 5)]] w fun e w'=>e=χ (.agg #[By (dg (z) 0),By (dg (z) 1),By (dg (z) 2),By (dg (z) 3),By (dg (z) 4),By (dg (z) 5),By (dg (z) 6),By (dg (z) 7)])/\Gk 3 w w':=by
 have h:=pg o (a*y*65536^2) w;rw [dN (a*y) 2 0 γ,dN (a*y) 2 1 γ,show dg (a*y*65536^2) 2=dg (a*y) 0 from cT (a*y) 2 0,show dg (a*y*65536^2) 3=dg (a*y) 1 from cT (a*y) 2 1,show dg (a*y*65536^2) 4=dg (a*y) 2 from cT (a*y) 2 2,show dg (a*y*65536^2) 5=dg (a*y) 3 from cT (a*y) 2 3,show dg (a*y*65536^2) 6=dg (a*y) 4 from cT (a*y) 2 4,show dg (a*y*65536^2) 7=dg (a*y) 5 from cT (a*y) 2 5,hz] at h;exact h
theorem aic (o a y z:Int) (hz:o+a*y*65536^3=z) (w:World) :
  Calls prog 204 #[.agg #[By (dg (o) 0),By (dg (o) 1),By (dg (o) 2),By (dg (o) 3),By (dg (o) 4),By (dg (o) 5),By (dg (o) 6),By (dg (o) 7)],.agg #[By (0),By (0),By (0),By (dg (a*y) 0),By (dg (a*y) 1),By (dg (a*y) 2),By (dg (a*y) 3),By (dg (a*y) 4)]] w fun e w'=>e=χ (.agg #[By (dg (z) 0),By (dg (z) 1),By (dg (z) 2),By (dg (z) 3),By (dg (z) 4),By (dg (z) 5),By (dg (z) 6),By (dg (z) 7)])/\Gk 3 w w':=by
 have h:=pg o (a*y*65536^3) w;rw [dN (a*y) 3 0 γ,dN (a*y) 3 1 γ,dN (a*y) 3 2 γ,show dg (a*y*65536^3) 3=dg (a*y) 0 from cT (a*y) 3 0,show dg (a*y*65536^3) 4=dg (a*y) 1 from cT (a*y) 3 1,show dg (a*y*65536^3) 5=dg (a*y) 2 from cT (a*y) 3 2,show dg (a*y*65536^3) 6=dg (a*y) 3 from cT (a*y) 3 3,show dg (a*y*65536^3) 7=dg (a*y) 4 from cT (a*y) 3 4,hz] at h;exact h
theorem aid (o a y z:Int) (hz:o+a*y*65536^4=z) (w:World) :
  Calls prog 204 #[.agg #[By (dg (o) 0),By (dg (o) 1),By (dg (o) 2),By (dg (o) 3),By (dg (o) 4),By (dg (o) 5),By (dg (o) 6),By (dg (o) 7)],.agg #[By (0),By (0),By (0),By (0),By (dg (a*y) 0),By (dg (a*y) 1),By (dg (a*y) 2),By (dg (a*y) 3)]] w fun e w'=>e=χ (.agg #[By (dg (z) 0),By (dg (z) 1),By (dg (z) 2),By (dg (z) 3),By (dg (z) 4),By (dg (z) 5),By (dg (z) 6),By (dg (z) 7)])/\Gk 3 w w':=by
 have h:=pg o (a*y*65536^4) w;rw [dN (a*y) 4 0 γ,dN (a*y) 4 1 γ,dN (a*y) 4 2 γ,dN (a*y) 4 3 γ,show dg (a*y*65536^4) 4=dg (a*y) 0 from cT (a*y) 4 0,show dg (a*y*65536^4) 5=dg (a*y) 1 from cT (a*y) 4 1,show dg (a*y*65536^4) 6=dg (a*y) 2 from cT (a*y) 4 2,show dg (a*y*65536^4) 7=dg (a*y) 3 from cT (a*y) 4 3,hz] at h;exact h
theorem aie (o a y z:Int) (hz:o+a*y*65536^5=z) (w:World) :
  Calls prog 204 #[.agg #[By (dg (o) 0),By (dg (o) 1),By (dg (o) 2),By (dg (o) 3),By (dg (o) 4),By (dg (o) 5),By (dg (o) 6),By (dg (o) 7)],.agg #[By (0),By (0),By (0),By (0),By (0),By (dg (a*y) 0),By (dg (a*y) 1),By (dg (a*y) 2)]] w fun e w'=>e=χ (.agg #[By (dg (z) 0),By (dg (z) 1),By (dg (z) 2),By (dg (z) 3),By (dg (z) 4),By (dg (z) 5),By (dg (z) 6),By (dg (z) 7)])/\Gk 3 w w':=by
 have h:=pg o (a*y*65536^5) w;rw [dN (a*y) 5 0 γ,dN (a*y) 5 1 γ,dN (a*y) 5 2 γ,dN (a*y) 5 3 γ,dN (a*y) 5 4 γ,show dg (a*y*65536^5) 5=dg (a*y) 0 from cT (a*y) 5 0,show dg (a*y*65536^5) 6=dg (a*y) 1 from cT (a*y) 5 1,show dg (a*y*65536^5) 7=dg (a*y) 2 from cT (a*y) 5 2,hz] at h;exact h
theorem aif (o a y z:Int) (hz:o+a*y*65536^6=z) (w:World) :
  Calls prog 204 #[.agg #[By (dg (o) 0),By (dg (o) 1),By (dg (o) 2),By (dg (o) 3),By (dg (o) 4),By (dg (o) 5),By (dg (o) 6),By (dg (o) 7)],.agg #[By (0),By (0),By (0),By (0),By (0),By (0),By (dg (a*y) 0),By (dg (a*y) 1)]] w fun e w'=>e=χ (.agg #[By (dg (z) 0),By (dg (z) 1),By (dg (z) 2),By (dg (z) 3),By (dg (z) 4),By (dg (z) 5),By (dg (z) 6),By (dg (z) 7)])/\Gk 3 w w':=by
 have h:=pg o (a*y*65536^6) w;rw [dN (a*y) 6 0 γ,dN (a*y) 6 1 γ,dN (a*y) 6 2 γ,dN (a*y) 6 3 γ,dN (a*y) 6 4 γ,dN (a*y) 6 5 γ,show dg (a*y*65536^6) 6=dg (a*y) 0 from cT (a*y) 6 0,show dg (a*y*65536^6) 7=dg (a*y) 1 from cT (a*y) 6 1,hz] at h;exact h
theorem aih (o a y z:Int) (hz:o+a*y*65536^7=z) (w:World) :
  Calls prog 204 #[.agg #[By (dg (o) 0),By (dg (o) 1),By (dg (o) 2),By (dg (o) 3),By (dg (o) 4),By (dg (o) 5),By (dg (o) 6),By (dg (o) 7)],.agg #[By (0),By (0),By (0),By (0),By (0),By (0),By (0),By (dg (a*y) 0)]] w fun e w'=>e=χ (.agg #[By (dg (z) 0),By (dg (z) 1),By (dg (z) 2),By (dg (z) 3),By (dg (z) 4),By (dg (z) 5),By (dg (z) 6),By (dg (z) 7)])/\Gk 3 w w':=by
 have h:=pg o (a*y*65536^7) w;rw [dN (a*y) 7 0 γ,dN (a*y) 7 1 γ,dN (a*y) 7 2 γ,dN (a*y) 7 3 γ,dN (a*y) 7 4 γ,dN (a*y) 7 5 γ,dN (a*y) 7 6 γ,show dg (a*y*65536^7) 7=dg (a*y) 0 from cT (a*y) 7 0,hz] at h;exact h
theorem cell_far (w:World) (b o b' o':Nat) (v:Value) (h:b≠b'):(w.setCell (φ b' o') v).cell? (φ b o)=w.cell? (φ b o) :=
 qba (w:=w) (Below.heap_setCell w ⟨b',o',none⟩ v b h)
variable {w:World} {b b':Nat} {x:Int}
theorem H8.far {o':Nat} (h:H8 w b x) (v:Value) (hb:b≠b'):H8 (w.setCell (φ b' o') v) b x :=
 ⟨by simpa [World.setCell] using h.lt,fun k hk=>(cell_far w b k b' o' v hb).trans (h.c k hk)⟩
theorem H8.far8 (h:H8 w b x) (hb:b≠b') (v0 v1 v2 v3 v4 v5 v6 v7:Value) :
  H8 ((((((((w.setCell (φ b' 0) v0).setCell (φ b' 1) v1).setCell (φ b' 2) v2).setCell (φ b' 3) v3).setCell (φ b' 4) v4).setCell (φ b' 5) v5).setCell (φ b' 6) v6).setCell (φ b' 7) v7) b x :=
 (((((((h.far v0 hb).far v1 hb).far v2 hb).far v3 hb).far v4 hb).far v5 hb).far v6 hb).far v7 hb
variable {z:Int}
theorem H8.set (h:H8 w b x) :
  H8 ((((((((w.setCell (φ b 0) (By (dg z 0))).setCell (φ b 1) (By (dg z 1))).setCell (φ b 2) (By (dg z 2))).setCell (φ b 3) (By (dg z 3))).setCell (φ b 4) (By (dg z 4))).setCell (φ b 5) (By (dg z 5))).setCell (φ b 6) (By (dg z 6))).setCell (φ b 7) (By (dg z 7))) b z:=by
 refine ⟨by simpa [World.setCell] using h.lt,fun k hk=>?_⟩
 have t0:=h.c 0 γ;have t1:=h.c 1 γ;have t2:=h.c 2 γ;have t3:=h.c 3 γ;have t4:=h.c 4 γ;have t5:=h.c 5 γ;have t6:=h.c 6 γ;have t7:=h.c 7 γ;rcases nD k hk with rfl | rfl | rfl | rfl | rfl | rfl | rfl | rfl<;>simp [go_sem,t0,t1,t2,t3,t4,t5,t6,t7]
theorem Gb.set8 {a:World} (h:Gb a w) (hb:a.heap.size<=b) (v0 v1 v2 v3 v4 v5 v6 v7:Value) :
  Gb a ((((((((w.setCell (φ b 0) v0).setCell (φ b 1) v1).setCell (φ b 2) v2).setCell (φ b 3) v3).setCell (φ b 4) v4).setCell (φ b 5) v5).setCell (φ b 6) v6).setCell (φ b 7) v7) :=
 (((((((h.setCell hb v0).setCell hb v1).setCell hb v2).setCell hb v3).setCell hb v4).setCell hb v5).setCell hb v6).setCell hb v7
theorem H8.at (h:H8 w b x) (b':Nat) (x':Int) (e:b=b') (e':x=x'):H8 w b' x':=e▸e'▸h
theorem aii (k:Nat):dg 0 k=0:=by unfold dg;simp
theorem H8.new0 (w:World) (t:TypeId):H8 (w.alloc (.cells #[By 0,By 0,By 0,By 0,By 0,By 0,By 0,By 0] t)) w.heap.size 0 :=
 ⟨ε,fun k hk=>by rw [aii];rcases nD k hk with rfl | rfl | rfl | rfl | rfl | rfl | rfl | rfl<;>simp [go_sem]⟩
structure TI (w w':World) (x y:Int) (i:Nat):Prop where
 gb:Gb w w'
 qx:H8 w' w.heap.size x
 qy:H8 w' (w.heap.size+1) y
 qr:H8 w' (w.heap.size+1+1) 0
 qo:H8 w' (w.heap.size+1+1+1) (x%65536^i*y)
theorem sH (x y:Int) (i:Nat):x%65536^i*y+dg x i*y*65536^i=x%65536^(i+1)*y:=by rw [AR,qaC,qaG (dg x i),qaa y,<-Int.mul_assoc,qaa (dg x i)]
theorem YJ (x y:Int) (w:World) :
  Calls prog 206 #[.agg #[By (dg (x) 0),By (dg (x) 1),By (dg (x) 2),By (dg (x) 3),By (dg (x) 4),By (dg (x) 5),By (dg (x) 6),By (dg (x) 7)],.agg #[By (dg (y) 0),By (dg (y) 1),By (dg (y) 2),By (dg (y) 3),By (dg (y) 4),By (dg (y) 5),By (dg (y) 6),By (dg (y) 7)]] w fun e w'=>e=χ (.agg #[By (dg (x*y) 0),By (dg (x*y) 1),By (dg (x*y) 2),By (dg (x*y) 3),By (dg (x*y) 4),By (dg (x*y) 5),By (dg (x*y) 6),By (dg (x*y) 7)])/\Gb w w':=by
 go_enter func206,ntmps206;go_wp2;go_loopw [6] (fun i w'=>∃ m:Nat,m<=8/\i=By (m:Int)/\ag (TI w w' x y m)) (fun i _=>(8-intOf i).toNat)
 case atStart =>
  refine ⟨0,γ,rfl,?_⟩;refine TI.mk ?_ ?_ ?_ ?_ ?_
  ·exact ((((Gb.refl w).alloc _ _).alloc _ _).alloc _ _).alloc _ _
  ·exact (((H8.new w x 273).alloc _ _).alloc _ _).alloc _ _
  ·exact (((H8.new (w.alloc (.cells #[By (dg x 0),By (dg x 1),By (dg x 2),By (dg x 3),By (dg x 4),By (dg x 5),By (dg x 6),By (dg x 7)] 273)) y 273).alloc _ _).alloc _ _).at _ _ ε rfl
  ·exact ((H8.new0 ((w.alloc (.cells #[By (dg x 0),By (dg x 1),By (dg x 2),By (dg x 3),By (dg x 4),By (dg x 5),By (dg x 6),By (dg x 7)] 273)).alloc (.cells #[By (dg y 0),By (dg y 1),By (dg y 2),By (dg y 3),By (dg y 4),By (dg y 5),By (dg y 6),By (dg y 7)] 273)) 273).alloc _ _).at _ _ ε rfl
  ·exact (H8.new0 (((w.alloc (.cells #[By (dg x 0),By (dg x 1),By (dg x 2),By (dg x 3),By (dg x 4),By (dg x 5),By (dg x 6),By (dg x 7)] 273)).alloc (.cells #[By (dg y 0),By (dg y 1),By (dg y 2),By (dg y 3),By (dg y 4),By (dg y 5),By (dg y 6),By (dg y 7)] 273)).alloc (.cells #[By 0,By 0,By 0,By 0,By 0,By 0,By 0,By 0] 273)) 273).at _ _ ε ε
 case round =>
  obtain ⟨m,hm,rfl,hT⟩:=hrel;rename_i wr _;by_cases h8:m=8
  ·subst h8
   have o0:=(hT.qo.c 0 γ).trans (by rw [qR x y 0 γ])
   have r0:=hT.qr.c 0 γ;have o1:=(hT.qo.c 1 γ).trans (by rw [qR x y 1 γ])
   have r1:=hT.qr.c 1 γ;have o2:=(hT.qo.c 2 γ).trans (by rw [qR x y 2 γ])
   have r2:=hT.qr.c 2 γ;have o3:=(hT.qo.c 3 γ).trans (by rw [qR x y 3 γ])
   have r3:=hT.qr.c 3 γ;have o4:=(hT.qo.c 4 γ).trans (by rw [qR x y 4 γ])
   have r4:=hT.qr.c 4 γ;have o5:=(hT.qo.c 5 γ).trans (by rw [qR x y 5 γ])
   have r5:=hT.qr.c 5 γ;have o6:=(hT.qo.c 6 γ).trans (by rw [qR x y 6 γ])
   have r6:=hT.qr.c 6 γ;have o7:=(hT.qo.c 7 γ).trans (by rw [qR x y 7 γ])
   have r7:=hT.qr.c 7 γ;have fz:=hT.gb.frozen;have fr:∀ k,wr.frozen? (φ (w.heap.size+1+1) k)=false:=fun k=>(fz _).trans (fL w _ k ω)
   have G:=hT.gb;clear fz hT;go_wp2;refine bodyPost_ret (v:=.agg #[By (dg (x*y) 0),By (dg (x*y) 1),By (dg (x*y) 2),By (dg (x*y) 3),By (dg (x*y) 4),By (dg (x*y) 5),By (dg (x*y) 6),By (dg (x*y) 7)]) (by simp [results,results206,go_sem, *]) rfl ⟨rfl,?_⟩
   exact G.set8 ω _ _ _ _ _ _ _ _
  ·rcases nD m ω with rfl | rfl | rfl | rfl | rfl | rfl | rfl | rfl
   ·have hx:=hT.qx.c 0 γ
    obtain ⟨a0,a1⟩:=aA x 0;have eA:ag _:=sH x y 0;obtain ⟨a,ha⟩:∃ a,ag (dg x 0=a):=⟨_,rfl⟩;rw [ha.o] at hx a0 a1 eA;obtain ⟨o,ho⟩:∃ o:Int,ag (x%65536^0*y=o):=⟨x%65536^0*y,Eq.refl (x%65536^0*y)⟩;have qo:=hT.qo;rw [ho.o] at qo eA;clear ho ha;have y0:=hT.qy.c 0 γ;obtain ⟨p0,q0⟩:=cO a (dg y 0) a0 a1 (aA y 0).1 (aA y 0).2;have e0:=cP a y 0;have f0:=cQ a y 0;rw [qQ,Int.add_zero] at e0 f0;have y1:=hT.qy.c 1 γ;obtain ⟨p1,q1⟩:=cO a (dg y 1) a0 a1 (aA y 1).1 (aA y 1).2;obtain ⟨c1,d1⟩:=dM a y 1 a0 a1;have e1:=cP a y 1;have f1:=cQ a y 1;have y2:=hT.qy.c 2 γ;obtain ⟨p2,q2⟩:=cO a (dg y 2) a0 a1 (aA y 2).1 (aA y 2).2;obtain ⟨c2,d2⟩:=dM a y 2 a0 a1;have e2:=cP a y 2;have f2:=cQ a y 2;have y3:=hT.qy.c 3 γ;obtain ⟨p3,q3⟩:=cO a (dg y 3) a0 a1 (aA y 3).1 (aA y 3).2;obtain ⟨c3,d3⟩:=dM a y 3 a0 a1;have e3:=cP a y 3;have f3:=cQ a y 3;have y4:=hT.qy.c 4 γ;obtain ⟨p4,q4⟩:=cO a (dg y 4) a0 a1 (aA y 4).1 (aA y 4).2;obtain ⟨c4,d4⟩:=dM a y 4 a0 a1;have e4:=cP a y 4;have f4:=cQ a y 4;have y5:=hT.qy.c 5 γ;obtain ⟨p5,q5⟩:=cO a (dg y 5) a0 a1 (aA y 5).1 (aA y 5).2;obtain ⟨c5,d5⟩:=dM a y 5 a0 a1;have e5:=cP a y 5;have f5:=cQ a y 5;have y6:=hT.qy.c 6 γ;obtain ⟨p6,q6⟩:=cO a (dg y 6) a0 a1 (aA y 6).1 (aA y 6).2;obtain ⟨c6,d6⟩:=dM a y 6 a0 a1;have e6:=cP a y 6;have f6:=cQ a y 6;have y7:=hT.qy.c 7 γ;obtain ⟨p7,q7⟩:=cO a (dg y 7) a0 a1 (aA y 7).1 (aA y 7).2;obtain ⟨c7,d7⟩:=dM a y 7 a0 a1;have e7:=cP a y 7;have f7:=cQ a y 7;simp only [qai,Nat.reduceAdd] at f0 f1 f2 f3 f4 f5 f6 f7;have o0:=qo.c 0 γ;have o1:=qo.c 1 γ;have o2:=qo.c 2 γ;have o3:=qo.c 3 γ;have o4:=qo.c 4 γ;have o5:=qo.c 5 γ;have o6:=qo.c 6 γ;have o7:=qo.c 7 γ;have p8:=hT.qo.lt;have hJ:=hT.qx.lt;have uV:=hT.qy.lt;have uW:=hT.qr.lt;have fz:=hT.gb.frozen;have fo:∀ k,wr.frozen? (φ (w.heap.size+1+1+1) k)=false:=fun k=>(fz _).trans (fL w _ k ω)
    clear fz;go_wp2;refine wp_loop_rounds 9 ?_;rw [rounds_succ];go_wp2;go_quiet (fail);go_wp2;rw [rounds_succ];go_wp2;go_quiet (fail);go_wp2;rw [rounds_succ];go_wp2;go_quiet (fail);go_wp2;rw [rounds_succ];go_wp2;go_quiet (fail);go_wp2;rw [rounds_succ];go_wp2;go_quiet (fail);go_wp2;rw [rounds_succ];go_wp2;go_quiet (fail);go_wp2;rw [rounds_succ];go_wp2;go_quiet (fail);go_wp2;rw [rounds_succ];go_wp2;go_quiet (fail);go_wp2;rw [rounds_succ];go_wp2_with fail;refine (ah' o a y _ eA.o _).mono ?_;rintro e w1 ⟨rfl,g1⟩;obtain ⟨k1,f1,_⟩:=g1.facts;have Gc:ag (Gb wr w1):=(((Gb.refl wr).alloc _ _).drewN _).trans g1.gb;have s1:=Gb.size Gc.o;generalize hz:x%65536^(0+1)*y=z at *;go_wp2;go_roundw
    case rel =>
     refine ⟨0+1,γ,ε,TI.mk ((hT.gb.trans Gc.o).set8 ω _ _ _ _ _ _ _ _) ((hT.qx.gb Gc.o).far8 ω _ _ _ _ _ _ _ _) ((hT.qy.gb Gc.o).far8 ω _ _ _ _ _ _ _ _) ((hT.qr.gb Gc.o).far8 ω _ _ _ _ _ _ _ _) (((qo.gb Gc.o).set (z:=z)).at _ _ rfl hz.symm)⟩
    case measure=>simp [intOf]
   ·have hx:=hT.qx.c 1 γ
    obtain ⟨a0,a1⟩:=aA x 1;have eA:ag _:=sH x y 1;obtain ⟨a,ha⟩:∃ a,ag (dg x 1=a):=⟨_,rfl⟩;rw [ha.o] at hx a0 a1 eA;obtain ⟨o,ho⟩:∃ o:Int,ag (x%65536^1*y=o):=⟨x%65536^1*y,Eq.refl (x%65536^1*y)⟩;have qo:=hT.qo;rw [ho.o] at qo eA;clear ho ha;have y0:=hT.qy.c 0 γ;obtain ⟨p0,q0⟩:=cO a (dg y 0) a0 a1 (aA y 0).1 (aA y 0).2;have e0:=cP a y 0;have f0:=cQ a y 0;rw [qQ,Int.add_zero] at e0 f0;have y1:=hT.qy.c 1 γ;obtain ⟨p1,q1⟩:=cO a (dg y 1) a0 a1 (aA y 1).1 (aA y 1).2;obtain ⟨c1,d1⟩:=dM a y 1 a0 a1;have e1:=cP a y 1;have f1:=cQ a y 1;have y2:=hT.qy.c 2 γ;obtain ⟨p2,q2⟩:=cO a (dg y 2) a0 a1 (aA y 2).1 (aA y 2).2;obtain ⟨c2,d2⟩:=dM a y 2 a0 a1;have e2:=cP a y 2;have f2:=cQ a y 2;have y3:=hT.qy.c 3 γ;obtain ⟨p3,q3⟩:=cO a (dg y 3) a0 a1 (aA y 3).1 (aA y 3).2;obtain ⟨c3,d3⟩:=dM a y 3 a0 a1;have e3:=cP a y 3;have f3:=cQ a y 3;have y4:=hT.qy.c 4 γ;obtain ⟨p4,q4⟩:=cO a (dg y 4) a0 a1 (aA y 4).1 (aA y 4).2;obtain ⟨c4,d4⟩:=dM a y 4 a0 a1;have e4:=cP a y 4;have f4:=cQ a y 4;have y5:=hT.qy.c 5 γ;obtain ⟨p5,q5⟩:=cO a (dg y 5) a0 a1 (aA y 5).1 (aA y 5).2;obtain ⟨c5,d5⟩:=dM a y 5 a0 a1;have e5:=cP a y 5;have f5:=cQ a y 5;have y6:=hT.qy.c 6 γ;obtain ⟨p6,q6⟩:=cO a (dg y 6) a0 a1 (aA y 6).1 (aA y 6).2;obtain ⟨c6,d6⟩:=dM a y 6 a0 a1;have e6:=cP a y 6;have f6:=cQ a y 6;simp only [qai,Nat.reduceAdd] at f0 f1 f2 f3 f4 f5 f6;have o0:=qo.c 0 γ;have o1:=qo.c 1 γ;have o2:=qo.c 2 γ;have o3:=qo.c 3 γ;have o4:=qo.c 4 γ;have o5:=qo.c 5 γ;have o6:=qo.c 6 γ;have o7:=qo.c 7 γ;have p8:=hT.qo.lt;have hJ:=hT.qx.lt;have uV:=hT.qy.lt;have uW:=hT.qr.lt;have fz:=hT.gb.frozen;have fo:∀ k,wr.frozen? (φ (w.heap.size+1+1+1) k)=false:=fun k=>(fz _).trans (fL w _ k ω)
    clear fz;go_wp2;refine wp_loop_rounds 8 ?_;rw [rounds_succ];go_wp2;go_quiet (fail);go_wp2;rw [rounds_succ];go_wp2;go_quiet (fail);go_wp2;rw [rounds_succ];go_wp2;go_quiet (fail);go_wp2;rw [rounds_succ];go_wp2;go_quiet (fail);go_wp2;rw [rounds_succ];go_wp2;go_quiet (fail);go_wp2;rw [rounds_succ];go_wp2;go_quiet (fail);go_wp2;rw [rounds_succ];go_wp2;go_quiet (fail);go_wp2;rw [rounds_succ];go_wp2_with fail;refine (aia o a y _ eA.o _).mono ?_;rintro e w1 ⟨rfl,g1⟩;obtain ⟨k1,f1,_⟩:=g1.facts;have Gc:ag (Gb wr w1):=(((Gb.refl wr).alloc _ _).drewN _).trans g1.gb;have s1:=Gb.size Gc.o;generalize hz:x%65536^(1+1)*y=z at *;go_wp2;go_roundw
    case rel =>
     refine ⟨1+1,γ,ε,TI.mk ((hT.gb.trans Gc.o).set8 ω _ _ _ _ _ _ _ _) ((hT.qx.gb Gc.o).far8 ω _ _ _ _ _ _ _ _) ((hT.qy.gb Gc.o).far8 ω _ _ _ _ _ _ _ _) ((hT.qr.gb Gc.o).far8 ω _ _ _ _ _ _ _ _) (((qo.gb Gc.o).set (z:=z)).at _ _ rfl hz.symm)⟩
    case measure=>simp [intOf]
   ·have hx:=hT.qx.c 2 γ
    obtain ⟨a0,a1⟩:=aA x 2;have eA:ag _:=sH x y 2;obtain ⟨a,ha⟩:∃ a,ag (dg x 2=a):=⟨_,rfl⟩;rw [ha.o] at hx a0 a1 eA;obtain ⟨o,ho⟩:∃ o:Int,ag (x%65536^2*y=o):=⟨x%65536^2*y,Eq.refl (x%65536^2*y)⟩;have qo:=hT.qo;rw [ho.o] at qo eA;clear ho ha;have y0:=hT.qy.c 0 γ;obtain ⟨p0,q0⟩:=cO a (dg y 0) a0 a1 (aA y 0).1 (aA y 0).2;have e0:=cP a y 0;have f0:=cQ a y 0;rw [qQ,Int.add_zero] at e0 f0;have y1:=hT.qy.c 1 γ;obtain ⟨p1,q1⟩:=cO a (dg y 1) a0 a1 (aA y 1).1 (aA y 1).2;obtain ⟨c1,d1⟩:=dM a y 1 a0 a1;have e1:=cP a y 1;have f1:=cQ a y 1;have y2:=hT.qy.c 2 γ;obtain ⟨p2,q2⟩:=cO a (dg y 2) a0 a1 (aA y 2).1 (aA y 2).2;obtain ⟨c2,d2⟩:=dM a y 2 a0 a1;have e2:=cP a y 2;have f2:=cQ a y 2;have y3:=hT.qy.c 3 γ;obtain ⟨p3,q3⟩:=cO a (dg y 3) a0 a1 (aA y 3).1 (aA y 3).2;obtain ⟨c3,d3⟩:=dM a y 3 a0 a1;have e3:=cP a y 3;have f3:=cQ a y 3;have y4:=hT.qy.c 4 γ;obtain ⟨p4,q4⟩:=cO a (dg y 4) a0 a1 (aA y 4).1 (aA y 4).2;obtain ⟨c4,d4⟩:=dM a y 4 a0 a1;have e4:=cP a y 4;have f4:=cQ a y 4;have y5:=hT.qy.c 5 γ;obtain ⟨p5,q5⟩:=cO a (dg y 5) a0 a1 (aA y 5).1 (aA y 5).2;obtain ⟨c5,d5⟩:=dM a y 5 a0 a1;have e5:=cP a y 5;have f5:=cQ a y 5;simp only [qai,Nat.reduceAdd] at f0 f1 f2 f3 f4 f5;have o0:=qo.c 0 γ;have o1:=qo.c 1 γ;have o2:=qo.c 2 γ;have o3:=qo.c 3 γ;have o4:=qo.c 4 γ;have o5:=qo.c 5 γ;have o6:=qo.c 6 γ;have o7:=qo.c 7 γ;have p8:=hT.qo.lt;have hJ:=hT.qx.lt;have uV:=hT.qy.lt;have uW:=hT.qr.lt;have fz:=hT.gb.frozen;have fo:∀ k,wr.frozen? (φ (w.heap.size+1+1+1) k)=false:=fun k=>(fz _).trans (fL w _ k ω)
    clear fz;go_wp2;refine wp_loop_rounds 7 ?_;rw [rounds_succ];go_wp2;go_quiet (fail);go_wp2;rw [rounds_succ];go_wp2;go_quiet (fail);go_wp2;rw [rounds_succ];go_wp2;go_quiet (fail);go_wp2;rw [rounds_succ];go_wp2;go_quiet (fail);go_wp2;rw [rounds_succ];go_wp2;go_quiet (fail);go_wp2;rw [rounds_succ];go_wp2;go_quiet (fail);go_wp2;rw [rounds_succ];go_wp2_with fail;refine (aib o a y _ eA.o _).mono ?_;rintro e w1 ⟨rfl,g1⟩;obtain ⟨k1,f1,_⟩:=g1.facts;have Gc:ag (Gb wr w1):=(((Gb.refl wr).alloc _ _).drewN _).trans g1.gb;have s1:=Gb.size Gc.o;generalize hz:x%65536^(2+1)*y=z at *;go_wp2;go_roundw
    case rel =>
     refine ⟨2+1,γ,ε,TI.mk ((hT.gb.trans Gc.o).set8 ω _ _ _ _ _ _ _ _) ((hT.qx.gb Gc.o).far8 ω _ _ _ _ _ _ _ _) ((hT.qy.gb Gc.o).far8 ω _ _ _ _ _ _ _ _) ((hT.qr.gb Gc.o).far8 ω _ _ _ _ _ _ _ _) (((qo.gb Gc.o).set (z:=z)).at _ _ rfl hz.symm)⟩
    case measure=>simp [intOf]
   ·have hx:=hT.qx.c 3 γ
    obtain ⟨a0,a1⟩:=aA x 3;have eA:ag _:=sH x y 3;obtain ⟨a,ha⟩:∃ a,ag (dg x 3=a):=⟨_,rfl⟩;rw [ha.o] at hx a0 a1 eA;obtain ⟨o,ho⟩:∃ o:Int,ag (x%65536^3*y=o):=⟨x%65536^3*y,Eq.refl (x%65536^3*y)⟩;have qo:=hT.qo;rw [ho.o] at qo eA;clear ho ha;have y0:=hT.qy.c 0 γ;obtain ⟨p0,q0⟩:=cO a (dg y 0) a0 a1 (aA y 0).1 (aA y 0).2;have e0:=cP a y 0;have f0:=cQ a y 0;rw [qQ,Int.add_zero] at e0 f0;have y1:=hT.qy.c 1 γ;obtain ⟨p1,q1⟩:=cO a (dg y 1) a0 a1 (aA y 1).1 (aA y 1).2;obtain ⟨c1,d1⟩:=dM a y 1 a0 a1;have e1:=cP a y 1;have f1:=cQ a y 1;have y2:=hT.qy.c 2 γ;obtain ⟨p2,q2⟩:=cO a (dg y 2) a0 a1 (aA y 2).1 (aA y 2).2;obtain ⟨c2,d2⟩:=dM a y 2 a0 a1;have e2:=cP a y 2;have f2:=cQ a y 2;have y3:=hT.qy.c 3 γ;obtain ⟨p3,q3⟩:=cO a (dg y 3) a0 a1 (aA y 3).1 (aA y 3).2;obtain ⟨c3,d3⟩:=dM a y 3 a0 a1;have e3:=cP a y 3;have f3:=cQ a y 3;have y4:=hT.qy.c 4 γ;obtain ⟨p4,q4⟩:=cO a (dg y 4) a0 a1 (aA y 4).1 (aA y 4).2;obtain ⟨c4,d4⟩:=dM a y 4 a0 a1;have e4:=cP a y 4;have f4:=cQ a y 4;simp only [qai,Nat.reduceAdd] at f0 f1 f2 f3 f4;have o0:=qo.c 0 γ;have o1:=qo.c 1 γ;have o2:=qo.c 2 γ;have o3:=qo.c 3 γ;have o4:=qo.c 4 γ;have o5:=qo.c 5 γ;have o6:=qo.c 6 γ;have o7:=qo.c 7 γ;have p8:=hT.qo.lt;have hJ:=hT.qx.lt;have uV:=hT.qy.lt;have uW:=hT.qr.lt;have fz:=hT.gb.frozen;have fo:∀ k,wr.frozen? (φ (w.heap.size+1+1+1) k)=false:=fun k=>(fz _).trans (fL w _ k ω)
    clear fz;go_wp2;refine wp_loop_rounds 6 ?_;rw [rounds_succ];go_wp2;go_quiet (fail);go_wp2;rw [rounds_succ];go_wp2;go_quiet (fail);go_wp2;rw [rounds_succ];go_wp2;go_quiet (fail);go_wp2;rw [rounds_succ];go_wp2;go_quiet (fail);go_wp2;rw [rounds_succ];go_wp2;go_quiet (fail);go_wp2;rw [rounds_succ];go_wp2_with fail;refine (aic o a y _ eA.o _).mono ?_;rintro e w1 ⟨rfl,g1⟩;obtain ⟨k1,f1,_⟩:=g1.facts;have Gc:ag (Gb wr w1):=(((Gb.refl wr).alloc _ _).drewN _).trans g1.gb;have s1:=Gb.size Gc.o;generalize hz:x%65536^(3+1)*y=z at *;go_wp2;go_roundw
    case rel =>
     refine ⟨3+1,γ,ε,TI.mk ((hT.gb.trans Gc.o).set8 ω _ _ _ _ _ _ _ _) ((hT.qx.gb Gc.o).far8 ω _ _ _ _ _ _ _ _) ((hT.qy.gb Gc.o).far8 ω _ _ _ _ _ _ _ _) ((hT.qr.gb Gc.o).far8 ω _ _ _ _ _ _ _ _) (((qo.gb Gc.o).set (z:=z)).at _ _ rfl hz.symm)⟩
    case measure=>simp [intOf]
   ·have hx:=hT.qx.c 4 γ
    obtain ⟨a0,a1⟩:=aA x 4;have eA:ag _:=sH x y 4;obtain ⟨a,ha⟩:∃ a,ag (dg x 4=a):=⟨_,rfl⟩;rw [ha.o] at hx a0 a1 eA;obtain ⟨o,ho⟩:∃ o:Int,ag (x%65536^4*y=o):=⟨x%65536^4*y,Eq.refl (x%65536^4*y)⟩;have qo:=hT.qo;rw [ho.o] at qo eA;clear ho ha;have y0:=hT.qy.c 0 γ;obtain ⟨p0,q0⟩:=cO a (dg y 0) a0 a1 (aA y 0).1 (aA y 0).2;have e0:=cP a y 0;have f0:=cQ a y 0;rw [qQ,Int.add_zero] at e0 f0;have y1:=hT.qy.c 1 γ;obtain ⟨p1,q1⟩:=cO a (dg y 1) a0 a1 (aA y 1).1 (aA y 1).2;obtain ⟨c1,d1⟩:=dM a y 1 a0 a1;have e1:=cP a y 1;have f1:=cQ a y 1;have y2:=hT.qy.c 2 γ;obtain ⟨p2,q2⟩:=cO a (dg y 2) a0 a1 (aA y 2).1 (aA y 2).2;obtain ⟨c2,d2⟩:=dM a y 2 a0 a1;have e2:=cP a y 2;have f2:=cQ a y 2;have y3:=hT.qy.c 3 γ;obtain ⟨p3,q3⟩:=cO a (dg y 3) a0 a1 (aA y 3).1 (aA y 3).2;obtain ⟨c3,d3⟩:=dM a y 3 a0 a1;have e3:=cP a y 3;have f3:=cQ a y 3;simp only [qai,Nat.reduceAdd] at f0 f1 f2 f3;have o0:=qo.c 0 γ;have o1:=qo.c 1 γ;have o2:=qo.c 2 γ;have o3:=qo.c 3 γ;have o4:=qo.c 4 γ;have o5:=qo.c 5 γ;have o6:=qo.c 6 γ;have o7:=qo.c 7 γ;have p8:=hT.qo.lt;have hJ:=hT.qx.lt;have uV:=hT.qy.lt;have uW:=hT.qr.lt;have fz:=hT.gb.frozen;have fo:∀ k,wr.frozen? (φ (w.heap.size+1+1+1) k)=false:=fun k=>(fz _).trans (fL w _ k ω)
    clear fz;go_wp2;refine wp_loop_rounds 5 ?_;rw [rounds_succ];go_wp2;go_quiet (fail);go_wp2;rw [rounds_succ];go_wp2;go_quiet (fail);go_wp2;rw [rounds_succ];go_wp2;go_quiet (fail);go_wp2;rw [rounds_succ];go_wp2;go_quiet (fail);go_wp2;rw [rounds_succ];go_wp2_with fail;refine (aid o a y _ eA.o _).mono ?_;rintro e w1 ⟨rfl,g1⟩;obtain ⟨k1,f1,_⟩:=g1.facts;have Gc:ag (Gb wr w1):=(((Gb.refl wr).alloc _ _).drewN _).trans g1.gb;have s1:=Gb.size Gc.o;generalize hz:x%65536^(4+1)*y=z at *;go_wp2;go_roundw
    case rel =>
     refine ⟨4+1,γ,ε,TI.mk ((hT.gb.trans Gc.o).set8 ω _ _ _ _ _ _ _ _) ((hT.qx.gb Gc.o).far8 ω _ _ _ _ _ _ _ _) ((hT.qy.gb Gc.o).far8 ω _ _ _ _ _ _ _ _) ((hT.qr.gb Gc.o).far8 ω _ _ _ _ _ _ _ _) (((qo.gb Gc.o).set (z:=z)).at _ _ rfl hz.symm)⟩
    case measure=>simp [intOf]
   ·have hx:=hT.qx.c 5 γ
    obtain ⟨a0,a1⟩:=aA x 5;have eA:ag _:=sH x y 5;obtain ⟨a,ha⟩:∃ a,ag (dg x 5=a):=⟨_,rfl⟩;rw [ha.o] at hx a0 a1 eA;obtain ⟨o,ho⟩:∃ o:Int,ag (x%65536^5*y=o):=⟨x%65536^5*y,Eq.refl (x%65536^5*y)⟩;have qo:=hT.qo;rw [ho.o] at qo eA;clear ho ha;have y0:=hT.qy.c 0 γ;obtain ⟨p0,q0⟩:=cO a (dg y 0) a0 a1 (aA y 0).1 (aA y 0).2;have e0:=cP a y 0;have f0:=cQ a y 0;rw [qQ,Int.add_zero] at e0 f0;have y1:=hT.qy.c 1 γ;obtain ⟨p1,q1⟩:=cO a (dg y 1) a0 a1 (aA y 1).1 (aA y 1).2;obtain ⟨c1,d1⟩:=dM a y 1 a0 a1;have e1:=cP a y 1;have f1:=cQ a y 1;have y2:=hT.qy.c 2 γ;obtain ⟨p2,q2⟩:=cO a (dg y 2) a0 a1 (aA y 2).1 (aA y 2).2;obtain ⟨c2,d2⟩:=dM a y 2 a0 a1;have e2:=cP a y 2;have f2:=cQ a y 2;simp only [qai,Nat.reduceAdd] at f0 f1 f2;have o0:=qo.c 0 γ;have o1:=qo.c 1 γ;have o2:=qo.c 2 γ;have o3:=qo.c 3 γ;have o4:=qo.c 4 γ;have o5:=qo.c 5 γ;have o6:=qo.c 6 γ;have o7:=qo.c 7 γ;have p8:=hT.qo.lt;have hJ:=hT.qx.lt;have uV:=hT.qy.lt;have uW:=hT.qr.lt;have fz:=hT.gb.frozen;have fo:∀ k,wr.frozen? (φ (w.heap.size+1+1+1) k)=false:=fun k=>(fz _).trans (fL w _ k ω)
    clear fz;go_wp2;refine wp_loop_rounds 4 ?_;rw [rounds_succ];go_wp2;go_quiet (fail);go_wp2;rw [rounds_succ];go_wp2;go_quiet (fail);go_wp2;rw [rounds_succ];go_wp2;go_quiet (fail);go_wp2;rw [rounds_succ];go_wp2_with fail;refine (aie o a y _ eA.o _).mono ?_;rintro e w1 ⟨rfl,g1⟩;obtain ⟨k1,f1,_⟩:=g1.facts;have Gc:ag (Gb wr w1):=(((Gb.refl wr).alloc _ _).drewN _).trans g1.gb;have s1:=Gb.size Gc.o;generalize hz:x%65536^(5+1)*y=z at *;go_wp2;go_roundw
    case rel =>
     refine ⟨5+1,γ,ε,TI.mk ((hT.gb.trans Gc.o).set8 ω _ _ _ _ _ _ _ _) ((hT.qx.gb Gc.o).far8 ω _ _ _ _ _ _ _ _) ((hT.qy.gb Gc.o).far8 ω _ _ _ _ _ _ _ _) ((hT.qr.gb Gc.o).far8 ω _ _ _ _ _ _ _ _) (((qo.gb Gc.o).set (z:=z)).at _ _ rfl hz.symm)⟩
    case measure=>simp [intOf]
   ·have hx:=hT.qx.c 6 γ
    obtain ⟨a0,a1⟩:=aA x 6;have eA:ag _:=sH x y 6;obtain ⟨a,ha⟩:∃ a,ag (dg x 6=a):=⟨_,rfl⟩;rw [ha.o] at hx a0 a1 eA;obtain ⟨o,ho⟩:∃ o:Int,ag (x%65536^6*y=o):=⟨x%65536^6*y,Eq.refl (x%65536^6*y)⟩;have qo:=hT.qo;rw [ho.o] at qo eA;clear ho ha;have y0:=hT.qy.c 0 γ;obtain ⟨p0,q0⟩:=cO a (dg y 0) a0 a1 (aA y 0).1 (aA y 0).2;have e0:=cP a y 0;have f0:=cQ a y 0;rw [qQ,Int.add_zero] at e0 f0;have y1:=hT.qy.c 1 γ;obtain ⟨p1,q1⟩:=cO a (dg y 1) a0 a1 (aA y 1).1 (aA y 1).2;obtain ⟨c1,d1⟩:=dM a y 1 a0 a1;have e1:=cP a y 1;have f1:=cQ a y 1;simp only [qai,Nat.reduceAdd] at f0 f1;have o0:=qo.c 0 γ;have o1:=qo.c 1 γ;have o2:=qo.c 2 γ;have o3:=qo.c 3 γ;have o4:=qo.c 4 γ;have o5:=qo.c 5 γ;have o6:=qo.c 6 γ;have o7:=qo.c 7 γ;have p8:=hT.qo.lt;have hJ:=hT.qx.lt;have uV:=hT.qy.lt;have uW:=hT.qr.lt;have fz:=hT.gb.frozen;have fo:∀ k,wr.frozen? (φ (w.heap.size+1+1+1) k)=false:=fun k=>(fz _).trans (fL w _ k ω)
    clear fz;go_wp2;refine wp_loop_rounds 3 ?_;rw [rounds_succ];go_wp2;go_quiet (fail);go_wp2;rw [rounds_succ];go_wp2;go_quiet (fail);go_wp2;rw [rounds_succ];go_wp2_with fail;refine (aif o a y _ eA.o _).mono ?_;rintro e w1 ⟨rfl,g1⟩;obtain ⟨k1,f1,_⟩:=g1.facts;have Gc:ag (Gb wr w1):=(((Gb.refl wr).alloc _ _).drewN _).trans g1.gb;have s1:=Gb.size Gc.o;generalize hz:x%65536^(6+1)*y=z at *;go_wp2;go_roundw
    case rel =>
     refine ⟨6+1,γ,ε,TI.mk ((hT.gb.trans Gc.o).set8 ω _ _ _ _ _ _ _ _) ((hT.qx.gb Gc.o).far8 ω _ _ _ _ _ _ _ _) ((hT.qy.gb Gc.o).far8 ω _ _ _ _ _ _ _ _) ((hT.qr.gb Gc.o).far8 ω _ _ _ _ _ _ _ _) (((qo.gb Gc.o).set (z:=z)).at _ _ rfl hz.symm)⟩
    case measure=>simp [intOf]
   ·have hx:=hT.qx.c 7 γ
    obtain ⟨a0,a1⟩:=aA x 7;have eA:ag _:=sH x y 7;obtain ⟨a,ha⟩:∃ a,ag (dg x 7=a):=⟨_,rfl⟩;rw [ha.o] at hx a0 a1 eA;obtain ⟨o,ho⟩:∃ o:Int,ag (x%65536^7*y=o):=⟨x%65536^7*y,Eq.refl (x%65536^7*y)⟩;have qo:=hT.qo;rw [ho.o] at qo eA;clear ho ha;have y0:=hT.qy.c 0 γ;obtain ⟨p0,q0⟩:=cO a (dg y 0) a0 a1 (aA y 0).1 (aA y 0).2;have e0:=cP a y 0;have f0:=cQ a y 0;rw [qQ,Int.add_zero] at e0 f0;simp only [qai] at f0;have o0:=qo.c 0 γ;have o1:=qo.c 1 γ;have o2:=qo.c 2 γ;have o3:=qo.c 3 γ;have o4:=qo.c 4 γ;have o5:=qo.c 5 γ;have o6:=qo.c 6 γ;have o7:=qo.c 7 γ;have p8:=hT.qo.lt;have hJ:=hT.qx.lt;have uV:=hT.qy.lt;have uW:=hT.qr.lt;have fz:=hT.gb.frozen;have fo:∀ k,wr.frozen? (φ (w.heap.size+1+1+1) k)=false:=fun k=>(fz _).trans (fL w _ k ω)
    clear fz;go_wp2;refine wp_loop_rounds 2 ?_;rw [rounds_succ];go_wp2;go_quiet (fail);go_wp2;rw [rounds_succ];go_wp2_with fail;refine (aih o a y _ eA.o _).mono ?_;rintro e w1 ⟨rfl,g1⟩;obtain ⟨k1,f1,_⟩:=g1.facts;have Gc:ag (Gb wr w1):=(((Gb.refl wr).alloc _ _).drewN _).trans g1.gb;have s1:=Gb.size Gc.o;generalize hz:x%65536^(7+1)*y=z at *;go_wp2;go_roundw
    case rel =>
     refine ⟨7+1,γ,ε,TI.mk ((hT.gb.trans Gc.o).set8 ω _ _ _ _ _ _ _ _) ((hT.qx.gb Gc.o).far8 ω _ _ _ _ _ _ _ _) ((hT.qy.gb Gc.o).far8 ω _ _ _ _ _ _ _ _) ((hT.qr.gb Gc.o).far8 ω _ _ _ _ _ _ _ _) (((qo.gb Gc.o).set (z:=z)).at _ _ rfl hz.symm)⟩
    case measure=>simp [intOf]
end Go.Proofs.YtaemofgeciklkaaGreat
namespace Go.Proofs.YtaemofgeciklkaaGreat
open Go.RowKit
attribute [local go_sem] frozen?_alloc_cells fL EU EW World.drewN_drewN
theorem YM (n:Int) (h0:-9223372036854775808<=n) (h1:n<9223372036854775808) (w:World) :
  Calls prog 205 #[By n] w fun e w'=>e=χ (.agg #[By (ay (n)),BY (az (n))])/\Gk 1 w w':=by
 have e2:IntKind.u64.wrap n=az n:=by unfold az;rw [qao]
 by_cases hn:n<0
 ·have e1:ay n=-1:=by unfold ay;omega
  go_enter func205,ntmps205;go_wp2;refine bodyPost_ret (v:=.agg #[By (ay (n)),BY (az (n))]) (by simp [results,results205,go_sem,e1]) rfl ⟨rfl,(Gb.refl _).alloc _ _,ε⟩
 ·have e1:ay n=0:=by unfold ay;omega
  have e3:az n=n:=by unfold az;omega
  clear e2;rw [e1,e3];clear e1 e3;go_enter func205,ntmps205;go_wp2;refine bodyPost_ret (v:=.agg #[By 0,BY n]) (by simp [results,results205,go_sem]) rfl ⟨rfl,(Gb.refl _).alloc _ _,ε⟩
theorem YO (h l x:Int) (e1:h=ay x) (e2:l=az x) (w:World) :
  Calls prog 200 #[.agg #[By h,BY l]] w fun e w'=>e=χ (.agg #[By (dg (x) 0),By (dg (x) 1),By (dg (x) 2),By (dg (x) 3),By (dg (x) 4),By (dg (x) 5),By (dg (x) 6),By (dg (x) 7)])/\Gk 3 w w':=by
 subst e1 e2;exact Aw x w
structure TS (w w':World) (bx bY:Nat) (x y:Int):Prop where
 gb:Gb w w'
 qx:H8 w' bx x
 qy:H8 w' bY y
 nx:w.heap.size≠bx
 ny:w.heap.size≠bY
variable {w w':World} {x y:Int}
theorem TS.gb' {dW:World} {bx bY:Nat} (h:TS w w' bx bY x y) (g:Gb w' dW):TS w dW bx bY x y :=
 ⟨h.gb.trans g,h.qx.gb g,h.qy.gb g,h.nx,h.ny⟩
theorem TS.set {bx bY:Nat} (h:TS w w' bx bY x y) (u v:Value):TS w ((w'.setCell (φ w.heap.size 0) u).setCell (φ w.heap.size 1) v) bx bY x y :=
 ⟨(h.gb.setCell (Yk _) _).setCell (Yk _) _,(h.qx.far _ (Ne.symm h.nx)).far _ (Ne.symm h.nx),(h.qy.far _ (Ne.symm h.ny)).far _ (Ne.symm h.ny),h.nx,h.ny⟩
theorem YP (a b:Int) (h0:-9223372036854775808<=a) (h1:a<9223372036854775808) (b0:0<=b) (b1:b<18446744073709551616) (w:World) :
  Calls prog 184 #[By a,BY b] w fun e w'=>e=χ (.agg #[By (ay (a*b)),BY (az (a*b))])/\Gb w w':=by
 have hb:0=ay b:=by unfold ay;omega
 have lb:b=az b:=by unfold az;omega
 have HB:ag _:=hb;have LB:ag _:=lb;clear hb lb;have eN:-(-a*b)=a*b:=by rw [Int.neg_mul,Int.neg_neg]
 by_cases hn:a<0
 ·go_enter func184,ntmps184
  go_wp2_with fail;refine (YM a h0 h1 _).mono ?_
  rintro e w1 ⟨rfl,g1⟩;have q:=(H2.new w (By 0) (BY 0) 247).gb g1.gb;go_wp2_with fail;refine (Aw a _).mono ?_;rintro e w2 ⟨rfl,g2⟩;have qx:=H8.new w2 a 273;replace q:=(q.gb g2.gb).alloc (.cells #[By (dg a 0),By (dg a 1),By (dg a 2),By (dg a 3),By (dg a 4),By (dg a 5),By (dg a 6),By (dg a 7)] 273);go_wp2_with fail;refine (YO 0 b b HB.o LB.o _).mono ?_;rintro e w3 ⟨rfl,g3⟩;replace qx:=(qx.gb g3.gb).alloc #[By (dg b 0),By (dg b 1),By (dg b 2),By (dg b 3),By (dg b 4),By (dg b 5),By (dg b 6),By (dg b 7)] 273;replace q:=(q.gb g3.gb).alloc (.cells #[By (dg b 0),By (dg b 1),By (dg b 2),By (dg b 3),By (dg b 4),By (dg b 5),By (dg b 6),By (dg b 7)] 273);have qy:=H8.new w3 b 273;have GV:ag (Gb w (w3.alloc (.cells #[By (dg b 0),By (dg b 1),By (dg b 2),By (dg b 3),By (dg b 4),By (dg b 5),By (dg b 6),By (dg b 7)] 273))):=((((((Gb.refl w).alloc _ _).trans g1.gb).trans g2.gb).alloc _ _).trans g3.gb).alloc _ _;have Mw:w.heap.size≠w2.heap.size:=by (have h1:=g1.grew;have h2:=g2.grew;simp at h1 h2;omega)
  have Mx:w.heap.size≠w3.heap.size:=by (have h1:=g1.grew;have h2:=g2.grew;have h3:=g3.grew;simp at h1 h2 h3;omega)
  clear g1 g2 g3 HB LB;go_wp2_with fail;generalize w3.alloc (.cells #[By (dg b 0),By (dg b 1),By (dg b 2),By (dg b 3),By (dg b 4),By (dg b 5),By (dg b 6),By (dg b 7)] 273)=V at q qx qy GV ⊢;have q0:=q.c0;have q1:=q.c1;have q2:=q.drew;have q3:∀ o,w.frozen? (φ w.heap.size o)=false:=fun o=>fL w _ o (Yk _)
  have q4:=GV.o.frozen
  try simp only [frozen?_alloc_cells] at q4
  have My:ag (TS w V w2.heap.size w3.heap.size a b):=⟨GV.o,qx,qy,Mw,Mx⟩;have HK:ag (∀ w',TS w w' w2.heap.size w3.heap.size a b->TS w w' w2.heap.size w3.heap.size a b/\w'.cell? (φ w2.heap.size 0)=some (By (dg a 0))/\w'.cell? (φ w2.heap.size 1)=some (By (dg a 1))/\w'.cell? (φ w2.heap.size 2)=some (By (dg a 2))/\w'.cell? (φ w2.heap.size 3)=some (By (dg a 3))/\w'.cell? (φ w2.heap.size 4)=some (By (dg a 4))/\w'.cell? (φ w2.heap.size 5)=some (By (dg a 5))/\w'.cell? (φ w2.heap.size 6)=some (By (dg a 6))/\w'.cell? (φ w2.heap.size 7)=some (By (dg a 7))/\w'.cell? (φ w3.heap.size 0)=some (By (dg b 0))/\w'.cell? (φ w3.heap.size 1)=some (By (dg b 1))/\w'.cell? (φ w3.heap.size 2)=some (By (dg b 2))/\w'.cell? (φ w3.heap.size 3)=some (By (dg b 3))/\w'.cell? (φ w3.heap.size 4)=some (By (dg b 4))/\w'.cell? (φ w3.heap.size 5)=some (By (dg b 5))/\w'.cell? (φ w3.heap.size 6)=some (By (dg b 6))/\w'.cell? (φ w3.heap.size 7)=some (By (dg b 7))):=fun w' h=>⟨h,h.qx.c 0 γ,h.qx.c 1 γ,h.qx.c 2 γ,h.qx.c 3 γ,h.qx.c 4 γ,h.qx.c 5 γ,h.qx.c 6 γ,h.qx.c 7 γ,h.qy.c 0 γ,h.qy.c 1 γ,h.qy.c 2 γ,h.qy.c 3 γ,h.qy.c 4 γ,h.qy.c 5 γ,h.qy.c 6 γ,h.qy.c 7 γ⟩
  clear qx qy;go_region_held3 (fun w'=>TS w w' w2.heap.size w3.heap.size a b/\w'.cell? (φ w2.heap.size 0)=some (By (dg a 0))/\w'.cell? (φ w2.heap.size 1)=some (By (dg a 1))/\w'.cell? (φ w2.heap.size 2)=some (By (dg a 2))/\w'.cell? (φ w2.heap.size 3)=some (By (dg a 3))/\w'.cell? (φ w2.heap.size 4)=some (By (dg a 4))/\w'.cell? (φ w2.heap.size 5)=some (By (dg a 5))/\w'.cell? (φ w2.heap.size 6)=some (By (dg a 6))/\w'.cell? (φ w2.heap.size 7)=some (By (dg a 7))/\w'.cell? (φ w3.heap.size 0)=some (By (dg b 0))/\w'.cell? (φ w3.heap.size 1)=some (By (dg b 1))/\w'.cell? (φ w3.heap.size 2)=some (By (dg b 2))/\w'.cell? (φ w3.heap.size 3)=some (By (dg b 3))/\w'.cell? (φ w3.heap.size 4)=some (By (dg b 4))/\w'.cell? (φ w3.heap.size 5)=some (By (dg b 5))/\w'.cell? (φ w3.heap.size 6)=some (By (dg b 6))/\w'.cell? (φ w3.heap.size 7)=some (By (dg b 7)))
   ((refine HK.o _ ?_;first | exact My.o.gb' (Gb.refl V).drew | exact TS.gb' (Ξ δ) (Gk.gb δ) | exact TS.gb' (Ξ δ) δ | exact TS.set (Ξ δ) _ _))
   (first
    | (go_at_call 202;refine (Mv _ _).mono ?_;rintro e w4 ⟨rfl,g4⟩;have f4:=g4.gb.frozen;have r4:=H2.gb δ g4.gb;have c4:=r4.c0;have c5:=r4.c1)
    | (go_at_call 206;refine (YJ _ _ _).mono ?_;rintro e w4 ⟨rfl,g4⟩;have f4:=g4.frozen;have r4:=H2.gb δ g4;have c4:=r4.c0;have c5:=r4.c1)
    | (go_at_call 203;refine (EY _ _).mono ?_;rintro e w4 ⟨rfl,g4⟩;have f4:=g4.gb.frozen;have r4:=H2.gb δ g4.gb;have c4:=r4.c0;have c5:=r4.c1))
  go_wp2
  have G:Gb w _:=TS.gb (Ξ δ);refine bodyPost_ret (v:=.agg #[By (ay (a*b)),BY (az (a*b))]) (by simp [results,results184,go_sem, *]) rfl ⟨rfl,G⟩
 ·go_enter func184,ntmps184
  go_wp2_with fail;refine (YM a h0 h1 _).mono ?_
  rintro e w1 ⟨rfl,g1⟩;have q:=(H2.new w (By 0) (BY 0) 247).gb g1.gb;go_wp2_with fail;refine (Aw a _).mono ?_;rintro e w2 ⟨rfl,g2⟩;have qx:=H8.new w2 a 273;replace q:=(q.gb g2.gb).alloc (.cells #[By (dg a 0),By (dg a 1),By (dg a 2),By (dg a 3),By (dg a 4),By (dg a 5),By (dg a 6),By (dg a 7)] 273);go_wp2_with fail;refine (YO 0 b b HB.o LB.o _).mono ?_;rintro e w3 ⟨rfl,g3⟩;replace qx:=(qx.gb g3.gb).alloc #[By (dg b 0),By (dg b 1),By (dg b 2),By (dg b 3),By (dg b 4),By (dg b 5),By (dg b 6),By (dg b 7)] 273;replace q:=(q.gb g3.gb).alloc (.cells #[By (dg b 0),By (dg b 1),By (dg b 2),By (dg b 3),By (dg b 4),By (dg b 5),By (dg b 6),By (dg b 7)] 273);have qy:=H8.new w3 b 273;have GV:ag (Gb w (w3.alloc (.cells #[By (dg b 0),By (dg b 1),By (dg b 2),By (dg b 3),By (dg b 4),By (dg b 5),By (dg b 6),By (dg b 7)] 273))):=((((((Gb.refl w).alloc _ _).trans g1.gb).trans g2.gb).alloc _ _).trans g3.gb).alloc _ _;have Mw:w.heap.size≠w2.heap.size:=by (have h1:=g1.grew;have h2:=g2.grew;simp at h1 h2;omega)
  have Mx:w.heap.size≠w3.heap.size:=by (have h1:=g1.grew;have h2:=g2.grew;have h3:=g3.grew;simp at h1 h2 h3;omega)
  clear g1 g2 g3 HB LB;have q0:=q.c0;have q1:=q.c1;have q2:=q.drew;have q3:∀ o,w.frozen? (φ w.heap.size o)=false:=fun o=>fL w _ o (Yk _)
  have q4:=GV.o.frozen
  try simp only [frozen?_alloc_cells] at q4
  have My:ag (TS w (w3.alloc (.cells #[By (dg b 0),By (dg b 1),By (dg b 2),By (dg b 3),By (dg b 4),By (dg b 5),By (dg b 6),By (dg b 7)] 273)) w2.heap.size w3.heap.size a b):=⟨GV.o,qx,qy,Mw,Mx⟩;have HK:ag (∀ w',TS w w' w2.heap.size w3.heap.size a b->TS w w' w2.heap.size w3.heap.size a b/\w'.cell? (φ w2.heap.size 0)=some (By (dg a 0))/\w'.cell? (φ w2.heap.size 1)=some (By (dg a 1))/\w'.cell? (φ w2.heap.size 2)=some (By (dg a 2))/\w'.cell? (φ w2.heap.size 3)=some (By (dg a 3))/\w'.cell? (φ w2.heap.size 4)=some (By (dg a 4))/\w'.cell? (φ w2.heap.size 5)=some (By (dg a 5))/\w'.cell? (φ w2.heap.size 6)=some (By (dg a 6))/\w'.cell? (φ w2.heap.size 7)=some (By (dg a 7))/\w'.cell? (φ w3.heap.size 0)=some (By (dg b 0))/\w'.cell? (φ w3.heap.size 1)=some (By (dg b 1))/\w'.cell? (φ w3.heap.size 2)=some (By (dg b 2))/\w'.cell? (φ w3.heap.size 3)=some (By (dg b 3))/\w'.cell? (φ w3.heap.size 4)=some (By (dg b 4))/\w'.cell? (φ w3.heap.size 5)=some (By (dg b 5))/\w'.cell? (φ w3.heap.size 6)=some (By (dg b 6))/\w'.cell? (φ w3.heap.size 7)=some (By (dg b 7))):=fun w' h=>⟨h,h.qx.c 0 γ,h.qx.c 1 γ,h.qx.c 2 γ,h.qx.c 3 γ,h.qx.c 4 γ,h.qx.c 5 γ,h.qx.c 6 γ,h.qx.c 7 γ,h.qy.c 0 γ,h.qy.c 1 γ,h.qy.c 2 γ,h.qy.c 3 γ,h.qy.c 4 γ,h.qy.c 5 γ,h.qy.c 6 γ,h.qy.c 7 γ⟩
  clear qx qy;obtain ⟨_,t0,t1,t2,t3,t4,t5,t6,t7,t8,t9,t10,t11,t12,t13,t14,t15⟩:=HK.o _ My.o;go_wp2_with (first
   | (go_at_call 202;refine (Mv _ _).mono ?_;rintro e w4 ⟨rfl,g4⟩;have f4:=g4.gb.frozen;have r4:=H2.gb δ g4.gb;have c4:=r4.c0;have c5:=r4.c1)
   | (go_at_call 206;refine (YJ _ _ _).mono ?_;rintro e w4 ⟨rfl,g4⟩;have f4:=g4.frozen;have r4:=H2.gb δ g4;have c4:=r4.c0;have c5:=r4.c1)
   | (go_at_call 203;refine (EY _ _).mono ?_;rintro e w4 ⟨rfl,g4⟩;have f4:=g4.gb.frozen;have r4:=H2.gb δ g4.gb;have c4:=r4.c0;have c5:=r4.c1))
  refine bodyPost_ret (v:=.agg #[By (ay (a*b)),BY (az (a*b))]) (by simp [results,results184,go_sem, *]) rfl ⟨rfl,?_⟩
  refine Gb.setCell (Gb.setCell ?_ (Yk _) _) (Yk _) _
  repeat (first | exact GV.o | refine Gb.trans ?_ (Gk.gb δ) | refine Gb.trans ?_ δ)
end Go.Proofs.YtaemofgeciklkaaGreat
namespace Go.Proofs.YtaemofgeciklkaaGreat
open Go.RowKit
attribute [local go_sem] frozen?_alloc_cells fL EU EW World.drewN_drewN
variable {w:World} {b:Nat} {x y:Int}
theorem H8.congr (h:H8 w b x) (e:∀ k,k<8->dg x k=dg y k):H8 w b y :=
 ⟨h.lt,fun k hk=>(h.c k hk).trans (by rw [e k hk])⟩
variable {z:Int}
theorem H8.put {V V':Int} (h:H8 w b V) (i:Nat) (hi:i<8) (hv:∀ k,k<8->dg V' k=if k=i then z else dg V k):H8 (w.setCell (φ b i) (By z)) b V':=by
 refine ⟨by simpa [World.setCell] using h.lt,fun k hk=>?_⟩
 rw [hv k hk];by_cases e:k=i
 ·subst e;rw [Ym rfl];exact World.cell?_setCell_same _ _ _ (h.c k hk)
 ·rw [Yl e,<-h.c k hk];exact World.cell?_setCell_other _ _ _ _ ζ
variable {b':Nat}
theorem H2.far {o':Nat} {u v:Value} (h:H2 w b u v) (z:Value) (hb:b≠b'):H2 (w.setCell (φ b' o') z) b u v :=
 ⟨by simpa [World.setCell] using h.lt,(cell_far w b 0 b' o' z hb).trans h.c0,(cell_far w b 1 b' o' z hb).trans h.c1⟩
theorem aij (x:Int) (k:Nat) (h:k<8):dg x k=dg (sv x) k:=by
 obtain ⟨t,ht⟩:∃ t:Int,x=sv x+t*65536^8:=⟨(x+170141183460469231731687303715884105728)/340282366920938463463374607431768211456,by rw [AQ];omega⟩
 rw [ht,Nq _ _ _ h,<-ht]
structure DS (w w':World) (bn bq:Nat) (u v:Int):Prop where
 gb:Gb w w'
 qn:H8 w' bn u
 qq:H8 w' bq v
 q1:H2 w' (w.heap.size+1) (By 0) (BY 0)
 nb:bn≠bq
 n1:w.heap.size+1≠bq
 hq:w.heap.size<=bq
variable {w':World}
theorem DS.put {bn bq:Nat} {u V V':Int} (h:DS w w' bn bq u V) (i:Nat) (hi:i<8) (hv:∀ k,k<8->dg V' k=if k=i then z else dg V k) :
  DS w (w'.setCell (φ bq i) (By z)) bn bq u V' :=
 ⟨h.gb.setCell h.hq _,h.qn.far _ h.nb,h.qq.put i hi hv,h.q1.far _ h.n1,h.nb,h.n1,h.hq⟩
theorem YQ (x d:Int) (hx:0<=sv x) (d0:0<d) (d1:d<18446744073709551616) (w:World) :
  Calls prog 183 #[.agg #[By (ay (x)),BY (az (x))],BY d] w fun e w'=>e=χ (.tuple #[.agg #[By (ay (sv x/d)),BY (az (sv x/d))],BY (sv x%d),By 0])/\Gb w w':=by
 have hd:(d == 0)=false:=by simp;omega
 have bx:=ah7 x;have v1:decide (32768<=dg x 7)=false:=by simp;omega
 clear bx;obtain ⟨u,hu⟩:∃ u,ag (sv x=u):=⟨_,rfl⟩;have u0:0<=u:=by rw [<-hu.o];exact hx
 have u1:u<2^128:=by rw [<-hu.o,AQ];omega
 obtain ⟨Q,hQ⟩:∃ Q,ag (u/d=Q):=⟨_,rfl⟩;rw [hu.o,hQ.o];go_enter func183,ntmps183;go_wp2_with fail;have q1:=(H2.new (w.alloc (.cells #[By (ay x),BY (az x)] 247)) (By 0) (BY 0) 247).at (w.heap.size+1) ε;have G:Gb w _:=((Gb.refl w).alloc #[By (ay x),BY (az x)] 247).alloc #[By 0,BY 0] 247;refine (Aw x _).mono ?_;rintro e w1 ⟨rfl,g1⟩;replace G:=(G.trans g1.gb).alloc #[By (dg x 0),By (dg x 1),By (dg x 2),By (dg x 3),By (dg x 4),By (dg x 5),By (dg x 6),By (dg x 7)] 273;replace q1:=(q1.gb g1.gb).alloc (.cells #[By (dg x 0),By (dg x 1),By (dg x 2),By (dg x 3),By (dg x 4),By (dg x 5),By (dg x 6),By (dg x 7)] 273);have qn:=H8.new w1 x 273;have s1:w.heap.size+1<w1.heap.size:=by (have:=g1.grew;simp at this;omega)
 clear g1;go_wp2_with fail;refine (ah8 x _).mono ?_;rintro e w2 ⟨rfl,g2⟩;replace G:=(G.trans g2.gb).alloc #[By 0,By 0,By 0,By 0,By 0,By 0,By 0,By 0] 273;replace q1:=(q1.gb g2.gb).alloc (.cells #[By 0,By 0,By 0,By 0,By 0,By 0,By 0,By 0] 273);replace qn:=((qn.gb g2.gb).alloc #[By 0,By 0,By 0,By 0,By 0,By 0,By 0,By 0] 273).congr (y:=u) (fun k hk=>by rw [aij x k hk,hu.o])
 have qq:=(H8.new0 w2 273).congr (y:=qp Q 128) (fun k hk=>by rw [ZT Q (by rw [<-hQ.o];exact qaY u0 ω) (by rw [<-hQ.o];exact Int.lt_of_le_of_lt (Int.ediv_le_self _ u0) u1)])
 have s2:w1.heap.size<w2.heap.size:=by (have:=g2.grew;simp at this;omega)
 have D0:ag (DS w (w2.alloc (.cells #[By 0,By 0,By 0,By 0,By 0,By 0,By 0,By 0] 273)) w1.heap.size w2.heap.size u (qp Q 128)):=⟨G,qn,qq,q1,ω,ω,ω⟩;clear G q1 qn qq g2;have k0:ag _:=ZU u d u0 u1;go_wp2;go_loopw [10,11] (fun r i w'=>∃ m:Nat,m<=8/\i=By ((m:Int)-1)/\r=BY (rp u d (16*m))/\ag (DS w w' w1.heap.size w2.heap.size u (qp Q (16*m)))) (fun _ i _=>(intOf i+1).toNat)
 case atStart=>exact ⟨8,γ,rfl,by rw [k0.o],D0⟩
 case round =>
  obtain ⟨m,hm,rfl,rfl,hD⟩:=hrel
  rename World=>wr
  cases m with
  | zero =>
   have qq:=hD.o.qq;rw [Nat.mul_zero,ZW] at qq;rw [Nat.mul_zero,ZX];obtain ⟨r1,r2,r3⟩:=hD.o.q1;have fr:∀ k,wr.frozen? (φ (w.heap.size+1) k)=false:=fun k=>(hD.o.gb.frozen _).trans (fL w _ k ω)
   have o0:=qq.c 0 γ;have o1:=qq.c 1 γ;have o2:=qq.c 2 γ;have o3:=qq.c 3 γ;have o4:=qq.c 4 γ;have o5:=qq.c 5 γ;have o6:=qq.c 6 γ;have o7:=qq.c 7 γ;go_wp2_with fail;refine (EY Q _).mono ?_;rintro e w3 ⟨rfl,g3⟩;obtain ⟨k3,f3⟩:=g3.gb.facts;go_wp2;refine bodyPost_ret (v:=.tuple #[.agg #[By (ay (Q)),BY (az (Q))],BY (u%d),By 0]) (by simp [results,results183,go_sem, *]) rfl ⟨rfl,?_⟩
   exact ((hD.o.gb.trans g3.gb).setCell ε _).setCell ε _
  | succ i =>
   have e0:((i+1:Nat):Int)-1=(i:Int):=ω;rw [e0];have xx:i<8:=ω;have i1:(0:Int)<=(i:Int):=ω;have i2:(i:Int)<8:=ω;go_wp2;go_loopw [10,12] (fun r k w'=>∃ b:Nat,b<=16/\k=By ((2:Int)^b/2)/\r=BY (rp u d (16*i+b))/\ag (DS w w' w1.heap.size w2.heap.size u (qp Q (16*i+b)))) (fun _ k _=>(intOf k).toNat)
   case atStart=>exact ⟨16,γ,ε,rfl,hD⟩
   case round =>
    clear hD;obtain ⟨b,hb,rfl,rfl,hD⟩:=hrel;cases b with
    | zero =>
     go_wp2
     go_roundw
     case rel=>exact ⟨i,ω,by go_num,rfl,hD⟩
     case measure=>simp [intOf]
    | succ e =>
     rw [Z' e];have K1:=p2 e;have K2:=aaa e ω;have st:=ZO u d (16*i+e) d0;obtain ⟨R0,R1⟩:=Nt u d (16*i+e+1) d0;have eb:=ZQ u i e ω;have eH:=Ns u (16*i+e);have YR:=ZS Q i e ω;rw [hQ.o] at st;have cn:=hD.o.qn.c i xx;have cq:=hD.o.qq.c i xx;have fq:=(hD.o.gb.frozen ⟨w2.heap.size,i,none⟩).trans (fL w _ i hD.o.hq);rw [show 16*i+(e+1)=16*i+e+1 by omega] at *
     have ST:ag _:=st;have HB:ag _:=YR;clear st YR;obtain ⟨a0,a1⟩:=aA u i;obtain ⟨c0,c1⟩:=aA (qp Q (16*i+e+1)) i;obtain ⟨K,hK⟩:∃ K:Int,ag ((2:Int)^e=K):=⟨(2:Int)^e,Eq.refl ((2:Int)^e)⟩;rw [hK.o] at K1 K2 eb ⊢;obtain ⟨R,hR⟩:∃ R:Int,ag (rp u d (16*i+e+1)=R):=⟨_,rfl⟩;rw [hR.o] at R0 R1 ⊢;have kz:¬ K=0:=ω;have pk:0<=dg u i/K:=qaY a0 ω;have EB:ag _:=eb;clear eb;have eb:=EB;clear EB;by_cases o:9223372036854775808<=R
     ·have t1:decide (9223372036854775808<=R)=true:=(by simpa using o);have tw:IntKind.u64.wrap (2*R)=2*R-18446744073709551616:=(by rw [qao];omega);rcases eH with eH | eH
      ·have tb:(dg u i/K%2 == 1)=false:=(by rw [eb.o,eH];decide);have ts:IntKind.u64.wrap (2*R-18446744073709551616-d)=2*R-d:=(by rw [qao];omega);have st:=ST.o;rw [hR.o,eH] at st;obtain ⟨F1,F2⟩:=st.1 ω;have E1:ag (rp u d (16*i+e)=2*R-d):=(by show _=_;omega);have DN:=hD.o.put i xx (z:=dg (qp Q (16*i+e+1)) i+K) (V':=qp Q (16*i+e)) (fun k hk=>by rw [F2,HB.o k,hK.o])
       have DM:ag _:=DN;clear st F1 F2 DN eH;go_wp2;go_roundw
       case rel=>exact ⟨e,ω,by rw [hK.o],by rw [E1.o],DM⟩
       case measure=>simp [intOf];omega
      ·have tb:(dg u i/K%2 == 1)=true:=(by rw [eb.o,eH];decide);have ts:IntKind.u64.wrap (2*R-18446744073709551616+1-d)=2*R+1-d:=(by rw [qao];omega);have st:=ST.o;rw [hR.o,eH] at st;obtain ⟨F1,F2⟩:=st.1 ω;have E1:ag (rp u d (16*i+e)=2*R+1-d):=(by show _=_;omega);have DN:=hD.o.put i xx (z:=dg (qp Q (16*i+e+1)) i+K) (V':=qp Q (16*i+e)) (fun k hk=>by rw [F2,HB.o k,hK.o])
       have DM:ag _:=DN;clear st F1 F2 DN eH;go_wp2;go_roundw
       case rel=>exact ⟨e,ω,by rw [hK.o],by rw [E1.o],DM⟩
       case measure=>simp [intOf];omega
     ·have t1:decide (9223372036854775808<=R)=false:=(by simpa using o);rcases eH with eH | eH
      ·by_cases o2:d<=2*R
       ·have tb:(dg u i/K%2 == 1)=false:=(by rw [eb.o,eH];decide);have t3:decide (d<=2*R)=true:=(by simp;omega);have st:=ST.o;rw [hR.o,eH] at st;obtain ⟨F1,F2⟩:=st.1 ω;have E1:ag (rp u d (16*i+e)=2*R-d):=(by show _=_;omega);have DN:=hD.o.put i xx (z:=dg (qp Q (16*i+e+1)) i+K) (V':=qp Q (16*i+e)) (fun k hk=>by rw [F2,HB.o k,hK.o])
        have DM:ag _:=DN;clear st F1 F2 DN eH;go_wp2;go_roundw
        case rel=>exact ⟨e,ω,by rw [hK.o],by rw [E1.o],DM⟩
        case measure=>simp [intOf];omega
       ·have tb:(dg u i/K%2 == 1)=false:=(by rw [eb.o,eH];decide);have t3:decide (d<=2*R)=false:=(by simp;omega);have st:=ST.o;rw [hR.o,eH] at st;obtain ⟨F1,F2⟩:=st.2 ω;have E1:ag (rp u d (16*i+e)=2*R):=(by show _=_;omega);have DN:=hD.o;rw [<-F2] at DN;have DM:ag _:=DN;clear st F1 F2 DN eH;go_wp2;go_roundw
        case rel=>exact ⟨e,ω,by rw [hK.o],by rw [E1.o],DM⟩
        case measure=>simp [intOf];omega
      ·by_cases o2:d<=2*R+1
       ·have tb:(dg u i/K%2 == 1)=true:=(by rw [eb.o,eH];decide);have t3:decide (d<=2*R+1)=true:=(by simp;omega);have st:=ST.o;rw [hR.o,eH] at st;obtain ⟨F1,F2⟩:=st.1 ω;have E1:ag (rp u d (16*i+e)=2*R+1-d):=(by show _=_;omega);have DN:=hD.o.put i xx (z:=dg (qp Q (16*i+e+1)) i+K) (V':=qp Q (16*i+e)) (fun k hk=>by rw [F2,HB.o k,hK.o])
        have DM:ag _:=DN;clear st F1 F2 DN eH;go_wp2;go_roundw
        case rel=>exact ⟨e,ω,by rw [hK.o],by rw [E1.o],DM⟩
        case measure=>simp [intOf];omega
       ·have tb:(dg u i/K%2 == 1)=true:=(by rw [eb.o,eH];decide);have t3:decide (d<=2*R+1)=false:=(by simp;omega);have st:=ST.o;rw [hR.o,eH] at st;obtain ⟨F1,F2⟩:=st.2 ω;have E1:ag (rp u d (16*i+e)=2*R+1):=(by show _=_;omega);have DN:=hD.o;rw [<-F2] at DN;have DM:ag _:=DN;clear st F1 F2 DN eH;go_wp2;go_roundw
        case rel=>exact ⟨e,ω,by rw [hK.o],by rw [E1.o],DM⟩
        case measure=>simp [intOf];omega
