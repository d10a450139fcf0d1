/- The walks of the document's own answer for layer 1: digits of 16 bits. -/
import Derived.Deep.DrawnRows
import Derived.Handy
import Derived.LoopN
import Derived.Test.YtcboobmfnmgldaaGreatBPBs
set_option linter.unusedVariables false
set_option maxHeartbeats 8000000
set_option maxRecDepth 10000
open Go.Proofs.Tryz
namespace Go.Proofs.YtcboobmfnmgldaaGreat
open Go.RowKit
theorem Ct (w:World) (n:Nat) (a:Addr) (v:Value):(w.drewN n).setCell a v=(w.setCell a v).drewN n:=rfl
theorem Cu (w:World) (n:Nat) (o:Obj):(w.drewN n).alloc o=(w.alloc o).drewN n:=rfl
attribute [local go_sem] frozen?_alloc_cells dF Ct Cu World.drewN_drewN
theorem afM (H h l:Int) (e:IntKind.u64.wrap H=h) (b1:0<=h) (b2:h<18446744073709551616) (a1:0<=l) (a2:l<18446744073709551616) (w:World) :
  Calls prog 172 #[.agg #[AI H,By l]] w fun e w'=>e=.returned (.agg #[AI (l%65536),AI (l/65536%65536),AI (l/65536/65536%65536),AI (l/65536/65536/65536%65536),AI (h%65536),AI (h/65536%65536),AI (h/65536/65536%65536),AI (h/65536/65536/65536%65536)])/\Gk 3 w w':=by
 go_enter func172,ntmps172;go_wp2;refine wp_loop_rounds 5 ?_
 repeat (rw [rounds_succ];go_wp2)
 refine bodyPost_ret (v:=.agg #[AI (l%65536),AI (l/65536%65536),AI (l/65536/65536%65536),AI (l/65536/65536/65536%65536),AI (h%65536),AI (h/65536%65536),AI (h/65536/65536%65536),AI (h/65536/65536/65536%65536)]) (by simp [results,results172,go_sem]) rfl ⟨rfl,(((Gb.refl _).alloc _ _).alloc _ _).alloc _ _,by simp⟩
theorem uI (x:Int) (w:World) :
  Calls prog 172 #[.agg #[AI (aq (x)),By (av (x))]] w fun e w'=>e=.returned (.agg #[AI (dg (x) 0),AI (dg (x) 1),AI (dg (x) 2),AI (dg (x) 3),AI (dg (x) 4),AI (dg (x) 5),AI (dg (x) 6),AI (dg (x) 7)])/\Gk 3 w w':=by
 obtain ⟨a1,a2⟩:=qG x;obtain ⟨b1,b2⟩:=yT (aq x);obtain ⟨d0,d1,d2,d3⟩:=XD x;obtain ⟨d4,d5,d6,d7⟩:=XE x;rw [<-d0,<-d1,<-d2,<-d3,<-d4,<-d5,<-d6,<-d7];exact afM (aq x) _ (av x) rfl b1 b2 a1 a2 w
theorem uJ (x:Int) (w:World) :
  Calls prog 175 #[.agg #[AI (dg (x) 0),AI (dg (x) 1),AI (dg (x) 2),AI (dg (x) 3),AI (dg (x) 4),AI (dg (x) 5),AI (dg (x) 6),AI (dg (x) 7)]] w fun e w'=>e=.returned (.agg #[AI (aq (x)),By (av (x))])/\Gk 2 w w':=by
 obtain ⟨p0,q0⟩:=ay x 0;obtain ⟨p1,q1⟩:=ay x 1;obtain ⟨p2,q2⟩:=ay x 2;obtain ⟨p3,q3⟩:=ay x 3;obtain ⟨p4,q4⟩:=ay x 4;obtain ⟨p5,q5⟩:=ay x 5;obtain ⟨p6,q6⟩:=ay x 6;obtain ⟨p7,q7⟩:=ay x 7;have el:=XF x;have eh:=XG x;go_enter func175,ntmps175;go_wp2;refine wp_loop_rounds 5 ?_
 repeat (rw [rounds_succ];go_wp2)
 refine bodyPost_ret (v:=.agg #[AI (aq (x)),By (av (x))]) (by simp [results,results175,go_sem,eh]) rfl ⟨rfl,((Gb.refl _).alloc _ _).alloc _ _,by simp⟩
theorem nh (x y:Int) (w:World) :
  Calls prog 176 #[.agg #[AI (dg (x) 0),AI (dg (x) 1),AI (dg (x) 2),AI (dg (x) 3),AI (dg (x) 4),AI (dg (x) 5),AI (dg (x) 6),AI (dg (x) 7)],.agg #[AI (dg (y) 0),AI (dg (y) 1),AI (dg (y) 2),AI (dg (y) 3),AI (dg (y) 4),AI (dg (y) 5),AI (dg (y) 6),AI (dg (y) 7)]] w fun e w'=>e=.returned (.agg #[AI (dg (x+y) 0),AI (dg (x+y) 1),AI (dg (x+y) 2),AI (dg (x+y) 3),AI (dg (x+y) 4),AI (dg (x+y) 5),AI (dg (x+y) 6),AI (dg (x+y) 7)])/\Gk 3 w w':=by
 obtain ⟨p0,q0⟩:=ay x 0;obtain ⟨r0,s0⟩:=ay y 0;obtain ⟨p1,q1⟩:=ay x 1;obtain ⟨r1,s1⟩:=ay y 1;obtain ⟨p2,q2⟩:=ay x 2;obtain ⟨r2,s2⟩:=ay y 2;obtain ⟨p3,q3⟩:=ay x 3;obtain ⟨r3,s3⟩:=ay y 3;obtain ⟨p4,q4⟩:=ay x 4;obtain ⟨r4,s4⟩:=ay y 4;obtain ⟨p5,q5⟩:=ay x 5;obtain ⟨r5,s5⟩:=ay y 5;obtain ⟨p6,q6⟩:=ay x 6;obtain ⟨r6,s6⟩:=ay y 6;obtain ⟨p7,q7⟩:=ay x 7;obtain ⟨r7,s7⟩:=ay y 7;obtain ⟨c1,d1⟩:=oM x y 1;obtain ⟨c2,d2⟩:=oM x y 2;obtain ⟨c3,d3⟩:=oM x y 3;obtain ⟨c4,d4⟩:=oM x y 4;obtain ⟨c5,d5⟩:=oM x y 5;obtain ⟨c6,d6⟩:=oM x y 6;obtain ⟨c7,d7⟩:=oM x y 7;obtain ⟨c8,d8⟩:=oM x y 8;have e0:=oN x y 0;have f0:=oO x y 0;rw [XI,Int.add_zero] at e0 f0;have e1:=oN x y 1;have f1:=oO x y 1;have e2:=oN x y 2;have f2:=oO x y 2;have e3:=oN x y 3;have f3:=oO x y 3;have e4:=oN x y 4;have f4:=oO x y 4;have e5:=oN x y 5;have f5:=oO x y 5;have e6:=oN x y 6;have f6:=oO x y 6;have e7:=oN x y 7;have f7:=oO x y 7;simp only [Nat.zero_add,Nat.reduceAdd] at f0 f1 f2 f3 f4 f5 f6 f7;go_enter func176,ntmps176;go_wp2;refine wp_loop_rounds 9 ?_;rw [rounds_succ];go_wp2;go_quiet (fail);go_wp2;rw [rounds_succ];go_wp2;go_quiet (fail);go_wp2;rw [rounds_succ];go_wp2;go_quiet (fail);go_wp2;rw [rounds_succ];go_wp2;go_quiet (fail);go_wp2;rw [rounds_succ];go_wp2;go_quiet (fail);go_wp2;rw [rounds_succ];go_wp2;go_quiet (fail);go_wp2;rw [rounds_succ];go_wp2;go_quiet (fail);go_wp2;rw [rounds_succ];go_wp2;go_quiet (fail);go_wp2;rw [rounds_succ];go_wp2;refine bodyPost_ret (v:=.agg #[AI (dg (x+y) 0),AI (dg (x+y) 1),AI (dg (x+y) 2),AI (dg (x+y) 3),AI (dg (x+y) 4),AI (dg (x+y) 5),AI (dg (x+y) 6),AI (dg (x+y) 7)]) (by simp [results,results176,go_sem]) rfl ⟨rfl,?_,by simp⟩
 exact ((((Gb.refl w).alloc _ _).alloc _ _).alloc _ _).drewN _
theorem Wk (x z:Int) (hz:x+1=z) (w:World) :
  Calls prog 176 #[.agg #[AI (dg (x) 0),AI (dg (x) 1),AI (dg (x) 2),AI (dg (x) 3),AI (dg (x) 4),AI (dg (x) 5),AI (dg (x) 6),AI (dg (x) 7)],.agg #[AI 1,AI 0,AI 0,AI 0,AI 0,AI 0,AI 0,AI 0]] w fun e w'=>e=.returned (.agg #[AI (dg (z) 0),AI (dg (z) 1),AI (dg (z) 2),AI (dg (z) 3),AI (dg (z) 4),AI (dg (z) 5),AI (dg (z) 6),AI (dg (z) 7)])/\Gk 3 w w':=by
 have h:=nh x 1 w;rw [show dg 1 0=1 by decide +kernel,show dg 1 1=0 by decide +kernel,show dg 1 2=0 by decide +kernel,show dg 1 3=0 by decide +kernel,show dg 1 4=0 by decide +kernel,show dg 1 5=0 by decide +kernel,show dg 1 6=0 by decide +kernel,show dg 1 7=0 by decide +kernel,hz] at h
 exact h
theorem uK (x:Int) (w:World) :
  Calls prog 174 #[.agg #[AI (dg (x) 0),AI (dg (x) 1),AI (dg (x) 2),AI (dg (x) 3),AI (dg (x) 4),AI (dg (x) 5),AI (dg (x) 6),AI (dg (x) 7)]] w fun e w'=>e=.returned (.agg #[AI (dg (-x) 0),AI (dg (-x) 1),AI (dg (-x) 2),AI (dg (-x) 3),AI (dg (-x) 4),AI (dg (-x) 5),AI (dg (-x) 6),AI (dg (-x) 7)])/\Gk 6 w w':=by
 obtain ⟨p0,q0⟩:=ay x 0;have e0:=oP x 0;obtain ⟨p1,q1⟩:=ay x 1;have e1:=oP x 1;obtain ⟨p2,q2⟩:=ay x 2;have e2:=oP x 2;obtain ⟨p3,q3⟩:=ay x 3;have e3:=oP x 3;obtain ⟨p4,q4⟩:=ay x 4;have e4:=oP x 4;obtain ⟨p5,q5⟩:=ay x 5;have e5:=oP x 5;obtain ⟨p6,q6⟩:=ay x 6;have e6:=oP x 6;obtain ⟨p7,q7⟩:=ay x 7;have e7:=oP x 7;go_enter func174,ntmps174;go_wp2;refine wp_loop_rounds 9 ?_
 repeat (rw [rounds_succ];go_wp2_with fail)
 refine (Wk (-1-x) (-x) (by omega) _).mono ?_
 rintro e w1 ⟨rfl,g1⟩;obtain ⟨k1,f1,z1⟩:=g1.facts;go_wp2;refine bodyPost_ret (v:=.agg #[AI (dg (-x) 0),AI (dg (-x) 1),AI (dg (-x) 2),AI (dg (-x) 3),AI (dg (-x) 4),AI (dg (-x) 5),AI (dg (-x) 6),AI (dg (-x) 7)]) (by simp [results,results174,go_sem, *]) rfl ⟨rfl,?_,by simp [World.setCell,z1]⟩
 exact ((((((((((((Gb.refl w).alloc _ _).alloc _ _).alloc _ _).trans g1.gb).setCell (by simp) _).setCell (by simp) _).setCell (by simp) _).setCell (by simp) _).setCell (by simp) _).setCell (by simp) _).setCell (by simp) _).setCell (by simp) _
end Go.Proofs.YtcboobmfnmgldaaGreat
namespace Go.Proofs.YtcboobmfnmgldaaGreat
open Go.RowKit
attribute [local go_sem] frozen?_alloc_cells dF
theorem Wl (x:Int):32768<=dg x 7↔sv x<0:=by rw [sZ];unfold dg;omega
theorem Wm (x:Int) (w:World) :
  Calls prog 173 #[.agg #[AI (dg (x) 0),AI (dg (x) 1),AI (dg (x) 2),AI (dg (x) 3),AI (dg (x) 4),AI (dg (x) 5),AI (dg (x) 6),AI (dg (x) 7)]] w fun e w'=>e=.returned (.bool (decide (32768<=dg x 7)))/\Gk 1 w w':=by
 go_enter func173,ntmps173;go_wp2;go_ret;exact ⟨rfl,(Gb.refl _).alloc _ _,by simp⟩
structure H8 (w:World) (b:Nat) (x:Int):Prop where
 lt:b<w.heap.size
 c:∀ k,k<8->w.cell? ⟨b,k,none⟩=some (AI (dg x k))
variable {w w':World} {b:Nat} {x:Int}
theorem H8.gb (h:H8 w b x) (g:Gb w w'):H8 w' b x :=
 ⟨Nat.lt_of_lt_of_le h.lt g.size,fun k hk=>(g.cell b k h.lt).trans (h.c k hk)⟩
theorem H8.alloc (h:H8 w b x) (c:Array Value) (t:TypeId):H8 (w.alloc (.cells c t)) b x :=
 h.gb ((Gb.refl w).alloc c t)
theorem tZ (k:Nat) (h:k<8):k=0\/k=1\/k=2\/k=3\/k=4\/k=5\/k=6\/k=7:=by omega
theorem H8.new (w:World) (x:Int) (t:TypeId):H8 (w.alloc (.cells #[AI (dg x 0),AI (dg x 1),AI (dg x 2),AI (dg x 3),AI (dg x 4),AI (dg x 5),AI (dg x 6),AI (dg x 7)] t)) w.heap.size x :=
 ⟨by simp,fun k hk=>by rcases tZ k hk with rfl | rfl | rfl | rfl | rfl | rfl | rfl | rfl<;>simp [go_sem]⟩
end Go.Proofs.YtcboobmfnmgldaaGreat
namespace Go.Proofs.YtcboobmfnmgldaaGreat
open Go.RowKit
attribute [local go_sem] frozen?_alloc_cells dF
theorem afN (x y:Int) (w:World) :
  Calls prog 155 #[.agg #[AI (aq (x)),By (av (x))],.agg #[AI (aq (y)),By (av (y))]] w fun e w'=>e=.returned (.agg #[AI (aq (x+y)),By (av (x+y))])/\Gb w w':=by
 have HK:ag (∀ w',Gb ((w.alloc (.cells #[AI (aq x),By (av x)] 233)).alloc (.cells #[AI (aq y),By (av y)] 233)) w'->Gb ((w.alloc (.cells #[AI (aq x),By (av x)] 233)).alloc (.cells #[AI (aq y),By (av y)] 233)) w'/\w'.cell? ⟨w.heap.size,0,none⟩=some (AI (aq x))/\w'.cell? ⟨w.heap.size,1,none⟩=some (By (av x))/\w'.cell? ⟨w.heap.size+1,0,none⟩=some (AI (aq y))/\w'.cell? ⟨w.heap.size+1,1,none⟩=some (By (av y))):=by
  intro w' g;refine ⟨g,?_,?_,?_,?_⟩
  all_goals (rw [g.cell _ _ (by first | (simp;done) | (simp;omega))];simp [go_sem])
 have hR:((w.alloc (.cells #[AI (aq x),By (av x)] 233)).alloc (.cells #[AI (aq y),By (av y)] 233)).heap.size<=w.heap.size+1+1:=by simp
 go_enter func155,ntmps155;go_wp2_with fail;go_region_held3 (fun w'=>Gb ((w.alloc (.cells #[AI (aq x),By (av x)] 233)).alloc (.cells #[AI (aq y),By (av y)] 233)) w'/\w'.cell? ⟨w.heap.size,0,none⟩=some (AI (aq x))/\w'.cell? ⟨w.heap.size,1,none⟩=some (By (av x))/\w'.cell? ⟨w.heap.size+1,0,none⟩=some (AI (aq y))/\w'.cell? ⟨w.heap.size+1,1,none⟩=some (By (av y))) ((refine HK.o _ ?_;(repeat (first | exact Gb.refl _ | exact And.left (by assumption) | refine Gb.drew ?_ | refine Gb.setCell ?_ hR _ | refine Gb.trans ?_ (Gk.gb (by assumption)) | refine Gb.alloc ?_ _ _));done))
  (first
   | (go_at_call 172;refine (uI _ _).mono ?_;rintro e w4 ⟨rfl,g4⟩;obtain ⟨k4,f4,_⟩:=g4.facts;have h4:w.heap.size+1+1<w4.heap.size:=(by have h9:=g4.gb.size;first | omega | (simp at h9;omega)))
   | (go_at_call 176;refine (nh _ _ _).mono ?_;rintro e w4 ⟨rfl,g4⟩;obtain ⟨k4,f4,_⟩:=g4.facts;have h4:w.heap.size+1+1<w4.heap.size:=(by have h9:=g4.gb.size;first | omega | (simp at h9;omega)))
   | (go_at_call 174;refine (uK _ _).mono ?_;rintro e w4 ⟨rfl,g4⟩;obtain ⟨k4,f4,_⟩:=g4.facts;have h4:w.heap.size+1+1<w4.heap.size:=(by have h9:=g4.gb.size;first | omega | (simp at h9;omega)))
   | (go_at_call 175;refine (uJ _ _).mono ?_;rintro e w4 ⟨rfl,g4⟩;obtain ⟨k4,f4,_⟩:=g4.facts;have h4:w.heap.size+1+1<w4.heap.size:=(by have h9:=g4.gb.size;first | omega | (simp at h9;omega))))
 go_wp2
 have G:Gb w _:=Gb.trans (b:=((w.alloc (.cells #[AI (aq x),By (av x)] 233)).alloc (.cells #[AI (aq y),By (av y)] 233))) (by repeat (first | exact Gb.refl _ | refine Gb.alloc ?_ _ _)) (And.left (by assumption))
 refine bodyPost_ret (v:=.agg #[AI (aq (x+y)),By (av (x+y))]) (by simp [results,results155,go_sem, *]) rfl ⟨rfl,G⟩
end Go.Proofs.YtcboobmfnmgldaaGreat
namespace Go.Proofs.YtcboobmfnmgldaaGreat
open Go.RowKit
attribute [local go_sem] frozen?_alloc_cells dF Ct Cu World.drewN_drewN
theorem afO (o a y z:Int) (hz:o+a*y*65536^0=z) (w:World) :
  Calls prog 176 #[.agg #[AI (dg (o) 0),AI (dg (o) 1),AI (dg (o) 2),AI (dg (o) 3),AI (dg (o) 4),AI (dg (o) 5),AI (dg (o) 6),AI (dg (o) 7)],.agg #[AI (dg (a*y) 0),AI (dg (a*y) 1),AI (dg (a*y) 2),AI (dg (a*y) 3),AI (dg (a*y) 4),AI (dg (a*y) 5),AI (dg (a*y) 6),AI (dg (a*y) 7)]] w fun e w'=>e=.returned (.agg #[AI (dg (z) 0),AI (dg (z) 1),AI (dg (z) 2),AI (dg (z) 3),AI (dg (z) 4),AI (dg (z) 5),AI (dg (z) 6),AI (dg (z) 7)])/\Gk 3 w w':=by
 have h:=nh o (a*y*65536^0) w;rw [show dg (a*y*65536^0) 0=dg (a*y) 0 from cB (a*y) 0 0,show dg (a*y*65536^0) 1=dg (a*y) 1 from cB (a*y) 0 1,show dg (a*y*65536^0) 2=dg (a*y) 2 from cB (a*y) 0 2,show dg (a*y*65536^0) 3=dg (a*y) 3 from cB (a*y) 0 3,show dg (a*y*65536^0) 4=dg (a*y) 4 from cB (a*y) 0 4,show dg (a*y*65536^0) 5=dg (a*y) 5 from cB (a*y) 0 5,show dg (a*y*65536^0) 6=dg (a*y) 6 from cB (a*y) 0 6,show dg (a*y*65536^0) 7=dg (a*y) 7 from cB (a*y) 0 7,hz] at h;exact h
theorem afP (o a y z:Int) (hz:o+a*y*65536^1=z) (w:World) :
  Calls prog 176 #[.agg #[AI (dg (o) 0),AI (dg (o) 1),AI (dg (o) 2),AI (dg (o) 3),AI (dg (o) 4),AI (dg (o) 5),AI (dg (o) 6),AI (dg (o) 7)],.agg #[AI (0),AI (dg (a*y) 0),AI (dg (a*y) 1),AI (dg (a*y) 2),AI (dg (a*y) 3),AI (dg (a*y) 4),AI (dg (a*y) 5),AI (dg (a*y) 6)]] w fun e w'=>e=.returned (.agg #[AI (dg (z) 0),AI (dg (z) 1),AI (dg (z) 2),AI (dg (z) 3),AI (dg (z) 4),AI (dg (z) 5),AI (dg (z) 6),AI (dg (z) 7)])/\Gk 3 w w':=by
 have h:=nh o (a*y*65536^1) w;rw [dA (a*y) 1 0 (by decide),show dg (a*y*65536^1) 1=dg (a*y) 0 from cB (a*y) 1 0,show dg (a*y*65536^1) 2=dg (a*y) 1 from cB (a*y) 1 1,show dg (a*y*65536^1) 3=dg (a*y) 2 from cB (a*y) 1 2,show dg (a*y*65536^1) 4=dg (a*y) 3 from cB (a*y) 1 3,show dg (a*y*65536^1) 5=dg (a*y) 4 from cB (a*y) 1 4,show dg (a*y*65536^1) 6=dg (a*y) 5 from cB (a*y) 1 5,show dg (a*y*65536^1) 7=dg (a*y) 6 from cB (a*y) 1 6,hz] at h
 exact h
theorem afQ (o a y z:Int) (hz:o+a*y*65536^2=z) (w:World) :
  Calls prog 176 #[.agg #[AI (dg (o) 0),AI (dg (o) 1),AI (dg (o) 2),AI (dg (o) 3),AI (dg (o) 4),AI (dg (o) 5),AI (dg (o) 6),AI (dg (o) 7)],.agg #[AI (0),AI (0),AI (dg (a*y) 0),AI (dg (a*y) 1),AI (dg (a*y) 2),AI (dg (a*y) 3),AI (dg (a*y) 4),AI (dg (a*y) 5)]] w fun e w'=>e=.returned (.agg #[AI (dg (z) 0),AI (dg (z) 1),AI (dg (z) 2),AI (dg (z) 3),AI (dg (z) 4),AI (dg (z) 5),AI (dg (z) 6),AI (dg (z) 7)])/\Gk 3 w w':=by
 have h:=nh o (a*y*65536^2) w;rw [dA (a*y) 2 0 (by decide),dA (a*y) 2 1 (by decide),show dg (a*y*65536^2) 2=dg (a*y) 0 from cB (a*y) 2 0,show dg (a*y*65536^2) 3=dg (a*y) 1 from cB (a*y) 2 1,show dg (a*y*65536^2) 4=dg (a*y) 2 from cB (a*y) 2 2,show dg (a*y*65536^2) 5=dg (a*y) 3 from cB (a*y) 2 3,show dg (a*y*65536^2) 6=dg (a*y) 4 from cB (a*y) 2 4,show dg (a*y*65536^2) 7=dg (a*y) 5 from cB (a*y) 2 5,hz] at h
 exact h
theorem afR (o a y z:Int) (hz:o+a*y*65536^3=z) (w:World) :
  Calls prog 176 #[.agg #[AI (dg (o) 0),AI (dg (o) 1),AI (dg (o) 2),AI (dg (o) 3),AI (dg (o) 4),AI (dg (o) 5),AI (dg (o) 6),AI (dg (o) 7)],.agg #[AI (0),AI (0),AI (0),AI (dg (a*y) 0),AI (dg (a*y) 1),AI (dg (a*y) 2),AI (dg (a*y) 3),AI (dg (a*y) 4)]] w fun e w'=>e=.returned (.agg #[AI (dg (z) 0),AI (dg (z) 1),AI (dg (z) 2),AI (dg (z) 3),AI (dg (z) 4),AI (dg (z) 5),AI (dg (z) 6),AI (dg (z) 7)])/\Gk 3 w w':=by
 have h:=nh o (a*y*65536^3) w;rw [dA (a*y) 3 0 (by decide),dA (a*y) 3 1 (by decide),dA (a*y) 3 2 (by decide),show dg (a*y*65536^3) 3=dg (a*y) 0 from cB (a*y) 3 0,show dg (a*y*65536^3) 4=dg (a*y) 1 from cB (a*y) 3 1,show dg (a*y*65536^3) 5=dg (a*y) 2 from cB (a*y) 3 2,show dg (a*y*65536^3) 6=dg (a*y) 3 from cB (a*y) 3 3,show dg (a*y*65536^3) 7=dg (a*y) 4 from cB (a*y) 3 4,hz] at h
 exact h
theorem afS (o a y z:Int) (hz:o+a*y*65536^4=z) (w:World) :
  Calls prog 176 #[.agg #[AI (dg (o) 0),AI (dg (o) 1),AI (dg (o) 2),AI (dg (o) 3),AI (dg (o) 4),AI (dg (o) 5),AI (dg (o) 6),AI (dg (o) 7)],.agg #[AI (0),AI (0),AI (0),AI (0),AI (dg (a*y) 0),AI (dg (a*y) 1),AI (dg (a*y) 2),AI (dg (a*y) 3)]] w fun e w'=>e=.returned (.agg #[AI (dg (z) 0),AI (dg (z) 1),AI (dg (z) 2),AI (dg (z) 3),AI (dg (z) 4),AI (dg (z) 5),AI (dg (z) 6),AI (dg (z) 7)])/\Gk 3 w w':=by
 have h:=nh o (a*y*65536^4) w;rw [dA (a*y) 4 0 (by decide),dA (a*y) 4 1 (by decide),dA (a*y) 4 2 (by decide),dA (a*y) 4 3 (by decide),show dg (a*y*65536^4) 4=dg (a*y) 0 from cB (a*y) 4 0,show dg (a*y*65536^4) 5=dg (a*y) 1 from cB (a*y) 4 1,show dg (a*y*65536^4) 6=dg (a*y) 2 from cB (a*y) 4 2,show dg (a*y*65536^4) 7=dg (a*y) 3 from cB (a*y) 4 3,hz] at h
 exact h
theorem afT (o a y z:Int) (hz:o+a*y*65536^5=z) (w:World) :
  Calls prog 176 #[.agg #[AI (dg (o) 0),AI (dg (o) 1),AI (dg (o) 2),AI (dg (o) 3),AI (dg (o) 4),AI (dg (o) 5),AI (dg (o) 6),AI (dg (o) 7)],.agg #[AI (0),AI (0),AI (0),AI (0),AI (0),AI (dg (a*y) 0),AI (dg (a*y) 1),AI (dg (a*y) 2)]] w fun e w'=>e=.returned (.agg #[AI (dg (z) 0),AI (dg (z) 1),AI (dg (z) 2),AI (dg (z) 3),AI (dg (z) 4),AI (dg (z) 5),AI (dg (z) 6),AI (dg (z) 7)])/\Gk 3 w w':=by
 have h:=nh o (a*y*65536^5) w;rw [dA (a*y) 5 0 (by decide),dA (a*y) 5 1 (by decide),dA (a*y) 5 2 (by decide),dA (a*y) 5 3 (by decide),dA (a*y) 5 4 (by decide),show dg (a*y*65536^5) 5=dg (a*y) 0 from cB (a*y) 5 0,show dg (a*y*65536^5) 6=dg (a*y) 1 from cB (a*y) 5 1,show dg (a*y*65536^5) 7=dg (a*y) 2 from cB (a*y) 5 2,hz] at h
 exact h
theorem afU (o a y z:Int) (hz:o+a*y*65536^6=z) (w:World) :
  Calls prog 176 #[.agg #[AI (dg (o) 0),AI (dg (o) 1),AI (dg (o) 2),AI (dg (o) 3),AI (dg (o) 4),AI (dg (o) 5),AI (dg (o) 6),AI (dg (o) 7)],.agg #[AI (0),AI (0),AI (0),AI (0),AI (0),AI (0),AI (dg (a*y) 0),AI (dg (a*y) 1)]] w fun e w'=>e=.returned (.agg #[AI (dg (z) 0),AI (dg (z) 1),AI (dg (z) 2),AI (dg (z) 3),AI (dg (z) 4),AI (dg (z) 5),AI (dg (z) 6),AI (dg (z) 7)])/\Gk 3 w w':=by
 have h:=nh o (a*y*65536^6) w;rw [dA (a*y) 6 0 (by decide),dA (a*y) 6 1 (by decide),dA (a*y) 6 2 (by decide),dA (a*y) 6 3 (by decide),dA (a*y) 6 4 (by decide),dA (a*y) 6 5 (by decide),show dg (a*y*65536^6) 6=dg (a*y) 0 from cB (a*y) 6 0,show dg (a*y*65536^6) 7=dg (a*y) 1 from cB (a*y) 6 1,hz] at h
 exact h
theorem afV (o a y z:Int) (hz:o+a*y*65536^7=z) (w:World) :
  Calls prog 176 #[.agg #[AI (dg (o) 0),AI (dg (o) 1),AI (dg (o) 2),AI (dg (o) 3),AI (dg (o) 4),AI (dg (o) 5),AI (dg (o) 6),AI (dg (o) 7)],.agg #[AI (0),AI (0),AI (0),AI (0),AI (0),AI (0),AI (0),AI (dg (a*y) 0)]] w fun e w'=>e=.returned (.agg #[AI (dg (z) 0),AI (dg (z) 1),AI (dg (z) 2),AI (dg (z) 3),AI (dg (z) 4),AI (dg (z) 5),AI (dg (z) 6),AI (dg (z) 7)])/\Gk 3 w w':=by
 have h:=nh o (a*y*65536^7) w;rw [dA (a*y) 7 0 (by decide),dA (a*y) 7 1 (by decide),dA (a*y) 7 2 (by decide),dA (a*y) 7 3 (by decide),dA (a*y) 7 4 (by decide),dA (a*y) 7 5 (by decide),dA (a*y) 7 6 (by decide),show dg (a*y*65536^7) 7=dg (a*y) 0 from cB (a*y) 7 0,hz] at h
 exact h
theorem cell_far (w:World) (b o b' o':Nat) (v:Value) (h:b≠b'):(w.setCell ⟨b',o',none⟩ v).cell? ⟨b,o,none⟩=w.cell? ⟨b,o,none⟩ :=
 World.cell?_of_block (w:=w) (Below.heap_setCell w ⟨b',o',none⟩ v b h)
variable {w:World} {b b':Nat} {x:Int}
theorem H8.far {o':Nat} (h:H8 w b x) (v:Value) (hb:b≠b'):H8 (w.setCell ⟨b',o',none⟩ v) b x :=
 ⟨by simpa [World.setCell] using h.lt,fun k hk=>(cell_far w b k b' o' v hb).trans (h.c k hk)⟩
theorem H8.far8 (h:H8 w b x) (hb:b≠b') (v0 v1 v2 v3 v4 v5 v6 v7:Value) :
  H8 ((((((((w.setCell ⟨b',0,none⟩ v0).setCell ⟨b',1,none⟩ v1).setCell ⟨b',2,none⟩ v2).setCell ⟨b',3,none⟩ v3).setCell ⟨b',4,none⟩ v4).setCell ⟨b',5,none⟩ v5).setCell ⟨b',6,none⟩ v6).setCell ⟨b',7,none⟩ v7) b x :=
 (((((((h.far v0 hb).far v1 hb).far v2 hb).far v3 hb).far v4 hb).far v5 hb).far v6 hb).far v7 hb
variable {z:Int}
theorem H8.set (h:H8 w b x) :
  H8 ((((((((w.setCell ⟨b,0,none⟩ (AI (dg z 0))).setCell ⟨b,1,none⟩ (AI (dg z 1))).setCell ⟨b,2,none⟩ (AI (dg z 2))).setCell ⟨b,3,none⟩ (AI (dg z 3))).setCell ⟨b,4,none⟩ (AI (dg z 4))).setCell ⟨b,5,none⟩ (AI (dg z 5))).setCell ⟨b,6,none⟩ (AI (dg z 6))).setCell ⟨b,7,none⟩ (AI (dg z 7))) b z:=by
 refine ⟨by simpa [World.setCell] using h.lt,fun k hk=>?_⟩
 have t0:=h.c 0 (by decide);have t1:=h.c 1 (by decide);have t2:=h.c 2 (by decide);have t3:=h.c 3 (by decide)
 have t4:=h.c 4 (by decide);have t5:=h.c 5 (by decide);have t6:=h.c 6 (by decide);have t7:=h.c 7 (by decide)
 rcases tZ k hk with rfl | rfl | rfl | rfl | rfl | rfl | rfl | rfl<;>simp [go_sem,t0,t1,t2,t3,t4,t5,t6,t7]
theorem Gb.set8 {a:World} (h:Gb a w) (hb:a.heap.size<=b) (v0 v1 v2 v3 v4 v5 v6 v7:Value) :
  Gb a ((((((((w.setCell ⟨b,0,none⟩ v0).setCell ⟨b,1,none⟩ v1).setCell ⟨b,2,none⟩ v2).setCell ⟨b,3,none⟩ v3).setCell ⟨b,4,none⟩ v4).setCell ⟨b,5,none⟩ v5).setCell ⟨b,6,none⟩ v6).setCell ⟨b,7,none⟩ v7) :=
 (((((((h.setCell hb v0).setCell hb v1).setCell hb v2).setCell hb v3).setCell hb v4).setCell hb v5).setCell hb v6).setCell hb v7
theorem H8.at (h:H8 w b x) (b':Nat) (x':Int) (e:b=b') (e':x=x'):H8 w b' x':=e▸e'▸h
theorem afW (k:Nat):dg 0 k=0:=by unfold dg;simp
theorem H8.new0 (w:World) (t:TypeId):H8 (w.alloc (.cells #[AI 0,AI 0,AI 0,AI 0,AI 0,AI 0,AI 0,AI 0] t)) w.heap.size 0 :=
 ⟨by simp,fun k hk=>by rw [afW];rcases tZ k hk with rfl | rfl | rfl | rfl | rfl | rfl | rfl | rfl<;>simp [go_sem]⟩
structure TI (w w':World) (x y:Int) (i:Nat):Prop where
 gb:Gb w w'
 qx:H8 w' w.heap.size x
 qy:H8 w' (w.heap.size+1) y
 qr:H8 w' (w.heap.size+1+1) 0
 qo:H8 w' (w.heap.size+1+1+1) (x%65536^i*y)
theorem qs (x y:Int) (i:Nat):x%65536^i*y+dg x i*y*65536^i=x%65536^(i+1)*y:=by
 rw [za,Int.add_mul,Int.mul_assoc (dg x i),Int.mul_comm y,<-Int.mul_assoc,Int.mul_comm (dg x i)]
theorem Wn (x y:Int) (w:World) :
  Calls prog 178 #[.agg #[AI (dg (x) 0),AI (dg (x) 1),AI (dg (x) 2),AI (dg (x) 3),AI (dg (x) 4),AI (dg (x) 5),AI (dg (x) 6),AI (dg (x) 7)],.agg #[AI (dg (y) 0),AI (dg (y) 1),AI (dg (y) 2),AI (dg (y) 3),AI (dg (y) 4),AI (dg (y) 5),AI (dg (y) 6),AI (dg (y) 7)]] w fun e w'=>e=.returned (.agg #[AI (dg (x*y) 0),AI (dg (x*y) 1),AI (dg (x*y) 2),AI (dg (x*y) 3),AI (dg (x*y) 4),AI (dg (x*y) 5),AI (dg (x*y) 6),AI (dg (x*y) 7)])/\Gb w w':=by
 go_enter func178,ntmps178;go_wp2;go_loopw [6] (fun i w'=>∃ m:Nat,m<=8/\i=AI (m:Int)/\ag (TI w w' x y m)) (fun i _=>(8-intOf i).toNat)
 case atStart =>
  refine ⟨0,by decide,rfl,?_⟩
  refine TI.mk ?_ ?_ ?_ ?_ ?_
  ·exact ((((Gb.refl w).alloc _ _).alloc _ _).alloc _ _).alloc _ _
  ·exact (((H8.new w x 263).alloc _ _).alloc _ _).alloc _ _
  ·exact (((H8.new (w.alloc (.cells #[AI (dg x 0),AI (dg x 1),AI (dg x 2),AI (dg x 3),AI (dg x 4),AI (dg x 5),AI (dg x 6),AI (dg x 7)] 263)) y 263).alloc _ _).alloc _ _).at _ _ (by simp) rfl
  ·exact ((H8.new0 ((w.alloc (.cells #[AI (dg x 0),AI (dg x 1),AI (dg x 2),AI (dg x 3),AI (dg x 4),AI (dg x 5),AI (dg x 6),AI (dg x 7)] 263)).alloc (.cells #[AI (dg y 0),AI (dg y 1),AI (dg y 2),AI (dg y 3),AI (dg y 4),AI (dg y 5),AI (dg y 6),AI (dg y 7)] 263)) 263).alloc _ _).at _ _ (by simp) rfl
  ·exact (H8.new0 (((w.alloc (.cells #[AI (dg x 0),AI (dg x 1),AI (dg x 2),AI (dg x 3),AI (dg x 4),AI (dg x 5),AI (dg x 6),AI (dg x 7)] 263)).alloc (.cells #[AI (dg y 0),AI (dg y 1),AI (dg y 2),AI (dg y 3),AI (dg y 4),AI (dg y 5),AI (dg y 6),AI (dg y 7)] 263)).alloc (.cells #[AI 0,AI 0,AI 0,AI 0,AI 0,AI 0,AI 0,AI 0] 263)) 263).at _ _ (by simp) (by simp)
 case round =>
  obtain ⟨m,hm,rfl,hT⟩:=hrel;rename_i wr _;by_cases h8:m=8
  ·subst h8
   have o0:=(hT.qo.c 0 (by decide)).trans (by rw [oR x y 0 (by decide)])
   have r0:=hT.qr.c 0 (by decide)
   have o1:=(hT.qo.c 1 (by decide)).trans (by rw [oR x y 1 (by decide)])
   have r1:=hT.qr.c 1 (by decide)
   have o2:=(hT.qo.c 2 (by decide)).trans (by rw [oR x y 2 (by decide)])
   have r2:=hT.qr.c 2 (by decide)
   have o3:=(hT.qo.c 3 (by decide)).trans (by rw [oR x y 3 (by decide)])
   have r3:=hT.qr.c 3 (by decide)
   have o4:=(hT.qo.c 4 (by decide)).trans (by rw [oR x y 4 (by decide)])
   have r4:=hT.qr.c 4 (by decide)
   have o5:=(hT.qo.c 5 (by decide)).trans (by rw [oR x y 5 (by decide)])
   have r5:=hT.qr.c 5 (by decide)
   have o6:=(hT.qo.c 6 (by decide)).trans (by rw [oR x y 6 (by decide)])
   have r6:=hT.qr.c 6 (by decide)
   have o7:=(hT.qo.c 7 (by decide)).trans (by rw [oR x y 7 (by decide)])
   have r7:=hT.qr.c 7 (by decide)
   have fz:=hT.gb.frozen;have fr:∀ k,wr.frozen? ⟨w.heap.size+1+1,k,none⟩=false:=fun k=>(fz _).trans (dF w _ k (by omega))
   have G:=hT.gb;clear fz hT;go_wp2;refine bodyPost_ret (v:=.agg #[AI (dg (x*y) 0),AI (dg (x*y) 1),AI (dg (x*y) 2),AI (dg (x*y) 3),AI (dg (x*y) 4),AI (dg (x*y) 5),AI (dg (x*y) 6),AI (dg (x*y) 7)]) (by simp [results,results178,go_sem, *]) rfl ⟨rfl,?_⟩
   exact G.set8 (by omega) _ _ _ _ _ _ _ _
  ·rcases tZ m (by omega) with rfl | rfl | rfl | rfl | rfl | rfl | rfl | rfl
   ·have hx:=hT.qx.c 0 (by decide)
    obtain ⟨a0,a1⟩:=ay x 0;have eA:ag _:=qs x y 0;obtain ⟨a,ha⟩:∃ a,ag (dg x 0=a):=⟨_,rfl⟩;rw [ha.o] at hx a0 a1 eA;obtain ⟨o,ho⟩:∃ o:Int,ag (x%65536^0*y=o):=⟨x%65536^0*y,Eq.refl (x%65536^0*y)⟩;have qo:=hT.qo;rw [ho.o] at qo eA;clear ho ha;have y0:=hT.qy.c 0 (by decide)
    obtain ⟨p0,q0⟩:=cw a (dg y 0) a0 a1 (ay y 0).1 (ay y 0).2;have e0:=cx a y 0;have f0:=cy a y 0;rw [oQ,Int.add_zero] at e0 f0;have y1:=hT.qy.c 1 (by decide)
    obtain ⟨p1,q1⟩:=cw a (dg y 1) a0 a1 (ay y 1).1 (ay y 1).2;obtain ⟨c1,d1⟩:=dy a y 1 a0 a1;have e1:=cx a y 1;have f1:=cy a y 1;have y2:=hT.qy.c 2 (by decide)
    obtain ⟨p2,q2⟩:=cw a (dg y 2) a0 a1 (ay y 2).1 (ay y 2).2;obtain ⟨c2,d2⟩:=dy a y 2 a0 a1;have e2:=cx a y 2;have f2:=cy a y 2;have y3:=hT.qy.c 3 (by decide)
    obtain ⟨p3,q3⟩:=cw a (dg y 3) a0 a1 (ay y 3).1 (ay y 3).2;obtain ⟨c3,d3⟩:=dy a y 3 a0 a1;have e3:=cx a y 3;have f3:=cy a y 3;have y4:=hT.qy.c 4 (by decide)
    obtain ⟨p4,q4⟩:=cw a (dg y 4) a0 a1 (ay y 4).1 (ay y 4).2;obtain ⟨c4,d4⟩:=dy a y 4 a0 a1;have e4:=cx a y 4;have f4:=cy a y 4;have y5:=hT.qy.c 5 (by decide)
    obtain ⟨p5,q5⟩:=cw a (dg y 5) a0 a1 (ay y 5).1 (ay y 5).2;obtain ⟨c5,d5⟩:=dy a y 5 a0 a1;have e5:=cx a y 5;have f5:=cy a y 5;have y6:=hT.qy.c 6 (by decide)
    obtain ⟨p6,q6⟩:=cw a (dg y 6) a0 a1 (ay y 6).1 (ay y 6).2;obtain ⟨c6,d6⟩:=dy a y 6 a0 a1;have e6:=cx a y 6;have f6:=cy a y 6;have y7:=hT.qy.c 7 (by decide)
    obtain ⟨p7,q7⟩:=cw a (dg y 7) a0 a1 (ay y 7).1 (ay y 7).2;obtain ⟨c7,d7⟩:=dy a y 7 a0 a1;have e7:=cx a y 7;have f7:=cy a y 7;simp only [Nat.zero_add,Nat.reduceAdd] at f0 f1 f2 f3 f4 f5 f6 f7;have o0:=qo.c 0 (by decide)
    have o1:=qo.c 1 (by decide)
    have o2:=qo.c 2 (by decide)
    have o3:=qo.c 3 (by decide)
    have o4:=qo.c 4 (by decide)
    have o5:=qo.c 5 (by decide)
    have o6:=qo.c 6 (by decide)
    have o7:=qo.c 7 (by decide)
    have nZ:=hT.qo.lt;have fY:=hT.qx.lt;have sT:=hT.qy.lt;have sU:=hT.qr.lt;have fz:=hT.gb.frozen;have fo:∀ k,wr.frozen? ⟨w.heap.size+1+1+1,k,none⟩=false:=fun k=>(fz _).trans (dF w _ k (by omega))
    clear fz;go_wp2;refine wp_loop_rounds 9 ?_;rw [rounds_succ];go_wp2;go_quiet (fail);go_wp2;rw [rounds_succ];go_wp2;go_quiet (fail);go_wp2;rw [rounds_succ];go_wp2;go_quiet (fail);go_wp2;rw [rounds_succ];go_wp2;go_quiet (fail);go_wp2;rw [rounds_succ];go_wp2;go_quiet (fail);go_wp2;rw [rounds_succ];go_wp2;go_quiet (fail);go_wp2;rw [rounds_succ];go_wp2;go_quiet (fail);go_wp2;rw [rounds_succ];go_wp2;go_quiet (fail);go_wp2;rw [rounds_succ];go_wp2_with fail;refine (afO o a y _ eA.o _).mono ?_;rintro e w1 ⟨rfl,g1⟩;obtain ⟨k1,f1,_⟩:=g1.facts;have Gc:ag (Gb wr w1):=(((Gb.refl wr).alloc _ _).drewN _).trans g1.gb;have s1:=Gb.size Gc.o;generalize hz:x%65536^(0+1)*y=z at *;go_wp2;go_roundw
    case rel =>
     refine ⟨0+1,by decide,by simp,TI.mk ((hT.gb.trans Gc.o).set8 (by omega) _ _ _ _ _ _ _ _) ((hT.qx.gb Gc.o).far8 (by omega) _ _ _ _ _ _ _ _) ((hT.qy.gb Gc.o).far8 (by omega) _ _ _ _ _ _ _ _) ((hT.qr.gb Gc.o).far8 (by omega) _ _ _ _ _ _ _ _) (((qo.gb Gc.o).set (z:=z)).at _ _ rfl hz.symm)⟩
    case measure=>simp [intOf]
   ·have hx:=hT.qx.c 1 (by decide)
    obtain ⟨a0,a1⟩:=ay x 1;have eA:ag _:=qs x y 1;obtain ⟨a,ha⟩:∃ a,ag (dg x 1=a):=⟨_,rfl⟩;rw [ha.o] at hx a0 a1 eA;obtain ⟨o,ho⟩:∃ o:Int,ag (x%65536^1*y=o):=⟨x%65536^1*y,Eq.refl (x%65536^1*y)⟩;have qo:=hT.qo;rw [ho.o] at qo eA;clear ho ha;have y0:=hT.qy.c 0 (by decide)
    obtain ⟨p0,q0⟩:=cw a (dg y 0) a0 a1 (ay y 0).1 (ay y 0).2;have e0:=cx a y 0;have f0:=cy a y 0;rw [oQ,Int.add_zero] at e0 f0;have y1:=hT.qy.c 1 (by decide)
    obtain ⟨p1,q1⟩:=cw a (dg y 1) a0 a1 (ay y 1).1 (ay y 1).2;obtain ⟨c1,d1⟩:=dy a y 1 a0 a1;have e1:=cx a y 1;have f1:=cy a y 1;have y2:=hT.qy.c 2 (by decide)
    obtain ⟨p2,q2⟩:=cw a (dg y 2) a0 a1 (ay y 2).1 (ay y 2).2;obtain ⟨c2,d2⟩:=dy a y 2 a0 a1;have e2:=cx a y 2;have f2:=cy a y 2;have y3:=hT.qy.c 3 (by decide)
    obtain ⟨p3,q3⟩:=cw a (dg y 3) a0 a1 (ay y 3).1 (ay y 3).2;obtain ⟨c3,d3⟩:=dy a y 3 a0 a1;have e3:=cx a y 3;have f3:=cy a y 3;have y4:=hT.qy.c 4 (by decide)
    obtain ⟨p4,q4⟩:=cw a (dg y 4) a0 a1 (ay y 4).1 (ay y 4).2;obtain ⟨c4,d4⟩:=dy a y 4 a0 a1;have e4:=cx a y 4;have f4:=cy a y 4;have y5:=hT.qy.c 5 (by decide)
    obtain ⟨p5,q5⟩:=cw a (dg y 5) a0 a1 (ay y 5).1 (ay y 5).2;obtain ⟨c5,d5⟩:=dy a y 5 a0 a1;have e5:=cx a y 5;have f5:=cy a y 5;have y6:=hT.qy.c 6 (by decide)
    obtain ⟨p6,q6⟩:=cw a (dg y 6) a0 a1 (ay y 6).1 (ay y 6).2;obtain ⟨c6,d6⟩:=dy a y 6 a0 a1;have e6:=cx a y 6;have f6:=cy a y 6;simp only [Nat.zero_add,Nat.reduceAdd] at f0 f1 f2 f3 f4 f5 f6;have o0:=qo.c 0 (by decide)
    have o1:=qo.c 1 (by decide)
    have o2:=qo.c 2 (by decide)
    have o3:=qo.c 3 (by decide)
    have o4:=qo.c 4 (by decide)
    have o5:=qo.c 5 (by decide)
    have o6:=qo.c 6 (by decide)
    have o7:=qo.c 7 (by decide)
    have nZ:=hT.qo.lt;have fY:=hT.qx.lt;have sT:=hT.qy.lt;have sU:=hT.qr.lt;have fz:=hT.gb.frozen;have fo:∀ k,wr.frozen? ⟨w.heap.size+1+1+1,k,none⟩=false:=fun k=>(fz _).trans (dF w _ k (by omega))
    clear fz;go_wp2;refine wp_loop_rounds 8 ?_;rw [rounds_succ];go_wp2;go_quiet (fail);go_wp2;rw [rounds_succ];go_wp2;go_quiet (fail);go_wp2;rw [rounds_succ];go_wp2;go_quiet (fail);go_wp2;rw [rounds_succ];go_wp2;go_quiet (fail);go_wp2;rw [rounds_succ];go_wp2;go_quiet (fail);go_wp2;rw [rounds_succ];go_wp2;go_quiet (fail);go_wp2;rw [rounds_succ];go_wp2;go_quiet (fail);go_wp2;rw [rounds_succ];go_wp2_with fail;refine (afP o a y _ eA.o _).mono ?_;rintro e w1 ⟨rfl,g1⟩;obtain ⟨k1,f1,_⟩:=g1.facts;have Gc:ag (Gb wr w1):=(((Gb.refl wr).alloc _ _).drewN _).trans g1.gb;have s1:=Gb.size Gc.o;generalize hz:x%65536^(1+1)*y=z at *;go_wp2;go_roundw
    case rel =>
     refine ⟨1+1,by decide,by simp,TI.mk ((hT.gb.trans Gc.o).set8 (by omega) _ _ _ _ _ _ _ _) ((hT.qx.gb Gc.o).far8 (by omega) _ _ _ _ _ _ _ _) ((hT.qy.gb Gc.o).far8 (by omega) _ _ _ _ _ _ _ _) ((hT.qr.gb Gc.o).far8 (by omega) _ _ _ _ _ _ _ _) (((qo.gb Gc.o).set (z:=z)).at _ _ rfl hz.symm)⟩
    case measure=>simp [intOf]
   ·have hx:=hT.qx.c 2 (by decide)
    obtain ⟨a0,a1⟩:=ay x 2;have eA:ag _:=qs x y 2;obtain ⟨a,ha⟩:∃ a,ag (dg x 2=a):=⟨_,rfl⟩;rw [ha.o] at hx a0 a1 eA;obtain ⟨o,ho⟩:∃ o:Int,ag (x%65536^2*y=o):=⟨x%65536^2*y,Eq.refl (x%65536^2*y)⟩;have qo:=hT.qo;rw [ho.o] at qo eA;clear ho ha;have y0:=hT.qy.c 0 (by decide)
    obtain ⟨p0,q0⟩:=cw a (dg y 0) a0 a1 (ay y 0).1 (ay y 0).2;have e0:=cx a y 0;have f0:=cy a y 0;rw [oQ,Int.add_zero] at e0 f0;have y1:=hT.qy.c 1 (by decide)
    obtain ⟨p1,q1⟩:=cw a (dg y 1) a0 a1 (ay y 1).1 (ay y 1).2;obtain ⟨c1,d1⟩:=dy a y 1 a0 a1;have e1:=cx a y 1;have f1:=cy a y 1;have y2:=hT.qy.c 2 (by decide)
    obtain ⟨p2,q2⟩:=cw a (dg y 2) a0 a1 (ay y 2).1 (ay y 2).2;obtain ⟨c2,d2⟩:=dy a y 2 a0 a1;have e2:=cx a y 2;have f2:=cy a y 2;have y3:=hT.qy.c 3 (by decide)
    obtain ⟨p3,q3⟩:=cw a (dg y 3) a0 a1 (ay y 3).1 (ay y 3).2;obtain ⟨c3,d3⟩:=dy a y 3 a0 a1;have e3:=cx a y 3;have f3:=cy a y 3;have y4:=hT.qy.c 4 (by decide)
    obtain ⟨p4,q4⟩:=cw a (dg y 4) a0 a1 (ay y 4).1 (ay y 4).2;obtain ⟨c4,d4⟩:=dy a y 4 a0 a1;have e4:=cx a y 4;have f4:=cy a y 4;have y5:=hT.qy.c 5 (by decide)
    obtain ⟨p5,q5⟩:=cw a (dg y 5) a0 a1 (ay y 5).1 (ay y 5).2;obtain ⟨c5,d5⟩:=dy a y 5 a0 a1;have e5:=cx a y 5;have f5:=cy a y 5;simp only [Nat.zero_add,Nat.reduceAdd] at f0 f1 f2 f3 f4 f5;have o0:=qo.c 0 (by decide)
    have o1:=qo.c 1 (by decide)
    have o2:=qo.c 2 (by decide)
    have o3:=qo.c 3 (by decide)
    have o4:=qo.c 4 (by decide)
    have o5:=qo.c 5 (by decide)
    have o6:=qo.c 6 (by decide)
    have o7:=qo.c 7 (by decide)
    have nZ:=hT.qo.lt;have fY:=hT.qx.lt;have sT:=hT.qy.lt;have sU:=hT.qr.lt;have fz:=hT.gb.frozen;have fo:∀ k,wr.frozen? ⟨w.heap.size+1+1+1,k,none⟩=false:=fun k=>(fz _).trans (dF w _ k (by omega))
    clear fz;go_wp2;refine wp_loop_rounds 7 ?_;rw [rounds_succ];go_wp2;go_quiet (fail);go_wp2;rw [rounds_succ];go_wp2;go_quiet (fail);go_wp2;rw [rounds_succ];go_wp2;go_quiet (fail);go_wp2;rw [rounds_succ];go_wp2;go_quiet (fail);go_wp2;rw [rounds_succ];go_wp2;go_quiet (fail);go_wp2;rw [rounds_succ];go_wp2;go_quiet (fail);go_wp2;rw [rounds_succ];go_wp2_with fail;refine (afQ o a y _ eA.o _).mono ?_;rintro e w1 ⟨rfl,g1⟩;obtain ⟨k1,f1,_⟩:=g1.facts;have Gc:ag (Gb wr w1):=(((Gb.refl wr).alloc _ _).drewN _).trans g1.gb;have s1:=Gb.size Gc.o;generalize hz:x%65536^(2+1)*y=z at *;go_wp2;go_roundw
    case rel =>
     refine ⟨2+1,by decide,by simp,TI.mk ((hT.gb.trans Gc.o).set8 (by omega) _ _ _ _ _ _ _ _) ((hT.qx.gb Gc.o).far8 (by omega) _ _ _ _ _ _ _ _) ((hT.qy.gb Gc.o).far8 (by omega) _ _ _ _ _ _ _ _) ((hT.qr.gb Gc.o).far8 (by omega) _ _ _ _ _ _ _ _) (((qo.gb Gc.o).set (z:=z)).at _ _ rfl hz.symm)⟩
    case measure=>simp [intOf]
   ·have hx:=hT.qx.c 3 (by decide)
    obtain ⟨a0,a1⟩:=ay x 3;have eA:ag _:=qs x y 3;obtain ⟨a,ha⟩:∃ a,ag (dg x 3=a):=⟨_,rfl⟩;rw [ha.o] at hx a0 a1 eA;obtain ⟨o,ho⟩:∃ o:Int,ag (x%65536^3*y=o):=⟨x%65536^3*y,Eq.refl (x%65536^3*y)⟩;have qo:=hT.qo;rw [ho.o] at qo eA;clear ho ha;have y0:=hT.qy.c 0 (by decide)
    obtain ⟨p0,q0⟩:=cw a (dg y 0) a0 a1 (ay y 0).1 (ay y 0).2;have e0:=cx a y 0;have f0:=cy a y 0;rw [oQ,Int.add_zero] at e0 f0;have y1:=hT.qy.c 1 (by decide)
    obtain ⟨p1,q1⟩:=cw a (dg y 1) a0 a1 (ay y 1).1 (ay y 1).2;obtain ⟨c1,d1⟩:=dy a y 1 a0 a1;have e1:=cx a y 1;have f1:=cy a y 1;have y2:=hT.qy.c 2 (by decide)
    obtain ⟨p2,q2⟩:=cw a (dg y 2) a0 a1 (ay y 2).1 (ay y 2).2;obtain ⟨c2,d2⟩:=dy a y 2 a0 a1;have e2:=cx a y 2;have f2:=cy a y 2;have y3:=hT.qy.c 3 (by decide)
    obtain ⟨p3,q3⟩:=cw a (dg y 3) a0 a1 (ay y 3).1 (ay y 3).2;obtain ⟨c3,d3⟩:=dy a y 3 a0 a1;have e3:=cx a y 3;have f3:=cy a y 3;have y4:=hT.qy.c 4 (by decide)
    obtain ⟨p4,q4⟩:=cw a (dg y 4) a0 a1 (ay y 4).1 (ay y 4).2;obtain ⟨c4,d4⟩:=dy a y 4 a0 a1;have e4:=cx a y 4;have f4:=cy a y 4;simp only [Nat.zero_add,Nat.reduceAdd] at f0 f1 f2 f3 f4;have o0:=qo.c 0 (by decide)
    have o1:=qo.c 1 (by decide)
    have o2:=qo.c 2 (by decide)
    have o3:=qo.c 3 (by decide)
    have o4:=qo.c 4 (by decide)
    have o5:=qo.c 5 (by decide)
    have o6:=qo.c 6 (by decide)
    have o7:=qo.c 7 (by decide)
    have nZ:=hT.qo.lt;have fY:=hT.qx.lt;have sT:=hT.qy.lt;have sU:=hT.qr.lt;have fz:=hT.gb.frozen;have fo:∀ k,wr.frozen? ⟨w.heap.size+1+1+1,k,none⟩=false:=fun k=>(fz _).trans (dF w _ k (by omega))
    clear fz;go_wp2;refine wp_loop_rounds 6 ?_;rw [rounds_succ];go_wp2;go_quiet (fail);go_wp2;rw [rounds_succ];go_wp2;go_quiet (fail);go_wp2;rw [rounds_succ];go_wp2;go_quiet (fail);go_wp2;rw [rounds_succ];go_wp2;go_quiet (fail);go_wp2;rw [rounds_succ];go_wp2;go_quiet (fail);go_wp2;rw [rounds_succ];go_wp2_with fail;refine (afR o a y _ eA.o _).mono ?_;rintro e w1 ⟨rfl,g1⟩;obtain ⟨k1,f1,_⟩:=g1.facts;have Gc:ag (Gb wr w1):=(((Gb.refl wr).alloc _ _).drewN _).trans g1.gb;have s1:=Gb.size Gc.o;generalize hz:x%65536^(3+1)*y=z at *;go_wp2;go_roundw
    case rel =>
     refine ⟨3+1,by decide,by simp,TI.mk ((hT.gb.trans Gc.o).set8 (by omega) _ _ _ _ _ _ _ _) ((hT.qx.gb Gc.o).far8 (by omega) _ _ _ _ _ _ _ _) ((hT.qy.gb Gc.o).far8 (by omega) _ _ _ _ _ _ _ _) ((hT.qr.gb Gc.o).far8 (by omega) _ _ _ _ _ _ _ _) (((qo.gb Gc.o).set (z:=z)).at _ _ rfl hz.symm)⟩
    case measure=>simp [intOf]
   ·have hx:=hT.qx.c 4 (by decide)
    obtain ⟨a0,a1⟩:=ay x 4;have eA:ag _:=qs x y 4;obtain ⟨a,ha⟩:∃ a,ag (dg x 4=a):=⟨_,rfl⟩;rw [ha.o] at hx a0 a1 eA;obtain ⟨o,ho⟩:∃ o:Int,ag (x%65536^4*y=o):=⟨x%65536^4*y,Eq.refl (x%65536^4*y)⟩;have qo:=hT.qo;rw [ho.o] at qo eA;clear ho ha;have y0:=hT.qy.c 0 (by decide)
    obtain ⟨p0,q0⟩:=cw a (dg y 0) a0 a1 (ay y 0).1 (ay y 0).2;have e0:=cx a y 0;have f0:=cy a y 0;rw [oQ,Int.add_zero] at e0 f0;have y1:=hT.qy.c 1 (by decide)
    obtain ⟨p1,q1⟩:=cw a (dg y 1) a0 a1 (ay y 1).1 (ay y 1).2;obtain ⟨c1,d1⟩:=dy a y 1 a0 a1;have e1:=cx a y 1;have f1:=cy a y 1;have y2:=hT.qy.c 2 (by decide)
    obtain ⟨p2,q2⟩:=cw a (dg y 2) a0 a1 (ay y 2).1 (ay y 2).2;obtain ⟨c2,d2⟩:=dy a y 2 a0 a1;have e2:=cx a y 2;have f2:=cy a y 2;have y3:=hT.qy.c 3 (by decide)
    obtain ⟨p3,q3⟩:=cw a (dg y 3) a0 a1 (ay y 3).1 (ay y 3).2;obtain ⟨c3,d3⟩:=dy a y 3 a0 a1;have e3:=cx a y 3;have f3:=cy a y 3;simp only [Nat.zero_add,Nat.reduceAdd] at f0 f1 f2 f3;have o0:=qo.c 0 (by decide)
    have o1:=qo.c 1 (by decide)
    have o2:=qo.c 2 (by decide)
    have o3:=qo.c 3 (by decide)
    have o4:=qo.c 4 (by decide)
    have o5:=qo.c 5 (by decide)
    have o6:=qo.c 6 (by decide)
    have o7:=qo.c 7 (by decide)
    have nZ:=hT.qo.lt;have fY:=hT.qx.lt;have sT:=hT.qy.lt;have sU:=hT.qr.lt;have fz:=hT.gb.frozen;have fo:∀ k,wr.frozen? ⟨w.heap.size+1+1+1,k,none⟩=false:=fun k=>(fz _).trans (dF w _ k (by omega))
    clear fz;go_wp2;refine wp_loop_rounds 5 ?_;rw [rounds_succ];go_wp2;go_quiet (fail);go_wp2;rw [rounds_succ];go_wp2;go_quiet (fail);go_wp2;rw [rounds_succ];go_wp2;go_quiet (fail);go_wp2;rw [rounds_succ];go_wp2;go_quiet (fail);go_wp2;rw [rounds_succ];go_wp2_with fail;refine (afS o a y _ eA.o _).mono ?_;rintro e w1 ⟨rfl,g1⟩;obtain ⟨k1,f1,_⟩:=g1.facts;have Gc:ag (Gb wr w1):=(((Gb.refl wr).alloc _ _).drewN _).trans g1.gb;have s1:=Gb.size Gc.o;generalize hz:x%65536^(4+1)*y=z at *;go_wp2;go_roundw
    case rel =>
     refine ⟨4+1,by decide,by simp,TI.mk ((hT.gb.trans Gc.o).set8 (by omega) _ _ _ _ _ _ _ _) ((hT.qx.gb Gc.o).far8 (by omega) _ _ _ _ _ _ _ _) ((hT.qy.gb Gc.o).far8 (by omega) _ _ _ _ _ _ _ _) ((hT.qr.gb Gc.o).far8 (by omega) _ _ _ _ _ _ _ _) (((qo.gb Gc.o).set (z:=z)).at _ _ rfl hz.symm)⟩
    case measure=>simp [intOf]
   ·have hx:=hT.qx.c 5 (by decide)
    obtain ⟨a0,a1⟩:=ay x 5;have eA:ag _:=qs x y 5;obtain ⟨a,ha⟩:∃ a,ag (dg x 5=a):=⟨_,rfl⟩;rw [ha.o] at hx a0 a1 eA;obtain ⟨o,ho⟩:∃ o:Int,ag (x%65536^5*y=o):=⟨x%65536^5*y,Eq.refl (x%65536^5*y)⟩;have qo:=hT.qo;rw [ho.o] at qo eA;clear ho ha;have y0:=hT.qy.c 0 (by decide)
    obtain ⟨p0,q0⟩:=cw a (dg y 0) a0 a1 (ay y 0).1 (ay y 0).2;have e0:=cx a y 0;have f0:=cy a y 0;rw [oQ,Int.add_zero] at e0 f0;have y1:=hT.qy.c 1 (by decide)
    obtain ⟨p1,q1⟩:=cw a (dg y 1) a0 a1 (ay y 1).1 (ay y 1).2;obtain ⟨c1,d1⟩:=dy a y 1 a0 a1;have e1:=cx a y 1;have f1:=cy a y 1;have y2:=hT.qy.c 2 (by decide)
    obtain ⟨p2,q2⟩:=cw a (dg y 2) a0 a1 (ay y 2).1 (ay y 2).2;obtain ⟨c2,d2⟩:=dy a y 2 a0 a1;have e2:=cx a y 2;have f2:=cy a y 2;simp only [Nat.zero_add,Nat.reduceAdd] at f0 f1 f2;have o0:=qo.c 0 (by decide)
    have o1:=qo.c 1 (by decide)
    have o2:=qo.c 2 (by decide)
    have o3:=qo.c 3 (by decide)
    have o4:=qo.c 4 (by decide)
    have o5:=qo.c 5 (by decide)
    have o6:=qo.c 6 (by decide)
    have o7:=qo.c 7 (by decide)
    have nZ:=hT.qo.lt;have fY:=hT.qx.lt;have sT:=hT.qy.lt;have sU:=hT.qr.lt;have fz:=hT.gb.frozen;have fo:∀ k,wr.frozen? ⟨w.heap.size+1+1+1,k,none⟩=false:=fun k=>(fz _).trans (dF w _ k (by omega))
    clear fz;go_wp2;refine wp_loop_rounds 4 ?_;rw [rounds_succ];go_wp2;go_quiet (fail);go_wp2;rw [rounds_succ];go_wp2;go_quiet (fail);go_wp2;rw [rounds_succ];go_wp2;go_quiet (fail);go_wp2;rw [rounds_succ];go_wp2_with fail;refine (afT o a y _ eA.o _).mono ?_;rintro e w1 ⟨rfl,g1⟩;obtain ⟨k1,f1,_⟩:=g1.facts;have Gc:ag (Gb wr w1):=(((Gb.refl wr).alloc _ _).drewN _).trans g1.gb;have s1:=Gb.size Gc.o;generalize hz:x%65536^(5+1)*y=z at *;go_wp2;go_roundw
    case rel =>
     refine ⟨5+1,by decide,by simp,TI.mk ((hT.gb.trans Gc.o).set8 (by omega) _ _ _ _ _ _ _ _) ((hT.qx.gb Gc.o).far8 (by omega) _ _ _ _ _ _ _ _) ((hT.qy.gb Gc.o).far8 (by omega) _ _ _ _ _ _ _ _) ((hT.qr.gb Gc.o).far8 (by omega) _ _ _ _ _ _ _ _) (((qo.gb Gc.o).set (z:=z)).at _ _ rfl hz.symm)⟩
    case measure=>simp [intOf]
   ·have hx:=hT.qx.c 6 (by decide)
    obtain ⟨a0,a1⟩:=ay x 6;have eA:ag _:=qs x y 6;obtain ⟨a,ha⟩:∃ a,ag (dg x 6=a):=⟨_,rfl⟩;rw [ha.o] at hx a0 a1 eA;obtain ⟨o,ho⟩:∃ o:Int,ag (x%65536^6*y=o):=⟨x%65536^6*y,Eq.refl (x%65536^6*y)⟩;have qo:=hT.qo;rw [ho.o] at qo eA;clear ho ha;have y0:=hT.qy.c 0 (by decide)
    obtain ⟨p0,q0⟩:=cw a (dg y 0) a0 a1 (ay y 0).1 (ay y 0).2;have e0:=cx a y 0;have f0:=cy a y 0;rw [oQ,Int.add_zero] at e0 f0;have y1:=hT.qy.c 1 (by decide)
    obtain ⟨p1,q1⟩:=cw a (dg y 1) a0 a1 (ay y 1).1 (ay y 1).2;obtain ⟨c1,d1⟩:=dy a y 1 a0 a1;have e1:=cx a y 1;have f1:=cy a y 1;simp only [Nat.zero_add,Nat.reduceAdd] at f0 f1;have o0:=qo.c 0 (by decide)
    have o1:=qo.c 1 (by decide)
    have o2:=qo.c 2 (by decide)
    have o3:=qo.c 3 (by decide)
    have o4:=qo.c 4 (by decide)
    have o5:=qo.c 5 (by decide)
    have o6:=qo.c 6 (by decide)
    have o7:=qo.c 7 (by decide)
    have nZ:=hT.qo.lt;have fY:=hT.qx.lt;have sT:=hT.qy.lt;have sU:=hT.qr.lt;have fz:=hT.gb.frozen;have fo:∀ k,wr.frozen? ⟨w.heap.size+1+1+1,k,none⟩=false:=fun k=>(fz _).trans (dF w _ k (by omega))
    clear fz;go_wp2;refine wp_loop_rounds 3 ?_;rw [rounds_succ];go_wp2;go_quiet (fail);go_wp2;rw [rounds_succ];go_wp2;go_quiet (fail);go_wp2;rw [rounds_succ];go_wp2_with fail;refine (afU o a y _ eA.o _).mono ?_;rintro e w1 ⟨rfl,g1⟩;obtain ⟨k1,f1,_⟩:=g1.facts;have Gc:ag (Gb wr w1):=(((Gb.refl wr).alloc _ _).drewN _).trans g1.gb;have s1:=Gb.size Gc.o;generalize hz:x%65536^(6+1)*y=z at *;go_wp2;go_roundw
    case rel =>
     refine ⟨6+1,by decide,by simp,TI.mk ((hT.gb.trans Gc.o).set8 (by omega) _ _ _ _ _ _ _ _) ((hT.qx.gb Gc.o).far8 (by omega) _ _ _ _ _ _ _ _) ((hT.qy.gb Gc.o).far8 (by omega) _ _ _ _ _ _ _ _) ((hT.qr.gb Gc.o).far8 (by omega) _ _ _ _ _ _ _ _) (((qo.gb Gc.o).set (z:=z)).at _ _ rfl hz.symm)⟩
    case measure=>simp [intOf]
   ·have hx:=hT.qx.c 7 (by decide)
    obtain ⟨a0,a1⟩:=ay x 7;have eA:ag _:=qs x y 7;obtain ⟨a,ha⟩:∃ a,ag (dg x 7=a):=⟨_,rfl⟩;rw [ha.o] at hx a0 a1 eA;obtain ⟨o,ho⟩:∃ o:Int,ag (x%65536^7*y=o):=⟨x%65536^7*y,Eq.refl (x%65536^7*y)⟩;have qo:=hT.qo;rw [ho.o] at qo eA;clear ho ha;have y0:=hT.qy.c 0 (by decide)
    obtain ⟨p0,q0⟩:=cw a (dg y 0) a0 a1 (ay y 0).1 (ay y 0).2;have e0:=cx a y 0;have f0:=cy a y 0;rw [oQ,Int.add_zero] at e0 f0;simp only [Nat.zero_add] at f0;have o0:=qo.c 0 (by decide)
    have o1:=qo.c 1 (by decide)
    have o2:=qo.c 2 (by decide)
    have o3:=qo.c 3 (by decide)
    have o4:=qo.c 4 (by decide)
    have o5:=qo.c 5 (by decide)
    have o6:=qo.c 6 (by decide)
    have o7:=qo.c 7 (by decide)
    have nZ:=hT.qo.lt;have fY:=hT.qx.lt;have sT:=hT.qy.lt;have sU:=hT.qr.lt;have fz:=hT.gb.frozen;have fo:∀ k,wr.frozen? ⟨w.heap.size+1+1+1,k,none⟩=false:=fun k=>(fz _).trans (dF w _ k (by omega))
    clear fz;go_wp2;refine wp_loop_rounds 2 ?_;rw [rounds_succ];go_wp2;go_quiet (fail);go_wp2;rw [rounds_succ];go_wp2_with fail;refine (afV o a y _ eA.o _).mono ?_;rintro e w1 ⟨rfl,g1⟩;obtain ⟨k1,f1,_⟩:=g1.facts;have Gc:ag (Gb wr w1):=(((Gb.refl wr).alloc _ _).drewN _).trans g1.gb;have s1:=Gb.size Gc.o;generalize hz:x%65536^(7+1)*y=z at *;go_wp2;go_roundw
    case rel =>
     refine ⟨7+1,by decide,by simp,TI.mk ((hT.gb.trans Gc.o).set8 (by omega) _ _ _ _ _ _ _ _) ((hT.qx.gb Gc.o).far8 (by omega) _ _ _ _ _ _ _ _) ((hT.qy.gb Gc.o).far8 (by omega) _ _ _ _ _ _ _ _) ((hT.qr.gb Gc.o).far8 (by omega) _ _ _ _ _ _ _ _) (((qo.gb Gc.o).set (z:=z)).at _ _ rfl hz.symm)⟩
    case measure=>simp [intOf]
end Go.Proofs.YtcboobmfnmgldaaGreat
namespace Go.Proofs.YtcboobmfnmgldaaGreat
open Go.RowKit
attribute [local go_sem] frozen?_alloc_cells dF Ct Cu World.drewN_drewN
theorem Wo (n:Int) (h0:-9223372036854775808<=n) (h1:n<9223372036854775808) (w:World) :
  Calls prog 177 #[AI n] w fun e w'=>e=.returned (.agg #[AI (aq (n)),By (av (n))])/\Gk 1 w w':=by
 have e2:IntKind.u64.wrap n=av n:=by unfold av;rw [IntKind.wrap_u64]
 by_cases hn:n<0
 ·have e1:aq n=-1:=by unfold aq;omega
  go_enter func177,ntmps177;go_wp2;refine bodyPost_ret (v:=.agg #[AI (aq (n)),By (av (n))]) (by simp [results,results177,go_sem,e1]) rfl ⟨rfl,(Gb.refl _).alloc _ _,by simp⟩
 ·have e1:aq n=0:=by unfold aq;omega
  have e3:av n=n:=by unfold av;omega
  clear e2;rw [e1,e3];clear e1 e3;go_enter func177,ntmps177;go_wp2;refine bodyPost_ret (v:=.agg #[AI 0,By n]) (by simp [results,results177,go_sem]) rfl ⟨rfl,(Gb.refl _).alloc _ _,by simp⟩
theorem Wp (h l x:Int) (e1:h=aq x) (e2:l=av x) (w:World) :
  Calls prog 172 #[.agg #[AI h,By l]] w fun e w'=>e=.returned (.agg #[AI (dg (x) 0),AI (dg (x) 1),AI (dg (x) 2),AI (dg (x) 3),AI (dg (x) 4),AI (dg (x) 5),AI (dg (x) 6),AI (dg (x) 7)])/\Gk 3 w w':=by
 subst e1 e2;exact uI x w
structure TS (w w':World) (bx bY:Nat) (x y:Int):Prop where
 gb:Gb w w'
 qx:H8 w' bx x
 qy:H8 w' bY y
 nx:w.heap.size≠bx
 ny:w.heap.size≠bY
variable {w w':World} {x y:Int}
theorem TS.gb' {dG:World} {bx bY:Nat} (h:TS w w' bx bY x y) (g:Gb w' dG):TS w dG bx bY x y :=
 ⟨h.gb.trans g,h.qx.gb g,h.qy.gb g,h.nx,h.ny⟩
theorem TS.set {bx bY:Nat} (h:TS w w' bx bY x y) (u v:Value):TS w ((w'.setCell ⟨w.heap.size,0,none⟩ u).setCell ⟨w.heap.size,1,none⟩ v) bx bY x y :=
 ⟨(h.gb.setCell (Nat.le_refl _) _).setCell (Nat.le_refl _) _,(h.qx.far _ (Ne.symm h.nx)).far _ (Ne.symm h.nx),(h.qy.far _ (Ne.symm h.ny)).far _ (Ne.symm h.ny),h.nx,h.ny⟩
theorem Wr (a b:Int) (h0:-9223372036854775808<=a) (h1:a<9223372036854775808) (b0:0<=b) (b1:b<18446744073709551616) (w:World) :
  Calls prog 154 #[AI a,By b] w fun e w'=>e=.returned (.agg #[AI (aq (a*b)),By (av (a*b))])/\Gb w w':=by
 have hb:0=aq b:=by unfold aq;omega
 have lb:b=av b:=by unfold av;omega
 have HB:ag _:=hb;have LB:ag _:=lb;clear hb lb;have eN:-(-a*b)=a*b:=by rw [Int.neg_mul,Int.neg_neg]
 by_cases hn:a<0
 ·go_enter func154,ntmps154
  go_wp2_with fail;refine (Wo a h0 h1 _).mono ?_
  rintro e w1 ⟨rfl,g1⟩;have q:=(H2.new w (AI 0) (By 0) 233).gb g1.gb;go_wp2_with fail;refine (uI a _).mono ?_;rintro e w2 ⟨rfl,g2⟩;have qx:=H8.new w2 a 263;replace q:=(q.gb g2.gb).alloc (.cells #[AI (dg a 0),AI (dg a 1),AI (dg a 2),AI (dg a 3),AI (dg a 4),AI (dg a 5),AI (dg a 6),AI (dg a 7)] 263);go_wp2_with fail;refine (Wp 0 b b HB.o LB.o _).mono ?_;rintro e w3 ⟨rfl,g3⟩;replace qx:=(qx.gb g3.gb).alloc #[AI (dg b 0),AI (dg b 1),AI (dg b 2),AI (dg b 3),AI (dg b 4),AI (dg b 5),AI (dg b 6),AI (dg b 7)] 263;replace q:=(q.gb g3.gb).alloc (.cells #[AI (dg b 0),AI (dg b 1),AI (dg b 2),AI (dg b 3),AI (dg b 4),AI (dg b 5),AI (dg b 6),AI (dg b 7)] 263);have qy:=H8.new w3 b 263;have GV:ag (Gb w (w3.alloc (.cells #[AI (dg b 0),AI (dg b 1),AI (dg b 2),AI (dg b 3),AI (dg b 4),AI (dg b 5),AI (dg b 6),AI (dg b 7)] 263))):=((((((Gb.refl w).alloc _ _).trans g1.gb).trans g2.gb).alloc _ _).trans g3.gb).alloc _ _;have JY:w.heap.size≠w2.heap.size:=by (have h1:=g1.grew;have h2:=g2.grew;simp at h1 h2;omega)
  have JZ:w.heap.size≠w3.heap.size:=by (have h1:=g1.grew;have h2:=g2.grew;have h3:=g3.grew;simp at h1 h2 h3;omega)
  clear g1 g2 g3 HB LB;go_wp2_with fail;generalize w3.alloc (.cells #[AI (dg b 0),AI (dg b 1),AI (dg b 2),AI (dg b 3),AI (dg b 4),AI (dg b 5),AI (dg b 6),AI (dg b 7)] 263)=V at q qx qy GV ⊢;have q0:=q.c0;have q1:=q.c1;have q2:=q.drew;have q3:∀ o,w.frozen? ⟨w.heap.size,o,none⟩=false:=fun o=>dF w _ o (Nat.le_refl _)
  have q4:=GV.o.frozen
  try simp only [frozen?_alloc_cells] at q4
  have J0:ag (TS w V w2.heap.size w3.heap.size a b):=⟨GV.o,qx,qy,JY,JZ⟩;have HK:ag (∀ w',TS w w' w2.heap.size w3.heap.size a b->TS w w' w2.heap.size w3.heap.size a b/\w'.cell? ⟨w2.heap.size,0,none⟩=some (AI (dg a 0))/\w'.cell? ⟨w2.heap.size,1,none⟩=some (AI (dg a 1))/\w'.cell? ⟨w2.heap.size,2,none⟩=some (AI (dg a 2))/\w'.cell? ⟨w2.heap.size,3,none⟩=some (AI (dg a 3))/\w'.cell? ⟨w2.heap.size,4,none⟩=some (AI (dg a 4))/\w'.cell? ⟨w2.heap.size,5,none⟩=some (AI (dg a 5))/\w'.cell? ⟨w2.heap.size,6,none⟩=some (AI (dg a 6))/\w'.cell? ⟨w2.heap.size,7,none⟩=some (AI (dg a 7))/\w'.cell? ⟨w3.heap.size,0,none⟩=some (AI (dg b 0))/\w'.cell? ⟨w3.heap.size,1,none⟩=some (AI (dg b 1))/\w'.cell? ⟨w3.heap.size,2,none⟩=some (AI (dg b 2))/\w'.cell? ⟨w3.heap.size,3,none⟩=some (AI (dg b 3))/\w'.cell? ⟨w3.heap.size,4,none⟩=some (AI (dg b 4))/\w'.cell? ⟨w3.heap.size,5,none⟩=some (AI (dg b 5))/\w'.cell? ⟨w3.heap.size,6,none⟩=some (AI (dg b 6))/\w'.cell? ⟨w3.heap.size,7,none⟩=some (AI (dg b 7))):=fun w' h=>⟨h,h.qx.c 0 (by decide),h.qx.c 1 (by decide),h.qx.c 2 (by decide),h.qx.c 3 (by decide),h.qx.c 4 (by decide),h.qx.c 5 (by decide),h.qx.c 6 (by decide),h.qx.c 7 (by decide),h.qy.c 0 (by decide),h.qy.c 1 (by decide),h.qy.c 2 (by decide),h.qy.c 3 (by decide),h.qy.c 4 (by decide),h.qy.c 5 (by decide),h.qy.c 6 (by decide),h.qy.c 7 (by decide)⟩
  clear qx qy;go_region_held3 (fun w'=>TS w w' w2.heap.size w3.heap.size a b/\w'.cell? ⟨w2.heap.size,0,none⟩=some (AI (dg a 0))/\w'.cell? ⟨w2.heap.size,1,none⟩=some (AI (dg a 1))/\w'.cell? ⟨w2.heap.size,2,none⟩=some (AI (dg a 2))/\w'.cell? ⟨w2.heap.size,3,none⟩=some (AI (dg a 3))/\w'.cell? ⟨w2.heap.size,4,none⟩=some (AI (dg a 4))/\w'.cell? ⟨w2.heap.size,5,none⟩=some (AI (dg a 5))/\w'.cell? ⟨w2.heap.size,6,none⟩=some (AI (dg a 6))/\w'.cell? ⟨w2.heap.size,7,none⟩=some (AI (dg a 7))/\w'.cell? ⟨w3.heap.size,0,none⟩=some (AI (dg b 0))/\w'.cell? ⟨w3.heap.size,1,none⟩=some (AI (dg b 1))/\w'.cell? ⟨w3.heap.size,2,none⟩=some (AI (dg b 2))/\w'.cell? ⟨w3.heap.size,3,none⟩=some (AI (dg b 3))/\w'.cell? ⟨w3.heap.size,4,none⟩=some (AI (dg b 4))/\w'.cell? ⟨w3.heap.size,5,none⟩=some (AI (dg b 5))/\w'.cell? ⟨w3.heap.size,6,none⟩=some (AI (dg b 6))/\w'.cell? ⟨w3.heap.size,7,none⟩=some (AI (dg b 7)))
   ((refine HK.o _ ?_;first | exact J0.o.gb' (Gb.refl V).drew | exact TS.gb' (And.left (by assumption)) (Gk.gb (by assumption)) | exact TS.gb' (And.left (by assumption)) (by assumption) | exact TS.set (And.left (by assumption)) _ _))
   (first
    | (go_at_call 174;refine (uK _ _).mono ?_;rintro e w4 ⟨rfl,g4⟩;have f4:=g4.gb.frozen;have r4:=H2.gb (by assumption) g4.gb;have c4:=r4.c0;have c5:=r4.c1)
    | (go_at_call 178;refine (Wn _ _ _).mono ?_;rintro e w4 ⟨rfl,g4⟩;have f4:=g4.frozen;have r4:=H2.gb (by assumption) g4;have c4:=r4.c0;have c5:=r4.c1)
    | (go_at_call 175;refine (uJ _ _).mono ?_;rintro e w4 ⟨rfl,g4⟩;have f4:=g4.gb.frozen;have r4:=H2.gb (by assumption) g4.gb;have c4:=r4.c0;have c5:=r4.c1))
  go_wp2
  have G:Gb w _:=TS.gb (And.left (by assumption))
  refine bodyPost_ret (v:=.agg #[AI (aq (a*b)),By (av (a*b))]) (by simp [results,results154,go_sem, *]) rfl ⟨rfl,G⟩
 ·go_enter func154,ntmps154
  go_wp2_with fail;refine (Wo a h0 h1 _).mono ?_
  rintro e w1 ⟨rfl,g1⟩;have q:=(H2.new w (AI 0) (By 0) 233).gb g1.gb;go_wp2_with fail;refine (uI a _).mono ?_;rintro e w2 ⟨rfl,g2⟩;have qx:=H8.new w2 a 263;replace q:=(q.gb g2.gb).alloc (.cells #[AI (dg a 0),AI (dg a 1),AI (dg a 2),AI (dg a 3),AI (dg a 4),AI (dg a 5),AI (dg a 6),AI (dg a 7)] 263);go_wp2_with fail;refine (Wp 0 b b HB.o LB.o _).mono ?_;rintro e w3 ⟨rfl,g3⟩;replace qx:=(qx.gb g3.gb).alloc #[AI (dg b 0),AI (dg b 1),AI (dg b 2),AI (dg b 3),AI (dg b 4),AI (dg b 5),AI (dg b 6),AI (dg b 7)] 263;replace q:=(q.gb g3.gb).alloc (.cells #[AI (dg b 0),AI (dg b 1),AI (dg b 2),AI (dg b 3),AI (dg b 4),AI (dg b 5),AI (dg b 6),AI (dg b 7)] 263);have qy:=H8.new w3 b 263;have GV:ag (Gb w (w3.alloc (.cells #[AI (dg b 0),AI (dg b 1),AI (dg b 2),AI (dg b 3),AI (dg b 4),AI (dg b 5),AI (dg b 6),AI (dg b 7)] 263))):=((((((Gb.refl w).alloc _ _).trans g1.gb).trans g2.gb).alloc _ _).trans g3.gb).alloc _ _;have JY:w.heap.size≠w2.heap.size:=by (have h1:=g1.grew;have h2:=g2.grew;simp at h1 h2;omega)
  have JZ:w.heap.size≠w3.heap.size:=by (have h1:=g1.grew;have h2:=g2.grew;have h3:=g3.grew;simp at h1 h2 h3;omega)
  clear g1 g2 g3 HB LB;have q0:=q.c0;have q1:=q.c1;have q2:=q.drew;have q3:∀ o,w.frozen? ⟨w.heap.size,o,none⟩=false:=fun o=>dF w _ o (Nat.le_refl _)
  have q4:=GV.o.frozen
  try simp only [frozen?_alloc_cells] at q4
  have J0:ag (TS w (w3.alloc (.cells #[AI (dg b 0),AI (dg b 1),AI (dg b 2),AI (dg b 3),AI (dg b 4),AI (dg b 5),AI (dg b 6),AI (dg b 7)] 263)) w2.heap.size w3.heap.size a b):=⟨GV.o,qx,qy,JY,JZ⟩;have HK:ag (∀ w',TS w w' w2.heap.size w3.heap.size a b->TS w w' w2.heap.size w3.heap.size a b/\w'.cell? ⟨w2.heap.size,0,none⟩=some (AI (dg a 0))/\w'.cell? ⟨w2.heap.size,1,none⟩=some (AI (dg a 1))/\w'.cell? ⟨w2.heap.size,2,none⟩=some (AI (dg a 2))/\w'.cell? ⟨w2.heap.size,3,none⟩=some (AI (dg a 3))/\w'.cell? ⟨w2.heap.size,4,none⟩=some (AI (dg a 4))/\w'.cell? ⟨w2.heap.size,5,none⟩=some (AI (dg a 5))/\w'.cell? ⟨w2.heap.size,6,none⟩=some (AI (dg a 6))/\w'.cell? ⟨w2.heap.size,7,none⟩=some (AI (dg a 7))/\w'.cell? ⟨w3.heap.size,0,none⟩=some (AI (dg b 0))/\w'.cell? ⟨w3.heap.size,1,none⟩=some (AI (dg b 1))/\w'.cell? ⟨w3.heap.size,2,none⟩=some (AI (dg b 2))/\w'.cell? ⟨w3.heap.size,3,none⟩=some (AI (dg b 3))/\w'.cell? ⟨w3.heap.size,4,none⟩=some (AI (dg b 4))/\w'.cell? ⟨w3.heap.size,5,none⟩=some (AI (dg b 5))/\w'.cell? ⟨w3.heap.size,6,none⟩=some (AI (dg b 6))/\w'.cell? ⟨w3.heap.size,7,none⟩=some (AI (dg b 7))):=fun w' h=>⟨h,h.qx.c 0 (by decide),h.qx.c 1 (by decide),h.qx.c 2 (by decide),h.qx.c 3 (by decide),h.qx.c 4 (by decide),h.qx.c 5 (by decide),h.qx.c 6 (by decide),h.qx.c 7 (by decide),h.qy.c 0 (by decide),h.qy.c 1 (by decide),h.qy.c 2 (by decide),h.qy.c 3 (by decide),h.qy.c 4 (by decide),h.qy.c 5 (by decide),h.qy.c 6 (by decide),h.qy.c 7 (by decide)⟩
  clear qx qy;obtain ⟨_,t0,t1,t2,t3,t4,t5,t6,t7,t8,t9,t10,t11,t12,t13,t14,t15⟩:=HK.o _ J0.o;go_wp2_with (first
   | (go_at_call 174;refine (uK _ _).mono ?_;rintro e w4 ⟨rfl,g4⟩;have f4:=g4.gb.frozen;have r4:=H2.gb (by assumption) g4.gb;have c4:=r4.c0;have c5:=r4.c1)
   | (go_at_call 178;refine (Wn _ _ _).mono ?_;rintro e w4 ⟨rfl,g4⟩;have f4:=g4.frozen;have r4:=H2.gb (by assumption) g4;have c4:=r4.c0;have c5:=r4.c1)
   | (go_at_call 175;refine (uJ _ _).mono ?_;rintro e w4 ⟨rfl,g4⟩;have f4:=g4.gb.frozen;have r4:=H2.gb (by assumption) g4.gb;have c4:=r4.c0;have c5:=r4.c1))
  refine bodyPost_ret (v:=.agg #[AI (aq (a*b)),By (av (a*b))]) (by simp [results,results154,go_sem, *]) rfl ⟨rfl,?_⟩
  refine Gb.setCell (Gb.setCell ?_ (Nat.le_refl _) _) (Nat.le_refl _) _
  repeat (first | exact GV.o | refine Gb.trans ?_ (Gk.gb (by assumption)) | refine Gb.trans ?_ (by assumption))
end Go.Proofs.YtcboobmfnmgldaaGreat
namespace Go.Proofs.YtcboobmfnmgldaaGreat
open Go.RowKit
attribute [local go_sem] frozen?_alloc_cells dF Ct Cu World.drewN_drewN
variable {w:World} {b:Nat} {x y:Int}
theorem H8.congr (h:H8 w b x) (e:∀ k,k<8->dg x k=dg y k):H8 w b y :=
 ⟨h.lt,fun k hk=>(h.c k hk).trans (by rw [e k hk])⟩
variable {z:Int}
theorem H8.put {V V':Int} (h:H8 w b V) (i:Nat) (hi:i<8) (hv:∀ k,k<8->dg V' k=if k=i then z else dg V k):H8 (w.setCell ⟨b,i,none⟩ (AI z)) b V':=by
 refine ⟨by simpa [World.setCell] using h.lt,fun k hk=>?_⟩
 rw [hv k hk];by_cases e:k=i
 ·subst e;rw [if_pos rfl];exact World.cell?_setCell_same _ _ _ (h.c k hk)
 ·rw [if_neg e,<-h.c k hk];exact World.cell?_setCell_other _ _ _ _ (by simp)
variable {b':Nat}
theorem H2.far {o':Nat} {u v:Value} (h:H2 w b u v) (z:Value) (hb:b≠b'):H2 (w.setCell ⟨b',o',none⟩ z) b u v :=
 ⟨by simpa [World.setCell] using h.lt,(cell_far w b 0 b' o' z hb).trans h.c0,(cell_far w b 1 b' o' z hb).trans h.c1⟩
theorem afX (x:Int) (k:Nat) (h:k<8):dg x k=dg (sv x) k:=by
 obtain ⟨t,ht⟩:∃ t:Int,x=sv x+t*65536^8:=⟨(x+170141183460469231731687303715884105728)/340282366920938463463374607431768211456,by rw [sZ];omega⟩
 rw [ht,C5 _ _ _ h,<-ht]
theorem afY (x:Int) (k:Nat) (h:k<8):dg (-x) k=dg (-sv x) k:=by
 obtain ⟨t,ht⟩:∃ t:Int,-x=-sv x+t*65536^8:=⟨-((x+170141183460469231731687303715884105728)/340282366920938463463374607431768211456),by rw [sZ];omega⟩
 rw [ht,C5 _ _ _ h]
theorem H2.far8 {u v:Value} (h:H2 w b u v) (hb:b≠b') (v0 v1 v2 v3 v4 v5 v6 v7:Value) :
  H2 ((((((((w.setCell ⟨b',0,none⟩ v0).setCell ⟨b',1,none⟩ v1).setCell ⟨b',2,none⟩ v2).setCell ⟨b',3,none⟩ v3).setCell ⟨b',4,none⟩ v4).setCell ⟨b',5,none⟩ v5).setCell ⟨b',6,none⟩ v6).setCell ⟨b',7,none⟩ v7) b u v :=
 (((((((h.far v0 hb).far v1 hb).far v2 hb).far v3 hb).far v4 hb).far v5 hb).far v6 hb).far v7 hb
theorem afZ (u d:Int) (hd:0<d) (h:u%d=0):-u/d=-(u/d)/\-u%d=0:=by
 have e:=Int.mul_ediv_add_emod u d;have e2:-u=0+-(u/d)*d:=by rw [Int.neg_mul,Int.mul_comm];omega
 rw [e2,Int.add_mul_ediv_right _ _ (by omega),Int.add_mul_emod_self_right];simp
theorem af0 (u d:Int) (hd:0<d) (h:¬ u%d=0):-u/d=-(u/d+1)/\-u%d=d-u%d:=by
 have e:=Int.mul_ediv_add_emod u d;have m0:=Int.emod_nonneg u (b:=d) (by omega)
 have m1:=Int.emod_lt_of_pos u hd;have e2:-u=(d-u%d)+-(u/d+1)*d:=by rw [Int.neg_mul,Int.add_mul,Int.mul_comm (u/d)];omega
 have e3:(d-u%d)/d=0:=Int.ediv_eq_zero_of_lt (by omega) (by omega)
 constructor
 ·rw [e2,Int.add_mul_ediv_right _ _ (by omega),e3];omega
 ·rw [e2,Int.add_mul_emod_self_right,Int.emod_eq_of_lt (by omega) (by omega)]
structure DS (w w':World) (bn bq:Nat) (u v:Int):Prop where
 gb:Gb w w'
 qn:H8 w' bn u
 qq:H8 w' bq v
 q1:H2 w' (w.heap.size+1) (AI 0) (By 0)
 nb:bn≠bq
 n1:w.heap.size+1≠bq
 hq:w.heap.size<=bq
variable {w':World}
theorem DS.put {bn bq:Nat} {u V V':Int} (h:DS w w' bn bq u V) (i:Nat) (hi:i<8) (hv:∀ k,k<8->dg V' k=if k=i then z else dg V k) :
  DS w (w'.setCell ⟨bq,i,none⟩ (AI z)) bn bq u V' :=
 ⟨h.gb.setCell h.hq _,h.qn.far _ h.nb,h.qq.put i hi hv,h.q1.far _ h.n1,h.nb,h.n1,h.hq⟩
theorem af1 (x d:Int) (hx:0<=sv x) (d0:0<d) (d1:d<18446744073709551616) (w:World) :
  Calls prog 153 #[.agg #[AI (aq (x)),By (av (x))],By d] w fun e w'=>e=.returned (.tuple #[.agg #[AI (aq (sv x/d)),By (av (sv x/d))],By (sv x%d),AI 0])/\Gb w w':=by
 have hd:(d == 0)=false:=by simp;omega
 have bx:=Wl x;have v1:decide (32768<=dg x 7)=false:=by simp;omega
 clear bx;obtain ⟨u,hu⟩:∃ u,ag (sv x=u):=⟨_,rfl⟩;have u0:0<=u:=by rw [<-hu.o];exact hx
 have u1:u<2^128:=by rw [<-hu.o,sZ];omega
 obtain ⟨Q,hQ⟩:∃ Q,ag (u/d=Q):=⟨_,rfl⟩;rw [hu.o,hQ.o];go_enter func153,ntmps153;go_wp2_with fail;have q1:=(H2.new (w.alloc (.cells #[AI (aq x),By (av x)] 233)) (AI 0) (By 0) 233).at (w.heap.size+1) (by simp)
 have G:Gb w _:=((Gb.refl w).alloc #[AI (aq x),By (av x)] 233).alloc #[AI 0,By 0] 233;refine (uI x _).mono ?_;rintro e w1 ⟨rfl,g1⟩;replace G:=(G.trans g1.gb).alloc #[AI (dg x 0),AI (dg x 1),AI (dg x 2),AI (dg x 3),AI (dg x 4),AI (dg x 5),AI (dg x 6),AI (dg x 7)] 263;replace q1:=(q1.gb g1.gb).alloc (.cells #[AI (dg x 0),AI (dg x 1),AI (dg x 2),AI (dg x 3),AI (dg x 4),AI (dg x 5),AI (dg x 6),AI (dg x 7)] 263);have qn:=H8.new w1 x 263;have s1:w.heap.size+1<w1.heap.size:=by (have:=g1.grew;simp at this;omega)
 clear g1;go_wp2_with fail;refine (Wm x _).mono ?_;rintro e w2 ⟨rfl,g2⟩;replace G:=(G.trans g2.gb).alloc #[AI 0,AI 0,AI 0,AI 0,AI 0,AI 0,AI 0,AI 0] 263;replace q1:=(q1.gb g2.gb).alloc (.cells #[AI 0,AI 0,AI 0,AI 0,AI 0,AI 0,AI 0,AI 0] 263);replace qn:=((qn.gb g2.gb).alloc #[AI 0,AI 0,AI 0,AI 0,AI 0,AI 0,AI 0,AI 0] 263).congr (y:=u) (fun k hk=>by rw [afX x k hk,hu.o])
 have qq:=(H8.new0 w2 263).congr (y:=qp Q 128) (fun k hk=>by rw [Kz Q (by rw [<-hQ.o];exact Int.ediv_nonneg u0 (by omega)) (by rw [<-hQ.o];exact Int.lt_of_le_of_lt (Int.ediv_le_self _ u0) u1)])
 have s2:w1.heap.size<w2.heap.size:=by (have:=g2.grew;simp at this;omega)
 have D0:ag (DS w (w2.alloc (.cells #[AI 0,AI 0,AI 0,AI 0,AI 0,AI 0,AI 0,AI 0] 263)) w1.heap.size w2.heap.size u (qp Q 128)):=⟨G,qn,qq,q1,by omega,by omega,by omega⟩
 clear G q1 qn qq g2;have k0:ag _:=KD u d u0 u1;go_wp2;go_loopw [10,11] (fun r i w'=>∃ m:Nat,m<=8/\i=AI ((m:Int)-1)/\r=By (rp u d (16*m))/\ag (DS w w' w1.heap.size w2.heap.size u (qp Q (16*m)))) (fun _ i _=>(intOf i+1).toNat)
 case atStart=>exact ⟨8,by decide,rfl,by rw [k0.o],D0⟩
 case round =>
  obtain ⟨m,hm,rfl,rfl,hD⟩:=hrel
  rename World=>wr
  cases m with
  | zero =>
   have qq:=hD.o.qq;rw [Nat.mul_zero,KF] at qq;rw [Nat.mul_zero,Db];obtain ⟨r1,r2,r3⟩:=hD.o.q1;have fr:∀ k,wr.frozen? ⟨w.heap.size+1,k,none⟩=false:=fun k=>(hD.o.gb.frozen _).trans (dF w _ k (by omega))
   have o0:=qq.c 0 (by decide)
   have o1:=qq.c 1 (by decide)
   have o2:=qq.c 2 (by decide)
   have o3:=qq.c 3 (by decide)
   have o4:=qq.c 4 (by decide)
   have o5:=qq.c 5 (by decide)
   have o6:=qq.c 6 (by decide)
   have o7:=qq.c 7 (by decide)
   go_wp2_with fail;refine (uJ Q _).mono ?_
   rintro e w3 ⟨rfl,g3⟩;obtain ⟨k3,f3⟩:=g3.gb.facts;go_wp2;refine bodyPost_ret (v:=.tuple #[.agg #[AI (aq (Q)),By (av (Q))],By (u%d),AI 0]) (by simp [results,results153,go_sem, *]) rfl ⟨rfl,?_⟩
   exact ((hD.o.gb.trans g3.gb).setCell (by simp) _).setCell (by simp) _
  | succ i =>
   have e0:((i+1:Nat):Int)-1=(i:Int):=by omega
   rw [e0];have kv:i<8:=by omega
   have i1:(0:Int)<=(i:Int):=by omega
   have i2:(i:Int)<8:=by omega
   go_wp2
   go_loopw [10,12] (fun r k w'=>∃ b:Nat,b<=16/\k=AI ((2:Int)^b/2)/\r=By (rp u d (16*i+b))/\ag (DS w w' w1.heap.size w2.heap.size u (qp Q (16*i+b)))) (fun _ k _=>(intOf k).toNat)
   case atStart=>exact ⟨16,by decide,by simp,rfl,hD⟩
   case round =>
    clear hD;obtain ⟨b,hb,rfl,rfl,hD⟩:=hrel;cases b with
    | zero =>
     go_wp2
     go_roundw
     case rel=>exact ⟨i,by omega,by go_num,rfl,hD⟩
     case measure=>simp [intOf]
    | succ e =>
     rw [KG e];have K1:=p2 e;have K2:=KH e (by omega)
     have st:=Kw u d (16*i+e) d0;obtain ⟨R0,R1⟩:=zd u d (16*i+e+1) d0;have eb:=Kx u i e (by omega)
     have bC:=C7 u (16*i+e);have yS:=Ky Q i e (by omega)
     rw [hQ.o] at st;have cn:=hD.o.qn.c i kv;have cq:=hD.o.qq.c i kv;have fq:=(hD.o.gb.frozen ⟨w2.heap.size,i,none⟩).trans (dF w _ i hD.o.hq);rw [show 16*i+(e+1)=16*i+e+1 by omega] at *
     have ST:ag _:=st;have HB:ag _:=yS;clear st yS;obtain ⟨a0,a1⟩:=ay u i;obtain ⟨c0,c1⟩:=ay (qp Q (16*i+e+1)) i;obtain ⟨K,hK⟩:∃ K:Int,ag ((2:Int)^e=K):=⟨(2:Int)^e,Eq.refl ((2:Int)^e)⟩;rw [hK.o] at K1 K2 eb ⊢;obtain ⟨R,hR⟩:∃ R:Int,ag (rp u d (16*i+e+1)=R):=⟨_,rfl⟩;rw [hR.o] at R0 R1 ⊢;have kz:¬ K=0:=by omega
     have pk:0<=dg u i/K:=Int.ediv_nonneg a0 (by omega)
     have EB:ag _:=eb;clear eb;have eb:=EB;clear EB;by_cases o:9223372036854775808<=R
     ·have t1:decide (9223372036854775808<=R)=true:=by simpa using o
      have tw:IntKind.u64.wrap (2*R)=2*R-18446744073709551616:=by rw [IntKind.wrap_u64];omega
      rcases bC with bC | bC
      ·have tb:(dg u i/K%2 == 1)=false:=by rw [eb.o,bC];decide
       have ts:IntKind.u64.wrap (2*R-18446744073709551616-d)=2*R-d:=by rw [IntKind.wrap_u64];omega
       have st:=ST.o;rw [hR.o,bC] at st;obtain ⟨F1,F2⟩:=st.1 (by omega)
       have E1:ag (rp u d (16*i+e)=2*R-d):=by show _=_;omega
       have DN:=hD.o.put i kv (z:=dg (qp Q (16*i+e+1)) i+K) (V':=qp Q (16*i+e)) (fun k hk=>by rw [F2,HB.o k,hK.o])
       have DM:ag _:=DN;clear st F1 F2 DN bC;go_wp2;go_roundw
       case rel=>exact ⟨e,by omega,by rw [hK.o],by rw [E1.o],DM⟩
       case measure=>simp [intOf];omega
      ·have tb:(dg u i/K%2 == 1)=true:=by rw [eb.o,bC];decide
       have ts:IntKind.u64.wrap (2*R-18446744073709551616+1-d)=2*R+1-d:=by rw [IntKind.wrap_u64];omega
       have st:=ST.o;rw [hR.o,bC] at st;obtain ⟨F1,F2⟩:=st.1 (by omega)
       have E1:ag (rp u d (16*i+e)=2*R+1-d):=by show _=_;omega
       have DN:=hD.o.put i kv (z:=dg (qp Q (16*i+e+1)) i+K) (V':=qp Q (16*i+e)) (fun k hk=>by rw [F2,HB.o k,hK.o])
       have DM:ag _:=DN;clear st F1 F2 DN bC;go_wp2;go_roundw
       case rel=>exact ⟨e,by omega,by rw [hK.o],by rw [E1.o],DM⟩
       case measure=>simp [intOf];omega
     ·have t1:decide (9223372036854775808<=R)=false:=by simpa using o
      rcases bC with bC | bC
      ·by_cases o2:d<=2*R
       ·have tb:(dg u i/K%2 == 1)=false:=by rw [eb.o,bC];decide
        have t3:decide (d<=2*R)=true:=by simp;omega
        have st:=ST.o;rw [hR.o,bC] at st;obtain ⟨F1,F2⟩:=st.1 (by omega)
        have E1:ag (rp u d (16*i+e)=2*R-d):=by show _=_;omega
        have DN:=hD.o.put i kv (z:=dg (qp Q (16*i+e+1)) i+K) (V':=qp Q (16*i+e)) (fun k hk=>by rw [F2,HB.o k,hK.o])
        have DM:ag _:=DN;clear st F1 F2 DN bC;go_wp2;go_roundw
        case rel=>exact ⟨e,by omega,by rw [hK.o],by rw [E1.o],DM⟩
        case measure=>simp [intOf];omega
       ·have tb:(dg u i/K%2 == 1)=false:=by rw [eb.o,bC];decide
        have t3:decide (d<=2*R)=false:=by simp;omega
        have st:=ST.o;rw [hR.o,bC] at st;obtain ⟨F1,F2⟩:=st.2 (by omega)
        have E1:ag (rp u d (16*i+e)=2*R):=by show _=_;omega
        have DN:=hD.o;rw [<-F2] at DN;have DM:ag _:=DN;clear st F1 F2 DN bC;go_wp2;go_roundw
        case rel=>exact ⟨e,by omega,by rw [hK.o],by rw [E1.o],DM⟩
        case measure=>simp [intOf];omega
      ·by_cases o2:d<=2*R+1
       ·have tb:(dg u i/K%2 == 1)=true:=by rw [eb.o,bC];decide
        have t3:decide (d<=2*R+1)=true:=by simp;omega
        have st:=ST.o;rw [hR.o,bC] at st;obtain ⟨F1,F2⟩:=st.1 (by omega)
        have E1:ag (rp u d (16*i+e)=2*R+1-d):=by show _=_;omega
        have DN:=hD.o.put i kv (z:=dg (qp Q (16*i+e+1)) i+K) (V':=qp Q (16*i+e)) (fun k hk=>by rw [F2,HB.o k,hK.o])
        have DM:ag _:=DN;clear st F1 F2 DN bC;go_wp2;go_roundw
        case rel=>exact ⟨e,by omega,by rw [hK.o],by rw [E1.o],DM⟩
        case measure=>simp [intOf];omega
       ·have tb:(dg u i/K%2 == 1)=true:=by rw [eb.o,bC];decide
        have t3:decide (d<=2*R+1)=false:=by simp;omega
        have st:=ST.o;rw [hR.o,bC] at st;obtain ⟨F1,F2⟩:=st.2 (by omega)
        have E1:ag (rp u d (16*i+e)=2*R+1):=by show _=_;omega
        have DN:=hD.o;rw [<-F2] at DN;have DM:ag _:=DN;clear st F1 F2 DN bC;go_wp2;go_roundw
        case rel=>exact ⟨e,by omega,by rw [hK.o],by rw [E1.o],DM⟩
        case measure=>simp [intOf];omega
theorem af2 (x d:Int) (hx:sv x<0) (d0:0<d) (d1:d<18446744073709551616) (w:World) :
  Calls prog 153 #[.agg #[AI (aq (x)),By (av (x))],By d] w fun e w'=>e=.returned (.tuple #[.agg #[AI (aq (sv x/d)),By (av (sv x/d))],By (sv x%d),AI 0])/\Gb w w':=by
 have hd:(d == 0)=false:=by simp;omega
 have bx:=Wl x;have v1:decide (32768<=dg x 7)=true:=by simp;omega
 clear bx;obtain ⟨u,hu⟩:∃ u,ag (-sv x=u):=⟨_,rfl⟩;have u0:0<=u:=by rw [<-hu.o];omega
 have u1:u<2^128:=by rw [<-hu.o,sZ];omega
 obtain ⟨Q,hQ⟩:∃ Q,ag (u/d=Q):=⟨_,rfl⟩;obtain ⟨Z,hZ⟩:∃ Z,ag (sv x/d=Z):=⟨_,rfl⟩;obtain ⟨S,hS⟩:∃ S,ag (sv x%d=S):=⟨_,rfl⟩;rw [hZ.o,hS.o];have hX:ag (sv x=-u):=by show _=_;have:=hu.o;omega
 go_enter func153,ntmps153;go_wp2_with fail;have q1:=(H2.new (w.alloc (.cells #[AI (aq x),By (av x)] 233)) (AI 0) (By 0) 233).at (w.heap.size+1) (by simp)
 have G:Gb w _:=((Gb.refl w).alloc #[AI (aq x),By (av x)] 233).alloc #[AI 0,By 0] 233;refine (uI x _).mono ?_;rintro e w1 ⟨rfl,g1⟩;replace G:=(G.trans g1.gb).alloc #[AI (dg x 0),AI (dg x 1),AI (dg x 2),AI (dg x 3),AI (dg x 4),AI (dg x 5),AI (dg x 6),AI (dg x 7)] 263;replace q1:=(q1.gb g1.gb).alloc (.cells #[AI (dg x 0),AI (dg x 1),AI (dg x 2),AI (dg x 3),AI (dg x 4),AI (dg x 5),AI (dg x 6),AI (dg x 7)] 263);have qn:=H8.new w1 x 263;have s1:w.heap.size+1<w1.heap.size:=by (have:=g1.grew;simp at this;omega)
 clear g1;go_wp2_with fail;refine (Wm x _).mono ?_;rintro e w2 ⟨rfl,g2⟩;replace G:=G.trans g2.gb;replace q1:=q1.gb g2.gb;replace qn:=qn.gb g2.gb;have tt0:=qn.c 0 (by decide)
 have tt1:=qn.c 1 (by decide)
 have tt2:=qn.c 2 (by decide)
 have tt3:=qn.c 3 (by decide)
 have tt4:=qn.c 4 (by decide)
 have tt5:=qn.c 5 (by decide)
 have tt6:=qn.c 6 (by decide)
 have tt7:=qn.c 7 (by decide)
 have s2:w1.heap.size<w2.heap.size:=by (have:=g2.grew;simp at this;omega)
 have fn:∀ k,w2.frozen? ⟨w1.heap.size,k,none⟩=false:=fun k=>(G.frozen _).trans (dF w _ k (by omega))
 clear g2;go_wp2_with fail;refine (uK x _).mono ?_;rintro e w3 ⟨rfl,g3⟩;obtain ⟨k3,f3⟩:=g3.gb.facts;have n1:w.heap.size+1≠w1.heap.size:=by omega
 replace G:=(((G.trans g3.gb).set8 (b:=w1.heap.size) (by omega) (AI (dg (-x) 0)) (AI (dg (-x) 1)) (AI (dg (-x) 2)) (AI (dg (-x) 3)) (AI (dg (-x) 4)) (AI (dg (-x) 5)) (AI (dg (-x) 6)) (AI (dg (-x) 7))).alloc #[AI 0,AI 0,AI 0,AI 0,AI 0,AI 0,AI 0,AI 0] 263)
 replace q1:=((q1.gb g3.gb).far8 n1 (AI (dg (-x) 0)) (AI (dg (-x) 1)) (AI (dg (-x) 2)) (AI (dg (-x) 3)) (AI (dg (-x) 4)) (AI (dg (-x) 5)) (AI (dg (-x) 6)) (AI (dg (-x) 7))).alloc (.cells #[AI 0,AI 0,AI 0,AI 0,AI 0,AI 0,AI 0,AI 0] 263)
 replace qn:=(((qn.gb g3.gb).set (z:=-x)).alloc #[AI 0,AI 0,AI 0,AI 0,AI 0,AI 0,AI 0,AI 0] 263).congr (y:=u) (fun k hk=>by rw [afY x k hk,hu.o])
 have qq:=(H8.new0 (((((((((w3.setCell ⟨w1.heap.size,0,none⟩ (AI (dg (-x) 0))).setCell ⟨w1.heap.size,1,none⟩ (AI (dg (-x) 1))).setCell ⟨w1.heap.size,2,none⟩ (AI (dg (-x) 2))).setCell ⟨w1.heap.size,3,none⟩ (AI (dg (-x) 3))).setCell ⟨w1.heap.size,4,none⟩ (AI (dg (-x) 4))).setCell ⟨w1.heap.size,5,none⟩ (AI (dg (-x) 5))).setCell ⟨w1.heap.size,6,none⟩ (AI (dg (-x) 6))).setCell ⟨w1.heap.size,7,none⟩ (AI (dg (-x) 7)))) 263).congr (y:=qp Q 128) (fun k hk=>by rw [Kz Q (by rw [<-hQ.o];exact Int.ediv_nonneg u0 (by omega)) (by rw [<-hQ.o];exact Int.lt_of_le_of_lt (Int.ediv_le_self _ u0) u1)])
 have s3:w2.heap.size<w3.heap.size:=by (have:=g3.grew;omega)
 replace qq:=qq.at w3.heap.size _ (by simp [World.setCell]) rfl
 have D0:ag (DS w ((((((((((w3.setCell ⟨w1.heap.size,0,none⟩ (AI (dg (-x) 0))).setCell ⟨w1.heap.size,1,none⟩ (AI (dg (-x) 1))).setCell ⟨w1.heap.size,2,none⟩ (AI (dg (-x) 2))).setCell ⟨w1.heap.size,3,none⟩ (AI (dg (-x) 3))).setCell ⟨w1.heap.size,4,none⟩ (AI (dg (-x) 4))).setCell ⟨w1.heap.size,5,none⟩ (AI (dg (-x) 5))).setCell ⟨w1.heap.size,6,none⟩ (AI (dg (-x) 6))).setCell ⟨w1.heap.size,7,none⟩ (AI (dg (-x) 7)))).alloc (.cells #[AI 0,AI 0,AI 0,AI 0,AI 0,AI 0,AI 0,AI 0] 263)) w1.heap.size w3.heap.size u (qp Q 128)):=⟨G,qn,qq,q1,by omega,by omega,by omega⟩
 clear G q1 qn qq;have k0:ag _:=KD u d u0 u1;go_wp2;clear tt0 tt1 tt2 tt3 tt4 tt5 tt6 tt7 g3 k3 f3 fn;go_loopw [10,11] (fun r i w'=>∃ m:Nat,m<=8/\i=AI ((m:Int)-1)/\r=By (rp u d (16*m))/\ag (DS w w' w1.heap.size w3.heap.size u (qp Q (16*m)))) (fun _ i _=>(intOf i+1).toNat)
 case atStart=>exact ⟨8,by decide,rfl,by rw [k0.o],D0⟩
 case round =>
  obtain ⟨m,hm,rfl,rfl,hD⟩:=hrel
  rename World=>wr
  cases m with
  | zero =>
   have qq:=hD.o.qq;rw [Nat.mul_zero,KF] at qq;rw [Nat.mul_zero,Db];obtain ⟨r1,r2,r3⟩:=hD.o.q1;have fr:∀ k,wr.frozen? ⟨w.heap.size+1,k,none⟩=false:=fun k=>(hD.o.gb.frozen _).trans (dF w _ k (by omega))
   have o0:=qq.c 0 (by decide)
   have o1:=qq.c 1 (by decide)
   have o2:=qq.c 2 (by decide)
   have o3:=qq.c 3 (by decide)
   have o4:=qq.c 4 (by decide)
   have o5:=qq.c 5 (by decide)
   have o6:=qq.c 6 (by decide)
   have o7:=qq.c 7 (by decide)
   have hq1:w3.heap.size<wr.heap.size:=hD.o.qq.lt;have UW:w3.heap.size<wr.heap.size+1:=by omega
   have fb:∀ k,wr.frozen? ⟨w3.heap.size,k,none⟩=false:=fun k=>(hD.o.gb.frozen _).trans (dF w _ k hD.o.hq)
   obtain ⟨m0,m1⟩:=zd u d 0 d0;rw [Db] at m0 m1;by_cases hr:u%d=0
   ·obtain ⟨N1,N2⟩:=afZ u d d0 hr
    rw [hQ.o] at N1;obtain rfl:Z=-Q:=by rw [<-hZ.o,hX.o,N1]
    obtain rfl:S=0:=by rw [<-hS.o,hX.o,N2]
    rw [hr];clear N1 N2;go_wp2_with fail;refine (uK Q _).mono ?_;rintro e w4 ⟨rfl,g4⟩;obtain ⟨k4,f4⟩:=g4.gb.facts;have p4:=(H2.mk r1 r2 r3).gb g4.gb;go_wp2_with fail;refine (uJ (-Q) _).mono ?_;rintro e w5 ⟨rfl,g5⟩;have f5:=g5.gb.frozen;obtain ⟨p5,p6,p7⟩:=p4.gb g5.gb;go_wp2;refine bodyPost_ret (v:=.tuple #[.agg #[AI (aq (-Q)),By (av (-Q))],By 0,AI 0]) (by simp [results,results153,go_sem, *]) rfl ⟨rfl,?_⟩
    exact (((hD.o.gb.trans g4.gb).trans g5.gb).setCell (by simp) _).setCell (by simp) _
   ·obtain ⟨N1,N2⟩:=af0 u d d0 hr
    rw [hQ.o] at N1;obtain rfl:Z=-(Q+1):=by rw [<-hZ.o,hX.o,N1]
    obtain rfl:S=d-u%d:=by rw [<-hS.o,hX.o,N2]
    clear N1 N2;have m2:0<u%d:=by omega
    have m3:decide (0<u%d)=true:=by simpa using m2
    clear hr;go_wp2_with fail;refine (Wk Q (Q+1) rfl _).mono ?_;rintro e w4 ⟨rfl,g4⟩;obtain ⟨k4,f4⟩:=g4.gb.facts;have p4:=(((H2.mk r1 r2 r3).alloc (.cells #[AI 1,AI 0,AI 0,AI 0,AI 0,AI 0,AI 0,AI 0] 263)).gb g4.gb).far8 hD.o.n1 (AI (dg (Q+1) 0)) (AI (dg (Q+1) 1)) (AI (dg (Q+1) 2)) (AI (dg (Q+1) 3)) (AI (dg (Q+1) 4)) (AI (dg (Q+1) 5)) (AI (dg (Q+1) 6)) (AI (dg (Q+1) 7));have G4:=((hD.o.gb.alloc #[AI 1,AI 0,AI 0,AI 0,AI 0,AI 0,AI 0,AI 0] 263).trans g4.gb).set8 hD.o.hq (AI (dg (Q+1) 0)) (AI (dg (Q+1) 1)) (AI (dg (Q+1) 2)) (AI (dg (Q+1) 3)) (AI (dg (Q+1) 4)) (AI (dg (Q+1) 5)) (AI (dg (Q+1) 6)) (AI (dg (Q+1) 7));go_wp2_with fail;refine (uK (Q+1) _).mono ?_;rintro e w5 ⟨rfl,g5⟩;have f5:=g5.gb.frozen;have p5:=p4.gb g5.gb;go_wp2_with fail;refine (uJ (-(Q+1)) _).mono ?_;rintro e w6 ⟨rfl,g6⟩;have f6:=g6.gb.frozen;obtain ⟨p6,p7,p8⟩:=p5.gb g6.gb;go_wp2;refine bodyPost_ret (v:=.tuple #[.agg #[AI (aq (-(Q+1))),By (av (-(Q+1)))],By (d-u%d),AI 0]) (by simp [results,results153,go_sem,p7,p8]) rfl ⟨rfl,?_⟩
    exact (((G4.trans g5.gb).trans g6.gb).setCell (by simp) _).setCell (by simp) _
  | succ i =>
   have e0:((i+1:Nat):Int)-1=(i:Int):=by omega
   rw [e0];have kv:i<8:=by omega
   have i1:(0:Int)<=(i:Int):=by omega
   have i2:(i:Int)<8:=by omega
   go_wp2
   go_loopw [10,12] (fun r k w'=>∃ b:Nat,b<=16/\k=AI ((2:Int)^b/2)/\r=By (rp u d (16*i+b))/\ag (DS w w' w1.heap.size w3.heap.size u (qp Q (16*i+b)))) (fun _ k _=>(intOf k).toNat)
   case atStart=>exact ⟨16,by decide,by simp,rfl,hD⟩
   case round =>
    clear hD;obtain ⟨b,hb,rfl,rfl,hD⟩:=hrel;cases b with
    | zero =>
     go_wp2
     go_roundw
     case rel=>exact ⟨i,by omega,by go_num,rfl,hD⟩
     case measure=>simp [intOf]
    | succ e =>
     rw [KG e];have K1:=p2 e;have K2:=KH e (by omega)
     have st:=Kw u d (16*i+e) d0;obtain ⟨R0,R1⟩:=zd u d (16*i+e+1) d0;have eb:=Kx u i e (by omega)
     have bC:=C7 u (16*i+e);have yS:=Ky Q i e (by omega)
     rw [hQ.o] at st;have cn:=hD.o.qn.c i kv;have cq:=hD.o.qq.c i kv;have fq:=(hD.o.gb.frozen ⟨w3.heap.size,i,none⟩).trans (dF w _ i hD.o.hq);rw [show 16*i+(e+1)=16*i+e+1 by omega] at *
     have ST:ag _:=st;have HB:ag _:=yS;clear st yS;obtain ⟨a0,a1⟩:=ay u i;obtain ⟨c0,c1⟩:=ay (qp Q (16*i+e+1)) i;obtain ⟨K,hK⟩:∃ K:Int,ag ((2:Int)^e=K):=⟨(2:Int)^e,Eq.refl ((2:Int)^e)⟩;rw [hK.o] at K1 K2 eb ⊢;obtain ⟨R,hR⟩:∃ R:Int,ag (rp u d (16*i+e+1)=R):=⟨_,rfl⟩;rw [hR.o] at R0 R1 ⊢;have kz:¬ K=0:=by omega
     have pk:0<=dg u i/K:=Int.ediv_nonneg a0 (by omega)
     have EB:ag _:=eb;clear eb;have eb:=EB;clear EB;by_cases o:9223372036854775808<=R
     ·have t1:decide (9223372036854775808<=R)=true:=by simpa using o
      have tw:IntKind.u64.wrap (2*R)=2*R-18446744073709551616:=by rw [IntKind.wrap_u64];omega
      rcases bC with bC | bC
      ·have tb:(dg u i/K%2 == 1)=false:=by rw [eb.o,bC];decide
       have ts:IntKind.u64.wrap (2*R-18446744073709551616-d)=2*R-d:=by rw [IntKind.wrap_u64];omega
       have st:=ST.o;rw [hR.o,bC] at st;obtain ⟨F1,F2⟩:=st.1 (by omega)
       have E1:ag (rp u d (16*i+e)=2*R-d):=by show _=_;omega
       have DN:=hD.o.put i kv (z:=dg (qp Q (16*i+e+1)) i+K) (V':=qp Q (16*i+e)) (fun k hk=>by rw [F2,HB.o k,hK.o])
       have DM:ag _:=DN;clear st F1 F2 DN bC;go_wp2;go_roundw
       case rel=>exact ⟨e,by omega,by rw [hK.o],by rw [E1.o],DM⟩
       case measure=>simp [intOf];omega
      ·have tb:(dg u i/K%2 == 1)=true:=by rw [eb.o,bC];decide
       have ts:IntKind.u64.wrap (2*R-18446744073709551616+1-d)=2*R+1-d:=by rw [IntKind.wrap_u64];omega
       have st:=ST.o;rw [hR.o,bC] at st;obtain ⟨F1,F2⟩:=st.1 (by omega)
       have E1:ag (rp u d (16*i+e)=2*R+1-d):=by show _=_;omega
       have DN:=hD.o.put i kv (z:=dg (qp Q (16*i+e+1)) i+K) (V':=qp Q (16*i+e)) (fun k hk=>by rw [F2,HB.o k,hK.o])
       have DM:ag _:=DN;clear st F1 F2 DN bC;go_wp2;go_roundw
       case rel=>exact ⟨e,by omega,by rw [hK.o],by rw [E1.o],DM⟩
       case measure=>simp [intOf];omega
     ·have t1:decide (9223372036854775808<=R)=false:=by simpa using o
      rcases bC with bC | bC
      ·by_cases o2:d<=2*R
       ·have tb:(dg u i/K%2 == 1)=false:=by rw [eb.o,bC];decide
        have t3:decide (d<=2*R)=true:=by simp;omega
        have st:=ST.o;rw [hR.o,bC] at st;obtain ⟨F1,F2⟩:=st.1 (by omega)
        have E1:ag (rp u d (16*i+e)=2*R-d):=by show _=_;omega
        have DN:=hD.o.put i kv (z:=dg (qp Q (16*i+e+1)) i+K) (V':=qp Q (16*i+e)) (fun k hk=>by rw [F2,HB.o k,hK.o])
        have DM:ag _:=DN;clear st F1 F2 DN bC;go_wp2;go_roundw
        case rel=>exact ⟨e,by omega,by rw [hK.o],by rw [E1.o],DM⟩
        case measure=>simp [intOf];omega
       ·have tb:(dg u i/K%2 == 1)=false:=by rw [eb.o,bC];decide
        have t3:decide (d<=2*R)=false:=by simp;omega
        have st:=ST.o;rw [hR.o,bC] at st;obtain ⟨F1,F2⟩:=st.2 (by omega)
        have E1:ag (rp u d (16*i+e)=2*R):=by show _=_;omega
        have DN:=hD.o;rw [<-F2] at DN;have DM:ag _:=DN;clear st F1 F2 DN bC;go_wp2;go_roundw
        case rel=>exact ⟨e,by omega,by rw [hK.o],by rw [E1.o],DM⟩
        case measure=>simp [intOf];omega
      ·by_cases o2:d<=2*R+1
       ·have tb:(dg u i/K%2 == 1)=true:=by rw [eb.o,bC];decide
        have t3:decide (d<=2*R+1)=true:=by simp;omega
        have st:=ST.o;rw [hR.o,bC] at st;obtain ⟨F1,F2⟩:=st.1 (by omega)
        have E1:ag (rp u d (16*i+e)=2*R+1-d):=by show _=_;omega
        have DN:=hD.o.put i kv (z:=dg (qp Q (16*i+e+1)) i+K) (V':=qp Q (16*i+e)) (fun k hk=>by rw [F2,HB.o k,hK.o])
        have DM:ag _:=DN;clear st F1 F2 DN bC;go_wp2;go_roundw
        case rel=>exact ⟨e,by omega,by rw [hK.o],by rw [E1.o],DM⟩
        case measure=>simp [intOf];omega
       ·have tb:(dg u i/K%2 == 1)=true:=by rw [eb.o,bC];decide
        have t3:decide (d<=2*R+1)=false:=by simp;omega
        have st:=ST.o;rw [hR.o,bC] at st;obtain ⟨F1,F2⟩:=st.2 (by omega)
        have E1:ag (rp u d (16*i+e)=2*R+1):=by show _=_;omega
        have DN:=hD.o;rw [<-F2] at DN;have DM:ag _:=DN;clear st F1 F2 DN bC;go_wp2;go_roundw
        case rel=>exact ⟨e,by omega,by rw [hK.o],by rw [E1.o],DM⟩
        case measure=>simp [intOf];omega
theorem Ws (x d:Int) (d0:0<d) (d1:d<18446744073709551616) (w:World) :
  Calls prog 153 #[.agg #[AI (aq (x)),By (av (x))],By d] w fun e w'=>e=.returned (.tuple #[.agg #[AI (aq (sv x/d)),By (av (sv x/d))],By (sv x%d),AI 0])/\Gb w w':=by
 by_cases hx:0<=sv x
 ·exact af1 x d hx d0 d1 w
 ·exact af2 x d (by omega) d0 d1 w
end Go.Proofs.YtcboobmfnmgldaaGreat
