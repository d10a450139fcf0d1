/- Package codec: the reader's small calls. -/
import Derived.Test.YtpoohadckhphpaaGreatBPZa
import Derived.Test.YtpoohadckhphpaaGreatBXOct3
import Derived.Test.YtpoohadckhphpaaGreatBPY1
set_option linter.unusedVariables false
set_option maxHeartbeats 2000000
set_option maxRecDepth 10000
open Go.Proofs.Tryz
namespace Go.Proofs.YtpoohadckhphpaaGreat
open Go.RowKit
def Rd (w:World) (p:Nat) (S:Nat->Prop) (f:Nat->Int) (m o:Nat):Prop:=RRd 86 w p S (fun i=>f (o+i)) (m-o)
def RStep (w w':World) (p:Nat) (S:Nat->Prop) (f:Nat->Int) (m o:Nat):Prop:=Upd p w w'/\∃ S',Rd w' p S' f m o/\∀ q,S' q->S q
theorem Rds.step {w w':World} {p:Nat} {S:Nat->Prop} {f:Nat->Int} {m o k:Nat} (h:Rds 86 p S (fun i=>f (o+i)) (m-o) k w w'):RStep w w' p S f m (o+k):=by
 obtain ⟨u,S',r,s⟩:=h;refine ⟨u,S',?_,s⟩;unfold Rd;rw [show m-(o+k)=m-o-k by omega,show (fun i=>f (o+k+i))=fun i=>f (o+(k+i)) from funext fun i=>by rw [Nat.add_assoc]]
 exact r
theorem num_sh (f:Nat->Int) (o:Nat):numR (fun i=>f (o+i)) 0 8=numR f o 8:=numR_congr fun i hi=>by rw [Nat.zero_add]
theorem RStep.after {w w1 w2:World} {p:Nat} {S S1:Nat->Prop} {f:Nat->Int} {m o:Nat} (u:Upd p w w1) (s:∀ q,S1 q->S q) (h:RStep w1 w2 p S1 f m o):RStep w w2 p S f m o:=by
 obtain ⟨a,S',b,c⟩:=h;exact ⟨u.trans a,S',b,fun q hq=>s q (c q hq)⟩
theorem Upd.cell {p:Nat} {w w':World} (h:Upd p w w') {q:Nat} (hq:q≠p) (hl:q<w.heap.size) (o:Nat):w'.cell? ⟨q,o,none⟩=w.cell? ⟨q,o,none⟩:=World.cell?_of_block (a:=⟨q,o,none⟩) (h.blk q hq hl)
theorem Upd.setN {p:Nat} {w w':World} (h:Upd p w w') {b:Nat} (hb:w.heap.size<=b) (i:Nat) (v:Value):Upd p w (w'.setCell ⟨b,i,none⟩ v) :=
 ⟨by simpa using h.size,fun q hq hl=>(Go.Deep.blk_setCell_other _ _ _ _ (by show q≠b;omega)).trans (h.blk q hq hl),fun w0 h0 g=>(h.gw w0 h0 g).setCell (by have:=g.size;show w0.heap.size<=b;omega) v⟩
theorem Upd.allocN {p:Nat} {w w':World} (h:Upd p w w') (c:Array Value) (t:TypeId):Upd p w (w'.alloc (.cells c t)):=h.trans (.of_gw ((Gw.refl w').alloc c t))
theorem Rd.gw {w w':World} {p:Nat} {S:Nat->Prop} {f:Nat->Int} {m o:Nat} (h:Rd w p S f m o) (g:Gw w w'):Rd w' p S f m o:=RRd.gw h g
theorem Rd.pl {w:World} {p:Nat} {S:Nat->Prop} {f:Nat->Int} {m o:Nat} (h:Rd w p S f m o):p<w.heap.size:=RRd.lt h p (RRd.own h)
def put12 (w:World) (b:Nat) (x y:Int) (z:Bool):World:=((w.setCell ⟨b,0,none⟩ (.int .u64 x)).setCell ⟨b,1,none⟩ (.int .u64 y)).setCell ⟨b,2,none⟩ (.bool z)
theorem put3_step {w w':World} {p:Nat} {S:Nat->Prop} {f:Nat->Int} {m o b:Nat} (h:RStep w w' p S f m o) (hb:w.heap.size<=b) (nb:∀ q,S q->q≠b) (x y:Int) (z:Bool):RStep w (put12 w' b x y z) p S f m o:=by
 obtain ⟨u,S',r,s⟩:=h;refine ⟨((u.setN hb 0 _).setN hb 1 _).setN hb 2 _,S',?_,s⟩;refine RRd.blks r (by simp [put12]) fun q hq=>?_
 have e:q≠b:=nb q (s q hq);unfold put12;rw [Go.Deep.blk_setCell_other _ _ _ _ e,Go.Deep.blk_setCell_other _ _ _ _ e,Go.Deep.blk_setCell_other _ _ _ _ e]
theorem put3_cells {w:World} {b:Nat} {x0 y0 z0:Value} {t:TypeId} (h:w.heap[b]?=some (.cells #[x0,y0,z0] t (0,0))) (x y:Int) (z:Bool):(put12 w b x y z).cell? ⟨b,0,none⟩=some (.int .u64 x)/\(put12 w b x y z).cell? ⟨b,1,none⟩=some (.int .u64 y)/\(put12 w b x y z).cell? ⟨b,2,none⟩=some (.bool z):=by
 unfold put12;refine ⟨?_,?_,?_⟩<;>simp [World.cell?,World.setCell,Array.getElem?_modify,h]
theorem ent_cells {w:World} {b:Nat} {x0 y0 z0:Value} {t:TypeId} (h:w.heap[b]?=some (.cells #[x0,y0,z0] t (0,0))):w.cell? ⟨b,0,none⟩=some x0/\w.cell? ⟨b,1,none⟩=some y0/\w.cell? ⟨b,2,none⟩=some z0:=by
 refine ⟨?_,?_,?_⟩<;>simp [World.cell?,h]
theorem ent_fz {w:World} {b:Nat} {x0 y0 z0:Value} {t:TypeId} (h:w.heap[b]?=some (.cells #[x0,y0,z0] t (0,0))):w.frozen? ⟨b,0,none⟩=false/\w.frozen? ⟨b,1,none⟩=false/\w.frozen? ⟨b,2,none⟩=false:=by
 refine ⟨?_,?_,?_⟩<;>simp [World.frozen?,h]
def POut (ok:Prop) (e:Ending) (v:Value) (R:Prop) (U:Prop):Prop:=(ok/\e=.returned v/\R)\/(¬ ok/\e=.panicked (thrown 120)/\U)
theorem jneed_ok (w:World):Calls prog 125 #[.bool true] w fun e w'=>e=.returned (.tuple #[])/\w'=w:=by
 go_enter func125,ntmps125;go_wp2_with fail;go_end0;exact ⟨rfl,rfl⟩
theorem jneed_bad (w:World):Calls prog 125 #[.bool false] w fun e w'=>e=.panicked (thrown 120)/\w'=w:=by
 go_enter func125,ntmps125;go_wp2_with fail;exact ⟨rfl,rfl,rfl⟩
theorem jnumber {w:World} {p:Nat} {S:Nat->Prop} {f:Nat->Int} {m o:Nat} (hm:m<=140737488355000) (om:o<=m) (h:Rd w p S f m o) :
  Calls prog 170 #[.agg #[.pointer (some ⟨p,0,none⟩)]] w fun e w'=>POut (o+8<=m) e (.int .u64 (numR f o 8)) (RStep w w' p S f m (o+8)) (Upd p w w'):=by
 have HR:Hid (Rd (w.alloc (.cells #[.pointer (some ⟨p,0,none⟩)] 186)) p S f m o):=h.gw ((Gw.refl w).alloc _ _);have NU:=octr.number (by omega) HR.out
 have UA:Hid (Upd p w (w.alloc (.cells #[.pointer (some ⟨p,0,none⟩)] 186))):=.of_gw ((Gw.refl w).alloc _ _);by_cases c:o+8<=m
 ·have C1:Hid (Calls prog 116 #[.pointer (some ⟨p,0,none⟩)] (w.alloc (.cells #[.pointer (some ⟨p,0,none⟩)] 186)) fun e w'=>e=.returned (.tuple #[.int .u64 (numR f o 8),.int .i64 0])/\RStep w w' p S f m (o+8)):=NU.mono fun e w' hh=>by
   unfold numA at hh;rw [if_neg (by omega),num_sh] at hh
   exact ⟨hh.1,RStep.after UA.out (fun _ h=>h) hh.2.step⟩
  clear h HR NU UA;generalize numR f o 8=N at *;go_enter func170,ntmps170;go_wp2_with fail;refine C1.out.mono ?_;rintro e w2 ⟨rfl,R⟩;have RR:Hid (RStep w w2 p S f m (o+8)):=R;clear R C1;go_wp2_with fail;refine (jneed_ok _).mono ?_;rintro e w3 ⟨rfl,hw⟩;subst hw;go_wp2_with fail;go_ret;exact .inl ⟨c,rfl,RR.out⟩
 ·have C1:Hid (Calls prog 116 #[.pointer (some ⟨p,0,none⟩)] (w.alloc (.cells #[.pointer (some ⟨p,0,none⟩)] 186)) fun e w'=>e=.returned (.tuple #[.int .u64 0,.int .i64 100])/\Upd p w w'):=NU.mono fun e w' hh=>by
   unfold numA at hh;rw [if_pos (by omega)] at hh
   exact ⟨hh.1,UA.out.trans hh.2.1⟩
  clear h HR NU UA;generalize numR f o 8=N at *;go_enter func170,ntmps170;go_wp2_with fail;refine C1.out.mono ?_;rintro e w2 ⟨rfl,R⟩;have RR:Hid (Upd p w w2):=R;clear R C1;go_wp2_with fail;refine (jneed_bad _).mono ?_;rintro e w3 ⟨rfl,hw⟩;subst hw;go_wp2_with fail;exact ⟨rfl,.inr ⟨c,rfl,RR.out⟩⟩
theorem jcount {w:World} {p:Nat} {S:Nat->Prop} {f:Nat->Int} {m o:Nat} (most:Int) (q0:0<=most) (q1:most<9223372036854775808) (hm:m<=140737488355000) (om:o<=m) (h:Rd w p S f m o) :
  Calls prog 121 #[.agg #[.pointer (some ⟨p,0,none⟩)],.int .i64 most] w fun e w'=>POut (o+8<=m/\numR f o 8<=most) e (.int .i64 (numR f o 8)) (RStep w w' p S f m (o+8)) (Upd p w w'):=by
 have HR:Hid (Rd (w.alloc (.cells #[.pointer (some ⟨p,0,none⟩)] 186)) p S f m o):=h.gw ((Gw.refl w).alloc _ _);have NU:=octr.count most (by omega) q1 (by omega) HR.out
 have UA:Hid (Upd p w (w.alloc (.cells #[.pointer (some ⟨p,0,none⟩)] 186))):=.of_gw ((Gw.refl w).alloc _ _);by_cases c:o+8<=m/\numR f o 8<=most
 ·have C1:Hid (Calls prog 67 #[.pointer (some ⟨p,0,none⟩),.int .i64 most] (w.alloc (.cells #[.pointer (some ⟨p,0,none⟩)] 186)) fun e w'=>e=.returned (.tuple #[.int .i64 (numR f o 8),.int .i64 0])/\RStep w w' p S f m (o+8)):=NU.mono fun e w' hh=>by
   unfold countA at hh;rw [num_sh,if_neg (by omega),if_neg (by omega)] at hh
   exact ⟨hh.1,RStep.after UA.out (fun _ h=>h) hh.2.step⟩
  clear h HR NU UA;generalize numR f o 8=N at *;go_enter func121,ntmps121;go_wp2_with fail;refine C1.out.mono ?_;rintro e w2 ⟨rfl,R⟩;have RR:Hid (RStep w w2 p S f m (o+8)):=R;clear R C1;go_wp2_with fail;refine (jneed_ok _).mono ?_;rintro e w3 ⟨rfl,hw⟩;subst hw;go_wp2_with fail;go_ret;exact .inl ⟨c,rfl,RR.out⟩
 ·have C1:Hid (Calls prog 67 #[.pointer (some ⟨p,0,none⟩),.int .i64 most] (w.alloc (.cells #[.pointer (some ⟨p,0,none⟩)] 186)) fun e w'=>(∃ er,e=.returned (.tuple #[.int .i64 0,.int .i64 er])/\(er=0)=False)/\Upd p w w'):=NU.mono fun e w' hh=>by
   unfold countA at hh;rw [num_sh] at hh;by_cases c8:m-o<8
   ·rw [if_pos c8] at hh
    exact ⟨⟨100,hh.1,by simp⟩,UA.out.trans hh.2.1⟩
   ·rw [if_neg c8,if_pos (by omega)] at hh
    exact ⟨⟨101,hh.1,by simp⟩,UA.out.trans hh.2.1⟩
  clear h HR NU UA;generalize numR f o 8=N at *;go_enter func121,ntmps121;go_wp2_with fail;refine C1.out.mono ?_;rintro e w2 ⟨⟨er,rfl,e0⟩,R⟩;have RR:Hid (Upd p w w2):=R;have e1:(er == 0)=false:=by simpa using e0
  clear R C1 e0;go_wp2_with fail;refine (jneed_bad _).mono ?_;rintro e w3 ⟨rfl,hw⟩;subst hw;go_wp2_with fail;exact ⟨rfl,.inr ⟨c,rfl,RR.out⟩⟩
theorem jfloat {w:World} {p:Nat} {S:Nat->Prop} {f:Nat->Int} {m o:Nat} (hm:m<=140737488355000) (om:o<=m) (h:Rd w p S f m o) :
  Calls prog 171 #[.agg #[.pointer (some ⟨p,0,none⟩)]] w fun e w'=>POut (o+8<=m/\numR f o 8/4503599627370496%2048≠2047) e (.float .f64 (numR f o 8).toNat) (RStep w w' p S f m (o+8)) (Upd p w w'):=by
 have HR:Hid (Rd (w.alloc (.cells #[.pointer (some ⟨p,0,none⟩)] 186)) p S f m o):=h.gw ((Gw.refl w).alloc _ _);have NU:=octr.float (by omega) HR.out
 have UA:Hid (Upd p w (w.alloc (.cells #[.pointer (some ⟨p,0,none⟩)] 186))):=.of_gw ((Gw.refl w).alloc _ _);by_cases c:o+8<=m/\numR f o 8/4503599627370496%2048≠2047
 ·have C1:Hid (Calls prog 189 #[.pointer (some ⟨p,0,none⟩)] (w.alloc (.cells #[.pointer (some ⟨p,0,none⟩)] 186)) fun e w'=>e=.returned (.tuple #[.float .f64 (numR f o 8).toNat,.int .i64 0])/\RStep w w' p S f m (o+8)):=NU.mono fun e w' hh=>by
   unfold floatA at hh;rw [num_sh,if_neg (by omega),if_neg (by omega)] at hh
   exact ⟨hh.1,RStep.after UA.out (fun _ h=>h) hh.2.step⟩
  clear h HR NU UA;generalize numR f o 8=N at *;go_enter func171,ntmps171;go_wp2_with fail;refine C1.out.mono ?_;rintro e w2 ⟨rfl,R⟩;have RR:Hid (RStep w w2 p S f m (o+8)):=R;clear R C1;go_wp2_with fail;refine (jneed_ok _).mono ?_;rintro e w3 ⟨rfl,hw⟩;subst hw;go_wp2_with fail;go_ret;exact .inl ⟨c,rfl,RR.out⟩
 ·have C1:Hid (Calls prog 189 #[.pointer (some ⟨p,0,none⟩)] (w.alloc (.cells #[.pointer (some ⟨p,0,none⟩)] 186)) fun e w'=>(∃ er,e=.returned (.tuple #[.float .f64 0,.int .i64 er])/\(er=0)=False)/\Upd p w w'):=NU.mono fun e w' hh=>by
   unfold floatA at hh;rw [num_sh] at hh;by_cases c8:m-o<8
   ·rw [if_pos c8] at hh
    exact ⟨⟨100,hh.1,by simp⟩,UA.out.trans hh.2.1⟩
   ·rw [if_neg c8,if_pos (by omega)] at hh
    exact ⟨⟨101,hh.1,by simp⟩,UA.out.trans hh.2.1⟩
  clear h HR NU UA;generalize numR f o 8=N at *;go_enter func171,ntmps171;go_wp2_with fail;refine C1.out.mono ?_;rintro e w2 ⟨⟨er,rfl,e0⟩,R⟩;have RR:Hid (Upd p w w2):=R;have e1:(er == 0)=false:=by simpa using e0
  clear R C1 e0;go_wp2_with fail;refine (jneed_bad _).mono ?_;rintro e w3 ⟨rfl,hw⟩;subst hw;go_wp2_with fail;exact ⟨rfl,.inr ⟨c,rfl,RR.out⟩⟩
theorem jword {w:World} {p:Nat} {S:Nat->Prop} {f:Nat->Int} {m:Nat} (s:ByteArray) (hm:m<=140737488355000) (h:Rd w p S f m 0) :
  Calls prog 120 #[.agg #[.pointer (some ⟨p,0,none⟩)],.string s] w fun e w'=>POut (s.size<=m/\∀ i,i<s.size->f i=strB s i) e (.tuple #[]) (RStep w w' p S f m s.size) (Upd p w w'):=by
 have HR:Hid (Rd (w.alloc (.cells #[.pointer (some ⟨p,0,none⟩)] 186)) p S f m 0):=h.gw ((Gw.refl w).alloc _ _);have NU:=octr.word s (by omega) HR.out
 have UA:Hid (Upd p w (w.alloc (.cells #[.pointer (some ⟨p,0,none⟩)] 186))):=.of_gw ((Gw.refl w).alloc _ _);have fz:(fun i=>f (0+i))=f:=funext fun i=>by rw [Nat.zero_add]
 by_cases c:s.size<=m/\∀ i,i<s.size->f i=strB s i
 ·have C1:Hid (Calls prog 36 #[.pointer (some ⟨p,0,none⟩),.string s] (w.alloc (.cells #[.pointer (some ⟨p,0,none⟩)] 186)) fun e w'=>e=.returned (.int .i64 0)/\RStep w w' p S f m s.size):=NU.mono fun e w' hh=>by
   unfold wordA at hh;rw [if_neg (by omega),if_pos (by rw [fz];exact c.2)] at hh
   have:=hh.2.step
   rw [Nat.zero_add] at this;exact ⟨hh.1,RStep.after UA.out (fun _ h=>h) this⟩
  have CC:Hid (s.size<=m/\∀ i,i<s.size->f i=strB s i):=c;clear h HR NU UA c fz;go_enter func120,ntmps120;go_wp2_with fail;refine C1.out.mono ?_;rintro e w2 ⟨rfl,R⟩;have RR:Hid (RStep w w2 p S f m s.size):=R;clear R C1;go_wp2_with fail;refine (jneed_ok _).mono ?_;rintro e w3 ⟨rfl,hw⟩;subst hw;go_wp2_with fail;go_end0;exact .inl ⟨CC.out,rfl,RR.out⟩
 ·have C1:Hid (Calls prog 36 #[.pointer (some ⟨p,0,none⟩),.string s] (w.alloc (.cells #[.pointer (some ⟨p,0,none⟩)] 186)) fun e w'=>(∃ er,e=.returned (.int .i64 er)/\(er=0)=False)/\Upd p w w'):=NU.mono fun e w' hh=>by
   unfold wordA at hh;by_cases c8:m-0<s.size
   ·rw [if_pos c8] at hh
    exact ⟨⟨100,hh.1,by simp⟩,UA.out.trans hh.2.1⟩
   ·rw [if_neg c8,if_neg (fun t=>c ⟨by omega,by rw [fz] at t;exact t⟩)] at hh
    exact ⟨⟨101,hh.1,by simp⟩,UA.out.trans hh.2.1⟩
  have CC:Hid (¬ (s.size<=m/\∀ i,i<s.size->f i=strB s i)):=c;clear h HR NU UA c fz;go_enter func120,ntmps120;go_wp2_with fail;refine C1.out.mono ?_;rintro e w2 ⟨⟨er,rfl,e0⟩,R⟩;have RR:Hid (Upd p w w2):=R;have e1:(er == 0)=false:=by simpa using e0
  clear R C1 e0;go_wp2_with fail;refine (jneed_bad _).mono ?_;rintro e w3 ⟨rfl,hw⟩;subst hw;go_wp2_with fail;exact ⟨rfl,.inr ⟨CC.out,rfl,RR.out⟩⟩
theorem jitems {w:World} {p:Nat} {S:Nat->Prop} {f:Nat->Int} {m o:Nat} (sz:Nat) (z0:0<sz) (z1:sz<100) (hm:m<=140737488355000) (om:o<=m) (h:Rd w p S f m o) :
  Calls prog 151 #[.agg #[.pointer (some ⟨p,0,none⟩)],.int .i64 (sz:Int)] w fun e w'=>POut ((o+8<=m/\numR f o 8<=4294967296)/\cF f o<=(m-(o+8))/sz) e (.int .i64 (cF f o:Int)) (RStep w w' p S f m (o+8)) (Upd p w w'):=by
 have BD:o+8<=m->(cF f o:Int)=numR f o 8:=fun hh=>by
  have b:=RRd.bd h;have:=(numR_bd (f:=f) (o:=o) (k:=8) (fun i hi=>b i (by omega))).1
  unfold cF;omega
 have pl:=h.pl;have CN:=jcount 4294967296 (by decide) (by decide) hm om (h.gw ((Gw.refl w).alloc #[.pointer (some ⟨p,0,none⟩)] 186))
 have UA:Hid (Upd p w (w.alloc (.cells #[.pointer (some ⟨p,0,none⟩)] 186))):=.of_gw ((Gw.refl w).alloc _ _);have bx:(w.alloc (.cells #[.pointer (some ⟨p,0,none⟩)] 186)).cell? ⟨w.heap.size,0,none⟩=some (.pointer (some ⟨p,0,none⟩)):=(rd_cell (heap_alloc_new w _)).1;have BX:Hid (∀ w2,Upd p (w.alloc (.cells #[.pointer (some ⟨p,0,none⟩)] 186)) w2->w2.cell? ⟨w.heap.size,0,none⟩=some (.pointer (some ⟨p,0,none⟩))/\w.heap.size<w2.heap.size):=fun w2 u=>⟨(u.cell (by omega) (by simp) 0).trans bx,by have:=u.size;simp at this;omega⟩
 have C1:Hid (Calls prog 121 #[.agg #[.pointer (some ⟨p,0,none⟩)],.int .i64 4294967296] (w.alloc (.cells #[.pointer (some ⟨p,0,none⟩)] 186)) fun e w'=>(w'.cell? ⟨w.heap.size,0,none⟩=some (.pointer (some ⟨p,0,none⟩))/\w.heap.size<w'.heap.size)/\POut (o+8<=m/\numR f o 8<=4294967296) e (.int .i64 (numR f o 8)) (RStep w w' p S f m (o+8)) (Upd p w w')):=CN.mono fun e w' hh=>by
  rcases hh with ⟨a,b,c⟩ | ⟨a,b,c⟩
  ·exact ⟨BX.out w' c.1,.inl ⟨a,b,RStep.after UA.out (fun _ h=>h) c⟩⟩
  ·exact ⟨BX.out w' c,.inr ⟨a,b,UA.out.trans c⟩⟩
 clear h CN bx BX UA;go_enter func151,ntmps151;go_wp2_with fail;refine C1.out.mono ?_;rintro e w2 ⟨⟨bx,bl⟩,hh⟩;clear C1;rcases hh with ⟨a,rfl,R⟩ | ⟨a,rfl,R⟩
 ·have cc:=BD a.1
  rw [<-cc];obtain ⟨u,S',r,sub⟩:=R;have LF:Hid (Calls prog 19 #[.pointer (some ⟨p,0,none⟩)] w2 fun e w'=>e=.returned (.int .i64 ((m-(o+8):Nat):Int))/\w'=w2):=octr.left r
  have RR:Hid (RStep w w2 p S f m (o+8)):=⟨u,S',r,sub⟩;have AA:Hid (o+8<=m/\numR f o 8<=4294967296):=a;have zz:((sz:Int) == 0)=false:=by simp;omega
  have zz':¬ (sz:Int)=0:=by omega
  have zz2:¬ sz=0:=by omega
  obtain ⟨M,hM⟩:∃ M,m-(o+8)=M:=⟨_,rfl⟩;have HM:Hid (m-(o+8)=M):=hM;rw [hM] at LF;have M1:M<=140737488355000:=by omega
  have dv:(M:Int).tdiv (sz:Int)=((M/sz:Nat):Int):=rfl;have dl:M/sz<=M:=Nat.div_le_self _ _;clear hM u r sub a cc BD;obtain ⟨D,hD⟩:∃ D,M/sz=D:=⟨_,rfl⟩;have HD:Hid (M/sz=D):=hD;rw [hD] at dv dl;have wd:IntKind.i64.wrap (D:Int)=(D:Int):=by rw [IntKind.wrap_i64];omega
  obtain ⟨N,hN⟩:∃ N,cF f o=N:=⟨_,rfl⟩;have HN:Hid (cF f o=N):=hN;rw [hN];clear hD hN;go_wp2_with fail;refine LF.out.mono ?_;rintro e w3 ⟨rfl,hw⟩;subst hw;by_cases q:N<=D
  ·have tq:decide (N<=D)=true:=by simpa using q
   have QQ:Hid (N<=D):=q;clear LF q;go_wp2_with fail;refine (jneed_ok _).mono ?_;rintro e w4 ⟨rfl,hw⟩;subst hw;go_wp2_with fail;go_ret;exact .inl ⟨⟨AA.out,by rw [HM.out,HD.out,HN.out];exact QQ.out⟩,by rw [HN.out];rfl,RR.out⟩
  ·have tq:decide (N<=D)=false:=by simpa using q
   have QQ:Hid (¬ N<=D):=q;clear LF q;go_wp2_with fail;refine (jneed_bad _).mono ?_;rintro e w4 ⟨rfl,hw⟩;subst hw;go_wp2_with fail;exact ⟨rfl,.inr ⟨fun t=>QQ.out (by have:=t.2;rw [HM.out,HD.out,HN.out] at this;exact this),rfl,RR.out.1⟩⟩
 ·have RR:Hid (Upd p w w2):=R
  have AA:Hid (¬ (o+8<=m/\numR f o 8<=4294967296)):=a;clear R a;go_wp2_with fail;exact ⟨rfl,.inr ⟨fun t=>AA.out t.1,rfl,RR.out⟩⟩
theorem jentry {w:World} {p:Nat} {S:Nat->Prop} {f:Nat->Int} {m i:Nat} (hm:m<=140737488355000) (om:eOff f i<=m) (h:Rd w p S f m (eOff f i)) :
  Calls prog 152 #[.agg #[.pointer (some ⟨p,0,none⟩)]] w fun e w'=>POut (eOff f i+9<=m/\f (eOff f i+8)<=1/\eOff f (i+1)<=m) e (.agg #[.int .u64 (kF f i),.int .u64 (vF f i),.bool (gF f i)]) (RStep w w' p S f m (eOff f (i+1))) (Upd p w w'):=by
 have e9:eOff f (i+1)=eOff f i+(if f (eOff f i+8)=1 then 9 else 17):=rfl
 have kf:kF f i=numR f (eOff f i) 8:=rfl;have gf:gF f i=decide (f (eOff f i+8)=1):=rfl;have vf:vF f i=if f (eOff f i+8)=1 then 0 else numR f (eOff f i+9) 8:=rfl
 have BD:Hid (∀ j,j<m-eOff f i->0<=f (eOff f i+j)/\f (eOff f i+j)<256):=RRd.bd h;have VAL:Hid (kF f i=numR f (eOff f i) 8/\gF f i=decide (f (eOff f i+8)=1)/\(vF f i=if f (eOff f i+8)=1 then 0 else numR f (eOff f i+9) 8)/\eOff f (i+1)=eOff f i+(if f (eOff f i+8)=1 then 9 else 17)):=⟨kf,gf,vf,e9⟩
 clear e9 kf gf vf;generalize kF f i=kk at *;generalize vF f i=vv at *;generalize gF f i=gg at *;generalize eOff f (i+1)=o' at *;generalize eOff f i=o at *;have pl:=h.pl;obtain ⟨wa,hwa⟩:∃ wa,wa=(w.alloc (.cells #[.pointer (some ⟨p,0,none⟩)] 186)).alloc (.cells #[.int .u64 0,.int .u64 0,.bool false] 81):=⟨_,rfl⟩;have GA:Gw w wa:=by rw [hwa];exact ((Gw.refl w).alloc _ _).alloc _ _
 have UA:Hid (Upd p w wa):=.of_gw GA;have wz:wa.heap.size=w.heap.size+2:=by rw [hwa];simp
 have b0:wa.heap[w.heap.size]?=some (.cells #[.pointer (some ⟨p,0,none⟩)] 186 (0,0)):=by
  rw [hwa];exact (((Gw.refl _).alloc _ _).below.block _ (by simp)).trans (heap_alloc_new w _)
 have b1:wa.heap[w.heap.size+1]?=some (.cells #[.int .u64 0,.int .u64 0,.bool false] 81 (0,0)):=by
  rw [hwa];have:=heap_alloc_new (w.alloc (.cells #[.pointer (some ⟨p,0,none⟩)] 186)) (.cells #[.int .u64 0,.int .u64 0,.bool false] 81);rw [show (w.alloc (.cells #[.pointer (some ⟨p,0,none⟩)] 186)).heap.size=w.heap.size+1 by simp] at this
  exact this
 have FX:Hid (∀ w2,Upd p wa w2->w2.heap[w.heap.size]?=some (.cells #[.pointer (some ⟨p,0,none⟩)] 186 (0,0))/\w2.heap[w.heap.size+1]?=some (.cells #[.int .u64 0,.int .u64 0,.bool false] 81 (0,0))):=fun w2 u=>⟨(u.blk _ (by omega) (by omega)).trans b0,(u.blk _ (by omega) (by omega)).trans b1⟩
 have N1:Hid (Calls prog 170 #[.agg #[.pointer (some ⟨p,0,none⟩)]] wa fun e w'=>POut (o+8<=m) e (.int .u64 (numR f o 8)) (RStep wa w' p S f m (o+8)) (Upd p wa w')):=jnumber hm om (h.gw GA)
 have FZz:Hid (∀ q,S q->q≠w.heap.size+1):=fun q hq=>by have:=RRd.lt h q hq;omega
 clear h b0 b1 GA wz;go_enter func152,ntmps152;go_wp2_with fail;rw [<-hwa];clear hwa;refine N1.out.mono ?_;rintro e w2 hh;clear N1;rcases hh with ⟨a,rfl,R⟩ | ⟨a,rfl,R⟩
 ·obtain ⟨B0,B1⟩:=FX.out w2 R.1
  obtain ⟨u2,S2,r2,sub2⟩:=R;obtain ⟨x0,_⟩:=rd_cell B0;have xl:w.heap.size<w2.heap.size:=(Array.getElem?_eq_some_iff.1 B0).1;have U2:Hid (Upd p wa w2):=u2;have SB2:Hid (∀ q,S2 q->S q):=sub2;have AA:Hid (o+8<=m):=a;have BY:=octr.byte 1 (by decide) (by decide) (by omega) r2
  unfold byteA at BY;rw [Nat.add_zero] at BY;by_cases c:o+9<=m/\f (o+8)<=1
  ·have C2:Hid (Calls prog 117 #[.pointer (some ⟨p,0,none⟩),.int .u8 1] w2 fun e w'=>e=.returned (.tuple #[.int .u8 (f (o+8)),.int .i64 0])/\RStep wa w' p S f m (o+9)):=BY.mono fun e w' hq=>by
    rw [if_neg (by omega),if_neg (by show ¬ 1<f (o+8+0);rw [Nat.add_zero];omega)] at hq
    exact ⟨hq.1,RStep.after U2.out SB2.out hq.2.step⟩
   have C9:Hid (o+9<=m/\f (o+8)<=1):=c;have by0:=(BD.out 8 (by omega)).1
   clear BY r2 u2 sub2 B0 B1 a;obtain ⟨y,hy⟩:∃ y,f (o+8)=y:=⟨_,rfl⟩;rw [hy] at C2 C9 VAL by0 c;obtain ⟨v1,v2,v3,v4⟩:=VAL.out;go_wp2_with fail;refine C2.out.mono ?_;rintro e w3 ⟨rfl,R3⟩;obtain ⟨B0,B1⟩:=FX.out w3 R3.1;obtain ⟨y0,_⟩:=rd_cell B0;have yl:w.heap.size<w3.heap.size:=(Array.getElem?_eq_some_iff.1 B0).1;have yl1:w.heap.size+1<w3.heap.size:=(Array.getElem?_eq_some_iff.1 B1).1;have R3':Hid (RStep wa w3 p S f m (o+9)):=R3;clear C2 x0 xl;go_wp2_with fail;refine (jneed_ok _).mono ?_;rintro e w4 ⟨rfl,hw⟩;subst hw;by_cases y1:y=1
   ·subst y1
    rw [if_pos rfl] at v3 v4;have g1:gg=true:=by rw [v2];rfl
    subst g1;subst v3;subst v4;obtain ⟨w0,hw0⟩:∃ w0,w0=w4:=⟨_,rfl⟩;subst hw0;have FIN:Hid (RStep w (put12 w0 (w.heap.size+1) kk 0 true) p S f m (o+9)):=put3_step (RStep.after UA.out (fun _ h=>h) R3'.out) (by omega) FZz.out _ _ _
    obtain ⟨p30,p31,p32⟩:=put3_cells B1 kk 0 true;obtain ⟨z0,z1,z2⟩:=ent_cells B1;obtain ⟨f0,f1,f2⟩:=ent_fz B1;rw [<-v1];unfold put12 at p30 p31 p32 FIN;have CO:Hid (o+9<=m/\f (o+8)<=1/\o+9<=m):=⟨c.1,by rw [hy];exact Int.le_refl _,c.1⟩
    clear B0 B1 R3 R3' v1 v2 UA VAL C9 c hy;go_wp2_with fail;exact bodyPost_ret (v:=.agg #[.int .u64 kk,.int .u64 0,.bool true]) (by simp [results,results152,go_sem,p30,p31,p32]) rfl (.inl ⟨CO.out,rfl,FIN.out⟩)
   ·have y2:y=0:=by omega
    subst y2;rw [if_neg (by decide)] at v3 v4
    have g1:gg=false:=by rw [v2];rfl
    subst g1;subst v4;obtain ⟨w0,hw0⟩:∃ w0,w0=w4:=⟨_,rfl⟩;subst hw0;have CE:Hid (f (o+8)<=1):=by show _<=_;rw [hy];decide
    have R3c:=R3'.out;obtain ⟨u3,S3,r3,sub3⟩:=R3c;have N2:Hid (Calls prog 170 #[.agg #[.pointer (some ⟨p,0,none⟩)]] w0 fun e w'=>POut (o+9+8<=m) e (.int .u64 vv) (RStep wa w' p S f m (o+17)) (Upd p wa w')):=(jnumber hm c.1 r3).mono fun e w' hq=>by
     rcases hq with ⟨q1,q2,q3⟩ | ⟨q1,q2,q3⟩
     ·exact .inl ⟨q1,by rw [v3];exact q2,RStep.after u3 sub3 q3⟩
     ·exact .inr ⟨q1,q2,u3.trans q3⟩
    have C9':Hid (o+9<=m):=c.1;have K1:Hid (kk=numR f o 8):=v1;rw [<-v1];clear B0 B1 R3 R3' v1 v2 v3 VAL C9 c hy u3 r3 sub3;go_wp2_with fail;refine N2.out.mono ?_;rintro e w5 hq;clear N2;rcases hq with ⟨q1,rfl,R5⟩ | ⟨q1,rfl,R5⟩
    ·obtain ⟨B0,B1⟩:=FX.out w5 R5.1
     have FIN:Hid (RStep w (put12 w5 (w.heap.size+1) kk vv false) p S f m (o+17)):=put3_step (RStep.after UA.out (fun _ h=>h) R5) (by omega) FZz.out _ _ _
     obtain ⟨p30,p31,p32⟩:=put3_cells B1 kk vv false;obtain ⟨z0,z1,z2⟩:=ent_cells B1;obtain ⟨f0,f1,f2⟩:=ent_fz B1;have l5:w.heap.size+1<w5.heap.size:=(Array.getElem?_eq_some_iff.1 B1).1;unfold put12 at p30 p31 p32 FIN;have CO:Hid (o+9<=m/\f (o+8)<=1/\o+17<=m):=⟨C9'.out,CE.out,by omega⟩
     clear B0 B1 R5 UA;go_wp2_with fail;exact bodyPost_ret (v:=.agg #[.int .u64 kk,.int .u64 vv,.bool false]) (by simp [results,results152,go_sem,p30,p31,p32]) rfl (.inl ⟨CO.out,rfl,FIN.out⟩)
    ·have FIN:Hid (Upd p w w5):=UA.out.trans R5
     clear R5 UA;go_wp2_with fail;exact ⟨rfl,.inr ⟨fun t=>by have:=t.2.2;omega,rfl,FIN.out⟩⟩
  ·have C2:Hid (Calls prog 117 #[.pointer (some ⟨p,0,none⟩),.int .u8 1] w2 fun e w'=>(∃ er,e=.returned (.tuple #[.int .u8 0,.int .i64 er])/\(er=0)=False)/\Upd p wa w'):=BY.mono fun e w' hq=>by
    by_cases c8:m-(o+8)=0
    ·rw [if_pos c8] at hq
     exact ⟨⟨100,hq.1,by simp⟩,U2.out.trans hq.2.1⟩
    ·rw [if_neg c8,if_pos (by show 1<f (o+8+0);rw [Nat.add_zero];omega)] at hq
     exact ⟨⟨101,hq.1,by simp⟩,U2.out.trans hq.2.1⟩
   have CN:Hid (¬ (o+9<=m/\f (o+8)<=1)):=c;clear BY r2 u2 sub2 B0 B1 a c;go_wp2_with fail;refine C2.out.mono ?_;rintro e w3 ⟨⟨er,rfl,e0⟩,R3⟩;have FIN:Hid (Upd p w w3):=UA.out.trans R3;have e1:(er == 0)=false:=by simpa using e0
   clear C2 x0 xl R3 UA e0;go_wp2_with fail;refine (jneed_bad _).mono ?_;rintro e w4 ⟨rfl,hw⟩;subst hw;go_wp2_with fail;exact ⟨rfl,.inr ⟨fun t=>CN.out ⟨t.1,t.2.1⟩,rfl,FIN.out⟩⟩
 ·have FIN:Hid (Upd p w w2):=UA.out.trans R
  clear R UA;go_wp2_with fail;exact ⟨rfl,.inr ⟨fun t=>by have:=t.1;omega,rfl,FIN.out⟩⟩
end Go.Proofs.YtpoohadckhphpaaGreat
