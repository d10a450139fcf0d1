/- Layer 16's statements' own: change, sameEntries; two towers side by side. -/
import Derived.BigQuiet
import Derived.Deep.QuietTactic
import Derived.Laws.StructEq
import Derived.Test.YtjhaiiegdnamcabGreatHPBs
import Derived.Test.YtjhaiiegdnamcabGreatHGRef
import Derived.Test.YtjhaiiegdnamcabGreatHIOf
namespace Go.Proofs.YtjhaiiegdnamcabGreat
open Go.RowKit
set_option linter.unusedVariables false
def opE (x:Int×Int×Int):Ent:=if kindV x.1<4 then ⟨x.2.1,x.2.2,false⟩ else ⟨x.2.1,0,true⟩
def chB (x:Int×Int×Int) (keys:Int) (l:List Ent) (rs:List (Option Rn)) (live:Nat):Bool:=if kindV x.1<4 then decide (¬ (valE l rs x.2.1=none∧(live:Int)=keys)) else (valE l rs x.2.1).isSome
theorem opE_ok (x:Int×Int×Int):¬ ((opE x).g=true∧(opE x).v≠0):=by unfold opE;split<;>simp
set_option maxRecDepth 10000 in
set_option maxHeartbeats 4000000 in
theorem change16 {HR:HRt} (H:RunC HR) {w:World} {p:Nat} {F:Nat→Prop} {eps buf keys:Int} {l:List Ent} {rs:List (Option Rn)} {B W_:Int} {live:Nat} (h:HT HR w p F eps buf keys l rs B W_ live) (few:l.length+1+tot rs≤2000000) (hB:0≤B∧B<4611686018427387904) (hW:0≤W_∧W_<4611686018427387904) (x:Int×Int×Int) (x0:-9223372036854775808≤x.1∧x.1<9223372036854775808) (x1:0≤x.2.1∧x.2.1<18446744073709551616) (x2:0≤x.2.2∧x.2.2<18446744073709551616) :
  Calls Tryz.prog 10 #[.pointer (some ⟨p,0,none⟩), .agg #[.int .i64 x.1, .int .u64 x.2.1, .int .u64 x.2.2]] w fun ex w'=>ex=.returned (.bool (chB x keys l rs live))∧((chB x keys l rs live=false∧Gw w w')∨(chB x keys l rs live=true∧∃ n,ChOut HR w w' p F eps buf keys l rs B W_ (opE x) n)):=by
 obtain ⟨kn,ky,vl⟩:=x
 simp only at x0 x1 x2 ⊢
 have KD:Hid (∀ W,Calls Tryz.prog 18 #[.int .i64 kn] W fun e w'=>e=.returned (.int .i64 (kindV kn))∧w'=W):=fun W=>kind16 kn x0.1 x0.2 W
 obtain ⟨ob,hob⟩:∃ b,w.heap.size=b:=⟨_,rfl⟩
 have OBQ:Aside (w.heap.size=ob):=hob
 have G0:Aside (Gw w (w.alloc (.cells #[.int .i64 kn, .int .u64 ky, .int .u64 vl] 34))):=(Gw.refl w).alloc _ _
 have OB:Aside ((w.alloc (.cells #[.int .i64 kn, .int .u64 ky, .int .u64 vl] 34)).heap[ob]?=some (.cells #[.int .i64 kn, .int .u64 ky, .int .u64 vl] 34 (0,0))):=by rw [←hob];exact heap_alloc_new _ _
 have CHO:Aside (∀ w1 w' e n,Gw w w1→ChOut HR w1 w' p F eps buf keys l rs B W_ e n→ChOut HR w w' p F eps buf keys l rs B W_ e n):=fun w1 w' e n g c=>by
  obtain ⟨F',l',rs',B',W',a,b,c,d⟩:=c
  refine ⟨F',l',rs',B',W',a,?_,⟨fun q hq=>(c.1 q hq).imp id (fun y=>Nat.le_trans g.size y),fun r hr=>(c.2 r hr).imp id (fun y q hq=>Nat.le_trans g.size (y q hq))⟩,(g.gx F).trans d (fun q hq=>.inl hq)⟩
  rcases b with y | ⟨y1,y2,o,kept,rn,z1,z2,z3⟩
  ·exact .inl y
  ·refine .inr ⟨y1,y2,o,kept,rn,z1,?_,z3⟩
   rcases z2 with z | ⟨a,r,b1,b2,b3,b4,b5,b6⟩
   ·exact .inl z
   ·exact .inr ⟨a,r,b1,b2,b3,b4,fun q hq=>Nat.le_trans g.size (b5 q hq),b6⟩
 by_cases hk:kindV kn<4
 ·have kd:decide (kindV kn<4)=true:=by simpa using hk
  have EE:opE (kn,ky,vl)=⟨ky,vl,false⟩:=if_pos hk
  have CC:chB (kn,ky,vl) keys l rs live=decide (¬ (valE l rs ky=none∧(live:Int)=keys)):=if_pos hk
  rw [EE,CC]
  have PC:Hid (∀ W,Gw w W→Calls Tryz.prog 37 #[.pointer (some ⟨p,0,none⟩), .int .u64 ky, .int .u64 vl] W fun e w'=>PutT HR W w' e p F eps buf keys l rs B W_ live ky vl):=fun W g=>tput16 H (h.gw H.kp g) few hB hW ky vl x1 x2
  clear EE CC hk h H
  go_enter Tryz.func10,Tryz.ntmps10
  go_upto_region 1 with fail
  try rw [OBQ.out]
  generalize w.alloc (.cells #[.int .i64 kn, .int .u64 ky, .int .u64 vl] 34)=w1 at G0 OB ⊢
  have z0:w1.cell? ⟨ob,0,none⟩=some (.int .i64 kn):=blkc OB.out rfl
  have z1:w1.cell? ⟨ob,1,none⟩=some (.int .u64 ky):=blkc OB.out rfl
  have z2:w1.cell? ⟨ob,2,none⟩=some (.int .u64 vl):=blkc OB.out rfl
  have zl:=blkl OB.out
  clear hob
  go_wp2_with fail
  refine Calls.mono (KD.out w1) ?_
  rintro e ux ⟨rfl,hux⟩
  have hux2:=hux.symm
  subst hux2
  clear hux
  go_wp2_with fail
  refine Calls.mono (PC.out w1 G0.out) ?_
  intro e w2 hp
  rcases hp with ⟨y,rfl,g⟩ | ⟨y,rfl,ch⟩
  ·have R:Hid (Ending.returned (.bool false)=.returned (.bool (decide (¬ (valE l rs ky=none∧(live:Int)=keys))))∧((decide (¬ (valE l rs ky=none∧(live:Int)=keys))=false∧Gw w w2)∨(decide (¬ (valE l rs ky=none∧(live:Int)=keys))=true∧∃ n,ChOut HR w w2 p F eps buf keys l rs B W_ ⟨ky,vl,false⟩ n))):=by
    have d:decide (¬ (valE l rs ky=none∧(live:Int)=keys))=false:=by simpa using y
    rw [d]
    exact ⟨rfl, .inl ⟨rfl,G0.out.trans g⟩⟩
   clear y g
   go_wp2_with fail
   go_ret
   exact R.out
  ·have R:Hid (Ending.returned (.bool true)=.returned (.bool (decide (¬ (valE l rs ky=none∧(live:Int)=keys))))∧((decide (¬ (valE l rs ky=none∧(live:Int)=keys))=false∧Gw w w2)∨(decide (¬ (valE l rs ky=none∧(live:Int)=keys))=true∧∃ n,ChOut HR w w2 p F eps buf keys l rs B W_ ⟨ky,vl,false⟩ n))):=by
    have d:decide (¬ (valE l rs ky=none∧(live:Int)=keys))=true:=decide_eq_true y
    rw [d]
    exact ⟨rfl, .inr ⟨rfl,_,CHO.out w1 w2 _ _ G0.out ch⟩⟩
   clear y ch
   go_wp2_with fail
   go_ret
   exact R.out
 ·have kd:decide (kindV kn<4)=false:=by simpa using hk
  have EE:opE (kn,ky,vl)=⟨ky,0,true⟩:=if_neg hk
  have CC:chB (kn,ky,vl) keys l rs live=(valE l rs ky).isSome:=if_neg hk
  rw [EE,CC]
  have PC:Hid (∀ W,Gw w W→Calls Tryz.prog 38 #[.pointer (some ⟨p,0,none⟩), .int .u64 ky] W fun e w'=>DelT HR W w' e p F eps buf keys l rs B W_ live ky):=fun W g=>tdel16 H (h.gw H.kp g) few hB hW ky x1
  clear EE CC hk h H
  go_enter Tryz.func10,Tryz.ntmps10
  go_upto_region 1 with fail
  try rw [OBQ.out]
  generalize w.alloc (.cells #[.int .i64 kn, .int .u64 ky, .int .u64 vl] 34)=w1 at G0 OB ⊢
  have z0:w1.cell? ⟨ob,0,none⟩=some (.int .i64 kn):=blkc OB.out rfl
  have z1:w1.cell? ⟨ob,1,none⟩=some (.int .u64 ky):=blkc OB.out rfl
  have zl:=blkl OB.out
  clear hob
  go_wp2_with fail
  refine Calls.mono (KD.out w1) ?_
  rintro e ux ⟨rfl,hux⟩
  have hux2:=hux.symm
  subst hux2
  clear hux
  go_wp2_with fail
  refine Calls.mono (PC.out w1 G0.out) ?_
  intro e w2 hp
  rcases hp with ⟨y,rfl,g⟩ | ⟨y,rfl,_,ch⟩
  ·have R:Hid (Ending.returned (.bool false)=.returned (.bool (valE l rs ky).isSome)∧(((valE l rs ky).isSome=false∧Gw w w2)∨((valE l rs ky).isSome=true∧∃ n,ChOut HR w w2 p F eps buf keys l rs B W_ ⟨ky,0,true⟩ n))):=by
    rw [y]
    exact ⟨rfl, .inl ⟨rfl,G0.out.trans g⟩⟩
   clear y g
   go_wp2_with fail
   go_ret
   exact R.out
  ·have R:Hid (Ending.returned (.bool true)=.returned (.bool (valE l rs ky).isSome)∧(((valE l rs ky).isSome=false∧Gw w w2)∨((valE l rs ky).isSome=true∧∃ n,ChOut HR w w2 p F eps buf keys l rs B W_ ⟨ky,0,true⟩ n))):=by
    have d:(valE l rs ky).isSome=true:=Option.isSome_iff_ne_none.2 y
    rw [d]
    exact ⟨rfl, .inr ⟨rfl,_,CHO.out w1 w2 _ _ G0.out ch⟩⟩
   clear y ch
   go_wp2_with fail
   go_ret
   exact R.out
structure T2 (HR:HRt) (w u:World) (p:Nat) (F:Nat→Prop) (eps buf keys:Int) (l:List Ent) (rs:List (Option Rn)) (B W:Int) (live:Nat) (q:Nat) (G:Nat→Prop) (l':List Ent) (rs':List (Option Rn)) (B' W':Int) (live':Nat):Prop where
 x:Tw HR w u p F eps buf keys l rs B W live
 y:Tw HR w u q G eps buf keys l' rs' B' W' live'
 fg:∀ b,F b→¬ G b
 xg:∀ r,some r∈rs→∀ b,G b→¬ r.S b
 yf:∀ r,some r∈rs'→∀ b,F b→¬ r.S b
section
variable {HR:HRt} {w u u':World} {p q:Nat} {F G:Nat→Prop} {eps buf keys:Int} {l l':List Ent} {rs rs':List (Option Rn)} {B W B' W':Int} {live live' n:Nat} {e:Ent}
theorem T2.swap (h:T2 HR w u p F eps buf keys l rs B W live q G l' rs' B' W' live'):T2 HR w u q G eps buf keys l' rs' B' W' live' p F l rs B W live:=⟨h.y,h.x,fun b a c=>h.fg b c a,h.yf,h.xg⟩
theorem T2.to (K:Kp HR) (h:T2 HR w u p F eps buf keys l rs B W live q G l' rs' B' W' live') (g:Gw u u'):T2 HR w u' p F eps buf keys l rs B W live q G l' rs' B' W' live':=⟨h.x.to K g,h.y.to K g,h.fg,h.xg,h.yf⟩
theorem T2.first (K:Kp HR) (h:T2 HR w u p F eps buf keys l rs B W live q G l' rs' B' W' live') (c:ChOut HR u u' p F eps buf keys l rs B W e n):∃ F1 l1 rs1 B1 W1,T2 HR w u' p F1 eps buf keys l1 rs1 B1 W1 n q G l' rs' B' W' live'∧LayR HR u u' eps buf l rs B W l1 rs1 B1 W1 e:=by
 obtain ⟨F1,l1,rs1,B1,W1,a,b,c,d⟩:=h.x.step c
 refine ⟨F1,l1,rs1,B1,W1,⟨a,⟨h.y.ht.gx K d (fun z hf hg=>h.fg z hf hg) (fun z hf r hr hx=>h.yf r hr z hf hx),h.y.new,a.gw⟩,fun z hf hg=>?_,fun r hr z hg hx=>?_,fun r hr z hf hx=>?_⟩,b⟩
 ·rcases c.1 z hf with y | y
  ·exact h.fg z y hg
  ·have:=h.y.ht.lt K z (.inl hg);omega
 ·rcases c.2 r hr with y | y
  ·exact h.xg r y z hg hx
  ·have:=y z hx;have:=h.y.ht.lt K z (.inl hg);omega
 ·rcases c.1 z hf with y | y
  ·exact h.yf r hr z y hx
  ·have:=h.y.ht.lt K z (.inr ⟨r,hr,hx⟩);omega
end
def AgI (HR:HRt) (w u:World) (p q:Nat) (eps buf keys:Int) (i:Nat):Prop:=∃ F l rs B W G rs' B' W' n,T2 HR w u p F eps buf keys l rs B W n q G l rs' B' W' n∧Alk rs rs'∧BW l rs B W i∧BW l rs' B' W' i
theorem AgI.to {HR:HRt} (K:Kp HR) {w u u':World} {p q:Nat} {eps buf keys:Int} {i:Nat} (h:AgI HR w u p q eps buf keys i) (g:Gw u u'):AgI HR w u' p q eps buf keys i:=by
 obtain ⟨F,l,rs,B,W,G,rs',B',W',n,a,b⟩:=h
 exact ⟨F,l,rs,B,W,G,rs',B',W',n,a.to K g,b⟩
theorem AgI.step {HR:HRt} (K:Kp HR) {w u0 u u1:World} {p q:Nat} {F G:Nat→Prop} {eps buf keys:Int} {l:List Ent} {rs rs':List (Option Rn)} {B W B' W':Int} {n m m' i:Nat} {e:Ent} {F1:Nat→Prop} {l1:List Ent} {rs1:List (Option Rn)} {B1 W1:Int} (hi:i+1≤2000000) (oke:¬ (e.g=true∧e.v≠0)) (al:Alk rs rs') (bx:BW l rs B W i) (by_:BW l rs' B' W' i) (okl:EOk l) (lx:LayR HR u0 u eps buf l rs B W l1 rs1 B1 W1 e) (t:T2 HR w u p F1 eps buf keys l1 rs1 B1 W1 m q G l rs' B' W' n) (c:ChOut HR u u1 q G eps buf keys l rs' B' W' e m'):AgI HR w u1 p q eps buf keys (i+1):=by
 obtain ⟨G1,l2,rs2,B2,W2,a,ly⟩:=t.swap.first K c
 obtain ⟨e1,e2,_,_⟩:=lay_alike al lx ly
 subst e1
 have sm:m=m':=by
  have f1:=a.y.ht.inv.all
  have f2:=a.x.ht.inv.all
  exact f1.one (f2.same fun q=>by unfold liveE;rw [e2.newE])
 subst sm
 exact ⟨F1,l1,rs1,B1,W1,G1,rs2,B2,W2,m,a.swap,e2,bx.step hi okl lx,by_.step hi okl ly⟩
end Go.Proofs.YtjhaiiegdnamcabGreat
namespace Go.Proofs.YtjhaiiegdnamcabGreat
open Go.RowKit
set_option linter.unusedVariables false
def op0:Int×Int×Int:=(0,0,0)
def op3 (e:Int×Int×Int):List Value:=[.int .i64 e.1, .int .u64 e.2.1, .int .u64 e.2.2]
theorem info_o16:(Tryz.prog.info? 34).map (fun i=>(i.zero,i.size,i.bytes))=some (some (.agg #[.int .i64 0, .int .u64 0, .int .u64 0]),3,24):=by kernel_rfl
theorem flat_leno (l:List (Int×Int×Int)):(l.flatMap op3).length=l.length*3:=by
 induction l with
 | nil=>rfl
 | cons s l ih=>rw [List.flatMap_cons,List.length_append,ih];simp [op3];omega
theorem op3_one (e:(Int×Int×Int)):∀ u∈op3 e,u.oneCell'=true:=by
 intro u hu
 simp only [op3,List.mem_cons,List.not_mem_nil,or_false] at hu
 rcases hu with rfl | rfl | rfl<;>rfl
def OO (w:World) (base:Nat) (v:Value) (l:List (Int×Int×Int)):Prop:=w.ownsRow base 34 3 v l.length (l.flatMap op3)
theorem oo_keep {w w':World} {base:Nat} {v:Value} {l:List (Int×Int×Int)} (h:OO w base v l) (k:∀ q,v.ownBlock=some q→w'.heap[q]?=w.heap[q]?):OO w' base v l:=by
 refine ⟨h.1,?_⟩
 rcases h.2 with q | ⟨b,cap,cur,rfl,hb,hh,r⟩
 ·exact .inl q
 ·exact .inr ⟨b,cap,cur,rfl,hb,(k b rfl).trans hh,r⟩
theorem oo_gw {w w':World} {base:Nat} {v:Value} {l:List (Int×Int×Int)} (h:OO w base v l) (g:Gw w w'):OO w' base v l:=oo_keep h fun q hq=>g.below.block q (World.ownsRow.lt h q hq).2
theorem flat_o16:∀ (l:List (Int×Int×Int)) (i:Nat),i<l.length→∀ j,j<3→(l.flatMap op3)[i*3+j]?=(op3 (l.getD i op0))[j]?:=by
 intro l
 induction l with
 | nil=>intro i hi;simp at hi
 | cons s l ih =>
  intro i hi j hj
  rw [List.flatMap_cons]
  cases i with
  | zero =>
   rw [Nat.zero_mul,Nat.zero_add,List.getElem?_append_left (by show j<3;exact hj)]
   rfl
  | succ i =>
   have e:(i+1)*3+j=i*3+j+3:=by omega
   rw [e,List.getElem?_append_right (by show 3≤_;omega),show i*3+j+3-(op3 s).length=i*3+j by show i*3+j+3-3=_;omega]
   exact ih i (by simpa using hi) j hj
theorem new_op16 (w:World) (e:(Int×Int×Int)):∀ j u,(op3 e)[j]?=some u→(w.alloc (.cells #[.int .i64 e.1, .int .u64 e.2.1, .int .u64 e.2.2] 34)).cell? ((⟨w.heap.size,0,none⟩:Addr).add j)=some u:=by
 intro j u hu
 match j,hu with
 | 0,hu=>simp [op3] at hu;subst hu;simp [Addr.add,go_sem]
 | 1,hu=>simp [op3] at hu;subst hu;simp [Addr.add,go_sem]
 | 2,hu=>simp [op3] at hu;subst hu;simp [Addr.add,go_sem]
 | j+3,hu=>simp [op3] at hu
theorem oo_new (w:World) (base:Nat) (hb:base≤w.heap.size):OO (w.alloc (.cells #[] 34)) base (.slice (some ⟨w.heap.size,0,none⟩) 0 0) []:=World.ownsRow_made w #[] 0 hb (Nat.zero_le _) rfl
theorem oo_more {w:World} {base:Nat} {v:Value} {l:List (Int×Int×Int)} {e:(Int×Int×Int)} (h:w.ownsRow base 34 3 v (l.length+1) (l.flatMap op3++op3 e)):OO w base v (l++[e]):=by
 show World.ownsRow _ _ _ _ _ _ _
 rw [List.length_append,List.flatMap_append]
 simpa using h
theorem flat_seto:∀ (l:List (Int×Int×Int)) (k:Nat) (s:(Int×Int×Int)),k<l.length→(((l.flatMap op3).set (k*3) (.int .i64 s.1)).set (k*3+1) (.int .u64 s.2.1)).set (k*3+2) (.int .u64 s.2.2)=(l.set k s).flatMap op3:=by
 intro l
 induction l with
 | nil=>intro k s hk;simp at hk
 | cons t l ih =>
  intro k s hk
  cases k with
  | zero=>simp [op3]
  | succ k =>
   have:=ih k s (by simpa using hk)
   rw [List.set_cons_succ,List.flatMap_cons,List.flatMap_cons,←this]
   have e:∀ r,(k+1)*3+r=k*3+r+3:=fun r=>by omega
   have e0:(k+1)*3=k*3+3:=by omega
   rw [e 1,e 2,e0]
   simp [op3]
def put3o16 (w:World) (g o:Nat) (s:(Int×Int×Int)):World:=((w.setCell ⟨g,o,none⟩ (.int .i64 s.1)).setCell ⟨g,o+1,none⟩ (.int .u64 s.2.1)).setCell ⟨g,o+2,none⟩ (.int .u64 s.2.2)
theorem oo_put {w:World} {base g cap k n:Nat} {l:List (Int×Int×Int)} (h:OO w base (.slice (some ⟨g,0,none⟩) n cap) l) (hn:l.length=n) (hk:k<l.length) (s:(Int×Int×Int)):OO (put3o16 w g (k*3) s) base (.slice (some ⟨g,0,none⟩) n cap) (l.set k s):=by
 subst hn
 have h':w.ownsRow base 34 3 (.slice (some ⟨g,0,none⟩) l.length cap) l.length (l.flatMap op3):=h
 have r:=(((h'.stored (k*3) (.int .i64 s.1)).1.stored (k*3+1) (.int .u64 s.2.1)).1.stored (k*3+2) (.int .u64 s.2.2)).1
 rw [flat_seto l k s hk] at r
 show World.ownsRow _ _ _ _ _ _ _
 rw [List.length_set]
 exact r
theorem oo_form {w:World} {base:Nat} {bo:Option Addr} {n c:Nat} {l:List (Int×Int×Int)} (h:OO w base (.slice bo n c) l) (hn:l.length=n) (h0:0<n):∃ b,bo=some ⟨b,0,none⟩∧base≤b∧b<w.heap.size∧(∀ i,w.frozen? ⟨b,i,none⟩=false)∧∀ i,i<n→w.cell? ⟨b,i*3,none⟩=some (.int .i64 (l.getD i op0).1)∧w.cell? ⟨b,i*3+1,none⟩=some (.int .u64 (l.getD i op0).2.1)∧w.cell? ⟨b,i*3+2,none⟩=some (.int .u64 (l.getD i op0).2.2):=by
 subst hn
 rcases h.2 with ⟨_,z⟩ | ⟨b,cap,cur,e,hb,hh,r⟩
 ·omega
 ·injection e with e1 e2 e3
  subst e1 e3
  have c':∀ i,i<l.length→∀ j,j<3→w.cell? ⟨b,i*3+j,none⟩=(op3 (l.getD i op0))[j]?:=fun i hi j hj=>by
   have:=World.ownsRow.cellAt h (i*3+j) (by omega)
   rw [this]
   exact flat_o16 l i hi j hj
  exact ⟨b,rfl,hb,(Array.getElem?_eq_some_iff.1 hh).1,fun i=>by simp [World.frozen?,hh],fun i hi=>⟨c' i hi 0 (by decide),c' i hi 1 (by decide),c' i hi 2 (by decide)⟩⟩
theorem oo_row {w:World} {base:Nat} {v:Value} {l:List (Int×Int×Int)} {n:Nat} (h:OO w base v l) (hn:l.length=n):w.ownsRow base 34 3 v n (l.flatMap op3):=by
 have:=h
 unfold OO at this
 rw [hn] at this
 exact this
def swpO (t:List (Int×Int×Int)) (i j:Nat):List (Int×Int×Int):=(t.set i (t.getD j op0)).set j (t.getD i op0)
theorem swpO_len (t:List (Int×Int×Int)) (i j:Nat):(swpO t i j).length=t.length:=by simp [swpO]
theorem swpO_perm (t:List (Int×Int×Int)) {i j:Nat} (hi:i<t.length) (hj:j<t.length):(swpO t i j).Perm t:=by
 unfold swpO
 have e1:t.getD i op0=t[i]:=by simp [List.getD,hi]
 have e2:t.getD j op0=t[j]:=by simp [List.getD,hj]
 rw [e1,e2]
 exact List.set_set_perm hi hj
theorem flat_oneso (l:List (Int×Int×Int)):∀ u∈l.flatMap op3,u.oneCell'=true:=fun u hu=>by
 obtain ⟨e,_,he⟩:=List.mem_flatMap.1 hu
 exact op3_one e u he
def UqO (l:List (Int×Int×Int)):Prop:=l.Pairwise fun a b=>a.2.1≠b.2.1
def hasO (k:Int) (l:List (Int×Int×Int)):Bool:=l.any fun e=>e.2.1 == k
theorem hasO_snoc (k:Int) (l:List (Int×Int×Int)) (e:Int×Int×Int):hasO k (l++[e])=(hasO k l||e.2.1 == k):=by simp [hasO]
theorem hasO_not {k:Int} {l:List (Int×Int×Int)} (h:hasO k l=false):∀ y∈l,y.2.1≠k:=by
 intro y hy e
 unfold hasO at h
 rw [List.any_eq_false] at h
 exact h y hy (by simpa using e)
theorem UqO.snoc {l:List (Int×Int×Int)} {x:Int×Int×Int} (h:UqO l) (n:∀ y∈l,y.2.1≠x.2.1):UqO (l++[x]):=by
 unfold UqO at h ⊢
 rw [List.pairwise_append]
 exact ⟨h,List.pairwise_singleton _ _,fun a ha b hb=>by rw [List.mem_singleton.1 hb];exact n a ha⟩
theorem UqO.perm {l l':List (Int×Int×Int)} (h:UqO l) (p:l'.Perm l):UqO l':=(p.pairwise_iff (fun {a b} q=>q.symm)).2 h
def opV (l:List (Int×Int×Int)) (q:Int):Option Int:=match l.find? (fun e=>e.2.1 == q) with
 | some x=>if kindV x.1<4 then some x.2.2 else none
 | none=>none
theorem find_uq {l:List (Int×Int×Int)} (h:UqO l) {x:Int×Int×Int} (hx:x∈l):l.find? (fun e=>e.2.1 == x.2.1)=some x:=by
 induction l with
 | nil=>cases hx
 | cons y l ih =>
  obtain ⟨h1,h2⟩:=List.pairwise_cons.1 h
  rw [List.find?_cons]
  rcases List.mem_cons.1 hx with rfl | q
  ·simp
  ·have:=h1 x q
   rw [show (y.2.1 == x.2.1)=false by simpa using this]
   exact ih h2 q
theorem find_perm {l l':List (Int×Int×Int)} (h:UqO l) (p:l'.Perm l) (q:Int):l'.find? (fun e=>e.2.1 == q)=l.find? (fun e=>e.2.1 == q):=by
 cases c:l.find? (fun e=>e.2.1 == q) with
 | some x =>
  have hx:=List.mem_of_find?_eq_some c
  have hk:x.2.1=q:=by have:=List.find?_some c;simpa using this
  rw [←hk]
  exact find_uq (h.perm p) (p.mem_iff.2 hx)
 | none =>
  rw [List.find?_eq_none] at c ⊢
  exact fun x hx=>c x (p.mem_iff.1 hx)
theorem opV_perm {l l':List (Int×Int×Int)} (h:UqO l) (p:l'.Perm l) (q:Int):opV l' q=opV l q:=by unfold opV;rw [find_perm h p]
theorem opV_snoc {l:List (Int×Int×Int)} {x:Int×Int×Int} (n:∀ y∈l,y.2.1≠x.2.1) (q:Int):opV (l++[x]) q=if x.2.1=q then (if kindV x.1<4 then some x.2.2 else none) else opV l q:=by
 unfold opV
 rw [List.find?_append]
 by_cases e:x.2.1=q
 ·have:l.find? (fun e=>e.2.1 == q)=none:=by
   rw [List.find?_eq_none]
   intro y hy
   have:=n y hy
   simp
   omega
  rw [this,if_pos e]
  simp [e]
 ·rw [if_neg e]
  simp [e]
theorem opV_none {l:List (Int×Int×Int)} {k:Int} (n:∀ y∈l,y.2.1≠k):opV l k=none:=by
 unfold opV
 have:l.find? (fun e=>e.2.1 == k)=none:=by
  rw [List.find?_eq_none]
  intro y hy
  have:=n y hy
  simp
  omega
 rw [this]
theorem opV_few {l:List Ent} {rs:List (Option Rn)} {live:Nat} {os:List (Int×Int×Int)} (h:LvN (liveE l rs) live) (eq:∀ q,valE l rs q=opV os q):live≤os.length:=by
 obtain ⟨ks,k1,k2,k3⟩:=h
 have:=len_sub (b:=os.map fun x=>x.2.1) k1 fun x hx=>by
  have a:=(k2 x).1 hx
  rw [←valE_live,eq] at a
  unfold opV at a
  cases c:os.find? (fun e=>e.2.1 == x) with
  | none=>rw [c] at a;cases a
  | some y =>
   have hy:y.2.1=x:=by have:=List.find?_some c;simpa using this
   exact List.mem_map.2 ⟨y,List.mem_of_find?_eq_some c,hy⟩
 rw [List.length_map] at this
 omega
end Go.Proofs.YtjhaiiegdnamcabGreat
