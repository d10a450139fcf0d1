/- Layer 15's statements' own: shown. -/
import Derived.Test.YteflpamjgaeaiaaGreatUUTk
set_option linter.unusedVariables false
set_option maxHeartbeats 16000000
set_option maxRecDepth 20000
open Go.Proofs.Tryz
namespace Go.Proofs.YteflpamjgaeaiaaGreat
open Go.RowKit
theorem Bxs.gx {p:Nat} {W0 W W':World} {l:List (Nat×Array Value×TypeId)} (h:Bxs W0 l W) (g:Gx (fun q=>q=p) W W') (hp:W0.heap.size<=p) (hb:∀ x∈l,x.1≠p):Bxs W0 l W' :=
 ⟨Gx.gw h.gw0 g (fun q hq=>by rw [hq];exact hp),fun x hx=>(g.block x.1 (blkl (h.lie x hx)) (hb x hx)).trans (h.lie x hx)⟩
theorem el_lit {W:World} {b:Nat} {t:TypeId} {l:List Ent} (h:W.heap[b]?=some (.cells (l.flatMap ent3).toArray t (0,0))) (ok:∀ e∈l,e.ok):EL W (some ⟨b,0,none⟩) l:=by
 refine ⟨fun _=>⟨b,0,rfl,blkl h,fun i hi=>?_⟩,fun i hi=>by rw [getD_lt hi];exact ok _ (List.getElem_mem hi)⟩
 have c:∀ j,j<3->W.cell? ⟨b,0+i*3+j,none⟩=(ent3 (l.getD i ent0))[j]?:=fun j hj=>by
  rw [Nat.zero_add];have:=flat_e l i hi j hj;simp only [World.cell?,h,List.getElem?_toArray];rw [this];rfl
 exact ⟨c 0 (by decide),c 1 (by decide),c 2 (by decide)⟩
theorem take_lit {HR:HRt} (H:RunC HR) {w:World} {p:Nat} {rs:List (Option Rn)} {eps buf B W:Int} (h:HCl HR w p rs eps buf B W) (ao:Option Addr) (c:Nat) (l oo kept:List Ent) (j t k:Nat) (hl:EL w ao l) (hc:l.length<=c) (hz:ao=none->l.length=0/\c=0) (hs:l.length+tot rs<=2000000) (hB:0<=B/\B<4611686018427387904) (hW:0<=W/\W<4611686018427387904) (ok:EOk l) (hb:(l.length:Int)=buf) (hj:freeC rs=j) (mg:Mg Ent.k (l::lists (rs.take (j+1))) oo) (hk:kept=oo.filter (keepP (liveQ (rs.drop (j+1))))) (ht:took rs l=t) (hkl:kept.length=k) (hk0:0<k) :
  Calls prog 12 #[.pointer (some ⟨p,0,none⟩),.slice ao l.length c] w fun e w'=>(∃ r,e=.returned (.tuple #[.agg #[.int .i64 (j:Int),.int .i64 (t:Int),.int .i64 (k:Int)],.int .i64 0])/\r.l=kept/\HCl HR w' p (List.replicate j none++some r::rs.drop (j+1)) eps buf (B+1) (W+(k:Int)))/\Gx (fun q=>q=p) w w' :=
 (take15 H h ao c l hl hc hz hs hB hW).mono fun e w' ⟨⟨r0,cr,x⟩,g⟩=>by
  have e0:r0=0:=cr.one ok;rcases x with ⟨x,_⟩ | ⟨_,x,_⟩ | ⟨_,_,o,kp,rn,tr,he,ld,hc'⟩
  ·exact absurd e0 x
  ·exact absurd hb x
  ·have ek:kp=kept:=tr.one ⟨by rw [hj];exact mg,by rw [hj];exact hk⟩
   subst ek;have kn:kp≠[]:=fun e=>by rw [e] at hkl;simp at hkl;omega
   rcases ld with ⟨a,_⟩ | ⟨_,r,rfl,_,rl,_⟩
   ·exact absurd a kn
   ·refine ⟨⟨r,by rw [he,hj,ht,hkl];rfl,rl,?_⟩,g⟩
    unfold laid at hc';rw [hj,show one15 kp=1 from if_neg kn,hkl] at hc';exact hc'
theorem take_few {HR:HRt} (H:RunC HR) {w:World} {p:Nat} {rs:List (Option Rn)} {eps buf B W:Int} (h:HCl HR w p rs eps buf B W) (ao:Option Addr) (c:Nat) (l:List Ent) (hl:EL w ao l) (hc:l.length<=c) (hz:ao=none->l.length=0/\c=0) (hs:l.length+tot rs<=2000000) (hB:0<=B/\B<4611686018427387904) (hW:0<=W/\W<4611686018427387904) (ok:EOk l) (hb:(l.length:Int)≠buf) :
  Calls prog 12 #[.pointer (some ⟨p,0,none⟩),.slice ao l.length c] w fun e w'=>e=.returned (.tuple #[.agg #[.int .i64 0,.int .i64 0,.int .i64 0],.int .i64 151])/\HCl HR w' p rs eps buf B W/\Gw w w' :=
 (take15 H h ao c l hl hc hz hs hB hW).mono fun e w' ⟨⟨r0,cr,x⟩,g⟩=>by
  have e0:r0=0:=cr.one ok;rcases x with ⟨x,_⟩ | ⟨_,_,he,h1,h2⟩ | ⟨_,x,_⟩
  ·exact absurd e0 x
  ·exact ⟨he,h1,h2⟩
  ·exact absurd x hb
theorem take_bad {HR:HRt} (H:RunC HR) {w:World} {p:Nat} {rs:List (Option Rn)} {eps buf B W:Int} (h:HCl HR w p rs eps buf B W) (ao:Option Addr) (c:Nat) (l:List Ent) (hl:EL w ao l) (hc:l.length<=c) (hz:ao=none->l.length=0/\c=0) (hs:l.length+tot rs<=2000000) (hB:0<=B/\B<4611686018427387904) (hW:0<=W/\W<4611686018427387904) (ok:¬ EOk l) :
  Calls prog 12 #[.pointer (some ⟨p,0,none⟩),.slice ao l.length c] w fun e w'=>e=.returned (.tuple #[.agg #[.int .i64 0,.int .i64 0,.int .i64 0],.int .i64 150])/\HCl HR w' p rs eps buf B W/\Gw w w' :=
 (take15 H h ao c l hl hc hz hs hB hW).mono fun e w' ⟨⟨r0,cr,x⟩,g⟩=>by
  rcases x with ⟨_,he,h1,h2⟩ | ⟨x,_⟩ | ⟨x,_⟩
  ·exact ⟨he,h1,h2⟩
  ·rw [x] at cr;exact absurd cr ok
  ·rw [x] at cr;exact absurd cr ok
theorem eok_two {a b:Ent} (h:a.k<b.k) (ha:¬ (a.g=true/\a.v≠0)) (hb:¬ (b.g=true/\b.v≠0)):EOk [a,b]:=EOk.iff.2 ⟨by simpa [Rise] using h,fun e he=>by
 rcases List.mem_cons.1 he with rfl | q
 ·exact ha
 ·rw [List.mem_singleton.1 q];exact hb⟩
theorem ok_two {a b:Ent} (ha:a.ok) (hb:b.ok):∀ e∈[a,b],e.ok:=fun e he=>by
 rcases List.mem_cons.1 he with rfl | q
 ·exact ha
 ·rw [List.mem_singleton.1 q];exact hb
theorem keep_two {p:Int->Bool} (h:p 2=true):[(⟨2,0,true⟩:Ent),⟨4,40,false⟩]=[(⟨2,0,true⟩:Ent),⟨4,40,false⟩].filter (keepP p):=by simp [List.filter,keepP,h]
theorem shown15 {HR:HRt} (H:RunC HR) (w:World):Calls prog 8 #[] w fun e w'=>e=.returned (.bool true)/\Gw w w':=by
 have HH:Aside (RunC HR):=H;have N1:Hid (∀ W,Calls prog 9 #[.int .i64 2,.int .i64 2] W fun e w'=>(∃ p,e=.returned (.tuple #[.pointer (some ⟨p,0,none⟩),.int .i64 0])/\W.heap.size<=p/\HCl HR w' p (List.replicate 40 none) 2 2 0 0)/\Gw W w'):=fun W=>(new15 (HR:=HR) 2 2 W).mono fun e w' ⟨x,g⟩=>by
  rcases x with ⟨a,_⟩ | ⟨_,x⟩
  ·exact absurd (by unfold NewOk;decide) a
  ·exact ⟨x,g⟩
 have N2:Hid (∀ W,Calls prog 9 #[.int .i64 2,.int .i64 0] W fun e w'=>e=.returned (.tuple #[.pointer none,.int .i64 1])/\Gw W w'):=fun W=>(new15 (HR:=HR) 2 0 W).mono fun e w' ⟨x,g⟩=>by
  rcases x with ⟨_,a⟩ | ⟨a,_⟩
  ·exact ⟨a,g⟩
  ·exact absurd a (by unfold NewOk;decide)
 clear H;go_enter func8,ntmps8;go_wp2_with fail;refine Calls.mono (N1.out w) ?_;rintro e w1 ⟨⟨p,rfl,hp,hc⟩,g1⟩;have PP:Aside (w.heap.size<=p):=hp;have HC1:Aside (HCl HR w1 p (List.replicate 40 none) 2 2 0 0):=hc;have G1:Aside (Gw w w1):=g1;clear hp hc g1 N1;go_wp2_with fail;refine Calls.mono (N2.out w1) ?_;rintro e w2 ⟨rfl,g2⟩;have HC:Aside (HCl HR w2 p (List.replicate 40 none) 2 2 0 0):=HC1.out.gw HH.out.kp g2;have BX:Aside (Bxs w [] w2):=Bxs.nil (G1.out.trans g2);clear g2 HC1 G1 N2;obtain ⟨a1,ha1⟩:∃ b,w2.heap.size=b:=⟨_,rfl⟩;have AQ1:Aside (w2.heap.size=a1):=ha1;have GA1:Aside (Gw w2 (w2.alloc (.cells #[.int .u64 1,.int .u64 10,.bool false,.int .u64 2,.int .u64 20,.bool false] 40))):=(Gw.refl _).alloc _ _;have LA1:Aside ((w2.alloc (.cells #[.int .u64 1,.int .u64 10,.bool false,.int .u64 2,.int .u64 20,.bool false] 40)).heap[a1]?=some (.cells #[.int .u64 1,.int .u64 10,.bool false,.int .u64 2,.int .u64 20,.bool false] 40 (0,0))):=by rw [<-ha1];exact heap_alloc_new _ _
 clear ha1;go_wp2_with fail;rw [AQ1.out];generalize w2.alloc (.cells #[.int .u64 1,.int .u64 10,.bool false,.int .u64 2,.int .u64 20,.bool false] 40)=v1 at GA1 LA1 ⊢;have HA1:Aside (HCl HR v1 p (List.replicate 40 none) 2 2 0 0):=HC.out.gw HH.out.kp GA1.out;have XA1:Aside (Bxs w [] v1):=BX.out.gw GA1.out;have EA1:Aside (EL v1 (some ⟨a1,0,none⟩) [⟨1,10,false⟩,⟨2,20,false⟩]):=el_lit (l:=[⟨1,10,false⟩,⟨2,20,false⟩]) LA1.out (ok_two (by unfold Ent.ok;decide) (by unfold Ent.ok;decide))
 clear GA1 LA1 HC BX;have TT1:=take_lit HH.out HA1.out (some ⟨a1,0,none⟩) 2 [⟨1,10,false⟩,⟨2,20,false⟩] [⟨1,10,false⟩,⟨2,20,false⟩] [⟨1,10,false⟩,⟨2,20,false⟩] 0 2 2 EA1.out (by decide) (fun e=>by cases e) (by decide) (by decide) (by decide) (eok_two (by decide) (by decide) (by decide)) (by decide) (by rfl) (by exact ⟨rfl,rfl,rfl⟩) (by rfl) (by rfl) (by rfl) (by decide)
 have TK1:Hid (Calls prog 12 #[.pointer (some ⟨p,0,none⟩),.slice (some ⟨a1,0,none⟩) 2 2] v1 fun e w'=>(∃ r,e=.returned (.tuple #[.agg #[.int .i64 0,.int .i64 2,.int .i64 2],.int .i64 0])/\r.l=[⟨1,10,false⟩,⟨2,20,false⟩]/\HCl HR w' p (some r::List.replicate 39 none) 2 2 1 2)/\Gx (fun q=>q=p) v1 w'):=TT1
 clear TT1;refine Calls.mono TK1.out ?_;rintro e u1 ⟨⟨r1,rfl,rl1,hc⟩,gx⟩;have RL1:Aside (r1.l=[⟨1,10,false⟩,⟨2,20,false⟩]):=rl1;have Hu1:Aside (HCl HR u1 p (some r1::List.replicate 39 none) 2 2 1 2):=hc;have Xu1:Aside (Bxs w [] u1):=XA1.out.gx gx PP.out (by simp)
 clear hc gx rl1 TK1 HA1 XA1 EA1;obtain ⟨b1,hb1⟩:∃ b,u1.heap.size=b:=⟨_,rfl⟩;have Qb1:Aside (u1.heap.size=b1):=hb1;have Xb1:Aside (Bxs w [(b1,#[.int .i64 0,.int .i64 2,.int .i64 2],42)] (u1.alloc (.cells #[.int .i64 0,.int .i64 2,.int .i64 2] 42))):=by rw [<-hb1];exact Xu1.out.add _ _
 have Hb1:Aside (HCl HR (u1.alloc (.cells #[.int .i64 0,.int .i64 2,.int .i64 2] 42)) p (some r1::List.replicate 39 none) 2 2 1 2):=Hu1.out.gw HH.out.kp ((Gw.refl _).alloc _ _);have Pb1:b1≠p:=by have:=Hu1.out.lt;omega
 clear hb1 Hu1 Xu1;go_upto_region 6 with fail;rw [Qb1.out];generalize u1.alloc (.cells #[.int .i64 0,.int .i64 2,.int .i64 2] 42)=yb1 at Xb1 Hb1 ⊢;obtain ⟨a2,ha2⟩:∃ b,yb1.heap.size=b:=⟨_,rfl⟩;have AQ2:Aside (yb1.heap.size=a2):=ha2;have GA2:Aside (Gw yb1 (yb1.alloc (.cells #[.int .u64 1,.int .u64 0,.bool true,.int .u64 3,.int .u64 30,.bool false] 40))):=(Gw.refl _).alloc _ _;have LA2:Aside ((yb1.alloc (.cells #[.int .u64 1,.int .u64 0,.bool true,.int .u64 3,.int .u64 30,.bool false] 40)).heap[a2]?=some (.cells #[.int .u64 1,.int .u64 0,.bool true,.int .u64 3,.int .u64 30,.bool false] 40 (0,0))):=by rw [<-ha2];exact heap_alloc_new _ _
 clear ha2;go_wp2_with fail;rw [AQ2.out];generalize yb1.alloc (.cells #[.int .u64 1,.int .u64 0,.bool true,.int .u64 3,.int .u64 30,.bool false] 40)=v2 at GA2 LA2 ⊢;have HA2:Aside (HCl HR v2 p (some r1::List.replicate 39 none) 2 2 1 2):=Hb1.out.gw HH.out.kp GA2.out;have XA2:Aside (Bxs w [(b1,#[.int .i64 0,.int .i64 2,.int .i64 2],42)] v2):=Xb1.out.gw GA2.out;have EA2:Aside (EL v2 (some ⟨a2,0,none⟩) [⟨1,0,true⟩,⟨3,30,false⟩]):=el_lit (l:=[⟨1,0,true⟩,⟨3,30,false⟩]) LA2.out (ok_two (by unfold Ent.ok;decide) (by unfold Ent.ok;decide))
 clear GA2 LA2 Hb1 Xb1;have TT2:=take_lit HH.out HA2.out (some ⟨a2,0,none⟩) 2 [⟨1,0,true⟩,⟨3,30,false⟩] [⟨1,0,true⟩,⟨2,20,false⟩,⟨3,30,false⟩] [⟨2,20,false⟩,⟨3,30,false⟩] 1 4 2 EA2.out (by decide) (fun e=>by cases e) (by show 2+tot (some r1::List.replicate 39 none)<=_;rw [tot_some,RL1.out];decide) (by decide) (by decide) (eok_two (by decide) (by decide) (by decide)) (by decide) (by rfl) (by show Mg Ent.k [[⟨1,0,true⟩,⟨3,30,false⟩],r1.l] _;rw [RL1.out];exact ⟨rfl,rfl,rfl,rfl⟩) (by rfl) (by show 2+tot [some r1,none]=4;rw [tot_some,RL1.out];rfl) (by rfl) (by decide)
 have TK2:Hid (Calls prog 12 #[.pointer (some ⟨p,0,none⟩),.slice (some ⟨a2,0,none⟩) 2 2] v2 fun e w'=>(∃ r,e=.returned (.tuple #[.agg #[.int .i64 1,.int .i64 4,.int .i64 2],.int .i64 0])/\r.l=[⟨2,20,false⟩,⟨3,30,false⟩]/\HCl HR w' p (none::some r::List.replicate 38 none) 2 2 2 4)/\Gx (fun q=>q=p) v2 w'):=TT2
 clear TT2;refine Calls.mono TK2.out ?_;rintro e u2 ⟨⟨r2,rfl,rl2,hc⟩,gx⟩;have RL2:Aside (r2.l=[⟨2,20,false⟩,⟨3,30,false⟩]):=rl2;have Hu2:Aside (HCl HR u2 p (none::some r2::List.replicate 38 none) 2 2 2 4):=hc;have Xu2:Aside (Bxs w [(b1,#[.int .i64 0,.int .i64 2,.int .i64 2],42)] u2):=XA2.out.gx gx PP.out (by simp;exact Pb1)
 clear hc gx rl2 TK2 HA2 XA2 EA2;obtain ⟨b2,hb2⟩:∃ b,u2.heap.size=b:=⟨_,rfl⟩;have Qb2:Aside (u2.heap.size=b2):=hb2;have Xb2:Aside (Bxs w [(b2,#[.int .i64 1,.int .i64 4,.int .i64 2],42),(b1,#[.int .i64 0,.int .i64 2,.int .i64 2],42)] (u2.alloc (.cells #[.int .i64 1,.int .i64 4,.int .i64 2] 42))):=by rw [<-hb2];exact Xu2.out.add _ _
 have Hb2:Aside (HCl HR (u2.alloc (.cells #[.int .i64 1,.int .i64 4,.int .i64 2] 42)) p (none::some r2::List.replicate 38 none) 2 2 2 4):=Hu2.out.gw HH.out.kp ((Gw.refl _).alloc _ _);have Pb2:b2≠p:=by have:=Hu2.out.lt;omega
 clear hb2 Hu2 Xu2;go_upto_region 7 with fail;rw [Qb2.out];generalize u2.alloc (.cells #[.int .i64 1,.int .i64 4,.int .i64 2] 42)=yb2 at Xb2 Hb2 ⊢;have GT1:Hid (Calls prog 15 #[.pointer (some ⟨p,0,none⟩),.int .u64 1] yb2 fun e w'=>e=.returned (.tuple #[.agg #[.int .u64 0,.int .u64 0,.bool false],.bool false])/\Gw yb2 w'):=by
  have:=get15 HH.out Hb2.out 1 (by decide) (by decide)
  rw [show nw 1 (none::some r2::List.replicate 38 none)=none by show nw 1 (some r2::List.replicate 38 none)=none;rw [nw_some,RL2.out];rfl] at this
  exact this
 go_wp2_with fail;refine Calls.mono GT1.out ?_
 rintro e g1 ⟨rfl,gg⟩;have Hg1:Aside (HCl HR g1 p (none::some r2::List.replicate 38 none) 2 2 2 4):=Hb2.out.gw HH.out.kp gg;have Xg1:Aside (Bxs w [(b2,#[.int .i64 1,.int .i64 4,.int .i64 2],42),(b1,#[.int .i64 0,.int .i64 2,.int .i64 2],42)] g1):=Xb2.out.gw gg;clear gg GT1 Hb2 Xb2;obtain ⟨d1,hd1⟩:∃ b,g1.heap.size=b:=⟨_,rfl⟩;have Qd1:Aside (g1.heap.size=d1):=hd1;have Xd1:Aside (Bxs w [(d1,#[.int .u64 0,.int .u64 0,.bool false],40),(b2,#[.int .i64 1,.int .i64 4,.int .i64 2],42),(b1,#[.int .i64 0,.int .i64 2,.int .i64 2],42)] (g1.alloc (.cells #[.int .u64 0,.int .u64 0,.bool false] 40))):=by rw [<-hd1];exact Xg1.out.add _ _
 have Hd1:Aside (HCl HR (g1.alloc (.cells #[.int .u64 0,.int .u64 0,.bool false] 40)) p (none::some r2::List.replicate 38 none) 2 2 2 4):=Hg1.out.gw HH.out.kp ((Gw.refl _).alloc _ _);have Pd1:d1≠p:=by have:=Hg1.out.lt;omega
 clear hd1 Hg1 Xg1;go_upto_region 8 with fail;rw [Qd1.out];generalize g1.alloc (.cells #[.int .u64 0,.int .u64 0,.bool false] 40)=yd1 at Xd1 Hd1 ⊢;have GT2:Hid (Calls prog 15 #[.pointer (some ⟨p,0,none⟩),.int .u64 2] yd1 fun e w'=>e=.returned (.tuple #[.agg #[.int .u64 2,.int .u64 20,.bool false],.bool true])/\Gw yd1 w'):=by
  have:=get15 HH.out Hd1.out 2 (by decide) (by decide)
  rw [show nw 2 (none::some r2::List.replicate 38 none)=some ⟨2,20,false⟩ by show nw 2 (some r2::List.replicate 38 none)=_;rw [nw_some,RL2.out];rfl] at this
  exact this
 go_wp2_with fail;refine Calls.mono GT2.out ?_
 rintro e g2 ⟨rfl,gg⟩;have Hg2:Aside (HCl HR g2 p (none::some r2::List.replicate 38 none) 2 2 2 4):=Hd1.out.gw HH.out.kp gg;have Xg2:Aside (Bxs w [(d1,#[.int .u64 0,.int .u64 0,.bool false],40),(b2,#[.int .i64 1,.int .i64 4,.int .i64 2],42),(b1,#[.int .i64 0,.int .i64 2,.int .i64 2],42)] g2):=Xd1.out.gw gg;clear gg GT2 Hd1 Xd1;obtain ⟨d2,hd2⟩:∃ b,g2.heap.size=b:=⟨_,rfl⟩;have Qd2:Aside (g2.heap.size=d2):=hd2;have Xd2:Aside (Bxs w [(d2,#[.int .u64 2,.int .u64 20,.bool false],40),(d1,#[.int .u64 0,.int .u64 0,.bool false],40),(b2,#[.int .i64 1,.int .i64 4,.int .i64 2],42),(b1,#[.int .i64 0,.int .i64 2,.int .i64 2],42)] (g2.alloc (.cells #[.int .u64 2,.int .u64 20,.bool false] 40))):=by rw [<-hd2];exact Xg2.out.add _ _
 have Hd2:Aside (HCl HR (g2.alloc (.cells #[.int .u64 2,.int .u64 20,.bool false] 40)) p (none::some r2::List.replicate 38 none) 2 2 2 4):=Hg2.out.gw HH.out.kp ((Gw.refl _).alloc _ _);have Pd2:d2≠p:=by have:=Hg2.out.lt;omega
 clear hd2 Hg2 Xg2;go_upto_region 9 with fail;rw [Qd2.out];generalize g2.alloc (.cells #[.int .u64 2,.int .u64 20,.bool false] 40)=yd2 at Xd2 Hd2 ⊢;obtain ⟨a3,ha3⟩:∃ b,yd2.heap.size=b:=⟨_,rfl⟩;have AQ3:Aside (yd2.heap.size=a3):=ha3;have GA3:Aside (Gw yd2 (yd2.alloc (.cells #[.int .u64 2,.int .u64 0,.bool true,.int .u64 4,.int .u64 40,.bool false] 40))):=(Gw.refl _).alloc _ _;have LA3:Aside ((yd2.alloc (.cells #[.int .u64 2,.int .u64 0,.bool true,.int .u64 4,.int .u64 40,.bool false] 40)).heap[a3]?=some (.cells #[.int .u64 2,.int .u64 0,.bool true,.int .u64 4,.int .u64 40,.bool false] 40 (0,0))):=by rw [<-ha3];exact heap_alloc_new _ _
 clear ha3;go_wp2_with fail;rw [AQ3.out];generalize yd2.alloc (.cells #[.int .u64 2,.int .u64 0,.bool true,.int .u64 4,.int .u64 40,.bool false] 40)=v3 at GA3 LA3 ⊢;have HA3:Aside (HCl HR v3 p (none::some r2::List.replicate 38 none) 2 2 2 4):=Hd2.out.gw HH.out.kp GA3.out;have XA3:Aside (Bxs w [(d2,#[.int .u64 2,.int .u64 20,.bool false],40),(d1,#[.int .u64 0,.int .u64 0,.bool false],40),(b2,#[.int .i64 1,.int .i64 4,.int .i64 2],42),(b1,#[.int .i64 0,.int .i64 2,.int .i64 2],42)] v3):=Xd2.out.gw GA3.out;have EA3:Aside (EL v3 (some ⟨a3,0,none⟩) [⟨2,0,true⟩,⟨4,40,false⟩]):=el_lit (l:=[⟨2,0,true⟩,⟨4,40,false⟩]) LA3.out (ok_two (by unfold Ent.ok;decide) (by unfold Ent.ok;decide))
 clear GA3 LA3 Hd2 Xd2;have LV3:Hid (liveQ (some r2::List.replicate 38 none) 2=true):=by show _=_;unfold liveQ;rw [nw_some,RL2.out];rfl
 have TT3:=take_lit HH.out HA3.out (some ⟨a3,0,none⟩) 2 [⟨2,0,true⟩,⟨4,40,false⟩] [⟨2,0,true⟩,⟨4,40,false⟩] [⟨2,0,true⟩,⟨4,40,false⟩] 0 2 2 EA3.out (by decide) (fun e=>by cases e) (by show 2+tot (none::some r2::List.replicate 38 none)<=_;rw [tot_none,tot_some,RL2.out];decide) (by decide) (by decide) (eok_two (by decide) (by decide) (by decide)) (by decide) (by rfl) (by exact ⟨rfl,rfl,rfl⟩) (by exact keep_two LV3.out) (by rfl) (by rfl) (by decide)
 have TK3:Hid (Calls prog 12 #[.pointer (some ⟨p,0,none⟩),.slice (some ⟨a3,0,none⟩) 2 2] v3 fun e w'=>(∃ r,e=.returned (.tuple #[.agg #[.int .i64 0,.int .i64 2,.int .i64 2],.int .i64 0])/\r.l=[⟨2,0,true⟩,⟨4,40,false⟩]/\HCl HR w' p (some r::some r2::List.replicate 38 none) 2 2 3 6)/\Gx (fun q=>q=p) v3 w'):=TT3
 clear TT3;refine Calls.mono TK3.out ?_;rintro e u3 ⟨⟨r3,rfl,rl3,hc⟩,gx⟩;have RL3:Aside (r3.l=[⟨2,0,true⟩,⟨4,40,false⟩]):=rl3;have Hu3:Aside (HCl HR u3 p (some r3::some r2::List.replicate 38 none) 2 2 3 6):=hc;have Xu3:Aside (Bxs w [(d2,#[.int .u64 2,.int .u64 20,.bool false],40),(d1,#[.int .u64 0,.int .u64 0,.bool false],40),(b2,#[.int .i64 1,.int .i64 4,.int .i64 2],42),(b1,#[.int .i64 0,.int .i64 2,.int .i64 2],42)] u3):=XA3.out.gx gx PP.out (by simp;exact ⟨Pd2,Pd1,Pb2,Pb1⟩)
 clear hc gx rl3 TK3 HA3 XA3 EA3;obtain ⟨b3,hb3⟩:∃ b,u3.heap.size=b:=⟨_,rfl⟩;have Qb3:Aside (u3.heap.size=b3):=hb3;have Xb3:Aside (Bxs w [(b3,#[.int .i64 0,.int .i64 2,.int .i64 2],42),(d2,#[.int .u64 2,.int .u64 20,.bool false],40),(d1,#[.int .u64 0,.int .u64 0,.bool false],40),(b2,#[.int .i64 1,.int .i64 4,.int .i64 2],42),(b1,#[.int .i64 0,.int .i64 2,.int .i64 2],42)] (u3.alloc (.cells #[.int .i64 0,.int .i64 2,.int .i64 2] 42))):=by rw [<-hb3];exact Xu3.out.add _ _
 have Hb3:Aside (HCl HR (u3.alloc (.cells #[.int .i64 0,.int .i64 2,.int .i64 2] 42)) p (some r3::some r2::List.replicate 38 none) 2 2 3 6):=Hu3.out.gw HH.out.kp ((Gw.refl _).alloc _ _);have Pb3:b3≠p:=by have:=Hu3.out.lt;omega
 clear hb3 Hu3 Xu3;go_upto_region 10 with fail;rw [Qb3.out];generalize u3.alloc (.cells #[.int .i64 0,.int .i64 2,.int .i64 2] 42)=yb3 at Xb3 Hb3 ⊢;have SZ:Hid (Calls prog 41 #[.pointer (some ⟨p,0,none⟩)] yb3 fun e w'=>(∃ b:Nat,e=.returned (.slice (some ⟨b,0,none⟩) 2 2)/\w'.heap[b]?=some (.cells #[.int .i64 2,.int .i64 2] 3 (0,0))/\yb3.heap.size<=b)/\Gw yb3 w'):=(sizes15 HH.out Hb3.out).mono fun e w' ⟨⟨t,b,he,tr,row,hb⟩,gg⟩=>by
  have t2:t=2:=tr.one ⟨by simp,fun i hi=>by
   obtain ⟨m,rfl⟩:∃ m,i=m+2:=⟨i-2,by omega⟩
   show (List.replicate 38 none).getD m none=none;rw [List.getD_eq_getElem?_getD,List.getElem?_replicate];split<;>rfl,.inr ⟨r2,rfl⟩⟩
  subst t2;refine ⟨⟨b,he,?_,hb⟩,gg⟩;obtain ⟨cs,h1,h2,h3⟩:=row;rw [h1];congr 2;refine Array.ext_getElem? fun i=>?_
  by_cases q:i<2
  ·rw [h3 i q]
   rcases (show i=0\/i=1 by omega) with rfl | rfl
   ·show some (Value.int .i64 (r3.l.length:Int))=_;rw [RL3.out];rfl
   ·show some (Value.int .i64 (r2.l.length:Int))=_;rw [RL2.out];rfl
  ·rw [Array.getElem?_eq_none (by omega),Array.getElem?_eq_none (by simpa using q)]
 go_wp2_with fail;refine Calls.mono SZ.out ?_
 rintro e us ⟨⟨sb,rfl,hs,hsb⟩,gg⟩;have Hus:Aside (HCl HR us p (some r3::some r2::List.replicate 38 none) 2 2 3 6):=Hb3.out.gw HH.out.kp gg;have PS:sb≠p:=by have:=Hb3.out.lt;omega
 have Xus:Aside (Bxs w [(sb,#[.int .i64 2,.int .i64 2],3),(b3,#[.int .i64 0,.int .i64 2,.int .i64 2],42),(d2,#[.int .u64 2,.int .u64 20,.bool false],40),(d1,#[.int .u64 0,.int .u64 0,.bool false],40),(b2,#[.int .i64 1,.int .i64 4,.int .i64 2],42),(b1,#[.int .i64 0,.int .i64 2,.int .i64 2],42)] us):=by
  have q:=Xb3.out.gw gg;exact ⟨q.gw0,fun x hx=>by
   rcases List.mem_cons.1 hx with rfl | y
   ·exact hs
   ·exact q.lie x y⟩
 clear gg SZ hs hsb Hb3 Xb3;obtain ⟨a4,ha4⟩:∃ b,us.heap.size=b:=⟨_,rfl⟩;have AQ4:Aside (us.heap.size=a4):=ha4;have GA4:Aside (Gw us (us.alloc (.cells #[.int .u64 5,.int .u64 0,.bool false] 40))):=(Gw.refl _).alloc _ _;have LA4:Aside ((us.alloc (.cells #[.int .u64 5,.int .u64 0,.bool false] 40)).heap[a4]?=some (.cells #[.int .u64 5,.int .u64 0,.bool false] 40 (0,0))):=by rw [<-ha4];exact heap_alloc_new _ _
 clear ha4;go_wp2_with fail;rw [AQ4.out];generalize us.alloc (.cells #[.int .u64 5,.int .u64 0,.bool false] 40)=v4 at GA4 LA4 ⊢;have HA4:Aside (HCl HR v4 p (some r3::some r2::List.replicate 38 none) 2 2 3 6):=Hus.out.gw HH.out.kp GA4.out;have XA4:Aside (Bxs w [(sb,#[.int .i64 2,.int .i64 2],3),(b3,#[.int .i64 0,.int .i64 2,.int .i64 2],42),(d2,#[.int .u64 2,.int .u64 20,.bool false],40),(d1,#[.int .u64 0,.int .u64 0,.bool false],40),(b2,#[.int .i64 1,.int .i64 4,.int .i64 2],42),(b1,#[.int .i64 0,.int .i64 2,.int .i64 2],42)] v4):=Xus.out.gw GA4.out;have EA4:Aside (EL v4 (some ⟨a4,0,none⟩) [⟨5,0,false⟩]):=el_lit (l:=[⟨5,0,false⟩]) LA4.out (fun e he=>by rw [List.mem_singleton.1 he];unfold Ent.ok;decide)
 clear GA4 LA4 Hus Xus;have TT4:=take_few HH.out HA4.out (some ⟨a4,0,none⟩) 1 [⟨5,0,false⟩] EA4.out (by decide) (fun e=>by cases e) (by show 1+tot (some r3::some r2::List.replicate 38 none)<=_;rw [tot_some,tot_some,RL3.out,RL2.out];decide) (by decide) (by decide) (EOk.iff.2 ⟨List.pairwise_singleton ..,fun e he=>by rw [List.mem_singleton.1 he];decide⟩) (by decide)
 have TK4:Hid (Calls prog 12 #[.pointer (some ⟨p,0,none⟩),.slice (some ⟨a4,0,none⟩) 1 1] v4 fun e w'=>e=.returned (.tuple #[.agg #[.int .i64 0,.int .i64 0,.int .i64 0],.int .i64 151])/\HCl HR w' p (some r3::some r2::List.replicate 38 none) 2 2 3 6/\Gw v4 w'):=TT4
 clear TT4;refine Calls.mono TK4.out ?_;rintro e u4 ⟨rfl,hc,gx⟩;have Hu4:Aside (HCl HR u4 p (some r3::some r2::List.replicate 38 none) 2 2 3 6):=hc;have Xu4:Aside (Bxs w [(sb,#[.int .i64 2,.int .i64 2],3),(b3,#[.int .i64 0,.int .i64 2,.int .i64 2],42),(d2,#[.int .u64 2,.int .u64 20,.bool false],40),(d1,#[.int .u64 0,.int .u64 0,.bool false],40),(b2,#[.int .i64 1,.int .i64 4,.int .i64 2],42),(b1,#[.int .i64 0,.int .i64 2,.int .i64 2],42)] u4):=XA4.out.gw gx;clear hc gx TK4 HA4 XA4 EA4;obtain ⟨b4,hb4⟩:∃ b,u4.heap.size=b:=⟨_,rfl⟩;have Qb4:Aside (u4.heap.size=b4):=hb4;have Xb4:Aside (Bxs w [(b4,#[.int .i64 0,.int .i64 0,.int .i64 0],42),(sb,#[.int .i64 2,.int .i64 2],3),(b3,#[.int .i64 0,.int .i64 2,.int .i64 2],42),(d2,#[.int .u64 2,.int .u64 20,.bool false],40),(d1,#[.int .u64 0,.int .u64 0,.bool false],40),(b2,#[.int .i64 1,.int .i64 4,.int .i64 2],42),(b1,#[.int .i64 0,.int .i64 2,.int .i64 2],42)] (u4.alloc (.cells #[.int .i64 0,.int .i64 0,.int .i64 0] 42))):=by rw [<-hb4];exact Xu4.out.add _ _
 have Hb4:Aside (HCl HR (u4.alloc (.cells #[.int .i64 0,.int .i64 0,.int .i64 0] 42)) p (some r3::some r2::List.replicate 38 none) 2 2 3 6):=Hu4.out.gw HH.out.kp ((Gw.refl _).alloc _ _);have Pb4:b4≠p:=by have:=Hu4.out.lt;omega
 clear hb4 Hu4 Xu4;go_upto_region 12 with fail;rw [Qb4.out];generalize u4.alloc (.cells #[.int .i64 0,.int .i64 0,.int .i64 0] 42)=yb4 at Xb4 Hb4 ⊢;obtain ⟨a5,ha5⟩:∃ b,yb4.heap.size=b:=⟨_,rfl⟩;have AQ5:Aside (yb4.heap.size=a5):=ha5;have GA5:Aside (Gw yb4 (yb4.alloc (.cells #[.int .u64 5,.int .u64 0,.bool false,.int .u64 5,.int .u64 0,.bool false] 40))):=(Gw.refl _).alloc _ _;have LA5:Aside ((yb4.alloc (.cells #[.int .u64 5,.int .u64 0,.bool false,.int .u64 5,.int .u64 0,.bool false] 40)).heap[a5]?=some (.cells #[.int .u64 5,.int .u64 0,.bool false,.int .u64 5,.int .u64 0,.bool false] 40 (0,0))):=by rw [<-ha5];exact heap_alloc_new _ _
 clear ha5;go_wp2_with fail;rw [AQ5.out];generalize yb4.alloc (.cells #[.int .u64 5,.int .u64 0,.bool false,.int .u64 5,.int .u64 0,.bool false] 40)=v5 at GA5 LA5 ⊢;have HA5:Aside (HCl HR v5 p (some r3::some r2::List.replicate 38 none) 2 2 3 6):=Hb4.out.gw HH.out.kp GA5.out;have XA5:Aside (Bxs w [(b4,#[.int .i64 0,.int .i64 0,.int .i64 0],42),(sb,#[.int .i64 2,.int .i64 2],3),(b3,#[.int .i64 0,.int .i64 2,.int .i64 2],42),(d2,#[.int .u64 2,.int .u64 20,.bool false],40),(d1,#[.int .u64 0,.int .u64 0,.bool false],40),(b2,#[.int .i64 1,.int .i64 4,.int .i64 2],42),(b1,#[.int .i64 0,.int .i64 2,.int .i64 2],42)] v5):=Xb4.out.gw GA5.out;have EA5:Aside (EL v5 (some ⟨a5,0,none⟩) [⟨5,0,false⟩,⟨5,0,false⟩]):=el_lit (l:=[⟨5,0,false⟩,⟨5,0,false⟩]) LA5.out (ok_two (by unfold Ent.ok;decide) (by unfold Ent.ok;decide))
 clear GA5 LA5 Hb4 Xb4;have TT5:=take_bad HH.out HA5.out (some ⟨a5,0,none⟩) 2 [⟨5,0,false⟩,⟨5,0,false⟩] EA5.out (by decide) (fun e=>by cases e) (by show 2+tot (some r3::some r2::List.replicate 38 none)<=_;rw [tot_some,tot_some,RL3.out,RL2.out];decide) (by decide) (by decide) (fun q=>by have:=(EOk.iff.1 q).1;simp [Rise] at this)
 have TK5:Hid (Calls prog 12 #[.pointer (some ⟨p,0,none⟩),.slice (some ⟨a5,0,none⟩) 2 2] v5 fun e w'=>e=.returned (.tuple #[.agg #[.int .i64 0,.int .i64 0,.int .i64 0],.int .i64 150])/\HCl HR w' p (some r3::some r2::List.replicate 38 none) 2 2 3 6/\Gw v5 w'):=TT5
 clear TT5;refine Calls.mono TK5.out ?_;rintro e u5 ⟨rfl,hc,gx⟩;have Hu5:Aside (HCl HR u5 p (some r3::some r2::List.replicate 38 none) 2 2 3 6):=hc;have Xu5:Aside (Bxs w [(b4,#[.int .i64 0,.int .i64 0,.int .i64 0],42),(sb,#[.int .i64 2,.int .i64 2],3),(b3,#[.int .i64 0,.int .i64 2,.int .i64 2],42),(d2,#[.int .u64 2,.int .u64 20,.bool false],40),(d1,#[.int .u64 0,.int .u64 0,.bool false],40),(b2,#[.int .i64 1,.int .i64 4,.int .i64 2],42),(b1,#[.int .i64 0,.int .i64 2,.int .i64 2],42)] u5):=XA5.out.gw gx;clear hc gx TK5 HA5 XA5 EA5;obtain ⟨b5,hb5⟩:∃ b,u5.heap.size=b:=⟨_,rfl⟩;have Qb5:Aside (u5.heap.size=b5):=hb5;have Xb5:Aside (Bxs w [(b5,#[.int .i64 0,.int .i64 0,.int .i64 0],42),(b4,#[.int .i64 0,.int .i64 0,.int .i64 0],42),(sb,#[.int .i64 2,.int .i64 2],3),(b3,#[.int .i64 0,.int .i64 2,.int .i64 2],42),(d2,#[.int .u64 2,.int .u64 20,.bool false],40),(d1,#[.int .u64 0,.int .u64 0,.bool false],40),(b2,#[.int .i64 1,.int .i64 4,.int .i64 2],42),(b1,#[.int .i64 0,.int .i64 2,.int .i64 2],42)] (u5.alloc (.cells #[.int .i64 0,.int .i64 0,.int .i64 0] 42))):=by rw [<-hb5];exact Xu5.out.add _ _
 have Hb5:Aside (HCl HR (u5.alloc (.cells #[.int .i64 0,.int .i64 0,.int .i64 0] 42)) p (some r3::some r2::List.replicate 38 none) 2 2 3 6):=Hu5.out.gw HH.out.kp ((Gw.refl _).alloc _ _);have Pb5:b5≠p:=by have:=Hu5.out.lt;omega
 clear hb5 Hu5 Xu5;go_upto_region 13 with fail;rw [Qb5.out];generalize u5.alloc (.cells #[.int .i64 0,.int .i64 0,.int .i64 0] 42)=yb5 at Xb5 Hb5 ⊢;have BB:Hid (Calls prog 42 #[.pointer (some ⟨p,0,none⟩)] yb5 fun e w'=>e=.returned (.int .i64 3)/\w'=yb5):=builds15 Hb5.out
 have WW:Hid (Calls prog 43 #[.pointer (some ⟨p,0,none⟩)] yb5 fun e w'=>e=.returned (.int .i64 6)/\w'=yb5):=written15 Hb5.out
 have MO:Hid (Calls prog 44 #[.int .i64 2,.int .i64 5] yb5 fun e w'=>e=.returned (.int .i64 64)/\w'=yb5):=most15 2 5 yb5
 have GW9:Aside (Gw w yb5):=Xb5.out.gw0;have c_b5_0:yb5.cell? ⟨b5,0,none⟩=some (.int .i64 0):=Xb5.out.cell (c:=#[.int .i64 0,.int .i64 0,.int .i64 0]) (t:=42) (by simp) rfl
 have c_b5_1:yb5.cell? ⟨b5,1,none⟩=some (.int .i64 0):=Xb5.out.cell (c:=#[.int .i64 0,.int .i64 0,.int .i64 0]) (t:=42) (by simp) rfl
 have c_b5_2:yb5.cell? ⟨b5,2,none⟩=some (.int .i64 0):=Xb5.out.cell (c:=#[.int .i64 0,.int .i64 0,.int .i64 0]) (t:=42) (by simp) rfl
 have l_b5:=blkl (Xb5.out.lie (b5,#[.int .i64 0,.int .i64 0,.int .i64 0],42) (by simp))
 have c_b4_0:yb5.cell? ⟨b4,0,none⟩=some (.int .i64 0):=Xb5.out.cell (c:=#[.int .i64 0,.int .i64 0,.int .i64 0]) (t:=42) (by simp) rfl
 have c_b4_1:yb5.cell? ⟨b4,1,none⟩=some (.int .i64 0):=Xb5.out.cell (c:=#[.int .i64 0,.int .i64 0,.int .i64 0]) (t:=42) (by simp) rfl
 have c_b4_2:yb5.cell? ⟨b4,2,none⟩=some (.int .i64 0):=Xb5.out.cell (c:=#[.int .i64 0,.int .i64 0,.int .i64 0]) (t:=42) (by simp) rfl
 have l_b4:=blkl (Xb5.out.lie (b4,#[.int .i64 0,.int .i64 0,.int .i64 0],42) (by simp))
 have c_sb_0:yb5.cell? ⟨sb,0,none⟩=some (.int .i64 2):=Xb5.out.cell (c:=#[.int .i64 2,.int .i64 2]) (t:=3) (by simp) rfl
 have c_sb_1:yb5.cell? ⟨sb,1,none⟩=some (.int .i64 2):=Xb5.out.cell (c:=#[.int .i64 2,.int .i64 2]) (t:=3) (by simp) rfl
 have l_sb:=blkl (Xb5.out.lie (sb,#[.int .i64 2,.int .i64 2],3) (by simp))
 have c_b3_0:yb5.cell? ⟨b3,0,none⟩=some (.int .i64 0):=Xb5.out.cell (c:=#[.int .i64 0,.int .i64 2,.int .i64 2]) (t:=42) (by simp) rfl
 have c_b3_1:yb5.cell? ⟨b3,1,none⟩=some (.int .i64 2):=Xb5.out.cell (c:=#[.int .i64 0,.int .i64 2,.int .i64 2]) (t:=42) (by simp) rfl
 have c_b3_2:yb5.cell? ⟨b3,2,none⟩=some (.int .i64 2):=Xb5.out.cell (c:=#[.int .i64 0,.int .i64 2,.int .i64 2]) (t:=42) (by simp) rfl
 have l_b3:=blkl (Xb5.out.lie (b3,#[.int .i64 0,.int .i64 2,.int .i64 2],42) (by simp))
 have c_d2_0:yb5.cell? ⟨d2,0,none⟩=some (.int .u64 2):=Xb5.out.cell (c:=#[.int .u64 2,.int .u64 20,.bool false]) (t:=40) (by simp) rfl
 have c_d2_1:yb5.cell? ⟨d2,1,none⟩=some (.int .u64 20):=Xb5.out.cell (c:=#[.int .u64 2,.int .u64 20,.bool false]) (t:=40) (by simp) rfl
 have c_d2_2:yb5.cell? ⟨d2,2,none⟩=some (.bool false):=Xb5.out.cell (c:=#[.int .u64 2,.int .u64 20,.bool false]) (t:=40) (by simp) rfl
 have l_d2:=blkl (Xb5.out.lie (d2,#[.int .u64 2,.int .u64 20,.bool false],40) (by simp))
 have c_d1_0:yb5.cell? ⟨d1,0,none⟩=some (.int .u64 0):=Xb5.out.cell (c:=#[.int .u64 0,.int .u64 0,.bool false]) (t:=40) (by simp) rfl
 have c_d1_1:yb5.cell? ⟨d1,1,none⟩=some (.int .u64 0):=Xb5.out.cell (c:=#[.int .u64 0,.int .u64 0,.bool false]) (t:=40) (by simp) rfl
 have c_d1_2:yb5.cell? ⟨d1,2,none⟩=some (.bool false):=Xb5.out.cell (c:=#[.int .u64 0,.int .u64 0,.bool false]) (t:=40) (by simp) rfl
 have l_d1:=blkl (Xb5.out.lie (d1,#[.int .u64 0,.int .u64 0,.bool false],40) (by simp))
 have c_b2_0:yb5.cell? ⟨b2,0,none⟩=some (.int .i64 1):=Xb5.out.cell (c:=#[.int .i64 1,.int .i64 4,.int .i64 2]) (t:=42) (by simp) rfl
 have c_b2_1:yb5.cell? ⟨b2,1,none⟩=some (.int .i64 4):=Xb5.out.cell (c:=#[.int .i64 1,.int .i64 4,.int .i64 2]) (t:=42) (by simp) rfl
 have c_b2_2:yb5.cell? ⟨b2,2,none⟩=some (.int .i64 2):=Xb5.out.cell (c:=#[.int .i64 1,.int .i64 4,.int .i64 2]) (t:=42) (by simp) rfl
 have l_b2:=blkl (Xb5.out.lie (b2,#[.int .i64 1,.int .i64 4,.int .i64 2],42) (by simp))
 have c_b1_0:yb5.cell? ⟨b1,0,none⟩=some (.int .i64 0):=Xb5.out.cell (c:=#[.int .i64 0,.int .i64 2,.int .i64 2]) (t:=42) (by simp) rfl
 have c_b1_1:yb5.cell? ⟨b1,1,none⟩=some (.int .i64 2):=Xb5.out.cell (c:=#[.int .i64 0,.int .i64 2,.int .i64 2]) (t:=42) (by simp) rfl
 have c_b1_2:yb5.cell? ⟨b1,2,none⟩=some (.int .i64 2):=Xb5.out.cell (c:=#[.int .i64 0,.int .i64 2,.int .i64 2]) (t:=42) (by simp) rfl
 have l_b1:=blkl (Xb5.out.lie (b1,#[.int .i64 0,.int .i64 2,.int .i64 2],42) (by simp))
 clear Hb5 Xb5;go_wp2_with fail;refine Calls.mono BB.out ?_;rintro e z1 ⟨rfl,hw⟩;have hw':yb5=z1:=hw.symm;subst hw';go_wp2_with fail;refine Calls.mono WW.out ?_;rintro e z1 ⟨rfl,hw⟩;have hw':yb5=z1:=hw.symm;subst hw';go_wp2_with fail;refine Calls.mono MO.out ?_;rintro e z1 ⟨rfl,hw⟩;have hw':yb5=z1:=hw.symm;subst hw';go_wp2_with fail;go_ret;exact ⟨rfl,GW9.out⟩
theorem mostV_ok {buf:Int} {c:Nat} (h:1<=buf/\buf<=4294967296) (hc:c<40):mostV buf (c:Int)=min (buf*2^c) 4294967296:=by
 unfold mostV;rw [if_pos ⟨h,by omega,by omega⟩]
 simp
theorem rmost15 (buf cl:Int) (w:World) :
  Calls prog 66 #[.int .i64 buf,.int .i64 cl] w fun e w'=>e=.returned (.int .i64 (mostV buf cl))/\w'=w:=by
 by_cases q:(1<=buf/\buf<=4294967296)/\0<=cl/\cl<40
 ·obtain ⟨c,rfl⟩:∃ c:Nat,cl=c:=⟨cl.toNat,by omega⟩
  obtain ⟨⟨q1,q2⟩,q3,q4⟩:=q;have t1:decide (buf<1)=false:=by simpa using q1
  have t2:decide (4294967296<buf)=false:=by simpa using q2
  have t3:decide ((c:Int)<0)=false:=by simp
  have t4:decide ((40:Int)<=(c:Int))=false:=by simpa using q4
  have n40:¬ 40<=c:=by omega
  have MV:=mostV_ok ⟨q1,q2⟩ (show c<40 by omega)
  obtain ⟨A,hA⟩:∃ A,mostV buf (c:Int)=A:=⟨_,rfl⟩;rw [hA] at MV ⊢;have RES:Aside _:=MV;clear MV hA q3 q4;have PW:Hid (∀ i:Nat,(0:Int)<2^i):=fun i=>Int.pow_pos (by decide)
  go_enter func66,ntmps66;go_wp2_with fail;go_loopg [0,5] c (fun gg s0 s5 wr=>∃ (i:Nat) (b:Int),s0=.int .i64 b/\s5=.int .i64 (i:Int)/\i<=c/\c-i<=gg/\1<=b/\b<=4294967296/\Aside (b=buf*2^i)/\wr=w)
  case atStart=>exact ⟨0,buf,rfl,rfl,Nat.zero_le _,by omega,q1,q2,(show Aside _ by show _=_;simp),rfl⟩
  case round =>
   obtain ⟨i,b,rfl,rfl,a1,a2,b1,b2,EB,hw⟩:=hrel;subst hw;by_cases hlt:i<c
   ·have hlt':(i:Int)<(c:Int):=by omega
    by_cases d:2147483648<=b
    ·have t5:decide (2147483648<=b)=true:=by simpa using d
     have e:A=4294967296:=by
      rw [RES.out];have e1:buf*2^c=b*2^(c-i):=by rw [EB.out,Int.mul_assoc,<-Int.pow_add,show i+(c-i)=c by omega]
      have e2:(2:Int)<=2^(c-i):=by
       obtain ⟨m,hm⟩:∃ m,c-i=m+1:=⟨c-i-1,by omega⟩
       rw [hm,Int.pow_succ];have:=PW.out m;omega
      have e3:b*2<=b*2^(c-i):=Int.mul_le_mul_of_nonneg_left e2 (by omega)
      omega
     subst e;clear d RES EB;go_wp2_with fail;go_ret;exact ⟨rfl,rfl⟩
    ·have t5:decide (2147483648<=b)=false:=by simpa using d
     have EB':Aside (2*b=buf*2^(i+1)):=by
      show _=_;rw [EB.out,Int.pow_succ,<-Int.mul_assoc buf (2^i) 2,Int.mul_comm]
     have b3:1<=2*b:=by omega
     have b4:2*b<=4294967296:=by omega
     clear d EB;go_wp2_with fail;go_roundg (c-(i+1))
     case measure=>omega
     case rel=>exact ⟨i+1,2*b,by go_num,by go_num,by omega,Nat.le_refl _,b3,b4,EB',rfl⟩
   ·have ei:i=c:=by omega
    subst ei;have e:A=b:=by rw [RES.out,<-EB.out];omega
    subst e;clear RES EB;go_wp2_with fail;go_ret;exact ⟨rfl,rfl⟩
 ·have MV:mostV buf cl=0:=by unfold mostV;rw [if_neg q]
  rw [MV];have cs:buf<1\/(¬ buf<1/\4294967296<buf)\/(¬ buf<1/\¬ 4294967296<buf/\cl<0)\/(¬ buf<1/\¬ 4294967296<buf/\¬ cl<0/\40<=cl):=by omega
  clear q MV;rcases cs with a | ⟨a,b⟩ | ⟨a,b,c⟩ | ⟨a,b,c,d⟩
  ·have t1:decide (buf<1)=true:=by simpa using a
   clear a;go_enter func66,ntmps66;go_wp2_with fail;go_ret;exact ⟨rfl,rfl⟩
  ·have t1:decide (buf<1)=false:=by simpa using a
   have t2:decide (4294967296<buf)=true:=by simpa using b
   clear a b;go_enter func66,ntmps66;go_wp2_with fail;go_ret;exact ⟨rfl,rfl⟩
  ·have t1:decide (buf<1)=false:=by simpa using a
   have t2:decide (4294967296<buf)=false:=by simpa using b
   have t3:decide (cl<0)=true:=by simpa using c
   clear a b c;go_enter func66,ntmps66;go_wp2_with fail;go_ret;exact ⟨rfl,rfl⟩
  ·have t1:decide (buf<1)=false:=by simpa using a
   have t2:decide (4294967296<buf)=false:=by simpa using b
   have t3:decide (cl<0)=false:=by simpa using c
   have t4:decide (40<=cl)=true:=by simpa using d
   clear a b c d;go_enter func66,ntmps66;go_wp2_with fail;go_ret;exact ⟨rfl,rfl⟩
end Go.Proofs.YteflpamjgaeaiaaGreat
