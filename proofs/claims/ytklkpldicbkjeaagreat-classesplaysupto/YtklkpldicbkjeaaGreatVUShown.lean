/- Layer 15's statements' own: shown. -/
import Derived.Test.YtklkpldicbkjeaaGreatVUTk
set_option linter.unusedVariables false
set_option maxHeartbeats 16000000
set_option maxRecDepth 20000
open Go.Proofs.Tryz
namespace Go.Proofs.YtklkpldicbkjeaaGreat
open Go.RowKit
theorem bA.gx {p:Nat} {W0 W W':World} {l:List (Nat×Array Value×TypeId)} (h:bA W0 l W) (g:Gx (fun q=>q=p) W W') (hp:W0.heap.size<=p) (hb:∀ x∈l,x.1≠p):bA W0 l W' :=
 ⟨Gx.gw h.gw0 g (fun q hq=>by rw [hq];exact hp),fun x hx=>(g.block x.1 (aE (h.lie x hx)) (hb x hx)).trans (h.lie x hx)⟩
theorem xB {W:World} {b:Nat} {t:TypeId} {l:List ah} (h:W.heap[b]?=some (.cells (l.flatMap bB).toArray t (0,0))) (ok:∀ e∈l,e.ok):EL W (some ⟨b,0,none⟩) l:=by
 refine ⟨fun _=>⟨b,0,rfl,aE h,fun i hi=>?_⟩,fun i hi=>by rw [mD hi];exact ok _ (List.getElem_mem hi)⟩
 have c:∀ j,j<3->W.cell? ⟨b,0+i*3+j,none⟩=(bB (l.getD i aF))[j]?:=fun j hj=>by
  rw [Nat.zero_add];have:=zE l i hi j hj;simp only [World.cell?,h,List.getElem?_toArray];rw [this];rfl
 exact ⟨c 0 (by decide),c 1 (by decide),c 2 (by decide)⟩
theorem Gg {HR:aV} (H:cV HR) {w:World} {p:Nat} {rs:List (Option Rn)} {eps buf B W:Int} (h:au HR w p rs eps buf B W) (ao:Option Addr) (c:Nat) (l oo kept:List ah) (j t k:Nat) (hl:EL w ao l) (hc:l.length<=c) (hz:ao=none->l.length=0/\c=0) (hs:l.length+tot rs<=2000000) (hB:0<=B/\B<4611686018427387904) (hW:0<=W/\W<4611686018427387904) (ok:cK l) (hb:(l.length:Int)=buf) (hj:freeC rs=j) (mg:Mg ah.k (l::lists (rs.take (j+1))) oo) (hk:kept=oo.filter (aS (bX (rs.drop (j+1))))) (ht:took rs l=t) (kF:kept.length=k) (hk0:0<k) :
  Calls prog 9 #[.pointer (some ⟨p,0,none⟩),.slice ao l.length c] w fun e w'=>(∃ r,e=.returned (.tuple #[.agg #[.int .i64 (j:Int),.int .i64 (t:Int),.int .i64 (k:Int)],.int .i64 0])/\r.l=kept/\au HR w' p (List.replicate j none++some r::rs.drop (j+1)) eps buf (B+1) (W+(k:Int)))/\Gx (fun q=>q=p) w w' :=
 (Ah H h ao c l hl hc hz hs hB hW).mono fun e w' ⟨⟨r0,cr,x⟩,g⟩=>by
  have e0:r0=0:=cr.one ok;rcases x with ⟨x,_⟩ | ⟨_,x,_⟩ | ⟨_,_,o,kp,rn,tr,he,ld,gY⟩
  ·exact absurd e0 x
  ·exact absurd hb x
  ·have ek:kp=kept:=tr.one ⟨by rw [hj];exact mg,by rw [hj];exact hk⟩
   subst ek;have kn:kp≠[]:=fun e=>by rw [e] at kF;simp at kF;omega
   rcases ld with ⟨a,_⟩ | ⟨_,r,rfl,_,rl,_⟩
   ·exact absurd a kn
   ·refine ⟨⟨r,by rw [he,hj,ht,kF];rfl,rl,?_⟩,g⟩
    unfold laid at gY;rw [hj,show iK kp=1 from if_neg kn,kF] at gY;exact gY
theorem acz {HR:aV} (H:cV HR) {w:World} {p:Nat} {rs:List (Option Rn)} {eps buf B W:Int} (h:au HR w p rs eps buf B W) (ao:Option Addr) (c:Nat) (l:List ah) (hl:EL w ao l) (hc:l.length<=c) (hz:ao=none->l.length=0/\c=0) (hs:l.length+tot rs<=2000000) (hB:0<=B/\B<4611686018427387904) (hW:0<=W/\W<4611686018427387904) (ok:cK l) (hb:(l.length:Int)≠buf) :
  Calls prog 9 #[.pointer (some ⟨p,0,none⟩),.slice ao l.length c] w fun e w'=>e=.returned (.tuple #[.agg #[.int .i64 0,.int .i64 0,.int .i64 0],.int .i64 151])/\au HR w' p rs eps buf B W/\Gw w w' :=
 (Ah H h ao c l hl hc hz hs hB hW).mono fun e w' ⟨⟨r0,cr,x⟩,g⟩=>by
  have e0:r0=0:=cr.one ok;rcases x with ⟨x,_⟩ | ⟨_,_,he,h1,h2⟩ | ⟨_,x,_⟩
  ·exact absurd e0 x
  ·exact ⟨he,h1,h2⟩
  ·exact absurd x hb
theorem acA {HR:aV} (H:cV HR) {w:World} {p:Nat} {rs:List (Option Rn)} {eps buf B W:Int} (h:au HR w p rs eps buf B W) (ao:Option Addr) (c:Nat) (l:List ah) (hl:EL w ao l) (hc:l.length<=c) (hz:ao=none->l.length=0/\c=0) (hs:l.length+tot rs<=2000000) (hB:0<=B/\B<4611686018427387904) (hW:0<=W/\W<4611686018427387904) (ok:¬ cK l) :
  Calls prog 9 #[.pointer (some ⟨p,0,none⟩),.slice ao l.length c] w fun e w'=>e=.returned (.tuple #[.agg #[.int .i64 0,.int .i64 0,.int .i64 0],.int .i64 150])/\au HR w' p rs eps buf B W/\Gw w w' :=
 (Ah H h ao c l hl hc hz hs hB hW).mono fun e w' ⟨⟨r0,cr,x⟩,g⟩=>by
  rcases x with ⟨_,he,h1,h2⟩ | ⟨x,_⟩ | ⟨x,_⟩
  ·exact ⟨he,h1,h2⟩
  ·rw [x] at cr;exact absurd cr ok
  ·rw [x] at cr;exact absurd cr ok
theorem Gh {a b:ah} (h:a.k<b.k) (ha:¬ (a.g=true/\a.v≠0)) (hb:¬ (b.g=true/\b.v≠0)):cK [a,b]:=cK.iff.2 ⟨by simpa [dA] using h,fun e he=>by
 rcases List.mem_cons.1 he with rfl | q
 ·exact ha
 ·rw [List.mem_singleton.1 q];exact hb⟩
theorem ok_two {a b:ah} (ha:a.ok) (hb:b.ok):∀ e∈[a,b],e.ok:=fun e he=>by
 rcases List.mem_cons.1 he with rfl | q
 ·exact ha
 ·rw [List.mem_singleton.1 q];exact hb
theorem acB {p:Int->Bool} (h:p 2=true):[(⟨2,0,true⟩:ah),⟨4,40,false⟩]=[(⟨2,0,true⟩:ah),⟨4,40,false⟩].filter (aS p):=by simp [List.filter,aS,h]
theorem acC {HR:aV} (H:cV HR) (w:World):Calls prog 5 #[] w fun e w'=>e=.returned (.bool true)/\Gw w w':=by
 have HH:ag (cV HR):=H;have N1:ag (∀ W,Calls prog 6 #[.int .i64 2,.int .i64 2] W fun e w'=>(∃ p,e=.returned (.tuple #[.pointer (some ⟨p,0,none⟩),.int .i64 0])/\W.heap.size<=p/\au HR w' p (List.replicate 40 none) 2 2 0 0)/\Gw W w'):=fun W=>(zS (HR:=HR) 2 2 W).mono fun e w' ⟨x,g⟩=>by
  rcases x with ⟨a,_⟩ | ⟨_,x⟩
  ·exact absurd (by unfold dM;decide) a
  ·exact ⟨x,g⟩
 have N2:ag (∀ W,Calls prog 6 #[.int .i64 2,.int .i64 0] W fun e w'=>e=.returned (.tuple #[.pointer none,.int .i64 1])/\Gw W w'):=fun W=>(zS (HR:=HR) 2 0 W).mono fun e w' ⟨x,g⟩=>by
  rcases x with ⟨_,a⟩ | ⟨a,_⟩
  ·exact ⟨a,g⟩
  ·exact absurd a (by unfold dM;decide)
 clear H;go_enter func5,ntmps5;go_wp2_with fail;refine Calls.mono (N1.o w) ?_;rintro e w1 ⟨⟨p,rfl,hp,hc⟩,g1⟩;have PP:ag (w.heap.size<=p):=hp;have fL:ag (au HR w1 p (List.replicate 40 none) 2 2 0 0):=hc;have G1:ag (Gw w w1):=g1;clear hp hc g1 N1;go_wp2_with fail;refine Calls.mono (N2.o w1) ?_;rintro e w2 ⟨rfl,g2⟩;have HC:ag (au HR w2 p (List.replicate 40 none) 2 2 0 0):=fL.o.gw HH.o.kp g2;have BX:ag (bA w [] w2):=bA.nil (G1.o.trans g2);clear g2 fL G1 N2;obtain ⟨a1,Gi⟩:∃ b,w2.heap.size=b:=⟨_,rfl⟩;have AQ1:ag (w2.heap.size=a1):=Gi;have Ar:ag (Gw w2 (w2.alloc (.cells #[.int .u64 1,.int .u64 10,.bool false,.int .u64 2,.int .u64 20,.bool false] 40))):=(Gw.refl _).alloc _ _;have Gj:ag ((w2.alloc (.cells #[.int .u64 1,.int .u64 10,.bool false,.int .u64 2,.int .u64 20,.bool false] 40)).heap[a1]?=some (.cells #[.int .u64 1,.int .u64 10,.bool false,.int .u64 2,.int .u64 20,.bool false] 40 (0,0))):=by rw [<-Gi];exact heap_alloc_new _ _
 clear Gi;go_wp2_with fail;rw [AQ1.o];generalize w2.alloc (.cells #[.int .u64 1,.int .u64 10,.bool false,.int .u64 2,.int .u64 20,.bool false] 40)=v1 at Ar Gj ⊢;have Ry:ag (au HR v1 p (List.replicate 40 none) 2 2 0 0):=HC.o.gw HH.o.kp Ar.o;have Rz:ag (bA w [] v1):=BX.o.gw Ar.o;have RC:ag (EL v1 (some ⟨a1,0,none⟩) [⟨1,10,false⟩,⟨2,20,false⟩]):=xB (l:=[⟨1,10,false⟩,⟨2,20,false⟩]) Gj.o (ok_two (by unfold ah.ok;decide) (by unfold ah.ok;decide))
 clear Ar Gj HC BX;have RE:=Gg HH.o Ry.o (some ⟨a1,0,none⟩) 2 [⟨1,10,false⟩,⟨2,20,false⟩] [⟨1,10,false⟩,⟨2,20,false⟩] [⟨1,10,false⟩,⟨2,20,false⟩] 0 2 2 RC.o (by decide) (fun e=>by cases e) (by decide) (by decide) (by decide) (Gh (by decide) (by decide) (by decide)) (by decide) (by rfl) (by exact ⟨rfl,rfl,rfl⟩) (by rfl) (by rfl) (by rfl) (by decide)
 have RG:ag (Calls prog 9 #[.pointer (some ⟨p,0,none⟩),.slice (some ⟨a1,0,none⟩) 2 2] v1 fun e w'=>(∃ r,e=.returned (.tuple #[.agg #[.int .i64 0,.int .i64 2,.int .i64 2],.int .i64 0])/\r.l=[⟨1,10,false⟩,⟨2,20,false⟩]/\au HR w' p (some r::List.replicate 39 none) 2 2 1 2)/\Gx (fun q=>q=p) v1 w'):=RE
 clear RE;refine Calls.mono RG.o ?_;rintro e u1 ⟨⟨r1,rfl,RH,hc⟩,gx⟩;have Gl:ag (r1.l=[⟨1,10,false⟩,⟨2,20,false⟩]):=RH;have Gm:ag (au HR u1 p (some r1::List.replicate 39 none) 2 2 1 2):=hc;have RJ:ag (bA w [] u1):=Rz.o.gx gx PP.o (by simp)
 clear hc gx RH RG Ry Rz RC;obtain ⟨b1,rq⟩:∃ b,u1.heap.size=b:=⟨_,rfl⟩;have Qb1:ag (u1.heap.size=b1):=rq;have Gn:ag (bA w [(b1,#[.int .i64 0,.int .i64 2,.int .i64 2],42)] (u1.alloc (.cells #[.int .i64 0,.int .i64 2,.int .i64 2] 42))):=by rw [<-rq];exact RJ.o.add _ _
 have Gp:ag (au HR (u1.alloc (.cells #[.int .i64 0,.int .i64 2,.int .i64 2] 42)) p (some r1::List.replicate 39 none) 2 2 1 2):=Gm.o.gw HH.o.kp ((Gw.refl _).alloc _ _);have RQ:b1≠p:=by have:=Gm.o.lt;omega
 clear rq Gm RJ;go_upto_region 6 with fail;rw [Qb1.o];generalize u1.alloc (.cells #[.int .i64 0,.int .i64 2,.int .i64 2] 42)=pN at Gn Gp ⊢;obtain ⟨a2,wH⟩:∃ b,pN.heap.size=b:=⟨_,rfl⟩;have AQ2:ag (pN.heap.size=a2):=wH;have As:ag (Gw pN (pN.alloc (.cells #[.int .u64 1,.int .u64 0,.bool true,.int .u64 3,.int .u64 30,.bool false] 40))):=(Gw.refl _).alloc _ _;have Gq:ag ((pN.alloc (.cells #[.int .u64 1,.int .u64 0,.bool true,.int .u64 3,.int .u64 30,.bool false] 40)).heap[a2]?=some (.cells #[.int .u64 1,.int .u64 0,.bool true,.int .u64 3,.int .u64 30,.bool false] 40 (0,0))):=by rw [<-wH];exact heap_alloc_new _ _
 clear wH;go_wp2_with fail;rw [AQ2.o];generalize pN.alloc (.cells #[.int .u64 1,.int .u64 0,.bool true,.int .u64 3,.int .u64 30,.bool false] 40)=v2 at As Gq ⊢;have RV:ag (au HR v2 p (some r1::List.replicate 39 none) 2 2 1 2):=Gp.o.gw HH.o.kp As.o;have RZ:ag (bA w [(b1,#[.int .i64 0,.int .i64 2,.int .i64 2],42)] v2):=Gn.o.gw As.o;have R':ag (EL v2 (some ⟨a2,0,none⟩) [⟨1,0,true⟩,⟨3,30,false⟩]):=xB (l:=[⟨1,0,true⟩,⟨3,30,false⟩]) Gq.o (ok_two (by unfold ah.ok;decide) (by unfold ah.ok;decide))
 clear As Gq Gp Gn;have At:=Gg HH.o RV.o (some ⟨a2,0,none⟩) 2 [⟨1,0,true⟩,⟨3,30,false⟩] [⟨1,0,true⟩,⟨2,20,false⟩,⟨3,30,false⟩] [⟨2,20,false⟩,⟨3,30,false⟩] 1 4 2 R'.o (by decide) (fun e=>by cases e) (by show 2+tot (some r1::List.replicate 39 none)<=_;rw [nY,Gl.o];decide) (by decide) (by decide) (Gh (by decide) (by decide) (by decide)) (by decide) (by rfl) (by show Mg ah.k [[⟨1,0,true⟩,⟨3,30,false⟩],r1.l] _;rw [Gl.o];exact ⟨rfl,rfl,rfl,rfl⟩) (by rfl) (by show 2+tot [some r1,none]=4;rw [nY,Gl.o];rfl) (by rfl) (by decide)
 have Sa:ag (Calls prog 9 #[.pointer (some ⟨p,0,none⟩),.slice (some ⟨a2,0,none⟩) 2 2] v2 fun e w'=>(∃ r,e=.returned (.tuple #[.agg #[.int .i64 1,.int .i64 4,.int .i64 2],.int .i64 0])/\r.l=[⟨2,20,false⟩,⟨3,30,false⟩]/\au HR w' p (none::some r::List.replicate 38 none) 2 2 2 4)/\Gx (fun q=>q=p) v2 w'):=At
 clear At;refine Calls.mono Sa.o ?_;rintro e u2 ⟨⟨r2,rfl,Sc,hc⟩,gx⟩;have rO:ag (r2.l=[⟨2,20,false⟩,⟨3,30,false⟩]):=Sc;have Gr:ag (au HR u2 p (none::some r2::List.replicate 38 none) 2 2 2 4):=hc;have Sd:ag (bA w [(b1,#[.int .i64 0,.int .i64 2,.int .i64 2],42)] u2):=RZ.o.gx gx PP.o (by simp;exact RQ)
 clear hc gx Sc Sa RV RZ R';obtain ⟨b2,kW⟩:∃ b,u2.heap.size=b:=⟨_,rfl⟩;have Qb2:ag (u2.heap.size=b2):=kW;have Gt:ag (bA w [(b2,#[.int .i64 1,.int .i64 4,.int .i64 2],42),(b1,#[.int .i64 0,.int .i64 2,.int .i64 2],42)] (u2.alloc (.cells #[.int .i64 1,.int .i64 4,.int .i64 2] 42))):=by rw [<-kW];exact Sd.o.add _ _
 have Au:ag (au HR (u2.alloc (.cells #[.int .i64 1,.int .i64 4,.int .i64 2] 42)) p (none::some r2::List.replicate 38 none) 2 2 2 4):=Gr.o.gw HH.o.kp ((Gw.refl _).alloc _ _);have Pb2:b2≠p:=by have:=Gr.o.lt;omega
 clear kW Gr Sd;go_upto_region 7 with fail;rw [Qb2.o];generalize u2.alloc (.cells #[.int .i64 1,.int .i64 4,.int .i64 2] 42)=Se at Gt Au ⊢;have Sf:ag (Calls prog 12 #[.pointer (some ⟨p,0,none⟩),.int .u64 1] Se fun e w'=>e=.returned (.tuple #[.agg #[.int .u64 0,.int .u64 0,.bool false],.bool false])/\Gw Se w'):=by
  have:=Ep HH.o Au.o 1 (by decide) (by decide)
  rw [show nw 1 (none::some r2::List.replicate 38 none)=none by show nw 1 (some r2::List.replicate 38 none)=none;rw [vS,rO.o];rfl] at this
  exact this
 go_wp2_with fail;refine Calls.mono Sf.o ?_
 rintro e g1 ⟨rfl,gg⟩;have Gu:ag (au HR g1 p (none::some r2::List.replicate 38 none) 2 2 2 4):=Au.o.gw HH.o.kp gg;have Sh:ag (bA w [(b2,#[.int .i64 1,.int .i64 4,.int .i64 2],42),(b1,#[.int .i64 0,.int .i64 2,.int .i64 2],42)] g1):=Gt.o.gw gg;clear gg Sf Au Gt;obtain ⟨d1,da⟩:∃ b,g1.heap.size=b:=⟨_,rfl⟩;have Qd1:ag (g1.heap.size=d1):=da;have Gv:ag (bA w [(d1,#[.int .u64 0,.int .u64 0,.bool false],40),(b2,#[.int .i64 1,.int .i64 4,.int .i64 2],42),(b1,#[.int .i64 0,.int .i64 2,.int .i64 2],42)] (g1.alloc (.cells #[.int .u64 0,.int .u64 0,.bool false] 40))):=by rw [<-da];exact Sh.o.add _ _
 have Av:ag (au HR (g1.alloc (.cells #[.int .u64 0,.int .u64 0,.bool false] 40)) p (none::some r2::List.replicate 38 none) 2 2 2 4):=Gu.o.gw HH.o.kp ((Gw.refl _).alloc _ _);have Pd1:d1≠p:=by have:=Gu.o.lt;omega
 clear da Gu Sh;go_upto_region 8 with fail;rw [Qd1.o];generalize g1.alloc (.cells #[.int .u64 0,.int .u64 0,.bool false] 40)=Si at Gv Av ⊢;have Sj:ag (Calls prog 12 #[.pointer (some ⟨p,0,none⟩),.int .u64 2] Si fun e w'=>e=.returned (.tuple #[.agg #[.int .u64 2,.int .u64 20,.bool false],.bool true])/\Gw Si w'):=by
  have:=Ep HH.o Av.o 2 (by decide) (by decide)
  rw [show nw 2 (none::some r2::List.replicate 38 none)=some ⟨2,20,false⟩ by show nw 2 (some r2::List.replicate 38 none)=_;rw [vS,rO.o];rfl] at this
  exact this
 go_wp2_with fail;refine Calls.mono Sj.o ?_
 rintro e g2 ⟨rfl,gg⟩;have Gy:ag (au HR g2 p (none::some r2::List.replicate 38 none) 2 2 2 4):=Av.o.gw HH.o.kp gg;have Sk:ag (bA w [(d1,#[.int .u64 0,.int .u64 0,.bool false],40),(b2,#[.int .i64 1,.int .i64 4,.int .i64 2],42),(b1,#[.int .i64 0,.int .i64 2,.int .i64 2],42)] g2):=Gv.o.gw gg;clear gg Sj Av Gv;obtain ⟨d2,Gz⟩:∃ b,g2.heap.size=b:=⟨_,rfl⟩;have Qd2:ag (g2.heap.size=d2):=Gz;have GC:ag (bA w [(d2,#[.int .u64 2,.int .u64 20,.bool false],40),(d1,#[.int .u64 0,.int .u64 0,.bool false],40),(b2,#[.int .i64 1,.int .i64 4,.int .i64 2],42),(b1,#[.int .i64 0,.int .i64 2,.int .i64 2],42)] (g2.alloc (.cells #[.int .u64 2,.int .u64 20,.bool false] 40))):=by rw [<-Gz];exact Sk.o.add _ _
 have GH:ag (au HR (g2.alloc (.cells #[.int .u64 2,.int .u64 20,.bool false] 40)) p (none::some r2::List.replicate 38 none) 2 2 2 4):=Gy.o.gw HH.o.kp ((Gw.refl _).alloc _ _);have Pd2:d2≠p:=by have:=Gy.o.lt;omega
 clear Gz Gy Sk;go_upto_region 9 with fail;rw [Qd2.o];generalize g2.alloc (.cells #[.int .u64 2,.int .u64 20,.bool false] 40)=ue at GC GH ⊢;obtain ⟨a3,GJ⟩:∃ b,ue.heap.size=b:=⟨_,rfl⟩;have AQ3:ag (ue.heap.size=a3):=GJ;have Aw:ag (Gw ue (ue.alloc (.cells #[.int .u64 2,.int .u64 0,.bool true,.int .u64 4,.int .u64 40,.bool false] 40))):=(Gw.refl _).alloc _ _;have GM:ag ((ue.alloc (.cells #[.int .u64 2,.int .u64 0,.bool true,.int .u64 4,.int .u64 40,.bool false] 40)).heap[a3]?=some (.cells #[.int .u64 2,.int .u64 0,.bool true,.int .u64 4,.int .u64 40,.bool false] 40 (0,0))):=by rw [<-GJ];exact heap_alloc_new _ _
 clear GJ;go_wp2_with fail;rw [AQ3.o];generalize ue.alloc (.cells #[.int .u64 2,.int .u64 0,.bool true,.int .u64 4,.int .u64 40,.bool false] 40)=v3 at Aw GM ⊢;have Sl:ag (au HR v3 p (none::some r2::List.replicate 38 none) 2 2 2 4):=GH.o.gw HH.o.kp Aw.o;have Sm:ag (bA w [(d2,#[.int .u64 2,.int .u64 20,.bool false],40),(d1,#[.int .u64 0,.int .u64 0,.bool false],40),(b2,#[.int .i64 1,.int .i64 4,.int .i64 2],42),(b1,#[.int .i64 0,.int .i64 2,.int .i64 2],42)] v3):=GC.o.gw Aw.o;have Sn:ag (EL v3 (some ⟨a3,0,none⟩) [⟨2,0,true⟩,⟨4,40,false⟩]):=xB (l:=[⟨2,0,true⟩,⟨4,40,false⟩]) GM.o (ok_two (by unfold ah.ok;decide) (by unfold ah.ok;decide))
 clear Aw GM GH GC;have LV3:ag (bX (some r2::List.replicate 38 none) 2=true):=by show _=_;unfold bX;rw [vS,rO.o];rfl
 have So:=Gg HH.o Sl.o (some ⟨a3,0,none⟩) 2 [⟨2,0,true⟩,⟨4,40,false⟩] [⟨2,0,true⟩,⟨4,40,false⟩] [⟨2,0,true⟩,⟨4,40,false⟩] 0 2 2 Sn.o (by decide) (fun e=>by cases e) (by show 2+tot (none::some r2::List.replicate 38 none)<=_;rw [DX,nY,rO.o];decide) (by decide) (by decide) (Gh (by decide) (by decide) (by decide)) (by decide) (by rfl) (by exact ⟨rfl,rfl,rfl⟩) (by exact acB LV3.o) (by rfl) (by rfl) (by decide)
 have Sq:ag (Calls prog 9 #[.pointer (some ⟨p,0,none⟩),.slice (some ⟨a3,0,none⟩) 2 2] v3 fun e w'=>(∃ r,e=.returned (.tuple #[.agg #[.int .i64 0,.int .i64 2,.int .i64 2],.int .i64 0])/\r.l=[⟨2,0,true⟩,⟨4,40,false⟩]/\au HR w' p (some r::some r2::List.replicate 38 none) 2 2 3 6)/\Gx (fun q=>q=p) v3 w'):=So
 clear So;refine Calls.mono Sq.o ?_;rintro e u3 ⟨⟨r3,rfl,Sr,hc⟩,gx⟩;have GN:ag (r3.l=[⟨2,0,true⟩,⟨4,40,false⟩]):=Sr;have GO:ag (au HR u3 p (some r3::some r2::List.replicate 38 none) 2 2 3 6):=hc;have Ss:ag (bA w [(d2,#[.int .u64 2,.int .u64 20,.bool false],40),(d1,#[.int .u64 0,.int .u64 0,.bool false],40),(b2,#[.int .i64 1,.int .i64 4,.int .i64 2],42),(b1,#[.int .i64 0,.int .i64 2,.int .i64 2],42)] u3):=Sm.o.gx gx PP.o (by simp;exact ⟨Pd2,Pd1,Pb2,RQ⟩)
 clear hc gx Sr Sq Sl Sm Sn;obtain ⟨b3,n6⟩:∃ b,u3.heap.size=b:=⟨_,rfl⟩;have Qb3:ag (u3.heap.size=b3):=n6;have Ha:ag (bA w [(b3,#[.int .i64 0,.int .i64 2,.int .i64 2],42),(d2,#[.int .u64 2,.int .u64 20,.bool false],40),(d1,#[.int .u64 0,.int .u64 0,.bool false],40),(b2,#[.int .i64 1,.int .i64 4,.int .i64 2],42),(b1,#[.int .i64 0,.int .i64 2,.int .i64 2],42)] (u3.alloc (.cells #[.int .i64 0,.int .i64 2,.int .i64 2] 42))):=by rw [<-n6];exact Ss.o.add _ _
 have xC:ag (au HR (u3.alloc (.cells #[.int .i64 0,.int .i64 2,.int .i64 2] 42)) p (some r3::some r2::List.replicate 38 none) 2 2 3 6):=GO.o.gw HH.o.kp ((Gw.refl _).alloc _ _);have Pb3:b3≠p:=by have:=GO.o.lt;omega
 clear n6 GO Ss;go_upto_region 10 with fail;rw [Qb3.o];generalize u3.alloc (.cells #[.int .i64 0,.int .i64 2,.int .i64 2] 42)=Hb at Ha xC ⊢;have SZ:ag (Calls prog 22 #[.pointer (some ⟨p,0,none⟩)] Hb fun e w'=>(∃ b:Nat,e=.returned (.slice (some ⟨b,0,none⟩) 2 2)/\w'.heap[b]?=some (.cells #[.int .i64 2,.int .i64 2] 3 (0,0))/\Hb.heap.size<=b)/\Gw Hb w'):=(OY HH.o xC.o).mono fun e w' ⟨⟨t,b,he,tr,row,hb⟩,gg⟩=>by
  have t2:t=2:=tr.one ⟨by simp,fun i hi=>by
   obtain ⟨m,rfl⟩:∃ m,i=m+2:=⟨i-2,by omega⟩
   show (List.replicate 38 none).getD m none=none;rw [List.getD_eq_getElem?_getD,List.getElem?_replicate];split<;>rfl,.inr ⟨r2,rfl⟩⟩
  subst t2;refine ⟨⟨b,he,?_,hb⟩,gg⟩;obtain ⟨cs,h1,h2,h3⟩:=row;rw [h1];congr 2;refine Array.ext_getElem? fun i=>?_
  by_cases q:i<2
  ·rw [h3 i q]
   rcases (show i=0\/i=1 by omega) with rfl | rfl
   ·show some (Value.int .i64 (r3.l.length:Int))=_;rw [GN.o];rfl
   ·show some (Value.int .i64 (r2.l.length:Int))=_;rw [rO.o];rfl
  ·rw [Array.getElem?_eq_none (by omega),Array.getElem?_eq_none (by simpa using q)]
 go_wp2_with fail;refine Calls.mono SZ.o ?_
 rintro e us ⟨⟨sb,rfl,hs,lA⟩,gg⟩;have St:ag (au HR us p (some r3::some r2::List.replicate 38 none) 2 2 3 6):=xC.o.gw HH.o.kp gg;have PS:sb≠p:=by have:=xC.o.lt;omega
 have Su:ag (bA w [(sb,#[.int .i64 2,.int .i64 2],3),(b3,#[.int .i64 0,.int .i64 2,.int .i64 2],42),(d2,#[.int .u64 2,.int .u64 20,.bool false],40),(d1,#[.int .u64 0,.int .u64 0,.bool false],40),(b2,#[.int .i64 1,.int .i64 4,.int .i64 2],42),(b1,#[.int .i64 0,.int .i64 2,.int .i64 2],42)] us):=by
  have q:=Ha.o.gw gg;exact ⟨q.gw0,fun x hx=>by
   rcases List.mem_cons.1 hx with rfl | y
   ·exact hs
   ·exact q.lie x y⟩
 clear gg SZ hs lA xC Ha;obtain ⟨a4,He⟩:∃ b,us.heap.size=b:=⟨_,rfl⟩;have AQ4:ag (us.heap.size=a4):=He;have Ax:ag (Gw us (us.alloc (.cells #[.int .u64 5,.int .u64 0,.bool false] 40))):=(Gw.refl _).alloc _ _;have Hg:ag ((us.alloc (.cells #[.int .u64 5,.int .u64 0,.bool false] 40)).heap[a4]?=some (.cells #[.int .u64 5,.int .u64 0,.bool false] 40 (0,0))):=by rw [<-He];exact heap_alloc_new _ _
 clear He;go_wp2_with fail;rw [AQ4.o];generalize us.alloc (.cells #[.int .u64 5,.int .u64 0,.bool false] 40)=v4 at Ax Hg ⊢;have Sv:ag (au HR v4 p (some r3::some r2::List.replicate 38 none) 2 2 3 6):=St.o.gw HH.o.kp Ax.o;have Sw:ag (bA w [(sb,#[.int .i64 2,.int .i64 2],3),(b3,#[.int .i64 0,.int .i64 2,.int .i64 2],42),(d2,#[.int .u64 2,.int .u64 20,.bool false],40),(d1,#[.int .u64 0,.int .u64 0,.bool false],40),(b2,#[.int .i64 1,.int .i64 4,.int .i64 2],42),(b1,#[.int .i64 0,.int .i64 2,.int .i64 2],42)] v4):=Su.o.gw Ax.o;have Sx:ag (EL v4 (some ⟨a4,0,none⟩) [⟨5,0,false⟩]):=xB (l:=[⟨5,0,false⟩]) Hg.o (fun e he=>by rw [List.mem_singleton.1 he];unfold ah.ok;decide)
 clear Ax Hg St Su;have Sy:=acz HH.o Sv.o (some ⟨a4,0,none⟩) 1 [⟨5,0,false⟩] Sx.o (by decide) (fun e=>by cases e) (by show 1+tot (some r3::some r2::List.replicate 38 none)<=_;rw [nY,nY,GN.o,rO.o];decide) (by decide) (by decide) (cK.iff.2 ⟨List.pairwise_singleton ..,fun e he=>by rw [List.mem_singleton.1 he];decide⟩) (by decide)
 have Sz:ag (Calls prog 9 #[.pointer (some ⟨p,0,none⟩),.slice (some ⟨a4,0,none⟩) 1 1] v4 fun e w'=>e=.returned (.tuple #[.agg #[.int .i64 0,.int .i64 0,.int .i64 0],.int .i64 151])/\au HR w' p (some r3::some r2::List.replicate 38 none) 2 2 3 6/\Gw v4 w'):=Sy
 clear Sy;refine Calls.mono Sz.o ?_;rintro e u4 ⟨rfl,hc,gx⟩;have Hh:ag (au HR u4 p (some r3::some r2::List.replicate 38 none) 2 2 3 6):=hc;have SC:ag (bA w [(sb,#[.int .i64 2,.int .i64 2],3),(b3,#[.int .i64 0,.int .i64 2,.int .i64 2],42),(d2,#[.int .u64 2,.int .u64 20,.bool false],40),(d1,#[.int .u64 0,.int .u64 0,.bool false],40),(b2,#[.int .i64 1,.int .i64 4,.int .i64 2],42),(b1,#[.int .i64 0,.int .i64 2,.int .i64 2],42)] u4):=Sw.o.gw gx;clear hc gx Sz Sv Sw Sx;obtain ⟨b4,oZ⟩:∃ b,u4.heap.size=b:=⟨_,rfl⟩;have Qb4:ag (u4.heap.size=b4):=oZ;have Hi:ag (bA w [(b4,#[.int .i64 0,.int .i64 0,.int .i64 0],42),(sb,#[.int .i64 2,.int .i64 2],3),(b3,#[.int .i64 0,.int .i64 2,.int .i64 2],42),(d2,#[.int .u64 2,.int .u64 20,.bool false],40),(d1,#[.int .u64 0,.int .u64 0,.bool false],40),(b2,#[.int .i64 1,.int .i64 4,.int .i64 2],42),(b1,#[.int .i64 0,.int .i64 2,.int .i64 2],42)] (u4.alloc (.cells #[.int .i64 0,.int .i64 0,.int .i64 0] 42))):=by rw [<-oZ];exact SC.o.add _ _
 have Hj:ag (au HR (u4.alloc (.cells #[.int .i64 0,.int .i64 0,.int .i64 0] 42)) p (some r3::some r2::List.replicate 38 none) 2 2 3 6):=Hh.o.gw HH.o.kp ((Gw.refl _).alloc _ _);have Pb4:b4≠p:=by have:=Hh.o.lt;omega
 clear oZ Hh SC;go_upto_region 12 with fail;rw [Qb4.o];generalize u4.alloc (.cells #[.int .i64 0,.int .i64 0,.int .i64 0] 42)=uf at Hi Hj ⊢;obtain ⟨a5,Hk⟩:∃ b,uf.heap.size=b:=⟨_,rfl⟩;have AQ5:ag (uf.heap.size=a5):=Hk;have Ay:ag (Gw uf (uf.alloc (.cells #[.int .u64 5,.int .u64 0,.bool false,.int .u64 5,.int .u64 0,.bool false] 40))):=(Gw.refl _).alloc _ _;have Hl:ag ((uf.alloc (.cells #[.int .u64 5,.int .u64 0,.bool false,.int .u64 5,.int .u64 0,.bool false] 40)).heap[a5]?=some (.cells #[.int .u64 5,.int .u64 0,.bool false,.int .u64 5,.int .u64 0,.bool false] 40 (0,0))):=by rw [<-Hk];exact heap_alloc_new _ _
 clear Hk;go_wp2_with fail;rw [AQ5.o];generalize uf.alloc (.cells #[.int .u64 5,.int .u64 0,.bool false,.int .u64 5,.int .u64 0,.bool false] 40)=v5 at Ay Hl ⊢;have SJ:ag (au HR v5 p (some r3::some r2::List.replicate 38 none) 2 2 3 6):=Hj.o.gw HH.o.kp Ay.o;have SP:ag (bA w [(b4,#[.int .i64 0,.int .i64 0,.int .i64 0],42),(sb,#[.int .i64 2,.int .i64 2],3),(b3,#[.int .i64 0,.int .i64 2,.int .i64 2],42),(d2,#[.int .u64 2,.int .u64 20,.bool false],40),(d1,#[.int .u64 0,.int .u64 0,.bool false],40),(b2,#[.int .i64 1,.int .i64 4,.int .i64 2],42),(b1,#[.int .i64 0,.int .i64 2,.int .i64 2],42)] v5):=Hi.o.gw Ay.o;have SU:ag (EL v5 (some ⟨a5,0,none⟩) [⟨5,0,false⟩,⟨5,0,false⟩]):=xB (l:=[⟨5,0,false⟩,⟨5,0,false⟩]) Hl.o (ok_two (by unfold ah.ok;decide) (by unfold ah.ok;decide))
 clear Ay Hl Hj Hi;have SX:=acA HH.o SJ.o (some ⟨a5,0,none⟩) 2 [⟨5,0,false⟩,⟨5,0,false⟩] SU.o (by decide) (fun e=>by cases e) (by show 2+tot (some r3::some r2::List.replicate 38 none)<=_;rw [nY,nY,GN.o,rO.o];decide) (by decide) (by decide) (fun q=>by have:=(cK.iff.1 q).1;simp [dA] at this)
 have S5:ag (Calls prog 9 #[.pointer (some ⟨p,0,none⟩),.slice (some ⟨a5,0,none⟩) 2 2] v5 fun e w'=>e=.returned (.tuple #[.agg #[.int .i64 0,.int .i64 0,.int .i64 0],.int .i64 150])/\au HR w' p (some r3::some r2::List.replicate 38 none) 2 2 3 6/\Gw v5 w'):=SX
 clear SX;refine Calls.mono S5.o ?_;rintro e u5 ⟨rfl,hc,gx⟩;have Hm:ag (au HR u5 p (some r3::some r2::List.replicate 38 none) 2 2 3 6):=hc;have Ta:ag (bA w [(b4,#[.int .i64 0,.int .i64 0,.int .i64 0],42),(sb,#[.int .i64 2,.int .i64 2],3),(b3,#[.int .i64 0,.int .i64 2,.int .i64 2],42),(d2,#[.int .u64 2,.int .u64 20,.bool false],40),(d1,#[.int .u64 0,.int .u64 0,.bool false],40),(b2,#[.int .i64 1,.int .i64 4,.int .i64 2],42),(b1,#[.int .i64 0,.int .i64 2,.int .i64 2],42)] u5):=SP.o.gw gx;clear hc gx S5 SJ SP SU;obtain ⟨b5,dH⟩:∃ b,u5.heap.size=b:=⟨_,rfl⟩;have Qb5:ag (u5.heap.size=b5):=dH;have cL:ag (bA w [(b5,#[.int .i64 0,.int .i64 0,.int .i64 0],42),(b4,#[.int .i64 0,.int .i64 0,.int .i64 0],42),(sb,#[.int .i64 2,.int .i64 2],3),(b3,#[.int .i64 0,.int .i64 2,.int .i64 2],42),(d2,#[.int .u64 2,.int .u64 20,.bool false],40),(d1,#[.int .u64 0,.int .u64 0,.bool false],40),(b2,#[.int .i64 1,.int .i64 4,.int .i64 2],42),(b1,#[.int .i64 0,.int .i64 2,.int .i64 2],42)] (u5.alloc (.cells #[.int .i64 0,.int .i64 0,.int .i64 0] 42))):=by rw [<-dH];exact Ta.o.add _ _
 have Az:ag (au HR (u5.alloc (.cells #[.int .i64 0,.int .i64 0,.int .i64 0] 42)) p (some r3::some r2::List.replicate 38 none) 2 2 3 6):=Hm.o.gw HH.o.kp ((Gw.refl _).alloc _ _);have Pb5:b5≠p:=by have:=Hm.o.lt;omega
 clear dH Hm Ta;go_upto_region 13 with fail;rw [Qb5.o];generalize u5.alloc (.cells #[.int .i64 0,.int .i64 0,.int .i64 0] 42)=cN at cL Az ⊢;have BB:ag (Calls prog 23 #[.pointer (some ⟨p,0,none⟩)] cN fun e w'=>e=.returned (.int .i64 3)/\w'=cN):=OZ Az.o
 have WW:ag (Calls prog 24 #[.pointer (some ⟨p,0,none⟩)] cN fun e w'=>e=.returned (.int .i64 6)/\w'=cN):=O4 Az.o
 have MO:ag (Calls prog 25 #[.int .i64 2,.int .i64 5] cN fun e w'=>e=.returned (.int .i64 64)/\w'=cN):=O' 2 5 cN
 have Fq:ag (Gw w cN):=cL.o.gw0;have af7:cN.cell? ⟨b5,0,none⟩=some (.int .i64 0):=cL.o.cell (c:=#[.int .i64 0,.int .i64 0,.int .i64 0]) (t:=42) (by simp) rfl
 have af8:cN.cell? ⟨b5,1,none⟩=some (.int .i64 0):=cL.o.cell (c:=#[.int .i64 0,.int .i64 0,.int .i64 0]) (t:=42) (by simp) rfl
 have af9:cN.cell? ⟨b5,2,none⟩=some (.int .i64 0):=cL.o.cell (c:=#[.int .i64 0,.int .i64 0,.int .i64 0]) (t:=42) (by simp) rfl
 have af':=aE (cL.o.lie (b5,#[.int .i64 0,.int .i64 0,.int .i64 0],42) (by simp))
 have aga:cN.cell? ⟨b4,0,none⟩=some (.int .i64 0):=cL.o.cell (c:=#[.int .i64 0,.int .i64 0,.int .i64 0]) (t:=42) (by simp) rfl
 have agb:cN.cell? ⟨b4,1,none⟩=some (.int .i64 0):=cL.o.cell (c:=#[.int .i64 0,.int .i64 0,.int .i64 0]) (t:=42) (by simp) rfl
 have agc:cN.cell? ⟨b4,2,none⟩=some (.int .i64 0):=cL.o.cell (c:=#[.int .i64 0,.int .i64 0,.int .i64 0]) (t:=42) (by simp) rfl
 have agd:=aE (cL.o.lie (b4,#[.int .i64 0,.int .i64 0,.int .i64 0],42) (by simp))
 have age:cN.cell? ⟨sb,0,none⟩=some (.int .i64 2):=cL.o.cell (c:=#[.int .i64 2,.int .i64 2]) (t:=3) (by simp) rfl
 have agf:cN.cell? ⟨sb,1,none⟩=some (.int .i64 2):=cL.o.cell (c:=#[.int .i64 2,.int .i64 2]) (t:=3) (by simp) rfl
 have agh:=aE (cL.o.lie (sb,#[.int .i64 2,.int .i64 2],3) (by simp))
 have agi:cN.cell? ⟨b3,0,none⟩=some (.int .i64 0):=cL.o.cell (c:=#[.int .i64 0,.int .i64 2,.int .i64 2]) (t:=42) (by simp) rfl
 have agj:cN.cell? ⟨b3,1,none⟩=some (.int .i64 2):=cL.o.cell (c:=#[.int .i64 0,.int .i64 2,.int .i64 2]) (t:=42) (by simp) rfl
 have agk:cN.cell? ⟨b3,2,none⟩=some (.int .i64 2):=cL.o.cell (c:=#[.int .i64 0,.int .i64 2,.int .i64 2]) (t:=42) (by simp) rfl
 have agl:=aE (cL.o.lie (b3,#[.int .i64 0,.int .i64 2,.int .i64 2],42) (by simp))
 have agm:cN.cell? ⟨d2,0,none⟩=some (.int .u64 2):=cL.o.cell (c:=#[.int .u64 2,.int .u64 20,.bool false]) (t:=40) (by simp) rfl
 have agn:cN.cell? ⟨d2,1,none⟩=some (.int .u64 20):=cL.o.cell (c:=#[.int .u64 2,.int .u64 20,.bool false]) (t:=40) (by simp) rfl
 have ago:cN.cell? ⟨d2,2,none⟩=some (.bool false):=cL.o.cell (c:=#[.int .u64 2,.int .u64 20,.bool false]) (t:=40) (by simp) rfl
 have agp:=aE (cL.o.lie (d2,#[.int .u64 2,.int .u64 20,.bool false],40) (by simp))
 have agq:cN.cell? ⟨d1,0,none⟩=some (.int .u64 0):=cL.o.cell (c:=#[.int .u64 0,.int .u64 0,.bool false]) (t:=40) (by simp) rfl
 have agr:cN.cell? ⟨d1,1,none⟩=some (.int .u64 0):=cL.o.cell (c:=#[.int .u64 0,.int .u64 0,.bool false]) (t:=40) (by simp) rfl
 have ags:cN.cell? ⟨d1,2,none⟩=some (.bool false):=cL.o.cell (c:=#[.int .u64 0,.int .u64 0,.bool false]) (t:=40) (by simp) rfl
 have agt:=aE (cL.o.lie (d1,#[.int .u64 0,.int .u64 0,.bool false],40) (by simp))
 have agu:cN.cell? ⟨b2,0,none⟩=some (.int .i64 1):=cL.o.cell (c:=#[.int .i64 1,.int .i64 4,.int .i64 2]) (t:=42) (by simp) rfl
 have agv:cN.cell? ⟨b2,1,none⟩=some (.int .i64 4):=cL.o.cell (c:=#[.int .i64 1,.int .i64 4,.int .i64 2]) (t:=42) (by simp) rfl
 have agw:cN.cell? ⟨b2,2,none⟩=some (.int .i64 2):=cL.o.cell (c:=#[.int .i64 1,.int .i64 4,.int .i64 2]) (t:=42) (by simp) rfl
 have agx:=aE (cL.o.lie (b2,#[.int .i64 1,.int .i64 4,.int .i64 2],42) (by simp))
 have agy:cN.cell? ⟨b1,0,none⟩=some (.int .i64 0):=cL.o.cell (c:=#[.int .i64 0,.int .i64 2,.int .i64 2]) (t:=42) (by simp) rfl
 have agz:cN.cell? ⟨b1,1,none⟩=some (.int .i64 2):=cL.o.cell (c:=#[.int .i64 0,.int .i64 2,.int .i64 2]) (t:=42) (by simp) rfl
 have agA:cN.cell? ⟨b1,2,none⟩=some (.int .i64 2):=cL.o.cell (c:=#[.int .i64 0,.int .i64 2,.int .i64 2]) (t:=42) (by simp) rfl
 have agB:=aE (cL.o.lie (b1,#[.int .i64 0,.int .i64 2,.int .i64 2],42) (by simp))
 clear Az cL;go_wp2_with fail;refine Calls.mono BB.o ?_;rintro e z1 ⟨rfl,hw⟩;have cR:cN=z1:=hw.symm;subst cR;go_wp2_with fail;refine Calls.mono WW.o ?_;rintro e z1 ⟨rfl,hw⟩;have cR:cN=z1:=hw.symm;subst cR;go_wp2_with fail;refine Calls.mono MO.o ?_;rintro e z1 ⟨rfl,hw⟩;have cR:cN=z1:=hw.symm;subst cR;go_wp2_with fail;go_ret;exact ⟨rfl,Fq.o⟩
theorem acD {buf:Int} {c:Nat} (h:1<=buf/\buf<=4294967296) (hc:c<40):fw buf (c:Int)=min (buf*2^c) 4294967296:=by
 unfold fw;rw [if_pos ⟨h,by omega,by omega⟩]
 simp
theorem acE (buf cl:Int) (w:World) :
  Calls prog 47 #[.int .i64 buf,.int .i64 cl] w fun e w'=>e=.returned (.int .i64 (fw buf cl))/\w'=w:=by
 by_cases q:(1<=buf/\buf<=4294967296)/\0<=cl/\cl<40
 ·obtain ⟨c,rfl⟩:∃ c:Nat,cl=c:=⟨cl.toNat,by omega⟩
  obtain ⟨⟨q1,q2⟩,q3,q4⟩:=q;have t1:decide (buf<1)=false:=by simpa using q1
  have t2:decide (4294967296<buf)=false:=by simpa using q2
  have t3:decide ((c:Int)<0)=false:=by simp
  have t4:decide ((40:Int)<=(c:Int))=false:=by simpa using q4
  have n40:¬ 40<=c:=by omega
  have MV:=acD ⟨q1,q2⟩ (show c<40 by omega)
  obtain ⟨A,hA⟩:∃ A,fw buf (c:Int)=A:=⟨_,rfl⟩;rw [hA] at MV ⊢;have aK:ag _:=MV;clear MV hA q3 q4;have PW:ag (∀ i:Nat,(0:Int)<2^i):=fun i=>Int.pow_pos (by decide)
  go_enter func47,ntmps47;go_wp2_with fail;go_loopg [0,5] c (fun gg s0 s5 wr=>∃ (i:Nat) (b:Int),s0=.int .i64 b/\s5=.int .i64 (i:Int)/\i<=c/\c-i<=gg/\1<=b/\b<=4294967296/\ag (b=buf*2^i)/\wr=w)
  case atStart=>exact ⟨0,buf,rfl,rfl,Nat.zero_le _,by omega,q1,q2,(show ag _ by show _=_;simp),rfl⟩
  case round =>
   obtain ⟨i,b,rfl,rfl,a1,a2,b1,b2,EB,hw⟩:=hrel;subst hw;by_cases ak:i<c
   ·have dG:(i:Int)<(c:Int):=by omega
    by_cases d:2147483648<=b
    ·have t5:decide (2147483648<=b)=true:=by simpa using d
     have e:A=4294967296:=by
      rw [aK.o];have e1:buf*2^c=b*2^(c-i):=by rw [EB.o,Int.mul_assoc,<-Int.pow_add,show i+(c-i)=c by omega]
      have e2:(2:Int)<=2^(c-i):=by
       obtain ⟨m,hm⟩:∃ m,c-i=m+1:=⟨c-i-1,by omega⟩
       rw [hm,Int.pow_succ];have:=PW.o m;omega
      have e3:b*2<=b*2^(c-i):=Int.mul_le_mul_of_nonneg_left e2 (by omega)
      omega
     subst e;clear d aK EB;go_wp2_with fail;go_ret;exact ⟨rfl,rfl⟩
    ·have t5:decide (2147483648<=b)=false:=by simpa using d
     have EB':ag (2*b=buf*2^(i+1)):=by
      show _=_;rw [EB.o,Int.pow_succ,<-Int.mul_assoc buf (2^i) 2,Int.mul_comm]
     have b3:1<=2*b:=by omega
     have b4:2*b<=4294967296:=by omega
     clear d EB;go_wp2_with fail;go_roundg (c-(i+1))
     case measure=>omega
     case rel=>exact ⟨i+1,2*b,by go_num,by go_num,by omega,Nat.le_refl _,b3,b4,EB',rfl⟩
   ·have ei:i=c:=by omega
    subst ei;have e:A=b:=by rw [aK.o,<-EB.o];omega
    subst e;clear aK EB;go_wp2_with fail;go_ret;exact ⟨rfl,rfl⟩
 ·have MV:fw buf cl=0:=by unfold fw;rw [if_neg q]
  rw [MV];have cs:buf<1\/(¬ buf<1/\4294967296<buf)\/(¬ buf<1/\¬ 4294967296<buf/\cl<0)\/(¬ buf<1/\¬ 4294967296<buf/\¬ cl<0/\40<=cl):=by omega
  clear q MV;rcases cs with a | ⟨a,b⟩ | ⟨a,b,c⟩ | ⟨a,b,c,d⟩
  ·have t1:decide (buf<1)=true:=by simpa using a
   clear a;go_enter func47,ntmps47;go_wp2_with fail;go_ret;exact ⟨rfl,rfl⟩
  ·have t1:decide (buf<1)=false:=by simpa using a
   have t2:decide (4294967296<buf)=true:=by simpa using b
   clear a b;go_enter func47,ntmps47;go_wp2_with fail;go_ret;exact ⟨rfl,rfl⟩
  ·have t1:decide (buf<1)=false:=by simpa using a
   have t2:decide (4294967296<buf)=false:=by simpa using b
   have t3:decide (cl<0)=true:=by simpa using c
   clear a b c;go_enter func47,ntmps47;go_wp2_with fail;go_ret;exact ⟨rfl,rfl⟩
  ·have t1:decide (buf<1)=false:=by simpa using a
   have t2:decide (4294967296<buf)=false:=by simpa using b
   have t3:decide (cl<0)=false:=by simpa using c
   have t4:decide (40<=cl)=true:=by simpa using d
   clear a b c d;go_enter func47,ntmps47;go_wp2_with fail;go_ret;exact ⟨rfl,rfl⟩
end Go.Proofs.YtklkpldicbkjeaaGreat
