/- Towers in memory. -/
import Derived.Test.YtemijdhemdhclaaGreatNUInv
import Derived.Test.YtemijdhemdhclaaGreatNQPut
set_option linter.unusedVariables false
set_option maxHeartbeats 4000000
set_option maxRecDepth 20000
open Go.Proofs.Tryz
namespace Go.Proofs.YtemijdhemdhclaaGreat
open Go.RowKit
def twA (eps buf keys:Int) (pb pc:Nat) (live:Nat):Array Value:=#[.int .i64 eps,.int .i64 buf,.int .i64 keys,.pointer (some ⟨pb,0,none⟩),.pointer (some ⟨pc,0,none⟩),.int .i64 (live:Int)]
structure HS (HR:HRt) (w:World) (pb:Nat) (Sb:Nat->Prop) (pc:Nat) (eps buf:Int) (l:List Ent) (rs:List (Option Rn)) (B W:Int):Prop where
 hb:HB 92 w pb Sb buf l
 hc:HCl HR w pc rs eps buf B W
 nc:¬ Sb pc
 nr:∀ r,some r∈rs->∀ q,Sb q->¬ r.S q
structure HT (HR:HRt) (w:World) (p:Nat) (F:Nat->Prop) (eps buf keys:Int) (l:List Ent) (rs:List (Option Rn)) (B W:Int) (live:Nat):Prop where
 lies:∃ pb Sb pc,w.heap[p]?=some (.cells (twA eps buf keys pb pc live) 76 (0,0))/\HS HR w pb Sb pc eps buf l rs B W/\p≠pc/\¬ Sb p/\(∀ r,some r∈rs->¬ r.S p)/\∀ q,F q↔q=p\/q=pc\/Sb q
 inv:TInv eps buf keys l rs live
 cf:CfgOk eps buf keys
section
variable {HR:HRt} {w w':World} {p pb pc:Nat} {F Sb:Nat->Prop} {eps buf keys:Int} {l:List Ent} {rs:List (Option Rn)} {B W:Int} {live:Nat}
theorem HS.keep (K:Kp HR) (h:HS HR w pb Sb pc eps buf l rs B W) (k:∀ q,(Sb q\/q=pc\/∃ r,some r∈rs/\r.S q)->w'.heap[q]?=w.heap[q]?):HS HR w' pb Sb pc eps buf l rs B W :=
 ⟨h.hb.keep fun q hq=>k q (.inl hq),⟨(k pc (.inr (.inl rfl))).trans h.hc.blk,h.hc.len,fun r hr=>⟨(h.hc.runs r hr).1.keep K fun q hq=>k q (.inr (.inr ⟨r,hr,hq⟩)),(h.hc.runs r hr).2⟩,h.hc.e0,h.hc.e1,h.hc.b0,h.hc.b1⟩,h.nc,h.nr⟩
theorem HS.lt (K:Kp HR) (h:HS HR w pb Sb pc eps buf l rs B W):∀ q,(Sb q\/q=pc\/∃ r,some r∈rs/\r.S q)->q<w.heap.size:=fun q hq=>by
 rcases hq with x | x | ⟨r,x,y⟩
 ·exact h.hb.lt q x
 ·rw [x];exact h.hc.lt
 ·exact K.lt (h.hc.runs r x).1.h q y
theorem HS.gw (K:Kp HR) (h:HS HR w pb Sb pc eps buf l rs B W) (g:Gw w w'):HS HR w' pb Sb pc eps buf l rs B W:=h.keep K fun q hq=>g.below.block q (h.lt K q hq)
theorem HT.keep (K:Kp HR) (h:HT HR w p F eps buf keys l rs B W live) (k:∀ q,(F q\/∃ r,some r∈rs/\r.S q)->w'.heap[q]?=w.heap[q]?):HT HR w' p F eps buf keys l rs B W live:=by
 obtain ⟨pb,Sb,pc,h1,h2,h3,h4,h5,h6⟩:=h.lies;exact ⟨⟨pb,Sb,pc,(k p (.inl ((h6 p).2 (.inl rfl)))).trans h1,h2.keep K fun q hq=>k q (by
  rcases hq with x | x | x
  ·exact .inl ((h6 q).2 (.inr (.inr x)))
  ·exact .inl ((h6 q).2 (.inr (.inl x)))
  ·exact .inr x),h3,h4,h5,h6⟩,h.inv,h.cf⟩
theorem HT.lt (K:Kp HR) (h:HT HR w p F eps buf keys l rs B W live):∀ q,(F q\/∃ r,some r∈rs/\r.S q)->q<w.heap.size:=fun q hq=>by
 obtain ⟨pb,Sb,pc,h1,h2,h3,h4,h5,h6⟩:=h.lies;rcases hq with x | x
 ·rcases (h6 q).1 x with y | y | y
  ·rw [y];exact blkl h1
  ·exact h2.lt K q (.inr (.inl y))
  ·exact h2.lt K q (.inl y)
 ·exact h2.lt K q (.inr (.inr x))
theorem HT.own (h:HT HR w p F eps buf keys l rs B W live):F p:=by
 obtain ⟨pb,Sb,pc,h1,h2,h3,h4,h5,h6⟩:=h.lies;exact (h6 p).2 (.inl rfl)
theorem HT.out (h:HT HR w p F eps buf keys l rs B W live):∀ r,some r∈rs->∀ q,F q->¬ r.S q:=fun r hr q hq=>by
 obtain ⟨pb,Sb,pc,h1,h2,h3,h4,h5,h6⟩:=h.lies;rcases (h6 q).1 hq with y | y | y
 ·rw [y];exact h5 r hr
 ·rw [y];exact (h2.hc.runs r hr).2
 ·exact h2.nr r hr q y
theorem HT.gw (K:Kp HR) (h:HT HR w p F eps buf keys l rs B W live) (g:Gw w w'):HT HR w' p F eps buf keys l rs B W live:=h.keep K fun q hq=>g.below.block q (h.lt K q hq)
theorem HT.gx (K:Kp HR) {G:Nat->Prop} (h:HT HR w p F eps buf keys l rs B W live) (g:Gx G w w') (d:∀ q,G q->¬ F q) (d':∀ q,G q->∀ r,some r∈rs->¬ r.S q):HT HR w' p F eps buf keys l rs B W live:=h.keep K fun q hq=>g.block q (h.lt K q hq) fun x=>by
 rcases hq with y | ⟨r,y,z⟩
 ·exact d q x y
 ·exact d' q x r y z
theorem HT.pr (h:HT HR w p F eps buf keys l rs B W live):∀ r,some r∈rs->RA HR w r:=fun r hr=>by
 obtain ⟨pb,Sb,pc,h1,h2,h3,h4,h5,h6⟩:=h.lies;exact (h2.hc.runs r hr).1
end
def LayR (HR:HRt) (w w':World) (eps buf:Int) (l:List Ent) (rs:List (Option Rn)) (B W:Int) (l':List Ent) (rs':List (Option Rn)) (B' W':Int) (e:Ent):Prop :=
 (((ins Ent.k e l).length:Int)<buf/\l'=ins Ent.k e l/\rs'=rs/\B'=B/\W'=W) \/
 (((ins Ent.k e l).length:Int)=buf/\l'=[]/\∃ o kept rn,TakeR rs (ins Ent.k e l) o kept/\LaidR HR w w' eps kept rn/\rs'=laid rs rn/\B'=B+one15 kept/\W'=W+kept.length)
def NewF (w:World) (F F':Nat->Prop) (rs rs':List (Option Rn)):Prop:=(∀ q,F' q->F q\/w.heap.size<=q)/\∀ r,some r∈rs'->some r∈rs\/∀ q,r.S q->w.heap.size<=q
theorem lookV_eq (o:Option Ent):getV14 o=.tuple #[(lookV o).1,.bool (lookV o).2]:=by
 cases o with
 | none=>rfl
 | some e=>rfl
theorem sget16 {HR:HRt} (H:RunC HR) {w:World} {pb pc:Nat} {Sb:Nat->Prop} {eps buf:Int} {l:List Ent} {rs:List (Option Rn)} {B W:Int} (h:HS HR w pb Sb pc eps buf l rs B W) (hn:l.length<=4000000) (q:Int) (q0:0<=q) (q1:q<18446744073709551616) :
  Calls prog 29 #[.agg #[.pointer (some ⟨pb,0,none⟩),.pointer (some ⟨pc,0,none⟩)],.int .u64 q] w fun e w'=>e=.returned (.tuple #[(lookV (newE l rs q)).1,.bool (lookV (newE l rs q)).2])/\Gw w w':=by
 obtain ⟨x,y,z,t,f1,f2,_⟩:=lookV_form (look Ent.k q l);have G1:Hid (∀ W,Gw w W->Calls prog 41 #[.pointer (some ⟨pb,0,none⟩),.int .u64 q] W fun e w'=>e=.returned (.tuple #[.agg #[.int .u64 x,.int .u64 y,.bool z],.bool t])/\Gw W w'):=fun W gg=>by
  have:=get14 pb Sb buf l q hn W (h.hb.gw gg)
  rw [lookV_eq,f1] at this;exact this
 obtain ⟨x',y',z',t',f1',f2',_⟩:=lookV_form (nw q rs);have G2:Hid (∀ W,Gw w W->Calls prog 42 #[.pointer (some ⟨pc,0,none⟩),.int .u64 q] W fun e w'=>e=.returned (.tuple #[.agg #[.int .u64 x',.int .u64 y',.bool z'],.bool t'])/\Gw W w'):=fun W gg=>by
  have:=get15 H (h.hc.gw H.kp gg) q q0 q1
  rw [f1'] at this;exact this
 have hb:=h.hb.lt pb h.hb.own;have hc:=h.hc.lt;cases t with
 | true =>
  have R:lookV (newE l rs q)=(.agg #[.int .u64 x,.int .u64 y,.bool z],true):=by
   rw [<-f1];unfold newE;cases hk:look Ent.k q l with
   | none=>rw [hk] at f2;cases f2
   | some e=>rfl
  rw [R];clear R f1 f2 f1' f2' G2 h H;go_enter func29,ntmps29;go_wp2_with fail;obtain ⟨bq,hbq⟩:∃ b,w.heap.size=b:=⟨_,rfl⟩;have BQ:Aside (w.heap.size=bq):=hbq;have B0:Aside (Bxs w [(bq+1,#[.int .u64 0,.int .u64 0,.bool false],69),(bq,#[.pointer (some ⟨pb,0,none⟩),.pointer (some ⟨pc,0,none⟩)],74)] ((w.alloc (.cells #[.pointer (some ⟨pb,0,none⟩),.pointer (some ⟨pc,0,none⟩)] 74)).alloc (.cells #[.int .u64 0,.int .u64 0,.bool false] 69))):=by
   have a:=((Bxs.nil (Gw.refl w)).add #[.pointer (some ⟨pb,0,none⟩),.pointer (some ⟨pc,0,none⟩)] 74).add #[.int .u64 0,.int .u64 0,.bool false] 69;have e:(w.alloc (.cells #[.pointer (some ⟨pb,0,none⟩),.pointer (some ⟨pc,0,none⟩)] 74)).heap.size=bq+1:=by simp [hbq]
   rw [e,hbq] at a;exact a
  rw [hbq];generalize (w.alloc (.cells #[.pointer (some ⟨pb,0,none⟩),.pointer (some ⟨pc,0,none⟩)] 74)).alloc (.cells #[.int .u64 0,.int .u64 0,.bool false] 69)=w1 at B0 ⊢;refine Calls.mono (G1.out _ B0.out.gw0) ?_;rintro e u1 ⟨rfl,gg⟩;have B1:=(B0.out.gw gg).add #[.int .u64 x,.int .u64 y,.bool z] 69;obtain ⟨bx,hbx⟩:∃ b,u1.heap.size=b:=⟨_,rfl⟩;have BX:Aside (u1.heap.size=bx):=hbx;rw [hbx] at B1;clear gg G1 hbx hbq B0;go_upto_region 2 with fail;rw [BX.out];generalize u1.alloc (.cells #[.int .u64 x,.int .u64 y,.bool z] 69)=U at B1 ⊢;have E0:U.heap[bq+1]?=some (.cells #[.int .u64 0,.int .u64 0,.bool false] 69 (0,0)):=B1.lie (bq+1,#[.int .u64 0,.int .u64 0,.bool false],69) (by simp)
  have E1:U.heap[bx]?=some (.cells #[.int .u64 x,.int .u64 y,.bool z] 69 (0,0)):=B1.lie (bx,#[.int .u64 x,.int .u64 y,.bool z],69) (by simp)
  have GU:Aside (Gw w U):=B1.gw0;obtain ⟨x0,x1,x2,_⟩:=box_facts E1;obtain ⟨m0,m1,m2,z0,z1,z2,bl,TT⟩:=box_facts E0;have T3:=TT x y z;have BS:Aside (w.heap.size<=bq+1):=by have:=BQ.out;show _<=_;omega
  clear E0 E1 B1 TT;go_wp2_with fail;exact bodyPost_ret (v:=.tuple #[.agg #[.int .u64 x,.int .u64 y,.bool z],.bool true]) (by simp [results,results29,go_sem,T3.1,T3.2.1,T3.2.2]) rfl ⟨rfl,((GU.out.setCell BS.out _).setCell BS.out _).setCell BS.out _⟩
 | false =>
  have R:lookV (newE l rs q)=(.agg #[.int .u64 x',.int .u64 y',.bool z'],t'):=by
   rw [<-f1'];unfold newE;cases hk:look Ent.k q l with
   | none=>rfl
   | some e=>rw [hk] at f2;cases f2
  rw [R];clear R f1 f2 f1' f2' h H;go_enter func29,ntmps29;go_wp2_with fail;obtain ⟨bq,hbq⟩:∃ b,w.heap.size=b:=⟨_,rfl⟩;have BQ:Aside (w.heap.size=bq):=hbq;have B0:Aside (Bxs w [(bq+1,#[.int .u64 0,.int .u64 0,.bool false],69),(bq,#[.pointer (some ⟨pb,0,none⟩),.pointer (some ⟨pc,0,none⟩)],74)] ((w.alloc (.cells #[.pointer (some ⟨pb,0,none⟩),.pointer (some ⟨pc,0,none⟩)] 74)).alloc (.cells #[.int .u64 0,.int .u64 0,.bool false] 69))):=by
   have a:=((Bxs.nil (Gw.refl w)).add #[.pointer (some ⟨pb,0,none⟩),.pointer (some ⟨pc,0,none⟩)] 74).add #[.int .u64 0,.int .u64 0,.bool false] 69;have e:(w.alloc (.cells #[.pointer (some ⟨pb,0,none⟩),.pointer (some ⟨pc,0,none⟩)] 74)).heap.size=bq+1:=by simp [hbq]
   rw [e,hbq] at a;exact a
  rw [hbq];generalize (w.alloc (.cells #[.pointer (some ⟨pb,0,none⟩),.pointer (some ⟨pc,0,none⟩)] 74)).alloc (.cells #[.int .u64 0,.int .u64 0,.bool false] 69)=w1 at B0 ⊢;refine Calls.mono (G1.out _ B0.out.gw0) ?_;rintro e u1 ⟨rfl,gg⟩;have B1:=(B0.out.gw gg).add #[.int .u64 x,.int .u64 y,.bool z] 69;obtain ⟨bx,hbx⟩:∃ b,u1.heap.size=b:=⟨_,rfl⟩;have BX:Aside (u1.heap.size=bx):=hbx;rw [hbx] at B1;clear gg G1 hbx hbq B0;go_upto_region 2 with fail;rw [BX.out];generalize u1.alloc (.cells #[.int .u64 x,.int .u64 y,.bool z] 69)=U at B1 ⊢;have E2:U.heap[bq]?=some (.cells #[.pointer (some ⟨pb,0,none⟩),.pointer (some ⟨pc,0,none⟩)] 74 (0,0)):=B1.lie (bq,#[.pointer (some ⟨pb,0,none⟩),.pointer (some ⟨pc,0,none⟩)],74) (by simp)
  have s1:U.cell? ⟨bq,1,none⟩=some (.pointer (some ⟨pc,0,none⟩)):=blkc E2 rfl;have sl:=blkl E2;have B2:Aside (Bxs w [(bx,#[.int .u64 x,.int .u64 y,.bool z],69),(bq+1,#[.int .u64 0,.int .u64 0,.bool false],69),(bq,#[.pointer (some ⟨pb,0,none⟩),.pointer (some ⟨pc,0,none⟩)],74)] U):=B1;clear E2 B1;go_wp2_with fail;refine Calls.mono (G2.out _ B2.out.gw0) ?_;rintro e u2 ⟨rfl,gg⟩;have B3:=B2.out.gw gg;have E0:u2.heap[bq+1]?=some (.cells #[.int .u64 0,.int .u64 0,.bool false] 69 (0,0)):=B3.lie (bq+1,#[.int .u64 0,.int .u64 0,.bool false],69) (by simp)
  have GU:Aside (Gw w u2):=B3.gw0;obtain ⟨m0,m1,m2,z0,z1,z2,bl,TT⟩:=box_facts E0;have T3:=TT x' y' z';have BS:Aside (w.heap.size<=bq+1):=by have:=BQ.out;show _<=_;omega
  clear E0 B3 B2 TT gg G2;go_wp2_with fail;exact bodyPost_ret (v:=.tuple #[.agg #[.int .u64 x',.int .u64 y',.bool z'],.bool t']) (by simp [results,results29,go_sem,T3.1,T3.2.1,T3.2.2]) rfl ⟨rfl,((GU.out.setCell BS.out _).setCell BS.out _).setCell BS.out _⟩
def LayOut (HR:HRt) (w w':World) (pb:Nat) (Sb:Nat->Prop) (pc:Nat) (eps buf:Int) (l:List Ent) (rs:List (Option Rn)) (B W:Int) (e:Ent):Prop :=
 ∃ Sb' l' rs' B' W',HS HR w' pb Sb' pc eps buf l' rs' B' W'/\LayR HR w w' eps buf l rs B W l' rs' B' W' e/\NewF w (fun q=>q=pc\/Sb q) (fun q=>q=pc\/Sb' q) rs rs'
theorem putR_in {buf:Int} {l:List Ent} {e:Ent} (oke:¬ (e.g=true/\e.v≠0)) (room:(l.length:Int)<buf):putR buf l e=(0,ins Ent.k e l):=by
 unfold putR;rw [if_neg oke,if_neg (fun x=>by omega)]
theorem ok_ins {l:List Ent} {e:Ent} (ok:EOk l) (oke:¬ (e.g=true/\e.v≠0)):EOk (ins Ent.k e l):=EOk.iff.2 ⟨ok.rise.ins,ins_all (P:=fun x:Ent=>¬ (x.g=true/\x.v≠0)) oke (EOk.iff.1 ok).2⟩
theorem lay16 {HR:HRt} (H:RunC HR) {w:World} {pb pc:Nat} {Sb:Nat->Prop} {eps buf:Int} {l:List Ent} {rs:List (Option Rn)} {B W_:Int} (h:HS HR w pb Sb pc eps buf l rs B W_) (e:Ent) (ok:EOk l) (okb:e.ok) (oke:¬ (e.g=true/\e.v≠0)) (room:(l.length:Int)<buf) (few:l.length+1+tot rs<=2000000) (hB:0<=B/\B<4611686018427387904) (hW:0<=W_/\W_<4611686018427387904) :
  Calls prog 30 #[.agg #[.pointer (some ⟨pb,0,none⟩),.pointer (some ⟨pc,0,none⟩)],.agg #[.int .u64 e.k,.int .u64 e.v,.bool e.g]] w fun ex w'=>ex=.returned (.tuple #[])/\LayOut HR w w' pb Sb pc eps buf l rs B W_ e/\Gx (fun q=>q=pc\/Sb q) w w':=by
 have HH:Aside (RunC HR):=H;have HSs:Aside (HS HR w pb Sb pc eps buf l rs B W_):=h;have LE:=ins_len (x:=e) ok.rise;have PU:Hid (∀ W,Gw w W->Calls prog 43 #[.pointer (some ⟨pb,0,none⟩),.agg #[.int .u64 e.k,.int .u64 e.v,.bool e.g]] W fun ex w'=>ex=.returned (.int .i64 0)/\PutOut 92 W w' pb Sb buf (ins Ent.k e l)):=fun W gg=>by
  have:=put14 pb Sb buf l e (by omega) okb W (h.hb.gw gg)
  rw [putR_in oke room] at this;exact this
 have pbl:=h.hb.lt pb h.hb.own;have pcl:=h.hc.lt;have PN:pc≠pb:=fun x=>h.nc (by rw [x];exact h.hb.own)
 obtain ⟨bq,hbq⟩:∃ b,w.heap.size=b:=⟨_,rfl⟩;have BQ:Aside (w.heap.size=bq):=hbq;have FEW:Aside ((ins Ent.k e l).length+tot rs<=2000000/\EOk (ins Ent.k e l)/\(0<=B/\B<4611686018427387904)/\0<=W_/\W_<4611686018427387904):=⟨by omega,ok_ins ok oke,hB,hW⟩
 obtain ⟨l',hl'⟩:∃ l',ins Ent.k e l=l':=⟨_,rfl⟩;have LL:Aside (ins Ent.k e l=l'):=hl';rw [hl'] at PU FEW LE;clear h H hl' ok oke okb few hB hW;obtain ⟨ek,ev,eg⟩:=e;simp only at PU ⊢;have B0:Aside (Bxs w [(bq+1,#[.int .u64 ek,.int .u64 ev,.bool eg],69),(bq,#[.pointer (some ⟨pb,0,none⟩),.pointer (some ⟨pc,0,none⟩)],74)] ((w.alloc (.cells #[.pointer (some ⟨pb,0,none⟩),.pointer (some ⟨pc,0,none⟩)] 74)).alloc (.cells #[.int .u64 ek,.int .u64 ev,.bool eg] 69))):=by
  have a:=((Bxs.nil (Gw.refl w)).add #[.pointer (some ⟨pb,0,none⟩),.pointer (some ⟨pc,0,none⟩)] 74).add #[.int .u64 ek,.int .u64 ev,.bool eg] 69;have e:(w.alloc (.cells #[.pointer (some ⟨pb,0,none⟩),.pointer (some ⟨pc,0,none⟩)] 74)).heap.size=bq+1:=by simp [hbq]
  rw [e,hbq] at a;exact a
 clear hbq;go_enter func30,ntmps30;go_wp2_with fail;rw [BQ.out];generalize (w.alloc (.cells #[.pointer (some ⟨pb,0,none⟩),.pointer (some ⟨pc,0,none⟩)] 74)).alloc (.cells #[.int .u64 ek,.int .u64 ev,.bool eg] 69)=w1 at B0 ⊢;refine Calls.mono (PU.out _ B0.out.gw0) ?_;rintro ex u1 ⟨rfl,S1,hb1,gx1,s1⟩;have SBQ:Aside (∀ q,Sb q->q<bq):=fun q hq=>by have:=HSs.out.hb.lt q hq;rw [BQ.out] at this;exact this
 have E1:u1.heap[bq]?=some (.cells #[.pointer (some ⟨pb,0,none⟩),.pointer (some ⟨pc,0,none⟩)] 74 (0,0)):=by
  have x:=B0.out.lie (bq,#[.pointer (some ⟨pb,0,none⟩),.pointer (some ⟨pc,0,none⟩)],74) (by simp)
  exact (gx1.block bq (blkl x) (fun y=>by have:=SBQ.out bq y;omega)).trans x
 have k0:u1.cell? ⟨bq,0,none⟩=some (.pointer (some ⟨pb,0,none⟩)):=blkc E1 rfl;have k1:u1.cell? ⟨bq,1,none⟩=some (.pointer (some ⟨pc,0,none⟩)):=blkc E1 rfl;have kl:=blkl E1;have FU:Hid (Calls prog 44 #[.pointer (some ⟨pb,0,none⟩)] u1 fun e w'=>e=.returned (.bool ((l'.length:Int) == buf))/\Gw u1 w'):=full14 pb S1 buf l' u1 hb1
 have GX1:Aside (Gx Sb w u1):=(B0.out.gw0.gx Sb).trans gx1 (fun q hq=>.inl hq)
 have HB1:Aside (HB 92 u1 pb S1 buf l'):=hb1;have NS2:Aside (∀ q,S1 q->Sb q\/bq<q):=fun q hq=>(s1 q hq).imp id (fun x=>by
  have:=blkl (B0.out.lie (bq+1,#[.int .u64 ek,.int .u64 ev,.bool eg],69) (by simp))
  dsimp only at this;omega)
 have NS1:Aside (∀ q,S1 q->Sb q\/w.heap.size<=q):=fun q hq=>(s1 q hq).imp id (fun x=>Nat.le_trans B0.out.gw0.size x)
 have EX1:Aside (u1.heap[bq]?=some (.cells #[.pointer (some ⟨pb,0,none⟩),.pointer (some ⟨pc,0,none⟩)] 74 (0,0))):=E1;clear hb1 gx1 s1 E1 PU B0;go_wp2_with fail;refine Calls.mono FU.out ?_;rintro ex u2 ⟨rfl,g2⟩;have E2:u2.heap[bq]?=some (.cells #[.pointer (some ⟨pb,0,none⟩),.pointer (some ⟨pc,0,none⟩)] 74 (0,0)):=(g2.below.block bq kl).trans EX1.out;have GX2:Aside (Gx Sb w u2):=GX1.out.tw g2;have HB2:Aside (HB 92 u2 pb S1 buf l'):=HB1.out.gw g2;have HC2:Aside (HCl HR u2 pc rs eps buf B W_):=HSs.out.hc.gx HH.out.kp GX2.out HSs.out.nc (fun q hq r hr=>HSs.out.nr r hr q hq)
 have EX2:Aside (u2.heap[bq]?=some (.cells #[.pointer (some ⟨pb,0,none⟩),.pointer (some ⟨pc,0,none⟩)] 74 (0,0))):=E2;have m0:u2.cell? ⟨bq,0,none⟩=some (.pointer (some ⟨pb,0,none⟩)):=blkc E2 rfl;have m1:u2.cell? ⟨bq,1,none⟩=some (.pointer (some ⟨pc,0,none⟩)):=blkc E2 rfl;have ml:=blkl E2;clear g2 E2 k0 k1 kl FU GX1 HB1 EX1;by_cases fl:(l'.length:Int)=buf
 ·have t1:((l'.length:Int) == buf)=true:=by simpa using fl
  rw [t1];have BK:Aside (∀ W b,Gx S1 u2 W->Gx (fun q=>q=pc) W b->b.heap[bq]?=some (.cells #[.pointer (some ⟨pb,0,none⟩),.pointer (some ⟨pc,0,none⟩)] 74 (0,0))):=fun W b g1 g2=>by
   have a1:=(g1.block bq ml (fun x=>by
    rcases NS2.out bq x with y | y
    ·have:=SBQ.out bq y;omega
    ·omega)).trans EX2.out
   exact (g2.block bq (blkl a1) (fun x=>by have:=BQ.out;omega)).trans a1
  have EM:Hid (∀ W,Gw u2 W->Calls prog 46 #[.pointer (some ⟨pb,0,none⟩)] W fun e w'=>(∃ bo c,e=.returned (.slice bo l'.length c)/\EO w' 0 (.slice bo l'.length c) l'/\(l'.length<=c/\(bo=none->l'.length=0/\c=0))/\(∀ q,(Value.slice bo l'.length c).ownBlock=some q->S1 q/\q≠pb)/\HB 92 w' pb (fun q=>q=pb) buf [])/\Gx S1 u2 w'):=fun W gg=>(empty14 pb S1 buf l' (by omega) W (HB2.out.gw gg)).mono fun e w' ⟨⟨v',x1,x2,x3,x4⟩,x5⟩=>by
   obtain ⟨bo,c,ev,y1,y2⟩:=eo_shape x2;subst ev;exact ⟨⟨bo,c,x1,x2,⟨y1,y2⟩,x3,x4⟩,(gg.gx S1).trans x5 (fun q hq=>.inl hq)⟩
  have FL:Aside ((l'.length:Int)=buf):=fl;have TK:Hid (∀ (wA W:World) (bo:Option Addr) (c:Nat),Gx S1 u2 wA->Gw wA W->EO wA 0 (.slice bo l'.length c) l'->(l'.length<=c/\(bo=none->l'.length=0/\c=0))->Calls prog 45 #[.pointer (some ⟨pc,0,none⟩),.slice bo l'.length c] W fun e w'=>(∃ j t k,e=.returned (.tuple #[.agg #[.int .i64 (j:Int),.int .i64 (t:Int),.int .i64 (k:Int)],.int .i64 0]))/\(∃ o kept rn,TakeR rs l' o kept/\LaidR HR W w' eps kept rn/\HCl HR w' pc (laid rs rn) eps buf (B+one15 kept) (W_+kept.length))/\Gx (fun q=>q=pc) W w'):=fun wA W bo c g1 g2 heo hcz=>by
   have hcA:HCl HR W pc rs eps buf B W_:=(HC2.out.gx HH.out.kp g1 (fun x=>by
     rcases NS1.out pc x with y | y
     ·exact HSs.out.nc y
     ·omega) (fun q hq r hr hx=>by
     rcases NS1.out q hq with y | y
     ·exact HSs.out.nr r hr q y hx
     ·have:=HH.out.lt (HSs.out.hc.runs r hr).1.h q hx;omega)).gw HH.out.kp g2
   refine (take15 HH.out hcA bo c l' ((eo_el heo HB2.out.ok).gw g2) hcz.1 hcz.2 FEW.out.1 FEW.out.2.2.1 FEW.out.2.2.2).mono fun e w' ⟨⟨r0,cr,x⟩,g⟩=>?_
   have e0:r0=0:=cr.one FEW.out.2.1;rcases x with ⟨x,_⟩ | ⟨_,x,_⟩ | ⟨_,_,o,kp,rn,tr,he,ld,hc'⟩
   ·exact absurd e0 x
   ·exact absurd FL.out x
   ·exact ⟨⟨_,_,_,he⟩,⟨o,kp,rn,tr,ld,hc'⟩,g⟩
  obtain ⟨ln,hln⟩:∃ n,l'.length=n:=⟨_,rfl⟩;have LN:Aside (l'.length=ln):=hln;rw [hln] at EM TK;clear t1 fl hln;go_wp2_with fail;go_region_held3 (fun w'=>w'.cell? ⟨bq,0,none⟩=some (.pointer (some ⟨pb,0,none⟩))/\w'.cell? ⟨bq,1,none⟩=some (.pointer (some ⟨pc,0,none⟩)))
   (((first | exact ⟨m0,m1⟩ | exact Hid.out (by assumption) | assumption);done))
   ((
    first
    | (go_at_call 46;refine (EM.out _ (by repeat (first | exact Gw.refl _ | exact And.left (by assumption) | exact Hid.out (by assumption) | refine Gw.drew ?_ | refine Gw.drewN ?_ _))).mono ?_;rintro ex wA ⟨⟨boA,cA,rfl,eoA,czA,obA,hbA⟩,gA⟩;have PA:Hid (∀ w',Gw wA w'->w'.cell? ⟨bq,0,none⟩=some (.pointer (some ⟨pb,0,none⟩))/\w'.cell? ⟨bq,1,none⟩=some (.pointer (some ⟨pc,0,none⟩))):=(fun w' gg=>⟨(gg.cell _ _ (blkl (BK.out wA wA gA (Gx.refl _ _)))).trans (blkc (BK.out wA wA gA (Gx.refl _ _)) rfl),(gg.cell _ _ (blkl (BK.out wA wA gA (Gx.refl _ _)))).trans (blkc (BK.out wA wA gA (Gx.refl _ _)) rfl)⟩);have PA0:=PA.out wA (Gw.refl _);have GAA:Aside (Gx S1 u2 wA):=gA;have HBA:Aside (HB 92 wA pb (fun q=>q=pb) buf []):=hbA;have EOA:Aside (EO wA 0 (.slice boA ln cA) l'/\(ln<=cA/\(boA=none->ln=0/\cA=0))):=⟨eoA,czA⟩;clear eoA czA obA hbA gA)
    | (go_at_call 45;refine (TK.out wA _ boA cA GAA.out (by first | exact Gw.refl _ | exact (Gw.refl _).drew) EOA.out.1 EOA.out.2).mono ?_;rintro ex wB ⟨⟨j,t,k,rfl⟩,tko,gB⟩;have PB:wB.cell? ⟨bq,0,none⟩=some (.pointer (some ⟨pb,0,none⟩))/\wB.cell? ⟨bq,1,none⟩=some (.pointer (some ⟨pc,0,none⟩)):=(by have x:=BK.out _ wB (GAA.out.tw (by first | exact Gw.refl _ | exact (Gw.refl _).drew)) gB;exact ⟨blkc x rfl,blkc x rfl⟩);have GBB:Aside (Gx (fun q=>q=pc) wA wB):=((Gw.gx (by first | exact Gw.refl _ | exact (Gw.refl _).drew) _).trans gB (fun q hq=>.inl hq));have TO:Aside (∃ o kept rn,TakeR rs l' o kept/\LaidR HR wA wB eps kept rn/\HCl HR wB pc (laid rs rn) eps buf (B+one15 kept) (W_+kept.length)):=(by first | exact tko | (obtain ⟨o,kept,rn,a,b,c⟩:=tko;exact ⟨o,kept,rn,a,b,c⟩));clear tko gB)))
  all_goals
   have RES:Hid (LayOut HR w wB pb Sb pc eps buf l rs B W_ ⟨ek,ev,eg⟩/\Gx (fun q=>q=pc\/Sb q) w wB):=by
    obtain ⟨o,kept,rn,tr,ld,hc'⟩:=TO.out;have sz:w.heap.size<=wA.heap.size:=Nat.le_trans GX2.out.size GAA.out.size;have nrn:∀ r,rn=some r->∀ q,r.S q->w.heap.size<=q:=fun r hr q hq=>by
     rcases ld with ⟨_,x⟩ | ⟨_,r',x,_,_,_,y,_⟩
     ·rw [x] at hr;cases hr
     ·rw [x] at hr;cases hr;exact Nat.le_trans sz (y q hq)
    have inl:∀ r,some r∈laid rs rn->some r∈rs\/∀ q,r.S q->w.heap.size<=q:=fun r hr=>by
     unfold laid at hr;rcases List.mem_append.1 hr with q | q
     ·simp at q
     ·rcases List.mem_cons.1 q with q | q
      ·exact .inr (nrn r q.symm)
      ·exact .inl (List.mem_of_mem_drop q)
    have ld':LaidR HR w wB eps kept rn:=by
     rcases ld with x | ⟨a,r,b1,b2,b3,b4,b5,b6⟩
     ·exact .inl x
     ·exact .inr ⟨a,r,b1,b2,b3,b4,fun q hq=>Nat.le_trans sz (b5 q hq),b6⟩
    refine ⟨⟨fun q=>q=pb,[],laid rs rn,B+one15 kept,W_+kept.length,⟨HBA.out.gx GBB.out (fun q hq hx=>PN (hx.symm.trans hq)),hc',PN,fun r hr q hq hx=>?_⟩,.inr ⟨by rw [LL.out];exact FL.out,rfl,o,kept,rn,by rw [LL.out];exact tr,ld',rfl,rfl,rfl⟩,fun q hq=>?_,inl⟩,?_⟩
    ·rcases inl r hr with y | y
     ·exact HSs.out.nr r y pb HSs.out.hb.own (by rw [<-hq];exact hx)
     ·have:=y q hx;omega
    ·rcases hq with y | y
     ·exact .inl (.inl y)
     ·rw [y];exact .inl (.inr HSs.out.hb.own)
    ·exact ((GX2.out.mono (S':=fun q=>q=pc\/Sb q) fun q hq=>.inl (.inr hq)).trans GAA.out (fun q hq=>(NS1.out q hq).imp .inr id)).trans GBB.out (fun q hq=>.inl (.inl hq))
   go_end0
   exact ⟨rfl,RES.out⟩
 ·have t1:((l'.length:Int) == buf)=false:=by simpa using fl
  rw [t1];have RES:Hid (LayOut HR w u2 pb Sb pc eps buf l rs B W_ ⟨ek,ev,eg⟩/\Gx (fun q=>q=pc\/Sb q) w u2):=by
   refine ⟨⟨S1,l',rs,B,W_,⟨HB2.out,HC2.out,fun x=>?_,fun r hr q hq hx=>?_⟩,.inl ⟨?_,LL.out.symm,rfl,rfl,rfl⟩,fun q hq=>?_,fun r hr=>.inl hr⟩,?_⟩
   ·rcases NS1.out pc x with y | y
    ·exact HSs.out.nc y
    ·have:=HSs.out.hc.lt;omega
   ·rcases NS1.out q hq with y | y
    ·exact HSs.out.nr r hr q y hx
    ·have:=HH.out.lt (HSs.out.hc.runs r hr).1.h q hx;omega
   ·rw [LL.out];have:=HB2.out.room;omega
   ·rcases hq with y | y
    ·exact .inl (.inl y)
    ·exact (NS1.out q y).imp .inr id
   ·exact GX2.out.mono fun q hq=>.inl (.inr hq)
  clear t1 fl;go_wp2_with fail;go_end0;exact ⟨rfl,RES.out⟩
end Go.Proofs.YtemijdhemdhclaaGreat
