/- Towers in memory. -/
import Derived.Test.YtpoohadckhphpaaGreatBUInv
import Derived.Test.YtpoohadckhphpaaGreatBQPut
set_option linter.unusedVariables false
set_option maxHeartbeats 8000000
set_option maxRecDepth 20000
open Go.Proofs.Tryz
namespace Go.Proofs.YtpoohadckhphpaaGreat
open Go.RowKit
def twA (eps buf keys:Int) (pb pc:Nat) (live:Nat):Array Value:=#[.int .i64 eps,.int .i64 buf,.int .i64 keys,.pointer (some ⟨pb,0,none⟩),.pointer (some ⟨pc,0,none⟩),.int .i64 (live:Int)]
structure HS (HR:HRt) (w:World) (pb:Nat) (Sb:Nat->Prop) (pc:Nat) (eps buf:Int) (l:List Ent) (rs:List (Option Rn)) (B W:Int):Prop where
 hb:HB 170 w pb Sb buf l
 hc:HCl HR w pc rs eps buf B W
 nc:¬ Sb pc
 nr:∀ r,some r∈rs->∀ q,Sb q->¬ r.S q
structure HT (HR:HRt) (w:World) (p:Nat) (F:Nat->Prop) (eps buf keys:Int) (l:List Ent) (rs:List (Option Rn)) (B W:Int) (live:Nat):Prop where
 lies:∃ pb Sb pc,w.heap[p]?=some (.cells (twA eps buf keys pb pc live) 78 (0,0))/\HS HR w pb Sb pc eps buf l rs B W/\p≠pc/\¬ Sb p/\(∀ r,some r∈rs->¬ r.S p)/\∀ q,F q↔q=p\/q=pc\/Sb q
 inv:TInv eps buf keys l rs live
 cf:CfgOk eps buf keys
section
variable {HR:HRt} {w w':World} {p pb pc:Nat} {F Sb:Nat->Prop} {eps buf keys:Int} {l:List Ent} {rs:List (Option Rn)} {B W:Int} {live:Nat}
theorem HS.keep (K:Kp HR) (h:HS HR w pb Sb pc eps buf l rs B W) (k:∀ q,(Sb q\/q=pc\/∃ r,some r∈rs/\r.S q)->w'.heap[q]?=w.heap[q]?):HS HR w' pb Sb pc eps buf l rs B W :=
 ⟨h.hb.keep fun q hq=>k q (.inl hq),⟨(k pc (.inr (.inl rfl))).trans h.hc.blk,h.hc.len,fun r hr=>⟨(h.hc.runs r hr).1.keep K fun q hq=>k q (.inr (.inr ⟨r,hr,hq⟩)),(h.hc.runs r hr).2⟩,h.hc.e0,h.hc.e1,h.hc.b0,h.hc.b1⟩,h.nc,h.nr⟩
theorem HS.lt (K:Kp HR) (h:HS HR w pb Sb pc eps buf l rs B W):∀ q,(Sb q\/q=pc\/∃ r,some r∈rs/\r.S q)->q<w.heap.size:=fun q hq=>by
 rcases hq with x | x | ⟨r,x,y⟩
 ·exact h.hb.lt q x
 ·rw [x];exact h.hc.lt
 ·exact K.lt (h.hc.runs r x).1.h q y
theorem HS.gw (K:Kp HR) (h:HS HR w pb Sb pc eps buf l rs B W) (g:Gw w w'):HS HR w' pb Sb pc eps buf l rs B W:=h.keep K fun q hq=>g.below.block q (h.lt K q hq)
theorem HT.keep (K:Kp HR) (h:HT HR w p F eps buf keys l rs B W live) (k:∀ q,(F q\/∃ r,some r∈rs/\r.S q)->w'.heap[q]?=w.heap[q]?):HT HR w' p F eps buf keys l rs B W live:=by
 obtain ⟨pb,Sb,pc,h1,h2,h3,h4,h5,h6⟩:=h.lies;exact ⟨⟨pb,Sb,pc,(k p (.inl ((h6 p).2 (.inl rfl)))).trans h1,h2.keep K fun q hq=>k q (by
  rcases hq with x | x | x
  ·exact .inl ((h6 q).2 (.inr (.inr x)))
  ·exact .inl ((h6 q).2 (.inr (.inl x)))
  ·exact .inr x),h3,h4,h5,h6⟩,h.inv,h.cf⟩
theorem HT.lt (K:Kp HR) (h:HT HR w p F eps buf keys l rs B W live):∀ q,(F q\/∃ r,some r∈rs/\r.S q)->q<w.heap.size:=fun q hq=>by
 obtain ⟨pb,Sb,pc,h1,h2,h3,h4,h5,h6⟩:=h.lies;rcases hq with x | x
 ·rcases (h6 q).1 x with y | y | y
  ·rw [y];exact blkl h1
  ·exact h2.lt K q (.inr (.inl y))
  ·exact h2.lt K q (.inl y)
 ·exact h2.lt K q (.inr (.inr x))
theorem HT.out (h:HT HR w p F eps buf keys l rs B W live):∀ r,some r∈rs->∀ q,F q->¬ r.S q:=fun r hr q hq=>by
 obtain ⟨pb,Sb,pc,h1,h2,h3,h4,h5,h6⟩:=h.lies;rcases (h6 q).1 hq with y | y | y
 ·rw [y];exact h5 r hr
 ·rw [y];exact (h2.hc.runs r hr).2
 ·exact h2.nr r hr q y
theorem HT.gw (K:Kp HR) (h:HT HR w p F eps buf keys l rs B W live) (g:Gw w w'):HT HR w' p F eps buf keys l rs B W live:=h.keep K fun q hq=>g.below.block q (h.lt K q hq)
theorem HT.pr (h:HT HR w p F eps buf keys l rs B W live):∀ r,some r∈rs->RA HR w r:=fun r hr=>by
 obtain ⟨pb,Sb,pc,h1,h2,h3,h4,h5,h6⟩:=h.lies;exact (h2.hc.runs r hr).1
theorem HT.len (h:HT HR w p F eps buf keys l rs B W live):rs.length=40:=h.inv.len
end
theorem lookV_eq (o:Option Ent):getV14 o=.tuple #[(lookV o).1,.bool (lookV o).2]:=by
 cases o with
 | none=>rfl
 | some e=>rfl
theorem sget16 {HR:HRt} (H:RunC HR) {w:World} {pb pc:Nat} {Sb:Nat->Prop} {eps buf:Int} {l:List Ent} {rs:List (Option Rn)} {B W:Int} (h:HS HR w pb Sb pc eps buf l rs B W) (hn:l.length<=4000000) (q:Int) (q0:0<=q) (q1:q<18446744073709551616) :
  Calls prog 35 #[.agg #[.pointer (some ⟨pb,0,none⟩),.pointer (some ⟨pc,0,none⟩)],.int .u64 q] w fun e w'=>e=.returned (.tuple #[(lookV (newE l rs q)).1,.bool (lookV (newE l rs q)).2])/\Gw w w':=by
 obtain ⟨x,y,z,t,f1,f2,_⟩:=lookV_form (look Ent.k q l);have G1:Hid (∀ W,Gw w W->Calls prog 64 #[.pointer (some ⟨pb,0,none⟩),.int .u64 q] W fun e w'=>e=.returned (.tuple #[.agg #[.int .u64 x,.int .u64 y,.bool z],.bool t])/\Gw W w'):=fun W gg=>by
  have:=get14 pb Sb buf l q hn W (h.hb.gw gg)
  rw [lookV_eq,f1] at this;exact this
 obtain ⟨x',y',z',t',f1',f2',_⟩:=lookV_form (nw q rs);have G2:Hid (∀ W,Gw w W->Calls prog 65 #[.pointer (some ⟨pc,0,none⟩),.int .u64 q] W fun e w'=>e=.returned (.tuple #[.agg #[.int .u64 x',.int .u64 y',.bool z'],.bool t'])/\Gw W w'):=fun W gg=>by
  have:=get15 H (h.hc.gw H.kp gg) q q0 q1
  rw [f1'] at this;exact this
 have hb:=h.hb.lt pb h.hb.own;have hc:=h.hc.lt;cases t with
 | true =>
  have R:lookV (newE l rs q)=(.agg #[.int .u64 x,.int .u64 y,.bool z],true):=by
   rw [<-f1];unfold newE;cases hk:look Ent.k q l with
   | none=>rw [hk] at f2;cases f2
   | some e=>rfl
  rw [R];clear R f1 f2 f1' f2' G2 h H;go_enter func35,ntmps35;go_wp2_with fail;obtain ⟨bq,hbq⟩:∃ b,w.heap.size=b:=⟨_,rfl⟩;have BQ:Aside (w.heap.size=bq):=hbq;have B0:Aside (Bxs w [(bq+1,#[.int .u64 0,.int .u64 0,.bool false],81),(bq,#[.pointer (some ⟨pb,0,none⟩),.pointer (some ⟨pc,0,none⟩)],76)] ((w.alloc (.cells #[.pointer (some ⟨pb,0,none⟩),.pointer (some ⟨pc,0,none⟩)] 76)).alloc (.cells #[.int .u64 0,.int .u64 0,.bool false] 81))):=by
   have a:=((Bxs.nil (Gw.refl w)).add #[.pointer (some ⟨pb,0,none⟩),.pointer (some ⟨pc,0,none⟩)] 76).add #[.int .u64 0,.int .u64 0,.bool false] 81;have e:(w.alloc (.cells #[.pointer (some ⟨pb,0,none⟩),.pointer (some ⟨pc,0,none⟩)] 76)).heap.size=bq+1:=by simp [hbq]
   rw [e,hbq] at a;exact a
  rw [hbq];generalize (w.alloc (.cells #[.pointer (some ⟨pb,0,none⟩),.pointer (some ⟨pc,0,none⟩)] 76)).alloc (.cells #[.int .u64 0,.int .u64 0,.bool false] 81)=w1 at B0 ⊢;refine Calls.mono (G1.out _ B0.out.gw0) ?_;rintro e u1 ⟨rfl,gg⟩;have B1:=(B0.out.gw gg).add #[.int .u64 x,.int .u64 y,.bool z] 81;obtain ⟨bx,hbx⟩:∃ b,u1.heap.size=b:=⟨_,rfl⟩;have BX:Aside (u1.heap.size=bx):=hbx;rw [hbx] at B1;clear gg G1 hbx hbq B0;go_upto_region 2 with fail;rw [BX.out];generalize u1.alloc (.cells #[.int .u64 x,.int .u64 y,.bool z] 81)=U at B1 ⊢;have E0:U.heap[bq+1]?=some (.cells #[.int .u64 0,.int .u64 0,.bool false] 81 (0,0)):=B1.lie (bq+1,#[.int .u64 0,.int .u64 0,.bool false],81) (by simp)
  have E1:U.heap[bx]?=some (.cells #[.int .u64 x,.int .u64 y,.bool z] 81 (0,0)):=B1.lie (bx,#[.int .u64 x,.int .u64 y,.bool z],81) (by simp)
  have GU:Aside (Gw w U):=B1.gw0;obtain ⟨x0,x1,x2,_⟩:=box_facts E1;obtain ⟨m0,m1,m2,z0,z1,z2,bl,TT⟩:=box_facts E0;have T3:=TT x y z;have BS:Aside (w.heap.size<=bq+1):=by have:=BQ.out;show _<=_;omega
  clear E0 E1 B1 TT;go_wp2_with fail;exact bodyPost_ret (v:=.tuple #[.agg #[.int .u64 x,.int .u64 y,.bool z],.bool true]) (by simp [results,results35,go_sem,T3.1,T3.2.1,T3.2.2]) rfl ⟨rfl,((GU.out.setCell BS.out _).setCell BS.out _).setCell BS.out _⟩
 | false =>
  have R:lookV (newE l rs q)=(.agg #[.int .u64 x',.int .u64 y',.bool z'],t'):=by
   rw [<-f1'];unfold newE;cases hk:look Ent.k q l with
   | none=>rfl
   | some e=>rw [hk] at f2;cases f2
  rw [R];clear R f1 f2 f1' f2' h H;go_enter func35,ntmps35;go_wp2_with fail;obtain ⟨bq,hbq⟩:∃ b,w.heap.size=b:=⟨_,rfl⟩;have BQ:Aside (w.heap.size=bq):=hbq;have B0:Aside (Bxs w [(bq+1,#[.int .u64 0,.int .u64 0,.bool false],81),(bq,#[.pointer (some ⟨pb,0,none⟩),.pointer (some ⟨pc,0,none⟩)],76)] ((w.alloc (.cells #[.pointer (some ⟨pb,0,none⟩),.pointer (some ⟨pc,0,none⟩)] 76)).alloc (.cells #[.int .u64 0,.int .u64 0,.bool false] 81))):=by
   have a:=((Bxs.nil (Gw.refl w)).add #[.pointer (some ⟨pb,0,none⟩),.pointer (some ⟨pc,0,none⟩)] 76).add #[.int .u64 0,.int .u64 0,.bool false] 81;have e:(w.alloc (.cells #[.pointer (some ⟨pb,0,none⟩),.pointer (some ⟨pc,0,none⟩)] 76)).heap.size=bq+1:=by simp [hbq]
   rw [e,hbq] at a;exact a
  rw [hbq];generalize (w.alloc (.cells #[.pointer (some ⟨pb,0,none⟩),.pointer (some ⟨pc,0,none⟩)] 76)).alloc (.cells #[.int .u64 0,.int .u64 0,.bool false] 81)=w1 at B0 ⊢;refine Calls.mono (G1.out _ B0.out.gw0) ?_;rintro e u1 ⟨rfl,gg⟩;have B1:=(B0.out.gw gg).add #[.int .u64 x,.int .u64 y,.bool z] 81;obtain ⟨bx,hbx⟩:∃ b,u1.heap.size=b:=⟨_,rfl⟩;have BX:Aside (u1.heap.size=bx):=hbx;rw [hbx] at B1;clear gg G1 hbx hbq B0;go_upto_region 2 with fail;rw [BX.out];generalize u1.alloc (.cells #[.int .u64 x,.int .u64 y,.bool z] 81)=U at B1 ⊢;have E2:U.heap[bq]?=some (.cells #[.pointer (some ⟨pb,0,none⟩),.pointer (some ⟨pc,0,none⟩)] 76 (0,0)):=B1.lie (bq,#[.pointer (some ⟨pb,0,none⟩),.pointer (some ⟨pc,0,none⟩)],76) (by simp)
  have s1:U.cell? ⟨bq,1,none⟩=some (.pointer (some ⟨pc,0,none⟩)):=blkc E2 rfl;have sl:=blkl E2;have B2:Aside (Bxs w [(bx,#[.int .u64 x,.int .u64 y,.bool z],81),(bq+1,#[.int .u64 0,.int .u64 0,.bool false],81),(bq,#[.pointer (some ⟨pb,0,none⟩),.pointer (some ⟨pc,0,none⟩)],76)] U):=B1;clear E2 B1;go_wp2_with fail;refine Calls.mono (G2.out _ B2.out.gw0) ?_;rintro e u2 ⟨rfl,gg⟩;have B3:=B2.out.gw gg;have E0:u2.heap[bq+1]?=some (.cells #[.int .u64 0,.int .u64 0,.bool false] 81 (0,0)):=B3.lie (bq+1,#[.int .u64 0,.int .u64 0,.bool false],81) (by simp)
  have GU:Aside (Gw w u2):=B3.gw0;obtain ⟨m0,m1,m2,z0,z1,z2,bl,TT⟩:=box_facts E0;have T3:=TT x' y' z';have BS:Aside (w.heap.size<=bq+1):=by have:=BQ.out;show _<=_;omega
  clear E0 B3 B2 TT gg G2;go_wp2_with fail;exact bodyPost_ret (v:=.tuple #[.agg #[.int .u64 x',.int .u64 y',.bool z'],.bool t']) (by simp [results,results35,go_sem,T3.1,T3.2.1,T3.2.2]) rfl ⟨rfl,((GU.out.setCell BS.out _).setCell BS.out _).setCell BS.out _⟩
theorem putR_in {buf:Int} {l:List Ent} {e:Ent} (oke:¬ (e.g=true/\e.v≠0)) (room:(l.length:Int)<buf):putR buf l e=(0,ins Ent.k e l):=by
 unfold putR;rw [if_neg oke,if_neg (fun x=>by omega)]
def valV (o:Option Int):Value:=.tuple #[.int .u64 (o.getD 0),.bool o.isSome]
theorem HT.cells {HR:HRt} {w:World} {p:Nat} {F:Nat->Prop} {eps buf keys:Int} {l:List Ent} {rs:List (Option Rn)} {B W_:Int} {live pb pc:Nat} (h:w.heap[p]?=some (.cells (twA eps buf keys pb pc live) 78 (0,0))):(w.cell? ⟨p,0,none⟩=some (.int .i64 eps)/\w.cell? ⟨p,1,none⟩=some (.int .i64 buf)/\w.cell? ⟨p,2,none⟩=some (.int .i64 keys))/\w.cell? ⟨p,3,none⟩=some (.pointer (some ⟨pb,0,none⟩))/\w.cell? ⟨p,4,none⟩=some (.pointer (some ⟨pc,0,none⟩))/\w.cell? ⟨p,5,none⟩=some (.int .i64 (live:Int))/\w.frozen? ⟨p,5,none⟩=false/\p<w.heap.size :=
 ⟨⟨blkc h rfl,blkc h rfl,blkc h rfl⟩,blkc h rfl,blkc h rfl,blkc h rfl,blkf h,blkl h⟩
theorem HT.fewN {HR:HRt} {w:World} {p:Nat} {F:Nat->Prop} {eps buf keys:Int} {l:List Ent} {rs:List (Option Rn)} {B W_:Int} {live N:Nat} (h:HT HR w p F eps buf keys l rs B W_ live) (t:l.length+tot rs<=N):live<=N:=by
 obtain ⟨ks,k1,k2,k3⟩:=h.inv.all;have a:=h.inv.ok.rise;have:ks.length<=(l.map Ent.k++(lists rs).flatMap (List.map Ent.k)).length:=len_sub k1 fun x hx=>by
  have hx':=(k2 x).1 hx;unfold liveE newE at hx';cases hk:look Ent.k x l with
  | some y=>exact List.mem_append.2 (.inl (List.mem_map.2 ⟨y,look_in hk⟩))
  | none =>
   rw [hk] at hx';cases hn:nw x rs with
   | none=>rw [hn] at hx';cases hx'
   | some e =>
    have:∀ ls:List (List Ent),firstOf Ent.k x ls=some e->∃ l∈ls,e∈l/\e.k=x:=by
     intro ls;induction ls with
     | nil=>intro h;cases h
     | cons l ls ih =>
      intro h;simp only [firstOf] at h;cases hk:look Ent.k x l with
      | some y=>rw [hk] at h;cases h;exact ⟨l,List.mem_cons_self ..,look_in hk⟩
      | none =>
       rw [hk] at h;obtain ⟨l',a,b⟩:=ih h;exact ⟨l',List.mem_cons_of_mem _ a,b⟩
    obtain ⟨l,a,b,c⟩:=this _ hn;exact List.mem_append.2 (.inr (List.mem_flatMap.2 ⟨l,a,List.mem_map.2 ⟨e,b,c⟩⟩))
 rw [List.length_append,List.length_map,List.length_flatMap] at this;have t':l.length+((lists rs).map fun a=>a.length).sum<=N:=t
 simp at this;omega
theorem HT.few {HR:HRt} {w:World} {p:Nat} {F:Nat->Prop} {eps buf keys:Int} {l:List Ent} {rs:List (Option Rn)} {B W_:Int} {live:Nat} (h:HT HR w p F eps buf keys l rs B W_ live) (t:l.length+tot rs<=2000000):live<=2000000:=h.fewN t
theorem tget16 {HR:HRt} (H:RunC HR) {w:World} {p:Nat} {F:Nat->Prop} {eps buf keys:Int} {l:List Ent} {rs:List (Option Rn)} {B W_:Int} {live:Nat} (h:HT HR w p F eps buf keys l rs B W_ live) (hn:l.length<=4000000) (q:Int) (q0:0<=q) (q1:q<18446744073709551616) :
  Calls prog 10 #[.pointer (some ⟨p,0,none⟩),.int .u64 q] w fun e w'=>e=.returned (valV (valE l rs q))/\Gw w w':=by
 obtain ⟨pb,Sb,pc,h1,h2,h3,h4,h5,h6⟩:=h.lies;obtain ⟨_,c3,c4,_,_,pl⟩:=HT.cells (HR:=HR) (F:=F) (l:=l) (rs:=rs) (B:=B) (W_:=W_) h1;obtain ⟨x,y,z,t,f1,f2,f3⟩:=lookV_form (newE l rs q);have SG:Hid (Calls prog 35 #[.agg #[.pointer (some ⟨pb,0,none⟩),.pointer (some ⟨pc,0,none⟩)],.int .u64 q] w fun e w'=>e=.returned (.tuple #[.agg #[.int .u64 x,.int .u64 y,.bool z],.bool t])/\Gw w w'):=by
  have:=sget16 H h2 hn q q0 q1
  rw [f1] at this;exact this
 have R:valV (valE l rs q)=.tuple #[.int .u64 (if t&&!z then y else 0),.bool (t&&!z)]:=by
  unfold valE;cases hk:newE l rs q with
  | none =>
   rw [hk] at f2;subst f2;rfl
  | some e =>
   rw [hk] at f1 f2;subst f2;have f1':(Value.agg #[.int .u64 e.k,.int .u64 e.v,.bool e.g],true)=(Value.agg #[.int .u64 x,.int .u64 y,.bool z],(some e).isSome):=f1;simp at f1';obtain ⟨_,e2,e3⟩:=f1';subst e2;subst e3;obtain ⟨ek,ev,eg⟩:=e;cases eg<;>rfl
 rw [R];clear R f1 f2 f3 h h1 h2 h3 h4 h5 h6 H;cases t<;>cases z
 all_goals
  go_enter func10,ntmps10;go_wp2_with fail;refine Calls.mono SG.out ?_;rintro e u1 ⟨rfl,gg⟩;have GU:Aside (Gw w u1):=gg;clear gg SG;go_wp2_with fail;go_ret2;exact ⟨rfl,GU.out.alloc _ _⟩
section
variable {HR:HRt} {w:World} {p:Nat} {F:Nat->Prop} {eps buf keys:Int} {l:List Ent} {rs:List (Option Rn)} {B W_:Int} {live:Nat}
theorem newE_live (h:HT HR w p F eps buf keys l rs B W_ live) {e:Ent}:(e.g=false->liveE l rs e.k=false->LvN (liveE (ins Ent.k e l) rs) (live+1))/\(e.g=false->liveE l rs e.k=true->LvN (liveE (ins Ent.k e l) rs) live)/\(e.g=true->liveE l rs e.k=true->0<live/\LvN (liveE (ins Ent.k e l) rs) (live-1)):=by
 have oth:∀ q,q≠e.k->liveE (ins Ent.k e l) rs q=liveE l rs q:=fun q hq=>by
  unfold liveE;rw [newE_ins h.inv.ok.rise,if_neg (fun x=>hq x.symm)]
 have at_:liveE (ins Ent.k e l) rs e.k=!e.g:=by
  unfold liveE;rw [newE_ins h.inv.ok.rise,if_pos rfl];rfl
 refine ⟨fun g f=>h.inv.all.put f (by rw [at_,g];rfl) oth,fun g f=>h.inv.all.same fun q=>?_,fun g f=>h.inv.all.drop f (by rw [at_,g];rfl) oth⟩
 by_cases c:q=e.k
 ·rw [c,at_,f,g];rfl
 ·exact oth q c
end
theorem HS.other {HR:HRt} (K:Kp HR) {w:World} {p pb pc:Nat} {Sb:Nat->Prop} {eps buf:Int} {l:List Ent} {rs:List (Option Rn)} {B W:Int} (h:HS HR w pb Sb pc eps buf l rs B W) (h3:p≠pc) (h4:¬ Sb p) (h5:∀ r,some r∈rs->¬ r.S p) (o:Nat) (v:Value):HS HR (w.setCell ⟨p,o,none⟩ v) pb Sb pc eps buf l rs B W :=
 h.keep K fun q hq=>Go.Deep.blk_setCell_other _ _ _ _ fun e=>by
  have e':q=p:=e;rw [e'] at hq;rcases hq with x | x | ⟨r,x,y⟩
  ·exact h4 x
  ·exact h3 x
  ·exact h5 r x y
theorem HT.made {HR:HRt} (K:Kp HR) {w:World} {pb pc:Nat} {Sb:Nat->Prop} {eps buf keys:Int} {l:List Ent} {rs:List (Option Rn)} {B W_:Int} {live:Nat} (h:HS HR w pb Sb pc eps buf l rs B W_) (inv:TInv eps buf keys l rs live) (cf:CfgOk eps buf keys):HT HR (w.alloc (.cells (twA eps buf keys pb pc live) 78)) w.heap.size (fun q=>q=w.heap.size\/q=pc\/Sb q) eps buf keys l rs B W_ live:=by
 refine ⟨⟨pb,Sb,pc,heap_alloc_new w _,h.gw K ((Gw.refl w).alloc _ _),fun e=>?_,fun x=>?_,fun r hr x=>?_,fun q=>Iff.rfl⟩,inv,cf⟩
 ·have:=h.lt K pc (.inr (.inl rfl));omega
 ·have:=h.lt K _ (.inl x);omega
 ·have:=h.lt K _ (.inr (.inr ⟨r,hr,x⟩));omega
theorem tbuf16 {HR:HRt} {w:World} {p:Nat} {F:Nat->Prop} {eps buf keys:Int} {l:List Ent} {rs:List (Option Rn)} {B W_:Int} {live:Nat} (h:HT HR w p F eps buf keys l rs B W_ live) (hn:l.length<=4000000) :
  Calls prog 31 #[.pointer (some ⟨p,0,none⟩)] w fun e w'=>(∃ bo c,e=.returned (.slice bo l.length c)/\EO w' w.heap.size (.slice bo l.length c) l)/\Gw w w':=by
 obtain ⟨pb,Sb,pc,h1,h2,h3,h4,h5,h6⟩:=h.lies;obtain ⟨_,c3,c4,_,_,pl⟩:=HT.cells (HR:=HR) (F:=F) (l:=l) (rs:=rs) (B:=B) (W_:=W_) h1;have LI:Hid (Calls prog 58 #[.pointer (some ⟨pb,0,none⟩)] w fun e w'=>(∃ bo c,e=.returned (.slice bo l.length c)/\EO w' w.heap.size (.slice bo l.length c) l)/\Gw w w'):=(list14 pb Sb buf l hn w h2.hb).mono fun e w' ⟨⟨v,a,b⟩,g⟩=>by
  obtain ⟨bo,c,ev,_⟩:=eo_shape b;subst ev;exact ⟨⟨bo,c,a,b⟩,g⟩
 have pbl:=h2.hb.lt pb h2.hb.own;generalize l.length=n at LI ⊢;clear h h1 h2 h3 h4 h5 h6;go_enter func31,ntmps31;go_wp2_with fail;refine Calls.mono LI.out ?_;rintro e w1 ⟨⟨bo,c,rfl,eo⟩,gg⟩;have RES:Hid (EO w1 w.heap.size (.slice bo n c) l/\Gw w w1):=⟨eo,gg⟩;clear eo gg LI;go_wp2_with fail;go_ret;exact ⟨⟨bo,c,rfl,RES.out.1⟩,RES.out.2⟩
theorem truns16 {HR:HRt} {w:World} {p:Nat} {F:Nat->Prop} {eps buf keys:Int} {l:List Ent} {rs:List (Option Rn)} {B W_:Int} {live:Nat} (h:HT HR w p F eps buf keys l rs B W_ live) :
  Calls prog 33 #[.pointer (some ⟨p,0,none⟩)] w fun e w'=>(∃ (t b c:Nat),e=.returned (.slice (some ⟨b,0,none⟩) t c)/\TopR rs t/\RO w' w.heap.size (.slice (some ⟨b,0,none⟩) t c) (rs.take t))/\Gw w w':=by
 obtain ⟨pb,Sb,pc,h1,h2,h3,h4,h5,h6⟩:=h.lies;obtain ⟨_,c3,c4,_,_,pl⟩:=HT.cells (HR:=HR) (F:=F) (l:=l) (rs:=rs) (B:=B) (W_:=W_) h1;have LI:Hid (Calls prog 45 #[.pointer (some ⟨pc,0,none⟩)] w fun e w'=>(∃ (t b c:Nat),e=.returned (.slice (some ⟨b,0,none⟩) t c)/\TopR rs t/\RO w' w.heap.size (.slice (some ⟨b,0,none⟩) t c) (rs.take t))/\Gw w w'):=runs15 h2.hc
 have pcl:=h2.hc.lt;clear h h1 h2 h3 h4 h5 h6;go_enter func33,ntmps33;go_wp2_with fail;refine Calls.mono LI.out ?_;rintro e w1 ⟨⟨t,b,c,rfl,a,d⟩,gg⟩;have RES:Hid (TopR rs t/\RO w1 w.heap.size (.slice (some ⟨b,0,none⟩) t c) (rs.take t)/\Gw w w1):=⟨a,d,gg⟩;clear a d gg LI;go_wp2_with fail;go_ret;exact ⟨⟨t,b,c,rfl,RES.out.1,RES.out.2.1⟩,RES.out.2.2⟩
theorem tcfg16 {HR:HRt} {w:World} {p:Nat} {F:Nat->Prop} {eps buf keys:Int} {l:List Ent} {rs:List (Option Rn)} {B W_:Int} {live:Nat} (h:HT HR w p F eps buf keys l rs B W_ live) :
  Calls prog 29 #[.pointer (some ⟨p,0,none⟩)] w fun e w'=>e=.returned (.agg #[.int .i64 eps,.int .i64 buf,.int .i64 keys])/\Gw w w':=by
 obtain ⟨pb,Sb,pc,h1,h2,h3,h4,h5,h6⟩:=h.lies;obtain ⟨⟨c0,c1,c2⟩,_,_,_,_,pl⟩:=HT.cells (HR:=HR) (F:=F) (l:=l) (rs:=rs) (B:=B) (W_:=W_) h1;clear h h1 h2 h3 h4 h5 h6;go_enter func29,ntmps29;go_wp2_with fail;exact bodyPost_ret (v:=.agg #[.int .i64 eps,.int .i64 buf,.int .i64 keys]) (by simp [results,results29,go_sem]) rfl ⟨rfl,(Gw.refl w).alloc _ _⟩
structure SZ (w:World) (base b t:Nat) (rs:List (Option Rn)):Prop where
 top:TopR rs t
 row:w.rowIs b 3 t (fun i=>.int .i64 (sizeO (rs.getD i none):Int))
 new:base<=b
theorem ins_last {l:List Ent} {x:Ent} (h:∀ y∈l,y.k<x.k):ins Ent.k x l=l++[x]:=by
 induction l with
 | nil=>rfl
 | cons y l ih =>
  unfold ins;rw [if_pos (h y (List.mem_cons_self ..)),ih fun z hz=>h z (List.mem_cons_of_mem _ hz)]
  rfl
theorem ins_take {l:List Ent} (r:Rise Ent.k l) {i:Nat} (hi:i<l.length):ins Ent.k (l.getD i ent0) (l.take i)=l.take (i+1):=by
 have e:l.take (i+1)=l.take i++[l.getD i ent0]:=by
  rw [List.take_add_one,List.getElem?_eq_getElem hi,getD_lt hi];rfl
 rw [e];refine ins_last fun y hy=>?_
 have:=List.pairwise_append.1 (by rw [<-e];exact r.sublist (List.take_sublist _ _):((l.take i++[l.getD i ent0]).Pairwise fun a b=>a.k<b.k))
 exact this.2.2 y hy _ (List.mem_singleton.2 rfl)
theorem stocked16 (most:Int) (m0:1<=most) (m1:most<=4294967296) (ao:Option Addr) (c:Nat) (l:List Ent) (hl:l.length<=2000000) (ok:EOk l) (room:(l.length:Int)<most) (pc:Nat) (w:World) (he:EL w ao l) :
  Calls prog 46 #[.int .i64 most,.slice ao l.length c,.pointer (some ⟨pc,0,none⟩)] w fun e w'=>(∃ pb Sb,e=.returned (.agg #[.pointer (some ⟨pb,0,none⟩),.pointer (some ⟨pc,0,none⟩)])/\HB 170 w' pb Sb most l/\∀ q,Sb q->w.heap.size<=q)/\Gw w w':=by
 have EA:Aside (EL w ao l):=he;have OK:Aside (EOk l):=ok;obtain ⟨n,hn⟩:∃ n,l.length=n:=⟨_,rfl⟩;have LN:Aside (l.length=n):=hn;have RM:Aside ((n:Int)<most):=by rw [<-hn];exact room
 have NW:Hid (∀ W,Calls prog 85 #[.int .i64 most] W fun e w'=>(e=.returned (.tuple #[.pointer (some ⟨W.heap.size,0,none⟩),.int .i64 0])/\HB 170 w' W.heap.size (fun q=>q=W.heap.size) most [])/\Gw W w'):=fun W=>new14_ok most m0 m1 W
 rw [hn] at hl ⊢;clear he ok room hn;obtain ⟨bq,hbq⟩:∃ b,w.heap.size=b:=⟨_,rfl⟩;have BQ:Aside (w.heap.size=bq):=hbq;have B0:Aside (Bxs w [(bq,#[.pointer none,.pointer none],76)] (w.alloc (.cells #[.pointer none,.pointer none] 76))):=by
  have a:=(Bxs.nil (Gw.refl w)).add #[.pointer none,.pointer none] 76;rw [hbq] at a;exact a
 clear hbq;go_enter func46,ntmps46;go_wp2_with fail;rw [BQ.out];generalize w.alloc (.cells #[.pointer none,.pointer none] 76)=w1 at B0 ⊢;refine Calls.mono (NW.out w1) ?_;rintro e w2 ⟨⟨rfl,hb2⟩,g2⟩;have B2:Aside (Bxs w [(bq,#[.pointer none,.pointer none],76)] w2):=B0.out.gw g2;have bl1:=blkl (B0.out.lie (bq,#[.pointer none,.pointer none],76) (by simp))
 dsimp only at bl1;obtain ⟨pb,hpb⟩:∃ p,w1.heap.size=p:=⟨_,rfl⟩;rw [hpb] at hb2 bl1 ⊢;have H2:Aside (HB 170 w2 pb (fun q=>q=pb) most (l.take 0)):=hb2
 have S2:Aside (∀ q,(fun q=>q=pb) q->bq<q):=fun q (hq:q=pb)=>by omega
 clear hb2 g2 B0 hpb NW bl1;go_wp2_with fail;go_loopg [18] n (fun gg s18 wr=>∃ (i:Nat) (S:Nat->Prop),s18=.int .i64 (i:Int)/\i<=n/\n-i<=gg/\Aside (HB 170 wr pb S most (l.take i))/\Aside (∀ q,S q->bq<q)/\Aside (Bxs w [(bq,#[.pointer none,.pointer none],76)] wr))
 case atStart=>exact ⟨0,_,rfl,Nat.zero_le _,by omega,H2,S2,B2⟩
 case round =>
  clear H2 S2 B2;obtain ⟨i,S,rfl,a1,a2,HB_,SS,BX⟩:=hrel;obtain ⟨wS,hwS⟩:∃ wx,wx=wr:=⟨_,rfl⟩;subst hwS;by_cases hlt:i<n
  ·have hlt':(i:Int)<(n:Int):=by omega
   have il:i<l.length:=by rw [LN.out];exact hlt
   obtain ⟨ab,af,rfl,hab,hac⟩:=(EA.out.gw BX.out.gw0).cells (by rw [LN.out];omega)
   obtain ⟨c0,c1,c2⟩:=hac i il;have okb:=EA.out.ok il;have PU:Hid (Calls prog 60 #[.pointer (some ⟨pb,0,none⟩),.agg #[.int .u64 (l.getD i ent0).k,.int .u64 (l.getD i ent0).v,.bool (l.getD i ent0).g]] (wS.alloc (.cells #[.int .u64 (l.getD i ent0).k,.int .u64 (l.getD i ent0).v,.bool (l.getD i ent0).g] 81)) fun ex w'=>ex=.returned (.int .i64 0)/\PutOut 170 (wS.alloc (.cells #[.int .u64 (l.getD i ent0).k,.int .u64 (l.getD i ent0).v,.bool (l.getD i ent0).g] 81)) w' pb S most (l.take (i+1))):=by
    have lt:(l.take i).length=i:=by rw [List.length_take];omega
    have:=put14 pb S most (l.take i) (l.getD i ent0) (by omega) okb (wS.alloc (.cells #[.int .u64 (l.getD i ent0).k,.int .u64 (l.getD i ent0).v,.bool (l.getD i ent0).g] 81)) (HB_.out.gw ((Gw.refl wS).alloc _ _))
    rw [putR_in (by rw [getD_lt il];exact (EOk.iff.1 OK.out).2 _ (List.getElem_mem il)) (by have:=RM.out;omega),ins_take OK.out.rise il] at this
    exact this
   generalize (l.getD i ent0).k=ki at c0 PU;generalize (l.getD i ent0).v=vi at c1 PU;generalize (l.getD i ent0).g=gi at c2 PU;have B1:Aside (Bxs w [(bq,#[.pointer none,.pointer none],76)] (wS.alloc (.cells #[.int .u64 ki,.int .u64 vi,.bool gi] 81))):=BX.out.gw ((Gw.refl wS).alloc _ _);clear hac okb;go_wp2_with fail;refine Calls.mono PU.out ?_;rintro e u1 ⟨rfl,S',hb',gx',ss'⟩;have H9:Aside (HB 170 u1 pb S' most (l.take (i+1))):=hb';have bl:=blkl (B1.out.lie (bq,#[.pointer none,.pointer none],76) (by simp))
   dsimp only at bl;have S9:Aside (∀ q,S' q->bq<q):=fun q hq=>by
    rcases ss' q hq with x | x
    ·exact SS.out q x
    ·omega
   have B9:Aside (Bxs w [(bq,#[.pointer none,.pointer none],76)] u1):=⟨Gx.gw B1.out.gw0 gx' (fun q hq=>by have:=SS.out q hq;have:=BQ.out;omega),fun x hx=>by
    have:=B1.out.lie x hx
    rw [List.mem_singleton.1 hx] at this ⊢;exact (gx'.block bq bl (fun y=>by have:=SS.out bq y;omega)).trans this⟩
   clear hb' gx' ss' bl PU B1 BX HB_ SS;go_wp2_with fail;go_roundg (n-(i+1))
   case measure=>omega
   case rel=>exact ⟨i+1,S',by go_num,by omega,Nat.le_refl _,H9,S9,B9⟩
  ·have ei:i=n:=by omega
   subst ei;have bb:wS.heap[bq]?=some (.cells #[.pointer none,.pointer none] 76 (0,0)):=BX.out.lie (bq,#[.pointer none,.pointer none],76) (by simp)
   have T:=blk_set16 (o:=1) (u:=.pointer (some ⟨pc,0,none⟩)) (blk_set16 (o:=0) (u:=.pointer (some ⟨pb,0,none⟩)) bb);have T0:((wS.setCell ⟨bq,0,none⟩ (.pointer (some ⟨pb,0,none⟩))).setCell ⟨bq,1,none⟩ (.pointer (some ⟨pc,0,none⟩))).cell? ⟨bq,0,none⟩=some (.pointer (some ⟨pb,0,none⟩)):=blkc T rfl;have T1:((wS.setCell ⟨bq,0,none⟩ (.pointer (some ⟨pb,0,none⟩))).setCell ⟨bq,1,none⟩ (.pointer (some ⟨pc,0,none⟩))).cell? ⟨bq,1,none⟩=some (.pointer (some ⟨pc,0,none⟩)):=blkc T rfl;have z0:wS.cell? ⟨bq,0,none⟩=some (.pointer none):=blkc bb rfl;have z1:wS.cell? ⟨bq,1,none⟩=some (.pointer none):=blkc bb rfl;have z2:=blkf (o:=0) bb;have z3:=blkf (o:=1) bb;have z4:=blkl bb;have RES:Hid ((HB 170 ((wS.setCell ⟨bq,0,none⟩ (.pointer (some ⟨pb,0,none⟩))).setCell ⟨bq,1,none⟩ (.pointer (some ⟨pc,0,none⟩))) pb S most l/\∀ q,S q->w.heap.size<=q)/\Gw w ((wS.setCell ⟨bq,0,none⟩ (.pointer (some ⟨pb,0,none⟩))).setCell ⟨bq,1,none⟩ (.pointer (some ⟨pc,0,none⟩)))):=by
    have gz:Gx (fun q=>q=bq) wS ((wS.setCell ⟨bq,0,none⟩ (.pointer (some ⟨pb,0,none⟩))).setCell ⟨bq,1,none⟩ (.pointer (some ⟨pc,0,none⟩))):=((Gx.refl (fun q=>q=bq) wS).set (.inl rfl) _ _).set (.inl rfl) _ _
    have h9:=HB_.out;rw [List.take_of_length_le (by rw [LN.out];exact Nat.le_refl _)] at h9
    refine ⟨⟨h9.gx gz (fun q hq hx=>?_),fun q hq=>?_⟩,Gx.gw BX.out.gw0 gz (fun q hq=>by have:=BQ.out;omega)⟩
    ·have:=SS.out q hq;omega
    ·have:=SS.out q hq;have:=BQ.out;omega
   clear T bb BX HB_ SS;go_wp2_with fail;exact bodyPost_ret (v:=.agg #[.pointer (some ⟨pb,0,none⟩),.pointer (some ⟨pc,0,none⟩)]) (by simp [results,results46,go_sem,T0,T1]) rfl ⟨⟨pb,S,rfl,RES.out.1.1,RES.out.1.2⟩,RES.out.2⟩
theorem nw_top {rs:List (Option Rn)} {t:Nat} (h:TopR rs t) (i:Nat) (q:Int):nw q ((rs.take t).drop i)=nw q (rs.drop i):=by
 have e:rs.drop i=(rs.take t).drop i++List.replicate ((rs.drop i).length-((rs.take t).drop i).length) none:=by
  refine List.ext_getElem? fun j=>?_
  have hj:rs[i+j]?=(rs.drop i)[j]?:=by rw [List.getElem?_drop]
  rw [<-hj];have l1:((rs.take t).drop i).length=t-i:=by rw [List.length_drop,List.length_take,Nat.min_eq_left h.le]
  have l2:(rs.drop i).length=rs.length-i:=List.length_drop;rw [l1,l2];by_cases a:i+j<t
  ·rw [List.getElem?_append_left (by rw [l1];omega),List.getElem?_drop,List.getElem?_take,if_pos a]
  ·rw [List.getElem?_append_right (by rw [l1];omega),List.getElem?_replicate]
   by_cases b:i+j<rs.length
   ·have:=h.no (i+j) (by omega)
    rw [List.getD_eq_getElem?_getD,List.getElem?_eq_getElem b] at this;have hle:=h.le;rw [List.getElem?_eq_getElem b,if_pos (by rw [l1];omega)]
    exact congrArg some this
   ·have hle:=h.le
    rw [List.getElem?_eq_none (by omega),if_neg (by rw [l1];omega)]
 rw [e,nw_app];have:=nw_rep q ((rs.drop i).length-((rs.take t).drop i).length) [];rw [List.append_nil] at this;rw [this];cases nw q ((rs.take t).drop i)<;>rfl
theorem CountT.top {l:List Ent} {rs:List (Option Rn)} {t n:Nat} {most:Int} {ok:Bool} (h:TopR rs t) (c:CountT l (rs.take t) most n ok):CountT l rs most n ok:=by
 have e1:∀ i q,liveQ (rs.drop i) q=liveQ ((rs.take t).drop i) q:=fun i q=>by unfold liveQ;rw [nw_top h]
 have e2:∀ q,liveE l rs q=liveE l (rs.take t) q:=fun q=>by
  have:=nw_top h 0 q
  rw [List.drop_zero,List.drop_zero] at this;unfold liveE newE;rw [this]
 rcases c with ⟨a,b,c,d⟩ | ⟨a,b,c⟩
 ·refine .inl ⟨a,fun i=>?_,c.same e2,d⟩
  obtain ⟨m,m1,m2⟩:=b i;exact ⟨m,m1.same (e1 i),m2⟩
 ·refine .inr ⟨a,b,?_⟩
  rcases c with ⟨i,m,m1,m2⟩ | ⟨m,m1,m2⟩
  ·exact .inl ⟨i,m,m1.same (e1 i),m2⟩
  ·exact .inr ⟨m,m1.same e2,m2⟩
theorem tot_up (l:List (Option Rn)):tot (upR l)<=tot l:=by
 unfold upR;have r:∀ n,tot (List.replicate n (none:Option Rn))=0:=fun n=>by
  induction n with
  | zero=>rfl
  | succ n ih=>rw [List.replicate_succ,tot_none];exact ih
 rw [tot_app,r];have:=tot_take l 40;omega
theorem ro_base {w:World} {base base':Nat} {v:Value} {rs:List (Option Rn)} (h:RO w base v rs) (hb:base'<=base):RO w base' v rs:=by
 refine ⟨h.1,?_⟩;rcases h.2 with q | ⟨b,cap,cur,rfl,hg,r⟩
 ·exact .inl q
 ·exact .inr ⟨b,cap,cur,rfl,Nat.le_trans hb hg,r⟩
def OfR16 (eps buf keys:Int) (b:List Ent) (l:List (Option Rn)) (E:Int) (n:Nat):Prop :=
 (¬ CfgOk eps buf keys/\E=160)\/(CfgOk eps buf keys/\((E≠0/\ChkR (ek b) (ev b) (eg b) b.length E)\/(EOk b/\((buf<=b.length/\E=140)\/((b.length:Int)<buf/\((E≠0/\OfR15 eps buf l E)\/(OfR15 eps buf l 0/\((E=161/\CountT b (upR l) keys n false)\/(E=0/\CountT b (upR l) keys n true)))))))))
def OfT (HR:HRt) (w w':World) (ex:Ending) (eps buf keys:Int) (b:List Ent) (l:List (Option Rn)):Prop :=
 ∃ E n,OfR16 eps buf keys b l E n/\((E≠0/\ex=.returned (.tuple #[.pointer none,.int .i64 E]))\/(E=0/\∃ p F,ex=.returned (.tuple #[.pointer (some ⟨p,0,none⟩),.int .i64 0])/\HT HR w' p F eps buf keys b (upR l) 0 0 n/\∀ q,F q->w.heap.size<=q))
theorem of16 {HR:HRt} (H:RunC HR) (eps buf keys:Int) (ao bo:Option Addr) (c d:Nat) (b:List Ent) (l:List (Option Rn)) (hb:b.length+tot l<=2000000) (hl:l.length<=2000000) (hc:b.length<=c) (hd:l.length<=d) (hz:bo=none->l.length=0/\d=0) (w:World) (he:EL w ao b) (hp:PR HR w bo l) :
  Calls prog 20 #[.agg #[.int .i64 eps,.int .i64 buf,.int .i64 keys],.slice ao b.length c,.slice bo l.length d] w fun e w'=>OfT HR w w' e eps buf keys b l/\Gw w w':=by
 have HH:Aside (RunC HR):=H;have CK:Hid (∀ W,Calls prog 41 #[.agg #[.int .i64 eps,.int .i64 buf,.int .i64 keys]] W fun e w'=>e=.returned (.int .i64 (cfgE eps buf keys))/\Gw W w'):=fun W=>check16 eps buf keys W
 have KC:Hid (∀ W,Gw w W->Calls prog 42 #[.slice ao b.length c] W fun e w'=>(∃ r:Int,e=.returned (.int .i64 r)/\ChkR (ek b) (ev b) (eg b) b.length r)/\Gw W w'):=fun W gg=>check3_any ao b.length c (ek b) (ev b) (eg b) (by omega) hc W (he.gw gg)
 have CO:Hid (∀ W,Gw w W->Calls prog 43 #[.int .i64 eps,.int .i64 buf,.slice bo l.length d] W fun e w'=>OfOut15 (fun w' p rs=>HCl HR w' p rs eps buf 0 0) W w' e eps buf l/\Gw W w'):=fun W gg=>of15 H eps buf bo d l hl hd hz W (hp.gw H.kp gg)
 have EA:Aside (EL w ao b):=he;have TB:Aside (b.length+tot (upR l)<=2000000):=by have:=tot_up l;show _<=_;omega
 obtain ⟨bq,hbq⟩:∃ b,w.heap.size=b:=⟨_,rfl⟩;have BQ:Aside (w.heap.size=bq):=hbq;have B0:Aside (Bxs w [(bq,#[.int .i64 eps,.int .i64 buf,.int .i64 keys],35)] (w.alloc (.cells #[.int .i64 eps,.int .i64 buf,.int .i64 keys] 35))):=by
  have a:=(Bxs.nil (Gw.refl w)).add #[.int .i64 eps,.int .i64 buf,.int .i64 keys] 35;rw [hbq] at a;exact a
 have FC:Aside (∀ W,Bxs w [(bq,#[.int .i64 eps,.int .i64 buf,.int .i64 keys],35)] W->W.heap[bq]?=some (.cells #[.int .i64 eps,.int .i64 buf,.int .i64 keys] 35 (0,0))):=fun W h=>h.lie (bq,#[.int .i64 eps,.int .i64 buf,.int .i64 keys],35) (by simp)
 obtain ⟨bn,hbn⟩:∃ n,b.length=n:=⟨_,rfl⟩;have BN:Aside (b.length=bn):=hbn;obtain ⟨ln,hln⟩:∃ n,l.length=n:=⟨_,rfl⟩;rw [hbn] at KC hc hb ⊢;rw [hln] at CO hl hd ⊢;clear H he hp hz hbq hbn hln;go_enter func20,ntmps20;go_wp2_with fail;rw [BQ.out];generalize w.alloc (.cells #[.int .i64 eps,.int .i64 buf,.int .i64 keys] 35)=w1 at B0 ⊢;refine Calls.mono (CK.out w1) ?_;rintro e w2 ⟨rfl,g2⟩;have B2:Aside (Bxs w [(bq,#[.int .i64 eps,.int .i64 buf,.int .i64 keys],35)] w2):=B0.out.gw g2;clear g2 B0 CK;by_cases cf:CfgOk eps buf keys
 ·have ce:cfgE eps buf keys=0:=if_pos cf
  rw [ce];have CF:Aside (CfgOk eps buf keys):=cf;have cfb:=cf.2.1;clear ce cf;go_wp2_with fail;refine Calls.mono (KC.out w2 B2.out.gw0) ?_;rintro e w3 ⟨⟨r,rfl,cr⟩,g3⟩;have B3:Aside (Bxs w [(bq,#[.int .i64 eps,.int .i64 buf,.int .i64 keys],35)] w3):=B2.out.gw g3;have CR:Aside (ChkR (ek b) (ev b) (eg b) b.length r):=by have:=cr;rw [<-BN.out] at this;exact this
  clear g3 cr B2 KC;by_cases r0:r=0
  ·subst r0
   have OKB:Aside (EOk b):=CR.out;have bb:=FC.out w3 B3.out;have k0:w3.cell? ⟨bq,0,none⟩=some (.int .i64 eps):=blkc bb rfl;have k1:w3.cell? ⟨bq,1,none⟩=some (.int .i64 buf):=blkc bb rfl;have kl:=blkl bb;clear bb CR;by_cases rm:(bn:Int)<buf
   ·have t1:decide (buf<=(bn:Int))=false:=by simp;omega
    have RM:Aside ((b.length:Int)<buf):=by rw [BN.out];exact rm
    clear rm;go_wp2_with fail;refine Calls.mono (CO.out w3 B3.out.gw0) ?_;rintro e w4 ⟨⟨E,ofr,hE⟩,g4⟩;have B4:Aside (Bxs w [(bq,#[.int .i64 eps,.int .i64 buf,.int .i64 keys],35)] w4):=B3.out.gw g4;rcases hE with ⟨e0,rfl⟩ | ⟨rfl,p4,rfl,n4,hc4⟩
    ·have e0':(E != 0)=true:=by simpa using e0
     have RES:Hid (∀ W,Gw w W->OfT HR w W (.returned (.tuple #[.pointer none,.int .i64 E])) eps buf keys b l/\Gw w W):=fun W g=>⟨⟨E,0,.inr ⟨CF.out,.inr ⟨OKB.out,.inr ⟨RM.out,.inl ⟨e0,ofr⟩⟩⟩⟩,.inl ⟨e0,rfl⟩⟩,g⟩
     clear e0 ofr g4 CO t1 k0 k1 kl;go_wp2_with fail;go_ret2;exact RES.out _ B4.out.gw0
    ·have OF0:Aside (OfR15 eps buf l 0):=ofr
     have HC4:Aside (HCl HR w4 p4 (upR l) eps buf 0 0/\w3.heap.size<=p4):=⟨hc4,n4⟩;have RN:Hid (∀ W,Gw w4 W->Calls prog 45 #[.pointer (some ⟨p4,0,none⟩)] W fun e w'=>(∃ (t b c:Nat),e=.returned (.slice (some ⟨b,0,none⟩) t c)/\TopR (upR l) t/\RO w' w4.heap.size (.slice (some ⟨b,0,none⟩) t c) ((upR l).take t))/\Gw W w'):=fun W gg=>(runs15 (hc4.gw HH.out.kp gg)).mono fun e w' ⟨⟨t,b,c,x1,x2,x3⟩,x4⟩=>⟨⟨t,b,c,x1,x2,ro_base x3 gg.size⟩,x4⟩
     have pcl:=hc4.lt;have bb:=FC.out w4 B4.out;have k0:w4.cell? ⟨bq,0,none⟩=some (.int .i64 eps):=blkc bb rfl;have k2:w4.cell? ⟨bq,2,none⟩=some (.int .i64 keys):=blkc bb rfl;have kl:=blkl bb;have CN:Hid (∀ (wA W:World) (t bR cR:Nat),Gw w4 wA->Gw wA W->TopR (upR l) t->RO wA w4.heap.size (.slice (some ⟨bR,0,none⟩) t cR) ((upR l).take t)->Calls prog 44 #[.slice ao bn c,.slice (some ⟨bR,0,none⟩) t cR,.int .i64 keys] W fun e w'=>(∃ (n:Nat) (ok:Bool),e=.returned (.tuple #[.int .i64 (n:Int),.bool ok])/\CountT b (upR l) keys n ok)/\Gw W w'):=fun wA W t bR cR g1 g2 tp ro=>by
      have tl:t<=40:=by have:=tp.le;rw [upR_len] at this;exact this
      have lt:((upR l).take t).length=t:=by rw [List.length_take,upR_len];omega
      have hro:RO wA w4.heap.size (.slice (some ⟨bR,0,none⟩) ((upR l).take t).length cR) ((upR l).take t):=by rw [lt];exact ro
      have prA:PR HR W (some ⟨bR,0,none⟩) ((upR l).take t):=(hro.pr (HR:=HR) fun r hr=>(HC4.out.1.runs r (List.mem_of_mem_take hr)).1.gw HH.out.kp g1).gw HH.out.kp g2
      have cap:t<=cR:=by
       rcases ro.2 with ⟨x,_⟩ | ⟨b',cap,cur,x,_,_,hc,_⟩
       ·cases x
       ·injection x with _ _ x3;rw [x3,<-lt];exact hc
      have tt:tot ((upR l).take t)<=tot (upR l):=by have:=tot_take (upR l) t;omega
      have:=count16 HH.out ao c bR 0 cR b ((upR l).take t) keys (by have:=CF.out.2.2.1;omega) (by have:=TB.out;omega) (by rw [lt];exact tl) (by rw [lt];exact cap) OKB.out.rise W ((EA.out.gw B4.out.gw0).gw (g1.trans g2)) prA
      rw [lt,BN.out] at this;exact this.mono fun e w' ⟨⟨n,ok,e1,e2⟩,g⟩=>⟨⟨n,ok,e1,e2.top tp⟩,g⟩
     have HW:Hid (∀ w':World,Gw w4 w'->Gw w4 w'/\w'.cell? ⟨bq,2,none⟩=some (.int .i64 keys)/\bq<w'.heap.size):=fun w' gg=>⟨gg,(gg.cell _ _ kl).trans k2,Nat.lt_of_lt_of_le kl gg.size⟩
     have I4:Hid (Gw w4 w4):=Gw.refl w4;clear ofr g4 CO n4 hc4 t1 k1 bb;go_wp2_with fail;go_region_held3 (fun w'=>Gw w4 w'/\w'.cell? ⟨bq,2,none⟩=some (.int .i64 keys)/\bq<w'.heap.size)
      (((refine HW.out _ ?_;repeat (first | exact And.left (by assumption) | exact Hid.out (by assumption) | refine Gw.drew ?_));done))
      ((
       first
       | (go_at_call 45;refine (RN.out _ (by repeat (first | exact Gw.refl _ | exact And.left (by assumption) | exact Hid.out (by assumption) | refine Gw.drew ?_ | refine Gw.drewN ?_ _))).mono ?_;rintro ex wA ⟨⟨tA,bA,cA,rfl,tpA,roA⟩,gA⟩;have FA:Hid (Gw w4 wA):=(Gw.trans (by repeat (first | exact Gw.refl _ | exact And.left (by assumption) | exact Hid.out (by assumption) | refine Gw.drew ?_ | refine Gw.drewN ?_ _)) gA);have RA_:Aside (TopR (upR l) tA/\RO wA w4.heap.size (.slice (some ⟨bA,0,none⟩) tA cA) ((upR l).take tA)):=⟨tpA,roA⟩;clear gA tpA roA)
       | (go_at_call 44;refine (CN.out wA _ tA bA cA FA.out (by first | exact Gw.refl _ | exact (Gw.refl _).drew) RA_.out.1 RA_.out.2).mono ?_;rintro ex wB ⟨⟨m,okc,rfl,cnt⟩,gB⟩;have FB:Hid (Gw w4 wB):=(Gw.trans (by repeat (first | exact Gw.refl _ | exact And.left (by assumption) | exact Hid.out (by assumption) | refine Gw.drew ?_ | refine Gw.drewN ?_ _)) gB);have CNT:Aside (CountT b (upR l) keys m okc):=cnt;clear gB cnt)))
     all_goals
      have B5:Aside (Bxs w [(bq,#[.int .i64 eps,.int .i64 buf,.int .i64 keys],35)] wB):=B4.out.gw FB.out;have HC5:Aside (HCl HR wB p4 (upR l) eps buf 0 0/\w3.heap.size<=p4):=⟨HC4.out.1.gw HH.out.kp FB.out,HC4.out.2⟩;clear FB RN CN HW;cases okc with
      | false =>
       have RES:Hid (∀ W,Gw w W->OfT HR w W (.returned (.tuple #[.pointer none,.int .i64 161])) eps buf keys b l/\Gw w W):=fun W g=>⟨⟨161,m,.inr ⟨CF.out,.inr ⟨OKB.out,.inr ⟨RM.out,.inr ⟨OF0.out,.inl ⟨rfl,CNT.out⟩⟩⟩⟩⟩,.inl ⟨by decide,rfl⟩⟩,g⟩
       go_wp2_with fail;go_ret2
       exact RES.out _ B5.out.gw0
      | true =>
       obtain ⟨w5,hw5⟩:∃ wx,wx=wB:=⟨_,rfl⟩;subst hw5;have bb:=FC.out w5 B5.out;have HW:Hid (∀ w':World,Gw w5 w'->Gw w5 w'/\w'.cell? ⟨bq,0,none⟩=some (.int .i64 eps)/\w'.cell? ⟨bq,1,none⟩=some (.int .i64 buf)/\w'.cell? ⟨bq,2,none⟩=some (.int .i64 keys)/\bq<w'.heap.size):=fun w' gg=>by
        have hh:=(gg.below.block bq (blkl bb)).trans bb;exact ⟨gg,blkc hh rfl,blkc hh rfl,blkc hh rfl,blkl hh⟩
       have I5:Hid (Gw w5 w5):=Gw.refl w5;have SK:Hid (∀ W,Gw w5 W->Calls prog 46 #[.int .i64 buf,.slice ao bn c,.pointer (some ⟨p4,0,none⟩)] W fun e w'=>(∃ pb Sb,e=.returned (.agg #[.pointer (some ⟨pb,0,none⟩),.pointer (some ⟨p4,0,none⟩)])/\HB 170 w' pb Sb buf b/\∀ q,Sb q->W.heap.size<=q)/\Gw W w'):=fun W gg=>by
        have:=stocked16 buf cfb.1 cfb.2 ao c b (by have:=TB.out;omega) OKB.out RM.out p4 W (EA.out.gw (B5.out.gw0.trans gg))
        rw [BN.out] at this;exact this
       have FIN:Aside (∀ (wS:World) (pbS:Nat) (SbS:Nat->Prop),Gw w5 wS->HB 170 wS pbS SbS buf b->(∀ q,SbS q->w5.heap.size<=q)->OfT HR w (wS.alloc (.cells #[.int .i64 eps,.int .i64 buf,.int .i64 keys,.pointer (some ⟨pbS,0,none⟩),.pointer (some ⟨p4,0,none⟩),.int .i64 (m:Int)] 78)) (.returned (.tuple #[.pointer (some ⟨wS.heap.size,0,none⟩),.int .i64 0])) eps buf keys b l/\Gw w (wS.alloc (.cells #[.int .i64 eps,.int .i64 buf,.int .i64 keys,.pointer (some ⟨pbS,0,none⟩),.pointer (some ⟨p4,0,none⟩),.int .i64 (m:Int)] 78))):=fun wS pbS SbS g hbS nS=>by
        have hs:HS HR wS pbS SbS p4 eps buf b (upR l) 0 0:=⟨hbS,HC5.out.1.gw HH.out.kp g,fun x=>by have:=nS p4 x;have:=HC5.out.1.lt;omega,fun r hr q hq hx=>by have:=nS q hq;have:=HH.out.lt (HC5.out.1.runs r hr).1.h q hx;omega⟩
        have inv:TInv eps buf keys b (upR l) m:=by
         rcases CNT.out with ⟨_,x1,x2,x3⟩ | ⟨x,_⟩
         ·refine TInv.of (upR_len l) ?_ (fun r hr=>(HC5.out.1.runs r hr).1.ok) x1 OKB.out RM.out x2 x3
          rcases OF0.out with ⟨x,_⟩ | ⟨x,_⟩ | ⟨_,_,x⟩
          ·cases x
          ·cases x
          ·exact x
         ·cases x
        refine ⟨⟨0,m,.inr ⟨CF.out,.inr ⟨OKB.out,.inr ⟨RM.out,.inr ⟨OF0.out,.inr ⟨rfl,CNT.out⟩⟩⟩⟩⟩,.inr ⟨rfl,_,_,rfl,HT.made HH.out.kp hs inv CF.out,fun q hq=>?_⟩⟩,(B5.out.gw0.trans g).alloc _ _⟩
        have z:=B5.out.gw0.size;have z2:=g.size;rcases hq with x | x | x
        ·omega
        ·have:=HC5.out.2;have:=B3.out.gw0.size;omega
        ·have:=nS q x;omega
       clear bb;go_wp2_with fail;go_region_held3 (fun w'=>Gw w5 w'/\w'.cell? ⟨bq,0,none⟩=some (.int .i64 eps)/\w'.cell? ⟨bq,1,none⟩=some (.int .i64 buf)/\w'.cell? ⟨bq,2,none⟩=some (.int .i64 keys)/\bq<w'.heap.size)
        (((refine HW.out _ ?_;repeat (first | exact And.left (by assumption) | exact Hid.out (by assumption) | refine Gw.drew ?_ | refine Gw.alloc ?_ _ _));done))
        ((
         first
         | (go_at_call 46;refine (SK.out _ (by repeat (first | exact Gw.refl _ | exact And.left (by assumption) | exact Hid.out (by assumption) | refine Gw.drew ?_ | refine Gw.drewN ?_ _))).mono ?_;rintro ex wS ⟨⟨pbS,SbS,rfl,hbS,nS⟩,gS⟩;have FS_:Hid (Gw w5 wS):=(Gw.trans (by repeat (first | exact Gw.refl _ | exact And.left (by assumption) | exact Hid.out (by assumption) | refine Gw.drew ?_ | refine Gw.drewN ?_ _)) gS);have HS_:Aside (HB 170 wS pbS SbS buf b/\∀ q,SbS q->w5.heap.size<=q):=⟨hbS,fun q hq=>Nat.le_trans (Gw.size (show Gw w5 _ from (by repeat (first | exact Gw.refl _ | exact And.left (by assumption) | exact Hid.out (by assumption) | refine Gw.drew ?_ | refine Gw.drewN ?_ _)))) (nS q hq)⟩;clear gS hbS nS)))
       all_goals
        have RES:Hid (OfT HR w (wS.alloc (.cells #[.int .i64 eps,.int .i64 buf,.int .i64 keys,.pointer (some ⟨pbS,0,none⟩),.pointer (some ⟨p4,0,none⟩),.int .i64 (m:Int)] 78)) (.returned (.tuple #[.pointer (some ⟨wS.heap.size,0,none⟩),.int .i64 0])) eps buf keys b l/\Gw w (wS.alloc (.cells #[.int .i64 eps,.int .i64 buf,.int .i64 keys,.pointer (some ⟨pbS,0,none⟩),.pointer (some ⟨p4,0,none⟩),.int .i64 (m:Int)] 78))):=FIN.out wS pbS SbS FS_.out HS_.out.1 HS_.out.2;generalize wS.heap.size=pN at RES ⊢;generalize (wS.alloc (.cells #[.int .i64 eps,.int .i64 buf,.int .i64 keys,.pointer (some ⟨pbS,0,none⟩),.pointer (some ⟨p4,0,none⟩),.int .i64 (m:Int)] 78))=wN at RES ⊢;go_wp2_with fail;go_ret2;exact RES.out
   ·have t1:decide (buf<=(bn:Int))=true:=by simp;omega
    have RES:Hid (∀ W,Gw w W->OfT HR w W (.returned (.tuple #[.pointer none,.int .i64 140])) eps buf keys b l/\Gw w W):=fun W g=>⟨⟨140,0,.inr ⟨CF.out,.inr ⟨OKB.out,.inl ⟨by rw [BN.out];omega,rfl⟩⟩⟩,.inl ⟨by decide,rfl⟩⟩,g⟩
    clear rm;go_wp2_with fail;go_ret2;exact RES.out _ B3.out.gw0
  ·have r0':(r != 0)=true:=by simpa using r0
   have RES:Hid (∀ W,Gw w W->OfT HR w W (.returned (.tuple #[.pointer none,.int .i64 r])) eps buf keys b l/\Gw w W):=fun W g=>⟨⟨r,0,.inr ⟨CF.out,.inl ⟨r0,CR.out⟩⟩,.inl ⟨r0,rfl⟩⟩,g⟩
   clear r0 CR;go_wp2_with fail;go_ret2;exact RES.out _ B3.out.gw0
 ·have ce:cfgE eps buf keys=160:=if_neg cf
  rw [ce];have RES:Hid (∀ W,Gw w W->OfT HR w W (.returned (.tuple #[.pointer none,.int .i64 160])) eps buf keys b l/\Gw w W):=fun W g=>⟨⟨160,0,.inl ⟨cf,rfl⟩,.inl ⟨by decide,rfl⟩⟩,g⟩
  clear ce cf;go_wp2_with fail;go_ret2;exact RES.out _ B2.out.gw0
theorem ofR_new {eps buf keys E:Int} {n:Nat} (h:OfR16 eps buf keys [] [] E n) (cf:CfgOk eps buf keys):E=0/\n=0:=by
 have up:upR []=List.replicate 40 none:=rfl;have lv:∀ i q,liveQ ((List.replicate 40 (none:Option Rn)).drop i) q=false:=fun i q=>by
  rw [List.drop_replicate];have:=nw_rep q (40-i) [];rw [List.append_nil] at this;unfold liveQ;rw [this];rfl
 have ft:fitAll eps buf (upR []) 40:=fun j hj=>by
  rw [up,List.getD_eq_getElem?_getD,List.getElem?_replicate,if_pos hj];rfl
 have nok:NewOk eps buf:=⟨cf.1,cf.2.1⟩;rcases h with ⟨a,_⟩ | ⟨_,h⟩
 ·exact absurd cf a
 ·rcases h with ⟨a,b⟩ | ⟨_,h⟩
  ·exact absurd (b.one (EOk.iff.2 ⟨List.Pairwise.nil,by simp⟩:EOk [])) a
  ·rcases h with ⟨a,_⟩ | ⟨_,h⟩
   ·have:=cf.2.1.1
    simp at a;omega
   ·rcases h with ⟨a,b⟩ | ⟨_,h⟩
    ·rcases b with ⟨_,x | ⟨r,x⟩⟩ | ⟨_,_,x⟩ | ⟨x,_⟩
     ·exact absurd nok x
     ·simp at x
     ·exact absurd ft x
     ·exact absurd x a
    ·rcases h with ⟨_,b⟩ | ⟨e,b⟩
     ·rcases b with ⟨x,_⟩ | ⟨_,_,x⟩
      ·cases x
      ·rw [up] at x
       have k0:=cf.2.2.1.1;rcases x with ⟨i,m,m1,m2⟩ | ⟨m,m1,m2⟩
       ·have:m=0:=m1.one (LvN.nil (lv i))
        omega
       ·have:m=0:=m1.one (LvN.nil (lv 0))
        omega
     ·rcases b with ⟨_,_,x,_⟩ | ⟨x,_⟩
      ·rw [up] at x
       exact ⟨e,x.one (LvN.nil (lv 0))⟩
      ·cases x
def NewT (HR:HRt) (w w':World) (ex:Ending) (eps buf keys:Int):Prop :=
 (¬ CfgOk eps buf keys/\ex=.returned (.tuple #[.pointer none,.int .i64 160]))\/(CfgOk eps buf keys/\∃ p F,ex=.returned (.tuple #[.pointer (some ⟨p,0,none⟩),.int .i64 0])/\HT HR w' p F eps buf keys [] (List.replicate 40 none) 0 0 0/\∀ q,F q->w.heap.size<=q)
theorem new16 {HR:HRt} (H:RunC HR) (eps buf keys:Int) (w:World) :
  Calls prog 8 #[.agg #[.int .i64 eps,.int .i64 buf,.int .i64 keys]] w fun e w'=>NewT HR w w' e eps buf keys/\Gw w w':=by
 have OF:Hid (∀ W,Gw w W->Calls prog 20 #[.agg #[.int .i64 eps,.int .i64 buf,.int .i64 keys],.slice none 0 0,.slice none 0 0] W fun e w'=>((¬ CfgOk eps buf keys/\e=.returned (.tuple #[.pointer none,.int .i64 160]))\/(CfgOk eps buf keys/\∃ p F,e=.returned (.tuple #[.pointer (some ⟨p,0,none⟩),.int .i64 0])/\HT HR w' p F eps buf keys [] (List.replicate 40 none) 0 0 0/\∀ q,F q->w.heap.size<=q))/\Gw W w'):=fun W gg=>(of16 H eps buf keys none none 0 0 [] [] (by decide) (by decide) (by decide) (by decide) (fun _=>⟨rfl,rfl⟩) W ⟨fun h=>by simp at h,fun i hi=>by simp at hi⟩ ⟨fun h=>by simp at h,fun r hr=>by cases hr⟩).mono fun e w' ⟨⟨E,n,h1,h2⟩,g⟩=>by
  refine ⟨?_,g⟩;by_cases cf:CfgOk eps buf keys
  ·obtain ⟨rfl,rfl⟩:=ofR_new h1 cf
   rcases h2 with ⟨x,_⟩ | ⟨_,p,F,x1,x2,x3⟩
   ·exact absurd rfl x
   ·exact .inr ⟨cf,p,F,x1,x2,fun q hq=>Nat.le_trans gg.size (x3 q hq)⟩
  ·have eE:E=160:=by
    rcases h1 with ⟨_,x⟩ | ⟨x,_⟩
    ·exact x
    ·exact absurd x cf
   subst eE;rcases h2 with ⟨_,x⟩ | ⟨x,_⟩
   ·exact .inl ⟨cf,x⟩
   ·exact absurd x (by decide)
 clear H;go_enter func8,ntmps8;go_wp2_with fail;refine Calls.mono (OF.out _ ((Gw.refl w).alloc _ _)) ?_;rintro e w1 ⟨h,gg⟩;have GG:Aside (Gw w w1):=((Gw.refl w).alloc _ _).trans gg;clear gg OF;rcases h with ⟨cf,rfl⟩ | ⟨cf,p,F,rfl,ht,hF⟩
 ·have RES:Hid (NewT HR w w1 (.returned (.tuple #[.pointer none,.int .i64 160])) eps buf keys):=.inl ⟨cf,rfl⟩
  clear cf;go_wp2_with fail;go_ret2;exact ⟨RES.out,GG.out⟩
 ·have RES:Hid (NewT HR w w1 (.returned (.tuple #[.pointer (some ⟨p,0,none⟩),.int .i64 0])) eps buf keys):=.inr ⟨cf,p,F,rfl,ht,hF⟩
  clear cf ht hF;go_wp2_with fail;go_ret2;exact ⟨RES.out,GG.out⟩
section
variable {HR:HRt} {w0 w w':World} {p:Nat} {F:Nat->Prop} {eps buf keys:Int} {l l':List Ent} {rs rs':List (Option Rn)} {B W B' W':Int} {live n:Nat} {e:Ent}
end
structure BW (l:List Ent) (rs:List (Option Rn)) (B W:Int) (t:Nat):Prop where
 few:l.length+tot rs<=t
 b:0<=B/\B<=t
 w:0<=W/\W<=(t:Int)*2000000
section
variable {rs rs':List (Option Rn)}
theorem lists_map (rs:List (Option Rn)):lists rs=(rs.map (Option.map Rn.l)).filterMap id:=by
 unfold lists;rw [List.filterMap_map];rfl
end
def keepE (e:Ent):List Ent:=if e.g=true then [] else [e]
def ovrN:Nat->List Ent->List Ent->List Ent
 | 0,all,_=>all
 | _+1,all,[]=>all
 | n+1,[],e::r=>keepE e++ovrN n [] r
 | n+1,a::as_,e::r=>if a.k<e.k then a::ovrN n as_ (e::r) else if a.k=e.k then keepE e++ovrN n as_ r else keepE e++ovrN n (a::as_) r
theorem ovrN_big:∀ (n m:Nat) (a l:List Ent),a.length+l.length<=n->a.length+l.length<=m->ovrN n a l=ovrN m a l
 | 0,0,_,_,_,_=>rfl
 | 0,m+1,a,l,h,_=>by
  have e:l=[]:=List.eq_nil_of_length_eq_zero (by omega)
  subst e;rfl
 | n+1,0,a,l,_,h=>by
  have e:l=[]:=List.eq_nil_of_length_eq_zero (by omega)
  subst e;rfl
 | n+1,m+1,a,[],_,_=>rfl
 | n+1,m+1,[],e::r,h,h'=>by
  simp only [List.length_cons,List.length_nil] at h h';simp only [ovrN];rw [ovrN_big n m [] r (by simp only [List.length_nil];omega) (by simp only [List.length_nil];omega)]
 | n+1,m+1,a::as_,e::r,h,h'=>by
  simp only [List.length_cons] at h h';simp only [ovrN];rw [ovrN_big n m as_ (e::r) (by simp only [List.length_cons];omega) (by simp only [List.length_cons];omega),ovrN_big n m as_ r (by omega) (by omega),ovrN_big n m (a::as_) r (by simp only [List.length_cons];omega) (by simp only [List.length_cons];omega)]
def ovr (a l:List Ent):List Ent:=ovrN (a.length+l.length) a l
theorem ovr_nil (a:List Ent):ovr a []=a:=by
 unfold ovr;cases a.length+([]:List Ent).length<;>rfl
theorem ovr_new (e:Ent) (r:List Ent):ovr [] (e::r)=keepE e++ovr [] r:=rfl
theorem ovr_lt {a e:Ent} (as_ r:List Ent) (h:a.k<e.k):ovr (a::as_) (e::r)=a::ovr as_ (e::r):=by
 show (if a.k<e.k then _ else _)=_
 rw [if_pos h];exact congrArg (a::·) (ovrN_big (as_.length+1+r.length) _ _ _ (by simp only [List.length_cons];omega) (Nat.le_refl _))
theorem ovr_eq {a e:Ent} (as_ r:List Ent) (h:a.k=e.k):ovr (a::as_) (e::r)=keepE e++ovr as_ r:=by
 show (if a.k<e.k then _ else if a.k=e.k then _ else _)=_
 rw [if_neg (by omega),if_pos h]
 exact congrArg (keepE e++·) (ovrN_big (as_.length+1+r.length) _ _ _ (by omega) (Nat.le_refl _))
theorem ovr_gt {a e:Ent} (as_ r:List Ent) (h:e.k<a.k):ovr (a::as_) (e::r)=keepE e++ovr (a::as_) r:=by
 show (if a.k<e.k then _ else if a.k=e.k then _ else _)=_
 rw [if_neg (by omega),if_neg (by omega)]
 rfl
theorem ovr_step {P:List Ent->List Ent->Prop} (h0:∀ a,P a []) (h1:∀ e r,P [] r->P [] (e::r)) (h2:∀ a as_ e r,a.k<e.k->P as_ (e::r)->P (a::as_) (e::r)) (h3:∀ a as_ e r,a.k=e.k->P as_ r->P (a::as_) (e::r)) (h4:∀ a as_ e r,e.k<a.k->P (a::as_) r->P (a::as_) (e::r)):∀ (n:Nat) (a l:List Ent),a.length+l.length<=n->P a l
 | _,a,[],_=>h0 a
 | 0,a,e::r,h=>by simp only [List.length_cons] at h;omega
 | n+1,[],e::r,h=>h1 e r (ovr_step h0 h1 h2 h3 h4 n [] r (by simp only [List.length_cons,List.length_nil] at h ⊢;omega))
 | n+1,a::as_,e::r,h=>by
  simp only [List.length_cons] at h;rcases Int.lt_trichotomy a.k e.k with c | c | c
  ·exact h2 a as_ e r c (ovr_step h0 h1 h2 h3 h4 n as_ (e::r) (by simp only [List.length_cons];omega))
  ·exact h3 a as_ e r c (ovr_step h0 h1 h2 h3 h4 n as_ r (by omega))
  ·exact h4 a as_ e r c (ovr_step h0 h1 h2 h3 h4 n (a::as_) r (by simp only [List.length_cons];omega))
theorem keep_mem {x e:Ent} (h:x∈keepE e):x=e/\e.g=false:=by
 unfold keepE at h;split at h
 ·cases h
 ·exact ⟨List.mem_singleton.1 h,by simpa using ‹¬ e.g=true›⟩
theorem ovr_mem {x:Ent} (a l:List Ent):x∈ovr a l->x∈a\/(x∈l/\x.g=false):=by
 refine ovr_step (P:=fun a l=>x∈ovr a l->x∈a\/(x∈l/\x.g=false)) (fun a h=>?_) (fun e r ih h=>?_) (fun a as_ e r c ih h=>?_) (fun a as_ e r c ih h=>?_) (fun a as_ e r c ih h=>?_) _ a l (Nat.le_refl _)
 ·rw [ovr_nil] at h;exact .inl h
 ·rw [ovr_new] at h
  rcases List.mem_append.1 h with q | q
  ·obtain ⟨rfl,g⟩:=keep_mem q
   exact .inr ⟨List.mem_cons_self ..,g⟩
  ·rcases ih q with q | ⟨q,g⟩
   ·cases q
   ·exact .inr ⟨List.mem_cons_of_mem _ q,g⟩
 ·rw [ovr_lt _ _ c] at h
  rcases List.mem_cons.1 h with q | q
  ·exact .inl (by rw [q];exact List.mem_cons_self ..)
  ·rcases ih q with q | q
   ·exact .inl (List.mem_cons_of_mem _ q)
   ·exact .inr q
 ·rw [ovr_eq _ _ c] at h
  rcases List.mem_append.1 h with q | q
  ·obtain ⟨rfl,g⟩:=keep_mem q
   exact .inr ⟨List.mem_cons_self ..,g⟩
  ·rcases ih q with q | ⟨q,g⟩
   ·exact .inl (List.mem_cons_of_mem _ q)
   ·exact .inr ⟨List.mem_cons_of_mem _ q,g⟩
 ·rw [ovr_gt _ _ c] at h
  rcases List.mem_append.1 h with q | q
  ·obtain ⟨rfl,g⟩:=keep_mem q
   exact .inr ⟨List.mem_cons_self ..,g⟩
  ·rcases ih q with q | ⟨q,g⟩
   ·exact .inl q
   ·exact .inr ⟨List.mem_cons_of_mem _ q,g⟩
theorem keep_rise {e:Ent} {z:List Ent} (h:Rise Ent.k z) (b:∀ x∈z,e.k<x.k):Rise Ent.k (keepE e++z):=by
 unfold keepE;split
 ·exact h
 ·exact List.pairwise_cons.2 ⟨b,h⟩
theorem ovr_rise {a l:List Ent}:Rise Ent.k a->Rise Ent.k l->Rise Ent.k (ovr a l):=by
 refine ovr_step (P:=fun a l=>Rise Ent.k a->Rise Ent.k l->Rise Ent.k (ovr a l)) (fun a h _=>?_) (fun e r ih h h'=>?_) (fun a as_ e r c ih h h'=>?_) (fun a as_ e r c ih h h'=>?_) (fun a as_ e r c ih h h'=>?_) _ a l (Nat.le_refl _)
 ·rw [ovr_nil];exact h
 ·rw [ovr_new]
  exact keep_rise (ih h h'.tail) fun x hx=>by
   rcases ovr_mem _ _ hx with q | ⟨q,_⟩
   ·cases q
   ·exact h'.head x q
 ·rw [ovr_lt _ _ c]
  refine List.pairwise_cons.2 ⟨fun x hx=>?_,ih h.tail h'⟩
  rcases ovr_mem _ _ hx with q | ⟨q,_⟩
  ·exact h.head x q
  ·rcases List.mem_cons.1 q with q | q
   ·rw [q];exact c
   ·have:=h'.head x q;omega
 ·rw [ovr_eq _ _ c]
  exact keep_rise (ih h.tail h'.tail) fun x hx=>by
   rcases ovr_mem _ _ hx with q | ⟨q,_⟩
   ·have:=h.head x q;omega
   ·exact h'.head x q
 ·rw [ovr_gt _ _ c]
  exact keep_rise (ih h h'.tail) fun x hx=>by
   rcases ovr_mem _ _ hx with q | ⟨q,_⟩
   ·rcases List.mem_cons.1 q with q | q
    ·rw [q];exact c
    ·have:=h.head x q;omega
   ·exact h'.head x q
def over1 (o p:Option Ent):Option Ent:=match o with
 | some e=>if e.g=true then none else some e
 | none=>p
theorem look_keep (q:Int) (e:Ent) (z:List Ent):look Ent.k q (keepE e++z)=if e.k=q then (if e.g=true then look Ent.k q z else some e) else look Ent.k q z:=by
 unfold keepE;cases h:e.g
 ·show look Ent.k q (e::z)=_
  rw [look_cons];simp
 ·simp
theorem ovr_look (q:Int) {a l:List Ent}:Rise Ent.k a->Rise Ent.k l->look Ent.k q (ovr a l)=over1 (look Ent.k q l) (look Ent.k q a):=by
 refine ovr_step (P:=fun a l=>Rise Ent.k a->Rise Ent.k l->look Ent.k q (ovr a l)=over1 (look Ent.k q l) (look Ent.k q a)) (fun a h _=>?_) (fun e r ih h h'=>?_) (fun a as_ e r c ih h h'=>?_) (fun a as_ e r c ih h h'=>?_) (fun a as_ e r c ih h h'=>?_) _ a l (Nat.le_refl _)
 ·rw [ovr_nil];rfl
 ·rw [ovr_new,look_keep,ih h h'.tail,look_cons]
  by_cases c:e.k=q
  ·subst c
   rw [if_pos rfl,if_pos rfl,Rise.below h'.head];rfl
  ·rw [if_neg c,if_neg c]
 ·rw [ovr_lt _ _ c,look_cons,ih h.tail h',look_cons q a]
  by_cases d:a.k=q
  ·subst d
   rw [if_pos rfl,if_pos rfl,Rise.below (l:=e::r) fun x hx=>by
    rcases List.mem_cons.1 hx with y | y
    ·rw [y];exact c
    ·have:=h'.head x y;omega]
   rfl
  ·rw [if_neg d,if_neg d]
 ·rw [ovr_eq _ _ c,look_keep,ih h.tail h'.tail,look_cons q e,look_cons q a]
  by_cases d:e.k=q
  ·subst d
   rw [if_pos rfl,if_pos rfl,Rise.below h'.head,Rise.below (l:=as_) fun x hx=>by have:=h.head x hx;omega]
   rfl
  ·rw [if_neg d,if_neg d,if_neg (by omega)]
 ·rw [ovr_gt _ _ c,look_keep,ih h h'.tail,look_cons q e]
  by_cases d:e.k=q
  ·subst d
   rw [if_pos rfl,if_pos rfl,Rise.below h'.head,Rise.below (l:=a::as_) fun x hx=>by
    rcases List.mem_cons.1 hx with y | y
    ·rw [y];exact c
    ·have:=h.head x y;omega]
   rfl
  ·rw [if_neg d,if_neg d]
theorem firstOf_cons16 (q:Int) (x:List Ent) (L:List (List Ent)):firstOf Ent.k q (x::L)=(look Ent.k q x).or (firstOf Ent.k q L):=by
 rw [firstOf];cases look Ent.k q x<;>rfl
def lvs (L:List (List Ent)):List Ent:=L.foldl ovr []
theorem lvs_snoc (L:List (List Ent)) (x:List Ent):lvs (L++[x])=ovr (lvs L) x:=by unfold lvs;rw [List.foldl_append];rfl
theorem lvs_fit (q:Int):∀ L:List (List Ent),(∀ l∈L,Rise Ent.k l)->Rise Ent.k (lvs L.reverse)/\(∀ x∈lvs L.reverse,x.g=false)/\look Ent.k q (lvs L.reverse)=over1 (firstOf Ent.k q L) none
 | [],_=>⟨List.Pairwise.nil,fun x hx=>(by cases hx),rfl⟩
 | x::L,h=>by
  obtain ⟨a,b,c⟩:=lvs_fit q L fun l hl=>h l (List.mem_cons_of_mem _ hl)
  have hx:=h x (List.mem_cons_self ..);rw [List.reverse_cons,lvs_snoc];refine ⟨ovr_rise a hx,fun y hy=>?_,?_⟩
  ·rcases ovr_mem _ _ hy with z | ⟨_,z⟩
   ·exact b y z
   ·exact z
  ·rw [ovr_look q a hx,c]
   rw [firstOf_cons16];cases look Ent.k q x<;>rfl
theorem lvs_tower {l:List Ent} {rs:List (Option Rn)} (hl:Rise Ent.k l) (hr:∀ r,some r∈rs->Rise Ent.k r.l):Rise Ent.k (lvs ((lists rs).reverse++[l]))/\(∀ x∈lvs ((lists rs).reverse++[l]),x.g=false)/\(∀ q,(look Ent.k q (lvs ((lists rs).reverse++[l]))).map Ent.v=valE l rs q)/\LvN (liveE l rs) (lvs ((lists rs).reverse++[l])).length:=by
 have hL:∀ x∈l::lists rs,Rise Ent.k x:=fun x hx=>by
  rcases List.mem_cons.1 hx with rfl | y
  ·exact hl
  ·rw [lists_map,List.mem_filterMap] at y
   obtain ⟨o,ho,e⟩:=y;obtain ⟨u,hu,rfl⟩:=List.mem_map.1 ho;cases u with
   | none=>cases e
   | some r=>cases e;exact hr r hu
 have e:(lists rs).reverse++[l]=(l::lists rs).reverse:=by rw [List.reverse_cons]
 rw [e];have A:=fun q=>lvs_fit q _ hL
 have V:∀ q,(look Ent.k q (lvs (l::lists rs).reverse)).map Ent.v=valE l rs q:=fun q=>by
  rw [(A q).2.2];show _=valO ((look Ent.k q l).or (firstOf Ent.k q (lists rs)));have f:firstOf Ent.k q (l::lists rs)=(look Ent.k q l).or (firstOf Ent.k q (lists rs)):=firstOf_cons16 q l _;rw [f];cases (look Ent.k q l).or (firstOf Ent.k q (lists rs)) with
  | none=>rfl
  | some x=>unfold over1 valO;cases hg:x.g<;>simp [hg]
 refine ⟨(A 0).1,(A 0).2.1,V,(lvs (l::lists rs).reverse).map Ent.k,rise_keys (A 0).1,fun q=>?_,by simp⟩
 rw [<-valE_live,<-V q,Option.isSome_map];constructor
 ·intro h
  obtain ⟨x,hx,rfl⟩:=List.mem_map.1 h;rw [look_mem (A 0).1 hx];rfl
 ·intro h
  obtain ⟨x,hx⟩:=Option.isSome_iff_exists.1 h;exact List.mem_map.2 ⟨x,List.mem_of_find?_eq_some hx,look_key hx⟩
theorem drop_at16 (l:List Ent) {i:Nat} (h:i<l.length):l.drop i=l.getD i ent0::l.drop (i+1):=by
 rw [List.drop_eq_getElem_cons h];simp [List.getD,h]
theorem ovr_pass {a l:List Ent} {k j:Nat} (hk:k<a.length) (hj:j<l.length) (c:(a.getD k ent0).k<(l.getD j ent0).k):ovr (a.drop k) (l.drop j)=a.getD k ent0::ovr (a.drop (k+1)) (l.drop j):=by
 rw [drop_at16 a hk,drop_at16 l hj,ovr_lt _ _ c]
theorem ovr_same {a l:List Ent} {k j:Nat} (hk:k<a.length) (hj:j<l.length) (c:(a.getD k ent0).k=(l.getD j ent0).k):ovr (a.drop k) (l.drop j)=keepE (l.getD j ent0)++ovr (a.drop (k+1)) (l.drop (j+1)):=by
 rw [drop_at16 a hk,drop_at16 l hj,ovr_eq _ _ c]
theorem ovr_more {a l:List Ent} {k j:Nat} (hj:j<l.length) (c:k<a.length->(l.getD j ent0).k<(a.getD k ent0).k):ovr (a.drop k) (l.drop j)=keepE (l.getD j ent0)++ovr (a.drop k) (l.drop (j+1)):=by
 rw [drop_at16 l hj];by_cases hk:k<a.length
 ·rw [drop_at16 a hk,ovr_gt _ _ (c hk)]
 ·rw [List.drop_eq_nil_of_le (Nat.le_of_not_lt hk),ovr_new]
theorem ovr_end {a l:List Ent} {k j:Nat} (hj:l.length<=j):ovr (a.drop k) (l.drop j)=a.drop k:=by rw [List.drop_eq_nil_of_le hj,ovr_nil]
theorem lay0 {HR:HRt} (H:RunC HR) {w:World} {pb pc:Nat} {Sb:Nat->Prop} {eps buf:Int} {l:List Ent} {rs:List (Option Rn)} {B W_:Int} (h:HS HR w pb Sb pc eps buf l rs B W_) (e:Ent) (ok:EOk l) (okb:e.ok) (oke:¬ (e.g=true/\e.v≠0)) (room:(l.length:Int)<buf) (nf:((ins Ent.k e l).length:Int)≠buf) (few:l.length+1+tot rs<=2000000) :
  Calls prog 34 #[.agg #[.pointer (some ⟨pb,0,none⟩),.pointer (some ⟨pc,0,none⟩)],.agg #[.int .u64 e.k,.int .u64 e.v,.bool e.g]] w fun ex w'=>ex=.returned (.tuple #[])/\(∃ S',HS HR w' pb S' pc eps buf (ins Ent.k e l) rs B W_/\∀ q,S' q->Sb q\/w.heap.size<=q)/\Gx Sb w w':=by
 have HH:Aside (RunC HR):=H;have HSs:Aside (HS HR w pb Sb pc eps buf l rs B W_):=h;have LE:=ins_len (x:=e) ok.rise;have PU:Hid (∀ W,Gw w W->Calls prog 60 #[.pointer (some ⟨pb,0,none⟩),.agg #[.int .u64 e.k,.int .u64 e.v,.bool e.g]] W fun ex w'=>ex=.returned (.int .i64 0)/\PutOut 170 W w' pb Sb buf (ins Ent.k e l)):=fun W gg=>by
  have:=put14 pb Sb buf l e (by omega) okb W (h.hb.gw gg)
  rw [putR_in oke room] at this;exact this
 have pbl:=h.hb.lt pb h.hb.own;have pcl:=h.hc.lt;have PN:pc≠pb:=fun x=>h.nc (by rw [x];exact h.hb.own)
 obtain ⟨bq,hbq⟩:∃ b,w.heap.size=b:=⟨_,rfl⟩;have BQ:Aside (w.heap.size=bq):=hbq;have NFU:Aside (((ins Ent.k e l).length:Int)≠buf):=nf;obtain ⟨l',hl'⟩:∃ l',ins Ent.k e l=l':=⟨_,rfl⟩;have LL:Aside (ins Ent.k e l=l'):=hl';rw [hl'] at PU NFU LE;clear h H hl' ok oke okb few nf;obtain ⟨ek,ev,eg⟩:=e;simp only at PU ⊢;have B0:Aside (Bxs w [(bq+1,#[.int .u64 ek,.int .u64 ev,.bool eg],81),(bq,#[.pointer (some ⟨pb,0,none⟩),.pointer (some ⟨pc,0,none⟩)],76)] ((w.alloc (.cells #[.pointer (some ⟨pb,0,none⟩),.pointer (some ⟨pc,0,none⟩)] 76)).alloc (.cells #[.int .u64 ek,.int .u64 ev,.bool eg] 81))):=by
  have a:=((Bxs.nil (Gw.refl w)).add #[.pointer (some ⟨pb,0,none⟩),.pointer (some ⟨pc,0,none⟩)] 76).add #[.int .u64 ek,.int .u64 ev,.bool eg] 81;have e:(w.alloc (.cells #[.pointer (some ⟨pb,0,none⟩),.pointer (some ⟨pc,0,none⟩)] 76)).heap.size=bq+1:=by simp [hbq]
  rw [e,hbq] at a;exact a
 clear hbq;go_enter func34,ntmps34;go_wp2_with fail;rw [BQ.out];generalize (w.alloc (.cells #[.pointer (some ⟨pb,0,none⟩),.pointer (some ⟨pc,0,none⟩)] 76)).alloc (.cells #[.int .u64 ek,.int .u64 ev,.bool eg] 81)=w1 at B0 ⊢;refine Calls.mono (PU.out _ B0.out.gw0) ?_;rintro ex u1 ⟨rfl,S1,hb1,gx1,s1⟩;have SBQ:Aside (∀ q,Sb q->q<bq):=fun q hq=>by have:=HSs.out.hb.lt q hq;rw [BQ.out] at this;exact this
 have E1:u1.heap[bq]?=some (.cells #[.pointer (some ⟨pb,0,none⟩),.pointer (some ⟨pc,0,none⟩)] 76 (0,0)):=by
  have x:=B0.out.lie (bq,#[.pointer (some ⟨pb,0,none⟩),.pointer (some ⟨pc,0,none⟩)],76) (by simp)
  exact (gx1.block bq (blkl x) (fun y=>by have:=SBQ.out bq y;omega)).trans x
 have k0:u1.cell? ⟨bq,0,none⟩=some (.pointer (some ⟨pb,0,none⟩)):=blkc E1 rfl;have k1:u1.cell? ⟨bq,1,none⟩=some (.pointer (some ⟨pc,0,none⟩)):=blkc E1 rfl;have kl:=blkl E1;have FU:Hid (Calls prog 61 #[.pointer (some ⟨pb,0,none⟩)] u1 fun e w'=>e=.returned (.bool ((l'.length:Int) == buf))/\Gw u1 w'):=full14 pb S1 buf l' u1 hb1
 have GX1:Aside (Gx Sb w u1):=(B0.out.gw0.gx Sb).trans gx1 (fun q hq=>.inl hq)
 have HB1:Aside (HB 170 u1 pb S1 buf l'):=hb1;have NS2:Aside (∀ q,S1 q->Sb q\/bq<q):=fun q hq=>(s1 q hq).imp id (fun x=>by
  have:=blkl (B0.out.lie (bq+1,#[.int .u64 ek,.int .u64 ev,.bool eg],81) (by simp))
  dsimp only at this;omega)
 have NS1:Aside (∀ q,S1 q->Sb q\/w.heap.size<=q):=fun q hq=>(s1 q hq).imp id (fun x=>Nat.le_trans B0.out.gw0.size x)
 have EX1:Aside (u1.heap[bq]?=some (.cells #[.pointer (some ⟨pb,0,none⟩),.pointer (some ⟨pc,0,none⟩)] 76 (0,0))):=E1;clear hb1 gx1 s1 E1 PU B0;go_wp2_with fail;refine Calls.mono FU.out ?_;rintro ex u2 ⟨rfl,g2⟩;have E2:u2.heap[bq]?=some (.cells #[.pointer (some ⟨pb,0,none⟩),.pointer (some ⟨pc,0,none⟩)] 76 (0,0)):=(g2.below.block bq kl).trans EX1.out;have GX2:Aside (Gx Sb w u2):=GX1.out.tw g2;have HB2:Aside (HB 170 u2 pb S1 buf l'):=HB1.out.gw g2;have HC2:Aside (HCl HR u2 pc rs eps buf B W_):=HSs.out.hc.gx HH.out.kp GX2.out HSs.out.nc (fun q hq r hr=>HSs.out.nr r hr q hq)
 have EX2:Aside (u2.heap[bq]?=some (.cells #[.pointer (some ⟨pb,0,none⟩),.pointer (some ⟨pc,0,none⟩)] 76 (0,0))):=E2;have m0:u2.cell? ⟨bq,0,none⟩=some (.pointer (some ⟨pb,0,none⟩)):=blkc E2 rfl;have m1:u2.cell? ⟨bq,1,none⟩=some (.pointer (some ⟨pc,0,none⟩)):=blkc E2 rfl;have ml:=blkl E2;clear g2 E2 k0 k1 kl FU GX1 HB1 EX1;have fl:¬ (l'.length:Int)=buf:=NFU.out;have t1:((l'.length:Int) == buf)=false:=by simpa using fl
 rw [t1];have RES:Hid ((∃ S',HS HR u2 pb S' pc eps buf l' rs B W_/\∀ q,S' q->Sb q\/w.heap.size<=q)/\Gx Sb w u2):=by
  refine ⟨⟨S1,⟨HB2.out,HC2.out,fun x=>?_,fun r hr q hq hx=>?_⟩,NS1.out⟩,GX2.out⟩
  ·rcases NS1.out pc x with y | y
   ·exact HSs.out.nc y
   ·have:=HSs.out.hc.lt;omega
  ·rcases NS1.out q hq with y | y
   ·exact HSs.out.nr r hr q y hx
   ·have:=HH.out.lt (HSs.out.hc.runs r hr).1.h q hx;omega
 clear t1 fl;go_wp2_with fail;go_end0;rw [LL.out];exact ⟨rfl,RES.out⟩
def PutN (HR:HRt) (w w':World) (p:Nat) (F:Nat->Prop) (eps buf keys:Int) (l:List Ent) (rs:List (Option Rn)) (B W_:Int) (live:Nat) (k v:Int):Prop :=
 (∃ F',HT HR w' p F' eps buf keys (ins Ent.k ⟨k,v,false⟩ l) rs B W_ (live+1)/\∀ q,F' q->F q\/w.heap.size<=q)/\Gx F w w'
theorem tput0 {HR:HRt} (H:RunC HR) {w:World} {p:Nat} {F:Nat->Prop} {eps buf keys:Int} {l:List Ent} {rs:List (Option Rn)} {B W_:Int} {live:Nat} (h:HT HR w p F eps buf keys l rs B W_ live) (few:l.length+1+tot rs<=2000000) (k v:Int) (k0:0<=k/\k<18446744073709551616) (v0:0<=v/\v<18446744073709551616) (hv:valE l rs k=none) (nfull:(live:Int)<keys) (nf:((ins Ent.k ⟨k,v,false⟩ l).length:Int)<buf) :
  Calls prog 9 #[.pointer (some ⟨p,0,none⟩),.int .u64 k,.int .u64 v] w fun ex w'=>ex=.returned (.int .i64 0)/\PutN HR w w' p F eps buf keys l rs B W_ live k v:=by
 have HH:Aside (RunC HR):=H;have HT_:Aside (HT HR w p F eps buf keys l rs B W_ live):=h;obtain ⟨pb,Sb,pc,h1,h2,h3,h4,h5,h6⟩:=h.lies;have GT:Hid (Calls prog 10 #[.pointer (some ⟨p,0,none⟩),.int .u64 k] w fun e w'=>e=.returned (valV (valE l rs k))/\Gw w w'):=tget16 H h (by omega) k k0.1 k0.2
 have LY:Hid (∀ W,HS HR W pb Sb pc eps buf l rs B W_->Calls prog 34 #[.agg #[.pointer (some ⟨pb,0,none⟩),.pointer (some ⟨pc,0,none⟩)],.agg #[.int .u64 k,.int .u64 v,.bool false]] W fun ex w'=>ex=.returned (.tuple #[])/\(∃ S',HS HR w' pb S' pc eps buf (ins Ent.k ⟨k,v,false⟩ l) rs B W_/\∀ q,S' q->Sb q\/W.heap.size<=q)/\Gx Sb W w'):=fun W hs=>lay0 H hs ⟨k,v,false⟩ h.inv.ok ⟨k0,v0⟩ (by simp) h.inv.room (by omega) few
 have LIE:Aside (HS HR w pb Sb pc eps buf l rs B W_/\p≠pc/\¬ Sb p/\(∀ r,some r∈rs->¬ r.S p)/\∀ q,F q↔q=p\/q=pc\/Sb q):=⟨h2,h3,h4,h5,h6⟩;have BL:Aside (w.heap[p]?=some (.cells (twA eps buf keys pb pc live) 78 (0,0))):=h1;have lf:=h.few (by omega)
 have MO:=h.inv.most;have LV:=newE_live h (e:=⟨k,v,false⟩);have LVV:=valE_live l rs k;rw [hv] at GT LVV;have GT':Hid (Calls prog 10 #[.pointer (some ⟨p,0,none⟩),.int .u64 k] w fun e w'=>e=.returned (.tuple #[.int .u64 0,.bool false])/\Gw w w'):=GT
 have CL:Hid (∀ w1,Gw w w1->(w1.cell? ⟨p,3,none⟩=some (.pointer (some ⟨pb,0,none⟩))/\w1.cell? ⟨p,4,none⟩=some (.pointer (some ⟨pc,0,none⟩))/\w1.cell? ⟨p,5,none⟩=some (.int .i64 (live:Int))/\w1.cell? ⟨p,2,none⟩=some (.int .i64 keys)/\w1.frozen? ⟨p,5,none⟩=false/\p<w1.heap.size)/\w1.heap[p]?=some (.cells (twA eps buf keys pb pc live) 78 (0,0))):=fun w1 g=>by
  have x:=(g.below.block p (blkl BL.out)).trans BL.out;exact ⟨⟨blkc x rfl,blkc x rfl,blkc x rfl,blkc x rfl,blkf x,blkl x⟩,x⟩
 have t1:((live:Int) == keys)=false:=by simp;omega
 have INV:Aside (TInv eps buf keys (ins Ent.k ⟨k,v,false⟩ l) rs (live+1)):=h.inv.put (by simp) (LV.1 rfl LVV.symm) (by omega) nf
 have wl:IntKind.i64.wrap ((live:Int)+1)=(live:Int)+1:=by rw [IntKind.wrap_i64];omega
 have HS1:Aside (∀ W,Gw w W->HS HR (W.setCell ⟨p,5,none⟩ (.int .i64 ((live:Int)+1))) pb Sb pc eps buf l rs B W_):=fun W g=>(LIE.out.1.gw HH.out.kp g).other HH.out.kp LIE.out.2.1 LIE.out.2.2.1 LIE.out.2.2.2.1 5 _
 have RES:Aside (∀ W w',Gw w W->(∃ S',HS HR w' pb S' pc eps buf (ins Ent.k ⟨k,v,false⟩ l) rs B W_/\∀ q,S' q->Sb q\/(W.setCell ⟨p,5,none⟩ (.int .i64 ((live:Int)+1))).heap.size<=q)->Gx Sb (W.setCell ⟨p,5,none⟩ (.int .i64 ((live:Int)+1))) w'->PutN HR w w' p F eps buf keys l rs B W_ live k v):=fun W w' g ⟨S',hs,sub⟩ gx=>by
  obtain ⟨hw,l3,l4,l5,l6⟩:=LIE.out;have pl:p<w.heap.size:=blkl BL.out;have sz:(W.setCell ⟨p,5,none⟩ (.int .i64 ((live:Int)+1))).heap.size=W.heap.size:=by simp
  rw [sz] at sub;have b5:=blk_set16 (o:=5) (u:=.int .i64 ((live:Int)+1)) ((g.below.block p pl).trans BL.out);have np:¬ S' p:=fun x=>by
   rcases sub p x with y | y
   ·exact l4 y
   ·have:=g.size;omega
  have bw:w'.heap[p]?=some (.cells (twA eps buf keys pb pc (live+1)) 78 (0,0)):=(gx.block p (blkl b5) l4).trans b5;refine ⟨⟨fun q=>q=p\/q=pc\/S' q,⟨⟨pb,S',pc,bw,hs,l3,np,l5,fun q=>Iff.rfl⟩,INV.out,HT_.out.cf⟩,fun q hq=>?_⟩,?_⟩
  ·rcases hq with x | x | x
   ·exact .inl ((l6 q).2 (.inl x))
   ·exact .inl ((l6 q).2 (.inr (.inl x)))
   ·rcases sub q x with y | y
    ·exact .inl ((l6 q).2 (.inr (.inr y)))
    ·exact .inr (Nat.le_trans g.size y)
  ·exact ((g.gx F).set (.inl ((l6 p).2 (.inl rfl))) _ _).trans (gx.mono (S':=F) fun q hq=>.inl ((l6 q).2 (.inr (.inr hq)))) (fun q hq=>.inl hq)
 clear h h1 h2 h3 h4 h5 h6 H few k0 v0 hv nfull nf LV LVV MO GT;go_enter func9,ntmps9;go_wp2_with fail;refine Calls.mono GT'.out ?_;rintro e w1 ⟨rfl,gg⟩;obtain ⟨⟨c3,c4,c5,c2,f5,pl⟩,bb⟩:=CL.out w1 gg;have GG:Aside (Gw w w1):=gg;clear gg GT' bb;go_wp2_with fail;go_quiet (fail);have GD:Aside (Gw w (w1.drewN nq)):=GG.out.drewN nq;generalize w1.drewN nq=wD at GD ⊢;clear c3 c4 c5 c2 f5 pl GG;obtain ⟨⟨c3,c4,c5,c2,f5,pl⟩,bb⟩:=CL.out wD GD.out;have b5:=blk_set16 (o:=5) (u:=.int .i64 ((live:Int)+1)) bb;have d3:(wD.setCell ⟨p,5,none⟩ (.int .i64 ((live:Int)+1))).cell? ⟨p,3,none⟩=some (.pointer (some ⟨pb,0,none⟩)):=blkc b5 rfl;have d4:(wD.setCell ⟨p,5,none⟩ (.int .i64 ((live:Int)+1))).cell? ⟨p,4,none⟩=some (.pointer (some ⟨pc,0,none⟩)):=blkc b5 rfl;have LY1:Hid (Calls prog 34 #[.agg #[.pointer (some ⟨pb,0,none⟩),.pointer (some ⟨pc,0,none⟩)],.agg #[.int .u64 k,.int .u64 v,.bool false]] (wD.setCell ⟨p,5,none⟩ (.int .i64 ((live:Int)+1))) fun ex w'=>ex=.returned (.tuple #[])/\(∃ S',HS HR w' pb S' pc eps buf (ins Ent.k ⟨k,v,false⟩ l) rs B W_/\∀ q,S' q->Sb q\/(wD.setCell ⟨p,5,none⟩ (.int .i64 ((live:Int)+1))).heap.size<=q)/\Gx Sb (wD.setCell ⟨p,5,none⟩ (.int .i64 ((live:Int)+1))) w'):=LY.out _ (HS1.out wD GD.out)
 have R1:Aside (∀ w',(∃ S',HS HR w' pb S' pc eps buf (ins Ent.k ⟨k,v,false⟩ l) rs B W_/\∀ q,S' q->Sb q\/(wD.setCell ⟨p,5,none⟩ (.int .i64 ((live:Int)+1))).heap.size<=q)->Gx Sb (wD.setCell ⟨p,5,none⟩ (.int .i64 ((live:Int)+1))) w'->PutN HR w w' p F eps buf keys l rs B W_ live k v):=fun w' a b=>RES.out wD w' GD.out a b
 have d5:=blkl b5;clear bb b5 LY HS1 CL RES;go_wp2_with fail;refine Calls.mono LY1.out ?_;rintro e w2 ⟨rfl,lo,g2⟩;have R2:Hid (PutN HR w w2 p F eps buf keys l rs B W_ live k v):=R1.out w2 lo g2;clear lo g2 LY1 R1;go_wp2_with fail;go_ret;exact ⟨rfl,R2.out⟩
end Go.Proofs.YtpoohadckhphpaaGreat
