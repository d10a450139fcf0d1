/- Package tower: Get, Put, Delete, and what it tells of itself. -/
import Derived.Test.YtemijdhemdhclaaGreatNIMem
set_option linter.unusedVariables false
set_option maxHeartbeats 4000000
set_option maxRecDepth 20000
open Go.Proofs.Tryz
namespace Go.Proofs.YtemijdhemdhclaaGreat
open Go.RowKit
def valV (o:Option Int):Value:=.tuple #[.int .u64 (o.getD 0),.bool o.isSome]
theorem HT.cells {HR:HRt} {w:World} {p:Nat} {F:Nat->Prop} {eps buf keys:Int} {l:List Ent} {rs:List (Option Rn)} {B W_:Int} {live pb pc:Nat} (h:w.heap[p]?=some (.cells (twA eps buf keys pb pc live) 76 (0,0))):(w.cell? ⟨p,0,none⟩=some (.int .i64 eps)/\w.cell? ⟨p,1,none⟩=some (.int .i64 buf)/\w.cell? ⟨p,2,none⟩=some (.int .i64 keys))/\w.cell? ⟨p,3,none⟩=some (.pointer (some ⟨pb,0,none⟩))/\w.cell? ⟨p,4,none⟩=some (.pointer (some ⟨pc,0,none⟩))/\w.cell? ⟨p,5,none⟩=some (.int .i64 (live:Int))/\w.frozen? ⟨p,5,none⟩=false/\p<w.heap.size :=
 ⟨⟨blkc h rfl,blkc h rfl,blkc h rfl⟩,blkc h rfl,blkc h rfl,blkc h rfl,blkf h,blkl h⟩
theorem HT.fewN {HR:HRt} {w:World} {p:Nat} {F:Nat->Prop} {eps buf keys:Int} {l:List Ent} {rs:List (Option Rn)} {B W_:Int} {live N:Nat} (h:HT HR w p F eps buf keys l rs B W_ live) (t:l.length+tot rs<=N):live<=N:=by
 obtain ⟨ks,k1,k2,k3⟩:=h.inv.all;have a:=h.inv.ok.rise;have:ks.length<=(l.map Ent.k++(lists rs).flatMap (List.map Ent.k)).length:=len_sub k1 fun x hx=>by
  have hx':=(k2 x).1 hx;unfold liveE newE at hx';cases hk:look Ent.k x l with
  | some y=>exact List.mem_append.2 (.inl (List.mem_map.2 ⟨y,look_in hk⟩))
  | none =>
   rw [hk] at hx';cases hn:nw x rs with
   | none=>rw [hn] at hx';cases hx'
   | some e =>
    have:∀ ls:List (List Ent),firstOf Ent.k x ls=some e->∃ l∈ls,e∈l/\e.k=x:=by
     intro ls;induction ls with
     | nil=>intro h;cases h
     | cons l ls ih =>
      intro h;simp only [firstOf] at h;cases hk:look Ent.k x l with
      | some y=>rw [hk] at h;cases h;exact ⟨l,List.mem_cons_self ..,look_in hk⟩
      | none =>
       rw [hk] at h;obtain ⟨l',a,b⟩:=ih h;exact ⟨l',List.mem_cons_of_mem _ a,b⟩
    obtain ⟨l,a,b,c⟩:=this _ hn;exact List.mem_append.2 (.inr (List.mem_flatMap.2 ⟨l,a,List.mem_map.2 ⟨e,b,c⟩⟩))
 rw [List.length_append,List.length_map,List.length_flatMap] at this;have t':l.length+((lists rs).map fun a=>a.length).sum<=N:=t
 simp at this;omega
theorem HT.few {HR:HRt} {w:World} {p:Nat} {F:Nat->Prop} {eps buf keys:Int} {l:List Ent} {rs:List (Option Rn)} {B W_:Int} {live:Nat} (h:HT HR w p F eps buf keys l rs B W_ live) (t:l.length+tot rs<=2000000):live<=2000000:=h.fewN t
theorem tget16 {HR:HRt} (H:RunC HR) {w:World} {p:Nat} {F:Nat->Prop} {eps buf keys:Int} {l:List Ent} {rs:List (Option Rn)} {B W_:Int} {live:Nat} (h:HT HR w p F eps buf keys l rs B W_ live) (hn:l.length<=4000000) (q:Int) (q0:0<=q) (q1:q<18446744073709551616) :
  Calls prog 13 #[.pointer (some ⟨p,0,none⟩),.int .u64 q] w fun e w'=>e=.returned (valV (valE l rs q))/\Gw w w':=by
 obtain ⟨pb,Sb,pc,h1,h2,h3,h4,h5,h6⟩:=h.lies;obtain ⟨_,c3,c4,_,_,pl⟩:=HT.cells (HR:=HR) (F:=F) (l:=l) (rs:=rs) (B:=B) (W_:=W_) h1;obtain ⟨x,y,z,t,f1,f2,f3⟩:=lookV_form (newE l rs q);have SG:Hid (Calls prog 29 #[.agg #[.pointer (some ⟨pb,0,none⟩),.pointer (some ⟨pc,0,none⟩)],.int .u64 q] w fun e w'=>e=.returned (.tuple #[.agg #[.int .u64 x,.int .u64 y,.bool z],.bool t])/\Gw w w'):=by
  have:=sget16 H h2 hn q q0 q1
  rw [f1] at this;exact this
 have R:valV (valE l rs q)=.tuple #[.int .u64 (if t&&!z then y else 0),.bool (t&&!z)]:=by
  unfold valE;cases hk:newE l rs q with
  | none =>
   rw [hk] at f2;subst f2;rfl
  | some e =>
   rw [hk] at f1 f2;subst f2;have f1':(Value.agg #[.int .u64 e.k,.int .u64 e.v,.bool e.g],true)=(Value.agg #[.int .u64 x,.int .u64 y,.bool z],(some e).isSome):=f1;simp at f1';obtain ⟨_,e2,e3⟩:=f1';subst e2;subst e3;obtain ⟨ek,ev,eg⟩:=e;cases eg<;>rfl
 rw [R];clear R f1 f2 f3 h h1 h2 h3 h4 h5 h6 H;cases t<;>cases z
 all_goals
  go_enter func13,ntmps13;go_wp2_with fail;refine Calls.mono SG.out ?_;rintro e u1 ⟨rfl,gg⟩;have GU:Aside (Gw w u1):=gg;clear gg SG;go_wp2_with fail;go_ret2;exact ⟨rfl,GU.out.alloc _ _⟩
def ChOut (HR:HRt) (w w':World) (p:Nat) (F:Nat->Prop) (eps buf keys:Int) (l:List Ent) (rs:List (Option Rn)) (B W_:Int) (e:Ent) (n:Nat):Prop :=
 ∃ F' l' rs' B' W',HT HR w' p F' eps buf keys l' rs' B' W' n/\LayR HR w w' eps buf l rs B W_ l' rs' B' W' e/\NewF w F F' rs rs'/\Gx F w w'
section
variable {HR:HRt} {w:World} {p:Nat} {F:Nat->Prop} {eps buf keys:Int} {l:List Ent} {rs:List (Option Rn)} {B W_:Int} {live:Nat}
theorem HT.okr (h:HT HR w p F eps buf keys l rs B W_ live):∀ r,some r∈rs->EOk r.l:=fun r hr=>(h.pr r hr).ok
theorem HT.change (K:Kp HR) (h:HT HR w p F eps buf keys l rs B W_ live) {pb pc:Nat} {Sb:Nat->Prop} (h2:HS HR w pb Sb pc eps buf l rs B W_) (h3:p≠pc) (h4:¬ Sb p) (h5:∀ r,some r∈rs->¬ r.S p) (h6:∀ q,F q↔q=p\/q=pc\/Sb q) {W1 w':World} {e:Ent} {n:Nat} (oke:¬ (e.g=true/\e.v≠0)) (few:l.length+1+tot rs<=2000000) (hn:LvN (liveE (ins Ent.k e l) rs) n) (hk:(n:Int)<=keys)
  (g1:Gx (fun q=>q=p) w W1) (b1:W1.heap[p]?=some (.cells (twA eps buf keys pb pc n) 76 (0,0))) (lo:LayOut HR W1 w' pb Sb pc eps buf l rs B W_ e) (g2:Gx (fun q=>q=pc\/Sb q) W1 w'):ChOut HR w w' p F eps buf keys l rs B W_ e n:=by
 obtain ⟨Sb',l',rs',B',W',hs,lr,nf,nr⟩:=lo;have pl:=blkl b1;have sz:=g1.size;have LE:=ins_len (x:=e) h.inv.ok.rise;have pw:p<w.heap.size:=h.lt K p (.inl h.own);have lr':LayR HR w w' eps buf l rs B W_ l' rs' B' W' e:=by
  rcases lr with x | ⟨x1,x2,o,kept,rn,y1,y2,y3⟩
  ·exact .inl x
  ·refine .inr ⟨x1,x2,o,kept,rn,y1,?_,y3⟩
   rcases y2 with z | ⟨a,r,b1,b2,b3,b4,b5,b6⟩
   ·exact .inl z
   ·exact .inr ⟨a,r,b1,b2,b3,b4,fun q hq=>Nat.le_trans sz (b5 q hq),b6⟩
 have nS:¬ Sb' p:=fun x=>by
  rcases nf p (.inr x) with (y | y) | y
  ·exact h3 y
  ·exact h4 y
  ·omega
 refine ⟨fun q=>q=p\/q=pc\/Sb' q,l',rs',B',W',⟨⟨pb,Sb',pc,(g2.block p pl (fun x=>x.elim h3 h4)).trans b1,hs,h3,nS,fun r hr hx=>?_,fun q=>Iff.rfl⟩,?_,h.cf⟩,lr',⟨fun q hq=>?_,fun r hr=>(nr r hr).imp id fun x q hq=>Nat.le_trans sz (x q hq)⟩,?_⟩
 ·rcases nr r hr with y | y
  ·exact h5 r y hx
  ·have:=y p hx;omega
 ·rcases lr' with ⟨x1,rfl,rfl,_,_⟩ | ⟨x1,rfl,o,kept,rn,tr,ld,rfl,_⟩
  ·exact h.inv.put oke hn hk x1
  ·exact h.inv.take h2.hc.b0 h2.hc.b1 (ok_ins h.inv.ok oke) x1 (by omega) hn hk tr ld
 ·rcases hq with x | x
  ·exact .inl ((h6 q).2 (.inl x))
  ·rcases nf q (by exact x) with (y | y) | y
   ·exact .inl ((h6 q).2 (.inr (.inl y)))
   ·exact .inl ((h6 q).2 (.inr (.inr y)))
   ·exact .inr (Nat.le_trans sz y)
 ·exact (g1.mono (S':=F) fun q hq=>.inl ((h6 q).2 (.inl hq))).trans g2 (fun q hq=>.inl ((h6 q).2 (.inr hq)))
theorem newE_live (h:HT HR w p F eps buf keys l rs B W_ live) {e:Ent}:(e.g=false->liveE l rs e.k=false->LvN (liveE (ins Ent.k e l) rs) (live+1))/\(e.g=false->liveE l rs e.k=true->LvN (liveE (ins Ent.k e l) rs) live)/\(e.g=true->liveE l rs e.k=true->0<live/\LvN (liveE (ins Ent.k e l) rs) (live-1)):=by
 have oth:∀ q,q≠e.k->liveE (ins Ent.k e l) rs q=liveE l rs q:=fun q hq=>by
  unfold liveE;rw [newE_ins h.inv.ok.rise,if_neg (fun x=>hq x.symm)]
 have at_:liveE (ins Ent.k e l) rs e.k=!e.g:=by
  unfold liveE;rw [newE_ins h.inv.ok.rise,if_pos rfl];rfl
 refine ⟨fun g f=>h.inv.all.put f (by rw [at_,g];rfl) oth,fun g f=>h.inv.all.same fun q=>?_,fun g f=>h.inv.all.drop f (by rw [at_,g];rfl) oth⟩
 by_cases c:q=e.k
 ·rw [c,at_,f,g];rfl
 ·exact oth q c
end
theorem HS.other {HR:HRt} (K:Kp HR) {w:World} {p pb pc:Nat} {Sb:Nat->Prop} {eps buf:Int} {l:List Ent} {rs:List (Option Rn)} {B W:Int} (h:HS HR w pb Sb pc eps buf l rs B W) (h3:p≠pc) (h4:¬ Sb p) (h5:∀ r,some r∈rs->¬ r.S p) (o:Nat) (v:Value):HS HR (w.setCell ⟨p,o,none⟩ v) pb Sb pc eps buf l rs B W :=
 h.keep K fun q hq=>Go.Deep.blk_setCell_other _ _ _ _ fun e=>by
  have e':q=p:=e;rw [e'] at hq;rcases hq with x | x | ⟨r,x,y⟩
  ·exact h4 x
  ·exact h3 x
  ·exact h5 r x y
def PutT (HR:HRt) (w w':World) (ex:Ending) (p:Nat) (F:Nat->Prop) (eps buf keys:Int) (l:List Ent) (rs:List (Option Rn)) (B W_:Int) (live:Nat) (k v:Int):Prop :=
 ((valE l rs k=none/\(live:Int)=keys)/\ex=.returned (.int .i64 161)/\Gw w w')\/(¬ (valE l rs k=none/\(live:Int)=keys)/\ex=.returned (.int .i64 0)/\ChOut HR w w' p F eps buf keys l rs B W_ ⟨k,v,false⟩ (if valE l rs k=none then live+1 else live))
theorem tput16 {HR:HRt} (H:RunC HR) {w:World} {p:Nat} {F:Nat->Prop} {eps buf keys:Int} {l:List Ent} {rs:List (Option Rn)} {B W_:Int} {live:Nat} (h:HT HR w p F eps buf keys l rs B W_ live) (few:l.length+1+tot rs<=2000000) (hB:0<=B/\B<4611686018427387904) (hW:0<=W_/\W_<4611686018427387904) (k v:Int) (k0:0<=k/\k<18446744073709551616) (v0:0<=v/\v<18446744073709551616) :
  Calls prog 15 #[.pointer (some ⟨p,0,none⟩),.int .u64 k,.int .u64 v] w fun ex w'=>PutT HR w w' ex p F eps buf keys l rs B W_ live k v:=by
 have HH:Aside (RunC HR):=H;have HT_:Aside (HT HR w p F eps buf keys l rs B W_ live):=h;obtain ⟨pb,Sb,pc,h1,h2,h3,h4,h5,h6⟩:=h.lies;have GT:Hid (Calls prog 13 #[.pointer (some ⟨p,0,none⟩),.int .u64 k] w fun e w'=>e=.returned (valV (valE l rs k))/\Gw w w'):=tget16 H h (by omega) k k0.1 k0.2
 have LY:Hid (∀ W,HS HR W pb Sb pc eps buf l rs B W_->Calls prog 30 #[.agg #[.pointer (some ⟨pb,0,none⟩),.pointer (some ⟨pc,0,none⟩)],.agg #[.int .u64 k,.int .u64 v,.bool false]] W fun ex w'=>ex=.returned (.tuple #[])/\LayOut HR W w' pb Sb pc eps buf l rs B W_ ⟨k,v,false⟩/\Gx (fun q=>q=pc\/Sb q) W w'):=fun W hs=>lay16 H hs ⟨k,v,false⟩ h.inv.ok ⟨k0,v0⟩ (by simp) h.inv.room few hB hW
 have LIE:Aside (HS HR w pb Sb pc eps buf l rs B W_/\p≠pc/\¬ Sb p/\(∀ r,some r∈rs->¬ r.S p)/\∀ q,F q↔q=p\/q=pc\/Sb q):=⟨h2,h3,h4,h5,h6⟩;have BL:Aside (w.heap[p]?=some (.cells (twA eps buf keys pb pc live) 76 (0,0))):=h1;have lf:=h.few (by omega)
 have MO:=h.inv.most;have LV:=newE_live h (e:=⟨k,v,false⟩);have FEW:Aside (l.length+1+tot rs<=2000000):=few;have CHG:Aside (∀ (W1 w':World) (n:Nat),LvN (liveE (ins Ent.k ⟨k,v,false⟩ l) rs) n->(n:Int)<=keys->Gx (fun q=>q=p) w W1->W1.heap[p]?=some (.cells (twA eps buf keys pb pc n) 76 (0,0))->LayOut HR W1 w' pb Sb pc eps buf l rs B W_ ⟨k,v,false⟩->Gx (fun q=>q=pc\/Sb q) W1 w'->ChOut HR w w' p F eps buf keys l rs B W_ ⟨k,v,false⟩ n):=fun W1 w' n a b c d e f=>h.change H.kp h2 h3 h4 h5 h6 (by simp) few a b c d e f
 have LVV:=valE_live l rs k;clear h h1 h2 h3 h4 h5 h6 H few hB hW k0 v0;cases hv:valE l rs k with
 | some y =>
  rw [hv] at GT LVV;have RES:Aside (∀ w1 w',Gw w w1->LayOut HR w1 w' pb Sb pc eps buf l rs B W_ ⟨k,v,false⟩->Gx (fun q=>q=pc\/Sb q) w1 w'->PutT HR w w' (.returned (.int .i64 0)) p F eps buf keys l rs B W_ live k v):=fun w1 w' g a b=>by
   refine .inr ⟨fun x=>by rw [hv] at x;exact absurd x.1 (by simp),rfl,?_⟩
   rw [hv,if_neg (by simp)]
   exact CHG.out w1 w' live (LV.2.1 rfl LVV.symm) MO (g.gx _) ((g.below.block p (blkl BL.out)).trans BL.out) a b
  have CL:Hid (∀ w1,Gw w w1->(w1.cell? ⟨p,3,none⟩=some (.pointer (some ⟨pb,0,none⟩))/\w1.cell? ⟨p,4,none⟩=some (.pointer (some ⟨pc,0,none⟩))/\p<w1.heap.size)/\HS HR w1 pb Sb pc eps buf l rs B W_):=fun w1 g=>by
   have x:=(g.below.block p (blkl BL.out)).trans BL.out;exact ⟨⟨blkc x rfl,blkc x rfl,blkl x⟩,LIE.out.1.gw HH.out.kp g⟩
  have GT':Hid (Calls prog 13 #[.pointer (some ⟨p,0,none⟩),.int .u64 k] w fun e w'=>e=.returned (.tuple #[.int .u64 y,.bool true])/\Gw w w'):=GT
  clear hv LV LVV MO GT;go_enter func15,ntmps15;go_wp2_with fail;refine Calls.mono GT'.out ?_;rintro e w1 ⟨rfl,gg⟩;obtain ⟨⟨c3,c4,pl⟩,hs⟩:=CL.out w1 gg;have LY1:Hid (Calls prog 30 #[.agg #[.pointer (some ⟨pb,0,none⟩),.pointer (some ⟨pc,0,none⟩)],.agg #[.int .u64 k,.int .u64 v,.bool false]] w1 fun ex w'=>ex=.returned (.tuple #[])/\LayOut HR w1 w' pb Sb pc eps buf l rs B W_ ⟨k,v,false⟩/\Gx (fun q=>q=pc\/Sb q) w1 w'):=LY.out w1 hs
  have GG:Aside (Gw w w1):=gg;clear gg hs GT' LY CL;go_wp2_with fail;refine Calls.mono LY1.out ?_;rintro e w2 ⟨rfl,lo,g2⟩;have R2:Hid (PutT HR w w2 (.returned (.int .i64 0)) p F eps buf keys l rs B W_ live k v):=RES.out w1 w2 GG.out lo g2;clear lo g2 LY1;go_wp2_with fail;go_ret;exact R2.out
 | none =>
  rw [hv] at GT LVV;have GT':Hid (Calls prog 13 #[.pointer (some ⟨p,0,none⟩),.int .u64 k] w fun e w'=>e=.returned (.tuple #[.int .u64 0,.bool false])/\Gw w w'):=GT
  have CL:Hid (∀ w1,Gw w w1->(w1.cell? ⟨p,3,none⟩=some (.pointer (some ⟨pb,0,none⟩))/\w1.cell? ⟨p,4,none⟩=some (.pointer (some ⟨pc,0,none⟩))/\w1.cell? ⟨p,5,none⟩=some (.int .i64 (live:Int))/\w1.cell? ⟨p,2,none⟩=some (.int .i64 keys)/\w1.frozen? ⟨p,5,none⟩=false/\p<w1.heap.size)/\w1.heap[p]?=some (.cells (twA eps buf keys pb pc live) 76 (0,0))):=fun w1 g=>by
   have x:=(g.below.block p (blkl BL.out)).trans BL.out;exact ⟨⟨blkc x rfl,blkc x rfl,blkc x rfl,blkc x rfl,blkf x,blkl x⟩,x⟩
  by_cases full:(live:Int)=keys
  ·have t1:((live:Int) == keys)=true:=by simpa using full
   have RES:Aside (∀ w',Gw w w'->PutT HR w w' (.returned (.int .i64 161)) p F eps buf keys l rs B W_ live k v):=fun w' g=>.inl ⟨⟨hv,full⟩,rfl,g⟩
   clear hv LV LVV MO GT full;go_enter func15,ntmps15;go_wp2_with fail;refine Calls.mono GT'.out ?_;rintro e w1 ⟨rfl,gg⟩;obtain ⟨⟨c3,c4,c5,c2,f5,pl⟩,_⟩:=CL.out w1 gg;have GG:Aside (Gw w w1):=gg;clear gg GT' CL LY;go_wp2_with fail;go_quiet (fail);go_wp2_with fail;go_ret;exact RES.out _ (GG.out.drewN _)
  ·have t1:((live:Int) == keys)=false:=by simpa using full
   have wl:IntKind.i64.wrap ((live:Int)+1)=((live+1:Nat):Int):=by rw [IntKind.wrap_i64];omega
   have wl':IntKind.i64.wrap ((live:Int)+1)=(live:Int)+1:=by rw [IntKind.wrap_i64];omega
   have RES:Aside (∀ w1 w',Gw w w1->LayOut HR (w1.setCell ⟨p,5,none⟩ (.int .i64 ((live:Int)+1))) w' pb Sb pc eps buf l rs B W_ ⟨k,v,false⟩->Gx (fun q=>q=pc\/Sb q) (w1.setCell ⟨p,5,none⟩ (.int .i64 ((live:Int)+1))) w'->PutT HR w w' (.returned (.int .i64 0)) p F eps buf keys l rs B W_ live k v):=fun w1 w' g a b=>by
    refine .inr ⟨fun x=>full x.2,rfl,?_⟩
    rw [hv,if_pos rfl];refine CHG.out _ w' (live+1) (LV.1 rfl LVV.symm) (by omega) ((g.gx (fun q=>q=p)).set (.inl rfl) _ _) ?_ a b
    have x:=(g.below.block p (blkl BL.out)).trans BL.out;rw [blk_set16 x];rfl
   have HS1:Aside (∀ w1,Gw w w1->HS HR (w1.setCell ⟨p,5,none⟩ (.int .i64 ((live:Int)+1))) pb Sb pc eps buf l rs B W_):=fun w1 g=>(LIE.out.1.gw HH.out.kp g).other HH.out.kp LIE.out.2.1 LIE.out.2.2.1 LIE.out.2.2.2.1 _ _
   clear hv LV LVV MO GT full;go_enter func15,ntmps15;go_wp2_with fail;refine Calls.mono GT'.out ?_;rintro e w1 ⟨rfl,gg⟩;obtain ⟨⟨c3,c4,c5,c2,f5,pl⟩,bb⟩:=CL.out w1 gg;have GG:Aside (Gw w w1):=gg;clear gg GT' bb;go_wp2_with fail;go_quiet (fail);have GD:Aside (Gw w (w1.drewN nq)):=GG.out.drewN nq;generalize w1.drewN nq=wD at GD ⊢;clear c3 c4 c5 c2 f5 pl GG;obtain ⟨⟨c3,c4,c5,c2,f5,pl⟩,bb⟩:=CL.out wD GD.out;have b5:=blk_set16 (o:=5) (u:=.int .i64 ((live:Int)+1)) bb;have d3:(wD.setCell ⟨p,5,none⟩ (.int .i64 ((live:Int)+1))).cell? ⟨p,3,none⟩=some (.pointer (some ⟨pb,0,none⟩)):=blkc b5 rfl;have d4:(wD.setCell ⟨p,5,none⟩ (.int .i64 ((live:Int)+1))).cell? ⟨p,4,none⟩=some (.pointer (some ⟨pc,0,none⟩)):=blkc b5 rfl;have LY1:Hid (Calls prog 30 #[.agg #[.pointer (some ⟨pb,0,none⟩),.pointer (some ⟨pc,0,none⟩)],.agg #[.int .u64 k,.int .u64 v,.bool false]] (wD.setCell ⟨p,5,none⟩ (.int .i64 ((live:Int)+1))) fun ex w'=>ex=.returned (.tuple #[])/\LayOut HR (wD.setCell ⟨p,5,none⟩ (.int .i64 ((live:Int)+1))) w' pb Sb pc eps buf l rs B W_ ⟨k,v,false⟩/\Gx (fun q=>q=pc\/Sb q) (wD.setCell ⟨p,5,none⟩ (.int .i64 ((live:Int)+1))) w'):=LY.out _ (HS1.out wD GD.out)
   have R1:Aside (∀ w',LayOut HR (wD.setCell ⟨p,5,none⟩ (.int .i64 ((live:Int)+1))) w' pb Sb pc eps buf l rs B W_ ⟨k,v,false⟩->Gx (fun q=>q=pc\/Sb q) (wD.setCell ⟨p,5,none⟩ (.int .i64 ((live:Int)+1))) w'->PutT HR w w' (.returned (.int .i64 0)) p F eps buf keys l rs B W_ live k v):=fun w' a b=>RES.out wD w' GD.out a b
   have d5:=blkl b5;clear bb b5 LY HS1 CL RES;go_wp2_with fail;refine Calls.mono LY1.out ?_;rintro e w2 ⟨rfl,lo,g2⟩;have R2:Hid (PutT HR w w2 (.returned (.int .i64 0)) p F eps buf keys l rs B W_ live k v):=R1.out w2 lo g2;clear lo g2 LY1 R1;go_wp2_with fail;go_ret;exact R2.out
def DelT (HR:HRt) (w w':World) (ex:Ending) (p:Nat) (F:Nat->Prop) (eps buf keys:Int) (l:List Ent) (rs:List (Option Rn)) (B W_:Int) (live:Nat) (k:Int):Prop :=
 (valE l rs k=none/\ex=.returned (.bool false)/\Gw w w')\/(valE l rs k≠none/\ex=.returned (.bool true)/\0<live/\ChOut HR w w' p F eps buf keys l rs B W_ ⟨k,0,true⟩ (live-1))
theorem tdel16 {HR:HRt} (H:RunC HR) {w:World} {p:Nat} {F:Nat->Prop} {eps buf keys:Int} {l:List Ent} {rs:List (Option Rn)} {B W_:Int} {live:Nat} (h:HT HR w p F eps buf keys l rs B W_ live) (few:l.length+1+tot rs<=2000000) (hB:0<=B/\B<4611686018427387904) (hW:0<=W_/\W_<4611686018427387904) (k:Int) (k0:0<=k/\k<18446744073709551616) :
  Calls prog 17 #[.pointer (some ⟨p,0,none⟩),.int .u64 k] w fun ex w'=>DelT HR w w' ex p F eps buf keys l rs B W_ live k:=by
 have HH:Aside (RunC HR):=H;obtain ⟨pb,Sb,pc,h1,h2,h3,h4,h5,h6⟩:=h.lies;have GT:Hid (Calls prog 13 #[.pointer (some ⟨p,0,none⟩),.int .u64 k] w fun e w'=>e=.returned (valV (valE l rs k))/\Gw w w'):=tget16 H h (by omega) k k0.1 k0.2
 have LY:Hid (∀ W,HS HR W pb Sb pc eps buf l rs B W_->Calls prog 30 #[.agg #[.pointer (some ⟨pb,0,none⟩),.pointer (some ⟨pc,0,none⟩)],.agg #[.int .u64 k,.int .u64 0,.bool true]] W fun ex w'=>ex=.returned (.tuple #[])/\LayOut HR W w' pb Sb pc eps buf l rs B W_ ⟨k,0,true⟩/\Gx (fun q=>q=pc\/Sb q) W w'):=fun W hs=>lay16 H hs ⟨k,0,true⟩ h.inv.ok ⟨k0,(by decide:(0:Int)<=0),(by decide:(0:Int)<18446744073709551616)⟩ (by simp) h.inv.room few hB hW
 have LIE:Aside (HS HR w pb Sb pc eps buf l rs B W_/\p≠pc/\¬ Sb p/\(∀ r,some r∈rs->¬ r.S p)/\∀ q,F q↔q=p\/q=pc\/Sb q):=⟨h2,h3,h4,h5,h6⟩;have BL:Aside (w.heap[p]?=some (.cells (twA eps buf keys pb pc live) 76 (0,0))):=h1;have lf:=h.few (by omega)
 have MO:=h.inv.most;have LV:=newE_live h (e:=⟨k,0,true⟩);have CHG:Aside (∀ (W1 w':World) (n:Nat),LvN (liveE (ins Ent.k ⟨k,0,true⟩ l) rs) n->(n:Int)<=keys->Gx (fun q=>q=p) w W1->W1.heap[p]?=some (.cells (twA eps buf keys pb pc n) 76 (0,0))->LayOut HR W1 w' pb Sb pc eps buf l rs B W_ ⟨k,0,true⟩->Gx (fun q=>q=pc\/Sb q) W1 w'->ChOut HR w w' p F eps buf keys l rs B W_ ⟨k,0,true⟩ n):=fun W1 w' n a b c d e f=>h.change H.kp h2 h3 h4 h5 h6 (by simp) few a b c d e f
 have LVV:=valE_live l rs k;clear h h1 h2 h3 h4 h5 h6 H few hB hW k0;cases hv:valE l rs k with
 | none =>
  rw [hv] at GT LVV;have GT':Hid (Calls prog 13 #[.pointer (some ⟨p,0,none⟩),.int .u64 k] w fun e w'=>e=.returned (.tuple #[.int .u64 0,.bool false])/\Gw w w'):=GT
  have RES:Aside (∀ w',Gw w w'->DelT HR w w' (.returned (.bool false)) p F eps buf keys l rs B W_ live k):=fun w' g=>.inl ⟨hv,rfl,g⟩
  clear hv LV LVV MO GT LY CHG;go_enter func17,ntmps17;go_wp2_with fail;refine Calls.mono GT'.out ?_;rintro e w1 ⟨rfl,gg⟩;have GG:Aside (Gw w w1):=gg;clear gg GT';go_wp2_with fail;go_ret;exact RES.out _ GG.out
 | some y =>
  rw [hv] at GT LVV;have GT':Hid (Calls prog 13 #[.pointer (some ⟨p,0,none⟩),.int .u64 k] w fun e w'=>e=.returned (.tuple #[.int .u64 y,.bool true])/\Gw w w'):=GT
  obtain ⟨lp,LV3⟩:=LV.2.2 rfl LVV.symm;obtain ⟨lm,hlm⟩:∃ m,live=m+1:=⟨live-1,by omega⟩
  have LM:Aside (live=lm+1):=hlm;have wl':IntKind.i64.wrap ((live:Int)-1)=(lm:Int):=by rw [IntKind.wrap_i64];omega
  have CL:Hid (∀ w1,Gw w w1->(w1.cell? ⟨p,3,none⟩=some (.pointer (some ⟨pb,0,none⟩))/\w1.cell? ⟨p,4,none⟩=some (.pointer (some ⟨pc,0,none⟩))/\w1.cell? ⟨p,5,none⟩=some (.int .i64 (live:Int))/\w1.frozen? ⟨p,5,none⟩=false/\p<w1.heap.size)/\w1.heap[p]?=some (.cells (twA eps buf keys pb pc live) 76 (0,0))):=fun w1 g=>by
   have x:=(g.below.block p (blkl BL.out)).trans BL.out;exact ⟨⟨blkc x rfl,blkc x rfl,blkc x rfl,blkf x,blkl x⟩,x⟩
  have RES:Aside (∀ w1 w',Gw w w1->LayOut HR (w1.setCell ⟨p,5,none⟩ (.int .i64 (lm:Int))) w' pb Sb pc eps buf l rs B W_ ⟨k,0,true⟩->Gx (fun q=>q=pc\/Sb q) (w1.setCell ⟨p,5,none⟩ (.int .i64 (lm:Int))) w'->DelT HR w w' (.returned (.bool true)) p F eps buf keys l rs B W_ live k):=fun w1 w' g a b=>by
   refine .inr ⟨by rw [hv];simp,rfl,lp,?_⟩
   rw [hlm,Nat.add_sub_cancel] at LV3 ⊢;refine CHG.out _ w' lm LV3 (by omega) ((g.gx (fun q=>q=p)).set (.inl rfl) _ _) ?_ a b
   have x:=(g.below.block p (blkl BL.out)).trans BL.out;rw [blk_set16 x];rfl
  have HS1:Aside (∀ w1,Gw w w1->HS HR (w1.setCell ⟨p,5,none⟩ (.int .i64 (lm:Int))) pb Sb pc eps buf l rs B W_):=fun w1 g=>(LIE.out.1.gw HH.out.kp g).other HH.out.kp LIE.out.2.1 LIE.out.2.2.1 LIE.out.2.2.2.1 _ _
  clear hv LV LVV MO GT CHG LV3 hlm lp;go_enter func17,ntmps17;go_wp2_with fail;refine Calls.mono GT'.out ?_;rintro e wD ⟨rfl,gg⟩;have GD:Aside (Gw w wD):=gg;obtain ⟨⟨c3,c4,c5,f5,pl⟩,bb⟩:=CL.out wD GD.out;have b5:=blk_set16 (o:=5) (u:=.int .i64 (lm:Int)) bb;have d3:(wD.setCell ⟨p,5,none⟩ (.int .i64 (lm:Int))).cell? ⟨p,3,none⟩=some (.pointer (some ⟨pb,0,none⟩)):=blkc b5 rfl;have d4:(wD.setCell ⟨p,5,none⟩ (.int .i64 (lm:Int))).cell? ⟨p,4,none⟩=some (.pointer (some ⟨pc,0,none⟩)):=blkc b5 rfl;have LY1:Hid (Calls prog 30 #[.agg #[.pointer (some ⟨pb,0,none⟩),.pointer (some ⟨pc,0,none⟩)],.agg #[.int .u64 k,.int .u64 0,.bool true]] (wD.setCell ⟨p,5,none⟩ (.int .i64 (lm:Int))) fun ex w'=>ex=.returned (.tuple #[])/\LayOut HR (wD.setCell ⟨p,5,none⟩ (.int .i64 (lm:Int))) w' pb Sb pc eps buf l rs B W_ ⟨k,0,true⟩/\Gx (fun q=>q=pc\/Sb q) (wD.setCell ⟨p,5,none⟩ (.int .i64 (lm:Int))) w'):=LY.out _ (HS1.out wD GD.out)
  have R1:Aside (∀ w',LayOut HR (wD.setCell ⟨p,5,none⟩ (.int .i64 (lm:Int))) w' pb Sb pc eps buf l rs B W_ ⟨k,0,true⟩->Gx (fun q=>q=pc\/Sb q) (wD.setCell ⟨p,5,none⟩ (.int .i64 (lm:Int))) w'->DelT HR w w' (.returned (.bool true)) p F eps buf keys l rs B W_ live k):=fun w' a b=>RES.out wD w' GD.out a b
  have d5:=blkl b5;clear bb b5 LY HS1 CL RES gg GT';go_wp2_with fail;refine Calls.mono LY1.out ?_;rintro e w2 ⟨rfl,lo,g2⟩;have R2:Hid (DelT HR w w2 (.returned (.bool true)) p F eps buf keys l rs B W_ live k):=R1.out w2 lo g2;clear lo g2 LY1 R1;go_wp2_with fail;go_ret;exact R2.out
theorem HT.made {HR:HRt} (K:Kp HR) {w:World} {pb pc:Nat} {Sb:Nat->Prop} {eps buf keys:Int} {l:List Ent} {rs:List (Option Rn)} {B W_:Int} {live:Nat} (h:HS HR w pb Sb pc eps buf l rs B W_) (inv:TInv eps buf keys l rs live) (cf:CfgOk eps buf keys):HT HR (w.alloc (.cells (twA eps buf keys pb pc live) 76)) w.heap.size (fun q=>q=w.heap.size\/q=pc\/Sb q) eps buf keys l rs B W_ live:=by
 refine ⟨⟨pb,Sb,pc,heap_alloc_new w _,h.gw K ((Gw.refl w).alloc _ _),fun e=>?_,fun x=>?_,fun r hr x=>?_,fun q=>Iff.rfl⟩,inv,cf⟩
 ·have:=h.lt K pc (.inr (.inl rfl));omega
 ·have:=h.lt K _ (.inl x);omega
 ·have:=h.lt K _ (.inr (.inr ⟨r,hr,x⟩));omega
structure SZ (w:World) (base b t:Nat) (rs:List (Option Rn)):Prop where
 top:TopR rs t
 row:w.rowIs b 3 t (fun i=>.int .i64 (sizeO (rs.getD i none):Int))
 new:base<=b
def statV (live len:Nat) (B W:Int) (b t:Nat):Value:=.agg #[.int .i64 (live:Int),.int .i64 (len:Int),.int .i64 B,.int .i64 W,.slice (some ⟨b,0,none⟩) t t]
theorem tstats16 {HR:HRt} (H:RunC HR) {w:World} {p:Nat} {F:Nat->Prop} {eps buf keys:Int} {l:List Ent} {rs:List (Option Rn)} {B W_:Int} {live:Nat} (h:HT HR w p F eps buf keys l rs B W_ live) :
  Calls prog 19 #[.pointer (some ⟨p,0,none⟩)] w fun e w'=>(∃ b t,e=.returned (statV live l.length B W_ b t)/\SZ w' w.heap.size b t rs)/\Gw w w':=by
 have HH:Aside (RunC HR):=H;obtain ⟨pb,Sb,pc,h1,h2,h3,h4,h5,h6⟩:=h.lies;have BL:Aside (w.heap[p]?=some (.cells (twA eps buf keys pb pc live) 76 (0,0))):=h1;have LE:Hid (∀ W,Gw w W->Calls prog 31 #[.pointer (some ⟨pb,0,none⟩)] W fun e w'=>e=.returned (.int .i64 (l.length:Int))/\Gw W w'):=fun W gg=>len14 pb Sb buf l W (h2.hb.gw gg)
 have BU:Hid (∀ W,Gw w W->Calls prog 32 #[.pointer (some ⟨pc,0,none⟩)] W fun e w'=>e=.returned (.int .i64 B)/\w'=W):=fun W gg=>builds15 (h2.hc.gw H.kp gg)
 have WR:Hid (∀ W,Gw w W->Calls prog 33 #[.pointer (some ⟨pc,0,none⟩)] W fun e w'=>e=.returned (.int .i64 W_)/\w'=W):=fun W gg=>written15 (h2.hc.gw H.kp gg)
 have SI:Hid (∀ W,Gw w W->Calls prog 34 #[.pointer (some ⟨pc,0,none⟩)] W fun e w'=>(∃ (t b:Nat),e=.returned (.slice (some ⟨b,0,none⟩) t t)/\TopR rs t/\w'.rowIs b 3 t (fun i=>.int .i64 (sizeO (rs.getD i none):Int))/\W.heap.size<=b)/\Gw W w'):=fun W gg=>sizes15 H (h2.hc.gw H.kp gg)
 have pbl:=h2.hb.lt pb h2.hb.own;have pcl:=h2.hc.lt;clear h h1 h2 h3 h4 h5 h6 H;obtain ⟨bq,hbq⟩:∃ b,w.heap.size=b:=⟨_,rfl⟩;have BQ:Aside (w.heap.size=bq):=hbq;obtain ⟨ln,hln⟩:∃ n,l.length=n:=⟨_,rfl⟩;rw [hln] at LE ⊢;have B0:Aside (Bxs w [(bq,#[.int .i64 0,.int .i64 0,.int .i64 0,.int .i64 0,.slice none 0 0],52)] (w.alloc (.cells #[.int .i64 0,.int .i64 0,.int .i64 0,.int .i64 0,.slice none 0 0] 52))):=by
  have a:=(Bxs.nil (Gw.refl w)).add #[.int .i64 0,.int .i64 0,.int .i64 0,.int .i64 0,.slice none 0 0] 52;rw [hbq] at a;exact a
 clear hbq hln;go_enter func19,ntmps19;go_wp2_with fail;rw [BQ.out];generalize w.alloc (.cells #[.int .i64 0,.int .i64 0,.int .i64 0,.int .i64 0,.slice none 0 0] 52)=w1 at B0 ⊢;have G0:Hid (Gw w w1):=B0.out.gw0;have L2:Hid (∀ w',Gw w1 w'->w'.heap[bq]?=some (.cells #[.int .i64 0,.int .i64 0,.int .i64 0,.int .i64 0,.slice none 0 0] 52 (0,0))):=fun w' gg=>(B0.out.gw gg).lie (bq,#[.int .i64 0,.int .i64 0,.int .i64 0,.int .i64 0,.slice none 0 0],52) (by simp)
 have HW:Hid (∀ w':World,Gw w w'->Gw w w'/\w'.cell? ⟨p,3,none⟩=some (.pointer (some ⟨pb,0,none⟩))/\w'.cell? ⟨p,4,none⟩=some (.pointer (some ⟨pc,0,none⟩))/\w'.cell? ⟨p,5,none⟩=some (.int .i64 (live:Int))/\p<w'.heap.size):=fun w' gg=>by
  have hh:=(gg.below.block p (blkl BL.out)).trans BL.out;exact ⟨gg,blkc hh rfl,blkc hh rfl,blkc hh rfl,blkl hh⟩
 go_region_held3 (fun w'=>Gw w w'/\w'.cell? ⟨p,3,none⟩=some (.pointer (some ⟨pb,0,none⟩))/\w'.cell? ⟨p,4,none⟩=some (.pointer (some ⟨pc,0,none⟩))/\w'.cell? ⟨p,5,none⟩=some (.int .i64 (live:Int))/\p<w'.heap.size)
  (((refine HW.out _ ?_;repeat (first | exact And.left (by assumption) | exact Hid.out (by assumption) | refine Gw.drew ?_ | refine Gw.setCell ?_ (Nat.le_of_eq BQ.out) _));done))
  ((
   first
   | (go_at_call 31;refine (LE.out _ (by repeat (first | exact Gw.refl _ | exact And.left (by assumption) | exact Hid.out (by assumption) | refine Gw.drew ?_ | refine Gw.drewN ?_ _))).mono ?_;rintro ex wA ⟨rfl,gA⟩;have FA:Hid (Gw w1 wA):=(Gw.trans (by repeat (first | exact Gw.refl _ | exact And.left (by assumption) | exact Hid.out (by assumption) | refine Gw.drew ?_ | refine Gw.drewN ?_ _)) gA);have HA:Hid (Gw w wA):=G0.out.trans FA.out;clear gA)
   | (go_at_call 32;refine (BU.out _ (by repeat (first | exact Gw.refl _ | exact And.left (by assumption) | exact Hid.out (by assumption) | refine Gw.drew ?_ | refine Gw.drewN ?_ _))).mono ?_;rintro ex wB ⟨rfl,hwB⟩;subst hwB)
   | (go_at_call 33;refine (WR.out _ (by repeat (first | exact Gw.refl _ | exact And.left (by assumption) | exact Hid.out (by assumption) | refine Gw.drew ?_ | refine Gw.drewN ?_ _))).mono ?_;rintro ex wC ⟨rfl,hwC⟩;subst hwC)
   | (go_at_call 34;refine (SI.out _ (by repeat (first | exact Gw.refl _ | exact And.left (by assumption) | exact Hid.out (by assumption) | refine Gw.drew ?_ | refine Gw.drewN ?_ _))).mono ?_;rintro ex wD ⟨⟨tS,bS,rfl,s1,s2,s3⟩,gD⟩;have FD:Hid (Gw w1 wD):=(Gw.trans (by repeat (first | exact Gw.refl _ | exact And.left (by assumption) | exact Hid.out (by assumption) | refine Gw.drew ?_ | refine Gw.drewN ?_ _)) gD);have HD:Hid (Gw w wD):=G0.out.trans FD.out;have z0:wD.cell? ⟨bq,0,none⟩=some (.int .i64 0):=(blkc (L2.out wD FD.out) rfl);have y0:wD.frozen? ⟨bq,0,none⟩=false:=(blkf (L2.out wD FD.out));have z1:wD.cell? ⟨bq,1,none⟩=some (.int .i64 0):=(blkc (L2.out wD FD.out) rfl);have y1:wD.frozen? ⟨bq,1,none⟩=false:=(blkf (L2.out wD FD.out));have z2:wD.cell? ⟨bq,2,none⟩=some (.int .i64 0):=(blkc (L2.out wD FD.out) rfl);have y2:wD.frozen? ⟨bq,2,none⟩=false:=(blkf (L2.out wD FD.out));have z3:wD.cell? ⟨bq,3,none⟩=some (.int .i64 0):=(blkc (L2.out wD FD.out) rfl);have y3:wD.frozen? ⟨bq,3,none⟩=false:=(blkf (L2.out wD FD.out));have z4:wD.cell? ⟨bq,4,none⟩=some (.slice none 0 0):=(blkc (L2.out wD FD.out) rfl);have y4:wD.frozen? ⟨bq,4,none⟩=false:=(blkf (L2.out wD FD.out));have zl:=blkl (L2.out wD FD.out);have SS:Aside (TopR rs tS/\wD.rowIs bS 3 tS (fun i=>.int .i64 (sizeO (rs.getD i none):Int))/\w1.heap.size<=bS):=⟨s1,s2,Nat.le_trans (Gw.size (show Gw w1 _ from (by repeat (first | exact Gw.refl _ | exact And.left (by assumption) | exact Hid.out (by assumption) | refine Gw.drew ?_ | refine Gw.drewN ?_ _)))) s3⟩;clear s1 s2 s3 gD)))
 all_goals
  have T:=(blk_set16 (o:=4) (u:=(.slice (some ⟨bS,0,none⟩) tS tS)) (blk_set16 (o:=3) (u:=(.int .i64 W_)) (blk_set16 (o:=2) (u:=(.int .i64 B)) (blk_set16 (o:=1) (u:=(.int .i64 (ln:Int))) (blk_set16 (o:=0) (u:=(.int .i64 (live:Int))) (L2.out wD FD.out))))));have T0:(((((wD.setCell ⟨bq,0,none⟩ (.int .i64 (live:Int))).setCell ⟨bq,1,none⟩ (.int .i64 (ln:Int))).setCell ⟨bq,2,none⟩ (.int .i64 B)).setCell ⟨bq,3,none⟩ (.int .i64 W_)).setCell ⟨bq,4,none⟩ (.slice (some ⟨bS,0,none⟩) tS tS)).cell? ⟨bq,0,none⟩=some (.int .i64 (live:Int)):=blkc T rfl;have T1:(((((wD.setCell ⟨bq,0,none⟩ (.int .i64 (live:Int))).setCell ⟨bq,1,none⟩ (.int .i64 (ln:Int))).setCell ⟨bq,2,none⟩ (.int .i64 B)).setCell ⟨bq,3,none⟩ (.int .i64 W_)).setCell ⟨bq,4,none⟩ (.slice (some ⟨bS,0,none⟩) tS tS)).cell? ⟨bq,1,none⟩=some (.int .i64 (ln:Int)):=blkc T rfl;have T2:(((((wD.setCell ⟨bq,0,none⟩ (.int .i64 (live:Int))).setCell ⟨bq,1,none⟩ (.int .i64 (ln:Int))).setCell ⟨bq,2,none⟩ (.int .i64 B)).setCell ⟨bq,3,none⟩ (.int .i64 W_)).setCell ⟨bq,4,none⟩ (.slice (some ⟨bS,0,none⟩) tS tS)).cell? ⟨bq,2,none⟩=some (.int .i64 B):=blkc T rfl;have T3:(((((wD.setCell ⟨bq,0,none⟩ (.int .i64 (live:Int))).setCell ⟨bq,1,none⟩ (.int .i64 (ln:Int))).setCell ⟨bq,2,none⟩ (.int .i64 B)).setCell ⟨bq,3,none⟩ (.int .i64 W_)).setCell ⟨bq,4,none⟩ (.slice (some ⟨bS,0,none⟩) tS tS)).cell? ⟨bq,3,none⟩=some (.int .i64 W_):=blkc T rfl;have T4:(((((wD.setCell ⟨bq,0,none⟩ (.int .i64 (live:Int))).setCell ⟨bq,1,none⟩ (.int .i64 (ln:Int))).setCell ⟨bq,2,none⟩ (.int .i64 B)).setCell ⟨bq,3,none⟩ (.int .i64 W_)).setCell ⟨bq,4,none⟩ (.slice (some ⟨bS,0,none⟩) tS tS)).cell? ⟨bq,4,none⟩=some (.slice (some ⟨bS,0,none⟩) tS tS):=blkc T rfl;have RES:Hid (SZ (((((wD.setCell ⟨bq,0,none⟩ (.int .i64 (live:Int))).setCell ⟨bq,1,none⟩ (.int .i64 (ln:Int))).setCell ⟨bq,2,none⟩ (.int .i64 B)).setCell ⟨bq,3,none⟩ (.int .i64 W_)).setCell ⟨bq,4,none⟩ (.slice (some ⟨bS,0,none⟩) tS tS)) w.heap.size bS tS rs/\Gw w (((((wD.setCell ⟨bq,0,none⟩ (.int .i64 (live:Int))).setCell ⟨bq,1,none⟩ (.int .i64 (ln:Int))).setCell ⟨bq,2,none⟩ (.int .i64 B)).setCell ⟨bq,3,none⟩ (.int .i64 W_)).setCell ⟨bq,4,none⟩ (.slice (some ⟨bS,0,none⟩) tS tS))):=by
   have gz:Gx (fun q=>q=bq) wD (((((wD.setCell ⟨bq,0,none⟩ (.int .i64 (live:Int))).setCell ⟨bq,1,none⟩ (.int .i64 (ln:Int))).setCell ⟨bq,2,none⟩ (.int .i64 B)).setCell ⟨bq,3,none⟩ (.int .i64 W_)).setCell ⟨bq,4,none⟩ (.slice (some ⟨bS,0,none⟩) tS tS)):=(((((Gx.refl (fun q=>q=bq) wD).set (.inl rfl) _ _).set (.inl rfl) _ _).set (.inl rfl) _ _).set (.inl rfl) _ _).set (.inl rfl) _ _
   have z1:=blkl (L2.out w1 (Gw.refl _));have z2:=G0.out.size;refine ⟨⟨SS.out.1,SS.out.2.1.of_block (gz.block bS SS.out.2.1.lt (fun e=>?_)),Nat.le_trans z2 SS.out.2.2⟩,Gx.gw HD.out gz (fun q hq=>by have:=BQ.out;omega)⟩
   have:=SS.out.2.2
   omega
  clear T;go_wp2_with fail;exact bodyPost_ret (v:=statV live ln B W_ bS tS) (by simp [results,results19,go_sem,T0,T1,T2,T3,T4,statV]) rfl ⟨⟨bS,tS,rfl,RES.out.1⟩,RES.out.2⟩
end Go.Proofs.YtemijdhemdhclaaGreat
