/- Package tower: row.live, gained, count: which keys are live, and how many. -/
import Derived.Test.YtemijdhemdhclaaGreatNUInv
set_option linter.unusedVariables false
set_option maxHeartbeats 8000000
set_option maxRecDepth 20000
open Go.Proofs.Tryz
namespace Go.Proofs.YtemijdhemdhclaaGreat
open Go.RowKit
theorem live16 {HR:HRt} (H:RunC HR) (ao:Option Addr) (c:Nat) (rs:List (Option Rn)) (q:Int) (q0:0<=q) (q1:q<18446744073709551616) (hl:rs.length<=2000000) (w:World) (h:PR HR w ao rs) :
  Calls prog 78 #[.slice ao rs.length c,.int .u64 q] w fun e w'=>e=.returned (.bool (liveQ rs q))/\Gw w w':=by
 have HP:Aside (PR HR w ao rs):=h;have HH:Aside (RunC HR):=H;obtain ⟨n,hn⟩:∃ n,rs.length=n:=⟨_,rfl⟩;have LN:Aside (rs.length=n):=hn;rw [hn] at hl ⊢;obtain ⟨A,hA⟩:∃ A,liveQ rs q=A:=⟨_,rfl⟩;have RES:Aside (liveQ rs q=A):=hA;rw [hA];clear h H hn hA;go_enter func78,ntmps78;go_wp2_with fail;go_loopg [11] n (fun gg s11 wr=>∃ i:Nat,s11=.int .i64 (i:Int)/\i<=n/\n-i<=gg/\Aside (Gw w wr)/\Aside (liveQ (rs.drop i) q=A))
 case atStart=>exact ⟨0,rfl,Nat.zero_le _,by omega,(show Aside _ from Gw.refl w),(by rw [List.drop_zero];exact RES)⟩
 case round =>
  clear RES;obtain ⟨i,rfl,a1,a2,G,N⟩:=hrel;obtain ⟨wS,hwS⟩:∃ wx,wx=wr:=⟨_,rfl⟩;subst hwS;by_cases hlt:i<n
  ·have hlt':(i:Int)<(n:Int):=by omega
   obtain ⟨b,off,rfl,hb,hc⟩:=(HP.out.gw HH.out.kp G.out).cells (by rw [LN.out];omega)
   have ci:=hc i (by rw [LN.out];exact hlt)
   have DR:=drop_rs (rs:=rs) (i:=i) (by rw [LN.out];exact hlt)
   clear hc;rcases cases_rs rs i with e | ⟨r,e⟩
   ·rw [e] at ci DR
    have N':Aside (liveQ (rs.drop (i+1)) q=A):=by have:=N.out;unfold liveQ at this ⊢;rw [DR,nw_none] at this;exact this
    have ci':wS.cell? ⟨b,off+i,none⟩=some (.pointer none):=ci;clear ci e DR N;go_wp2_with fail;go_roundg (n-(i+1))
    case measure=>omega
    case rel=>exact ⟨i+1,by go_num,by omega,Nat.le_refl _,G,N'⟩
   ·rw [e] at ci DR
    have ci':wS.cell? ⟨b,off+i,none⟩=some (.pointer (some ⟨r.p,0,none⟩)):=ci;have RR:=(HP.out.runs r (mem_rs (by rw [LN.out];exact hlt) e)).gw HH.out.kp G.out
    obtain ⟨x,y,z,t,f1,f2,f3⟩:=lookV_form (look Ent.k q r.l);have GT:Hid (Calls prog 81 #[.pointer (some ⟨r.p,0,none⟩),.int .u64 q] wS fun e w'=>e=.returned (.tuple #[.agg #[.int .u64 x,.int .u64 y,.bool z],.bool t])/\Gw wS w'):=by
     have:=HH.out.look RR q q0 q1
     rw [f1] at this;exact this
    have NR:=N.out;unfold liveQ at NR;rw [DR,nw_some] at NR;have NT:Aside (t=true->A=!z):=fun h=>by
     rw [h] at f3;rw [f2] at h;cases hk:look Ent.k q r.l with
     | none=>rw [hk] at h;cases h
     | some en =>
      rw [<-NR,hk];show liveO (some en)=_;rw [<-hk,f3];rfl
    have NF:Aside (t=false->liveQ (rs.drop (i+1)) q=A):=fun h=>by
     rw [f2] at h;cases hk:look Ent.k q r.l with
     | none=>rw [hk] at NR;exact NR
     | some en=>rw [hk] at h;cases h
    generalize r.p=rp at ci' GT;clear ci e DR N RR f1 f2 f3 NR;go_wp2_with fail;refine Calls.mono GT.out ?_;rintro e u1 ⟨rfl,gg⟩;have G1:Aside (Gw w (u1.alloc (.cells #[.int .u64 x,.int .u64 y,.bool z] 69))):=(G.out.trans gg).alloc _ _;clear gg GT G;cases t with
    | false =>
     have N':Aside (liveQ (rs.drop (i+1)) q=A):=NF.out rfl;clear NF NT;go_wp2_with fail;go_roundg (n-(i+1))
     case measure=>omega
     case rel=>exact ⟨i+1,by go_num,by omega,Nat.le_refl _,G1,N'⟩
    | true =>
     have e:=NT.out rfl;subst e;clear NF NT;go_wp2_with fail;go_ret;exact ⟨rfl,G1.out⟩
  ·have:A=false:=by
    have:=N.out
    rw [List.drop_of_length_le (by rw [LN.out];omega)] at this
    exact this.symm
   subst this;go_wp2_with fail;go_ret;exact ⟨rfl,G.out⟩
def GainR (l:List Ent) (rs:List (Option Rn)) (G:Int):Prop:=∀ n,LvN (liveQ rs) n->∃ m:Nat,(m:Int)=n+G/\LvN (liveE l rs) m
theorem look_take {l:List Ent} (r:Rise Ent.k l) {i:Nat} (hi:i<l.length) (q:Int):look Ent.k q (l.take (i+1))=if (l.getD i ent0).k=q then some (l.getD i ent0) else look Ent.k q (l.take i):=by
 have e:l.take (i+1)=l.take i++[l.getD i ent0]:=by
  rw [List.take_add_one,List.getElem?_eq_getElem hi,getD_lt hi];rfl
 have nk:(l.getD i ent0).k=q->look Ent.k q (l.take i)=none:=fun eq=>by
  unfold look;rw [List.find?_eq_none];intro x hx;have:=List.pairwise_append.1 (by rw [<-e];exact r.sublist (List.take_sublist _ _):((l.take i++[l.getD i ent0]).Pairwise fun a b=>a.k<b.k))
  have:=this.2.2 x hx _ (List.mem_singleton.2 rfl)
  rw [beq_iff_eq];omega
 rw [e];unfold look at nk ⊢;rw [List.find?_append];generalize l.getD i ent0=y at nk;by_cases c:y.k=q
 ·rw [if_pos c,nk c]
  simp [c]
 ·rw [if_neg c]
  simp [c]
theorem gain_step {l:List Ent} {rs:List (Option Rn)} (r:Rise Ent.k l) {i:Nat} (hi:i<l.length) {G:Int} (h:GainR (l.take i) rs G) (z was:Bool) (hz:(l.getD i ent0).g=z) (hw:liveQ rs (l.getD i ent0).k=was):GainR (l.take (i+1)) rs (G+(if z&&was then -1 else if !z&&!was then 1 else 0)):=by
 intro n hn;obtain ⟨m,m1,m2⟩:=h n hn;have at0:liveE (l.take i) rs (l.getD i ent0).k=was:=by
  unfold liveE newE;have:look Ent.k (l.getD i ent0).k (l.take i)=none:=by
   unfold look;rw [List.find?_eq_none];intro x hx;have e:l.take (i+1)=l.take i++[l.getD i ent0]:=by
    rw [List.take_add_one,List.getElem?_eq_getElem hi,getD_lt hi];rfl
   have:=List.pairwise_append.1 (by rw [<-e];exact r.sublist (List.take_sublist _ _):((l.take i++[l.getD i ent0]).Pairwise fun a b=>a.k<b.k))
   have:=this.2.2 x hx _ (List.mem_singleton.2 rfl)
   rw [beq_iff_eq];omega
  rw [this];exact hw
 have at1:liveE (l.take (i+1)) rs (l.getD i ent0).k=!z:=by
  unfold liveE newE;rw [look_take r hi,if_pos rfl];show (!(l.getD i ent0).g)=_;rw [hz]
 have oth:∀ q,q≠(l.getD i ent0).k->liveE (l.take (i+1)) rs q=liveE (l.take i) rs q:=fun q hq=>by
  unfold liveE newE;rw [look_take r hi,if_neg (fun e=>hq e.symm)]
 cases z<;>cases was
 ·exact ⟨m+1,by simp;omega,m2.put at0 at1 oth⟩
 ·exact ⟨m,by simp;omega,m2.same fun q=>by
   by_cases c:q=(l.getD i ent0).k
   ·rw [c,at0,at1];rfl
   ·exact oth q c⟩
 ·exact ⟨m,by simp;omega,m2.same fun q=>by
   by_cases c:q=(l.getD i ent0).k
   ·rw [c,at0,at1];rfl
   ·exact oth q c⟩
 ·obtain ⟨p,d⟩:=m2.drop at0 at1 oth
  exact ⟨m-1,by simp;omega,d⟩
theorem gained16 {HR:HRt} (H:RunC HR) (ao bo:Option Addr) (c d:Nat) (l:List Ent) (rs:List (Option Rn)) (hl:l.length<=2000000) (hr:rs.length<=2000000) (rise:Rise Ent.k l) (w:World) (he:EL w ao l) (h:PR HR w bo rs) :
  Calls prog 57 #[.slice ao l.length c,.slice bo rs.length d] w fun e w'=>(∃ G:Int,e=.returned (.int .i64 G)/\GainR l rs G/\-(l.length:Int)<=G/\G<=l.length)/\Gw w w':=by
 have LV:Hid (∀ (W:World) (q:Int),Gw w W->0<=q->q<18446744073709551616->Calls prog 78 #[.slice bo rs.length d,.int .u64 q] W fun e w'=>e=.returned (.bool (liveQ rs q))/\Gw W w'):=fun W q gg q0 q1=>live16 H bo d rs q q0 q1 hr W (h.gw H.kp gg)
 have EA:Aside (EL w ao l):=he;have RI:Aside (Rise Ent.k l):=rise;obtain ⟨n,hn⟩:∃ n,l.length=n:=⟨_,rfl⟩;have LN:Aside (l.length=n):=hn;have G0:Aside (GainR (l.take 0) rs 0):=fun m hm=>⟨m,by omega,hm⟩
 rw [hn] at hl ⊢;generalize rs.length=rn at LV ⊢;clear he h H hn rise;go_enter func57,ntmps57;go_wp2_with fail;go_loopg [5,11] n (fun gg s3 s11 wr=>∃ (i:Nat) (g:Int),s3=.int .i64 g/\s11=.int .i64 (i:Int)/\i<=n/\n-i<=gg/\-(i:Int)<=g/\g<=(i:Int)/\Aside (Gw w wr)/\Aside (GainR (l.take i) rs g))
 case atStart=>exact ⟨0,0,rfl,rfl,Nat.zero_le _,by omega,by simp,by simp,(show Aside _ from Gw.refl w),G0⟩
 case round =>
  clear G0;obtain ⟨i,g,rfl,rfl,a1,a2,a3,a4,G,N⟩:=hrel;obtain ⟨wS,hwS⟩:∃ wx,wx=wr:=⟨_,rfl⟩;subst hwS;by_cases hlt:i<n
  ·have hlt':(i:Int)<(n:Int):=by omega
   have il:i<l.length:=by rw [LN.out];exact hlt
   obtain ⟨ab,af,rfl,hab,hac⟩:=(EA.out.gw G.out).cells (by rw [LN.out];omega)
   obtain ⟨c0,c1,c2⟩:=hac i il;obtain ⟨⟨k0,k1⟩,_⟩:=EA.out.ok il;have LQ:=LV.out;have ST:Aside (∀ z was,(l.getD i ent0).g=z->liveQ rs (l.getD i ent0).k=was->GainR (l.take (i+1)) rs (g+(if z&&was then -1 else if !z&&!was then 1 else 0))):=fun z was hz hw=>gain_step RI.out il N.out z was hz hw
   generalize (l.getD i ent0).k=ki at c0 k0 k1 ST;generalize (l.getD i ent0).v=vi at c1;have S2:=ST.out _ (liveQ rs ki) rfl rfl;have LK:Hid (∀ (W:World),Gw w W->Calls prog 78 #[.slice bo rn d,.int .u64 ki] W fun e w'=>e=.returned (.bool (liveQ rs ki))/\Gw W w'):=fun W gg=>LV.out W ki gg k0 k1
   generalize (l.getD i ent0).g=gi at c2 S2;generalize liveQ rs ki=lq at LK S2;have S3:Aside (GainR (l.take (i+1)) rs (g+(if gi&&lq then -1 else if !gi&&!lq then 1 else 0))):=S2
   have GA:Aside (Gw w (wS.alloc (.cells #[.int .u64 ki,.int .u64 vi,.bool gi] 69))):=G.out.alloc _ _;clear hac S2 LQ ST N G k0 k1;go_wp2_with fail;refine Calls.mono (LK.out _ GA.out) ?_;rintro e u1 ⟨rfl,gg⟩;have G1:Aside (Gw w u1):=GA.out.trans gg;have E0:u1.heap[wS.heap.size]?=some (.cells #[.int .u64 ki,.int .u64 vi,.bool gi] 69 (0,0)):=(gg.below.block _ (by simp)).trans (heap_alloc_new _ _)
   obtain ⟨m0,m1,m2,_⟩:=box_facts E0;have ml:=blkl E0;generalize wS.heap.size=bq at m0 m1 m2 ml;clear gg GA LK E0;have wp:IntKind.i64.wrap (g+1)=g+1:=by rw [IntKind.wrap_i64];omega
   have wm:IntKind.i64.wrap (g-1)=g-1:=by rw [IntKind.wrap_i64];omega
   have S4:Aside (GainR (l.take (i+1)) rs (if gi&&lq then g-1 else if !gi&&!lq then g+1 else g)):=by
    have:=S3.out
    revert this
    cases gi<;>cases lq<;>simp<;>intro h
    ·exact h
    ·exact h
    ·exact h
    ·have e:g+-1=g-1:=by omega
     rw [e] at h;exact h
   clear S3;cases gi<;>cases lq
   all_goals
    go_wp2_with fail;go_roundg (n-(i+1))
    case measure=>omega
    case rel=>exact ⟨i+1,_,rfl,by go_num,by omega,Nat.le_refl _,by omega,by omega,G1,(by simpa using S4)⟩
  ·have e:i=n:=by omega
   subst e;have N':Aside (GainR l rs g):=by have:=N.out;rw [List.take_of_length_le (by rw [LN.out];omega)] at this;exact this
   go_wp2_with fail;go_ret
   exact ⟨⟨g,rfl,N'.out,a3,a4⟩,G.out⟩
def CountT (l:List Ent) (rs:List (Option Rn)) (most:Int) (n:Nat) (ok:Bool):Prop :=
 (ok=true/\(∀ i,∃ m,LvN (liveQ (rs.drop i)) m/\(m:Int)<=most)/\LvN (liveE l rs) n/\(n:Int)<=most)\/(ok=false/\n=0/\((∃ i m,LvN (liveQ (rs.drop i)) m/\most<(m:Int))\/∃ m,LvN (liveE l rs) m/\most<(m:Int)))
theorem lvn_tot {rs:List (Option Rn)} {m:Nat} (h:LvN (liveQ rs) m):m<=tot rs:=by
 obtain ⟨ks,k1,k2,k3⟩:=h;have:ks.length<=((lists rs).flatMap (List.map Ent.k)).length:=len_sub k1 fun x hx=>by
  have hx':=(k2 x).1 hx;unfold liveQ at hx';cases hn:nw x rs with
  | none=>rw [hn] at hx';cases hx'
  | some e =>
   have:∀ ls:List (List Ent),firstOf Ent.k x ls=some e->∃ l∈ls,e∈l/\e.k=x:=by
    intro ls;induction ls with
    | nil=>intro h;cases h
    | cons l ls ih =>
     intro h;simp only [firstOf] at h;cases hk:look Ent.k x l with
     | some y=>rw [hk] at h;cases h;exact ⟨l,List.mem_cons_self ..,look_in hk⟩
     | none =>
      rw [hk] at h;obtain ⟨l',a,b⟩:=ih h;exact ⟨l',List.mem_cons_of_mem _ a,b⟩
   obtain ⟨l,a,b,c⟩:=this _ hn;exact List.mem_flatMap.2 ⟨l,a,List.mem_map.2 ⟨e,b,c⟩⟩
 rw [List.length_flatMap] at this;unfold tot sizes;simpa [<-k3] using this
theorem liveE_some {r:Rn} {rs:List (Option Rn)} (q:Int):liveQ (some r::rs) q=liveE r.l rs q:=by
 unfold liveQ liveE newE;rw [nw_some]
theorem count16 {HR:HRt} (H:RunC HR) (ao:Option Addr) (c b off d:Nat) (l:List Ent) (rs:List (Option Rn)) (most:Int) (hm:0<=most) (hl:l.length+tot rs<=2000000) (hr:rs.length<=40) (hd:rs.length<=d) (rise:Rise Ent.k l) (w:World) (he:EL w ao l) (h:PR HR w (some ⟨b,off,none⟩) rs) :
  Calls prog 37 #[.slice ao l.length c,.slice (some ⟨b,off,none⟩) rs.length d,.int .i64 most] w fun e w'=>(∃ (n:Nat) (ok:Bool),e=.returned (.tuple #[.int .i64 (n:Int),.bool ok])/\CountT l rs most n ok)/\Gw w w':=by
 have HH:Aside (RunC HR):=H;have HP:Aside (PR HR w (some ⟨b,off,none⟩) rs):=h;have GL:Hid (∀ W,Gw w W->Calls prog 57 #[.slice ao l.length c,.slice (some ⟨b,off,none⟩) rs.length d] W fun e w'=>(∃ G:Int,e=.returned (.int .i64 G)/\GainR l rs G/\-(l.length:Int)<=G/\G<=l.length)/\Gw W w'):=fun W gg=>gained16 H ao (some ⟨b,off,none⟩) c d l rs (by omega) (by omega) rise W (he.gw gg) (h.gw H.kp gg)
 obtain ⟨ln,hln⟩:∃ n,l.length=n:=⟨_,rfl⟩;obtain ⟨n,hn⟩:∃ n,rs.length=n:=⟨_,rfl⟩;have LN:Aside (rs.length=n):=hn;have TT:Aside (ln+tot rs<=2000000):=by rw [<-hln];exact hl
 rw [hln] at GL hl ⊢;rw [hn] at GL hr hd ⊢;have ST:Aside (LvN (liveQ (rs.drop n)) 0):=LvN.nil fun q=>by rw [List.drop_of_length_le (by rw [hn];exact Nat.le_refl _)];rfl
 have AL0:Aside (∀ i,n<=i->∃ m,LvN (liveQ (rs.drop i)) m/\(m:Int)<=most):=fun i hi=>⟨0,LvN.nil fun q=>by rw [List.drop_of_length_le (by rw [hn];exact hi)];rfl,hm⟩
 clear H h he rise hln hn;have wn:IntKind.i64.wrap ((n:Int)-1)=(n:Int)-1:=by rw [IntKind.wrap_i64];omega
 go_enter func37,ntmps37;go_wp2_with fail;go_loopg [6,8] (n+1) (fun gg s6 s8 wr=>∃ k m:Nat,s6=.int .i64 (m:Int)/\s8=.int .i64 ((k:Int)-1)/\k<=n/\k<gg+1/\m<=2000000/\Aside (m<=tot (rs.drop k))/\Aside (LvN (liveQ (rs.drop k)) m)/\Aside (∀ i,k<=i->∃ m,LvN (liveQ (rs.drop i)) m/\(m:Int)<=most)/\Aside (Gw w wr))
 case atStart=>exact ⟨n,0,rfl,rfl,Nat.le_refl _,by omega,by omega,(show Aside _ from Nat.zero_le _),ST,AL0,(show Aside _ from Gw.refl w)⟩
 case round =>
  clear ST AL0;obtain ⟨k,m,rfl,rfl,a1,a2,a3,MT,LV,AL,G⟩:=hrel;obtain ⟨wS,hwS⟩:∃ wx,wx=wr:=⟨_,rfl⟩;subst hwS;by_cases k0:k=0
  ·subst k0
   have AL':Aside (∀ i,∃ m,LvN (liveQ (rs.drop i)) m/\(m:Int)<=most):=fun i=>AL.out i (Nat.zero_le _)
   have FI:Aside (∀ g:Int,GainR l rs g->∃ m':Nat,(m':Int)=m+g/\LvN (liveE l rs) m'):=fun g hg=>hg m (by have:=LV.out;rw [List.drop_zero] at this;exact this)
   have GB:=GL.out wS G.out;have ez:((0:Nat):Int)-1=-1:=rfl;rw [ez];clear AL LV MT;go_wp2_with fail;refine Calls.mono GB ?_;rintro e w1 ⟨⟨g,rfl,gr,gb⟩,gg⟩;obtain ⟨m',x1,x2⟩:=FI.out g gr;have G9:Aside (Gw w w1):=G.out.trans gg;have X2:Aside (LvN (liveE l rs) m'):=x2;have wg:IntKind.i64.wrap ((m:Int)+g)=(m:Int)+g:=by rw [IntKind.wrap_i64];omega
   clear x2 gg gr FI GB GL;by_cases big:most<(m':Int)
   ·have tb:decide (most<(m:Int)+g)=true:=by rw [<-x1];simpa using big
    have RES:Aside (CountT l rs most 0 false):=.inr ⟨rfl,rfl,.inr ⟨m',X2.out,big⟩⟩;clear big;go_wp2_with fail;go_ret2;exact ⟨⟨0,false,rfl,RES.out⟩,G9.out⟩
   ·have tb:decide (most<(m:Int)+g)=false:=by rw [<-x1];simpa using big
    have RES:Aside (CountT l rs most m' true):=.inl ⟨rfl,AL'.out,X2.out,by omega⟩
    clear big;go_wp2_with fail;go_ret2;exact ⟨⟨m',true,by show Ending.returned (.tuple #[.int .i64 ((m:Int)+g),.bool true])=_;rw [<-x1],RES.out⟩,G9.out⟩
  ·obtain ⟨j,rfl⟩:∃ j,k=j+1:=⟨k-1,by omega⟩
   have ej:((j+1:Nat):Int)-1=(j:Int):=by omega
   rw [ej];have j0:(0:Int)<=(j:Int):=by omega
   have jn:(j:Int)<(n:Int):=by omega
   have jl:j<rs.length:=by rw [LN.out];omega
   obtain ⟨b',o',eb,hb,hc⟩:=(HP.out.gw HH.out.kp G.out).cells (by rw [LN.out];omega)
   injection eb with eb;injection eb with e1 e2;subst e1 e2;have ci:=hc j jl;have wj:IntKind.i64.wrap ((j:Int)-1)=(j:Int)-1:=by rw [IntKind.wrap_i64];omega
   clear hc;rcases cases_rs rs j with e | ⟨r,e⟩
   ·rw [e] at ci
    have DR:=drop_rs (rs:=rs) (i:=j) jl;rw [e] at DR;have ci':wS.cell? ⟨b,off+j,none⟩=some (.pointer none):=ci;have LV':Aside (LvN (liveQ (rs.drop j)) m):=LV.out.same fun q=>by rw [DR];rfl
    have MT':Aside (m<=tot (rs.drop j)):=by have:=MT.out;rw [DR,tot_none];exact this
    have AL':Aside (∀ i,j<=i->∃ m,LvN (liveQ (rs.drop i)) m/\(m:Int)<=most):=fun i hi=>by
     rcases Nat.lt_or_ge j i with x | x
     ·exact AL.out i x
     ·have ei:i=j:=by omega
      obtain ⟨m',m1,m2⟩:=AL.out (j+1) (Nat.le_refl _);exact ⟨m',m1.same fun q=>by rw [ei,DR];rfl,m2⟩
    clear ci e DR LV MT AL;go_wp2_with fail;go_roundg j
    case measure=>omega
    case rel=>exact ⟨j,m,rfl,by go_num,by omega,by omega,a3,MT',LV',AL',G⟩
   ·rw [e] at ci
    have DR:=drop_rs (rs:=rs) (i:=j) jl;rw [e] at DR;have ci':wS.cell? ⟨b,off+j,none⟩=some (.pointer (some ⟨r.p,0,none⟩)):=ci;have RR:=(HP.out.runs r (mem_rs jl e)).gw HH.out.kp G.out;have LA:Hid (∀ W,Gw wS W->Calls prog 58 #[.pointer (some ⟨r.p,0,none⟩)] W fun e w'=>(∃ bo c,e=.returned (.slice bo r.l.length c)/\EL w' bo r.l)/\Gw W w'):=fun W gg=>(HH.out.told (RR.gw HH.out.kp gg)).mono fun e w' ⟨⟨bo,c,a,b,_⟩,d⟩=>⟨⟨bo,c,a,b⟩,d⟩
    have TD:Aside (r.l.length+tot (rs.drop (j+1))=tot (rs.drop j)):=by show _=_;rw [DR,tot_some]
    have TL:tot (rs.drop j)<=2000000:=by have:=tot_take rs j;have:=TT.out;omega
    obtain ⟨kk,hkk⟩:∃ kk,j+1=kk:=⟨_,rfl⟩;have GA:Hid (∀ (W:World) (xo yo:Option Addr) (xc yc:Nat),Gw wS W->EL W xo r.l->(0<(rs.drop kk).length->yo=some ⟨b,off+kk,none⟩)->Calls prog 57 #[.slice xo r.l.length xc,.slice yo (n-kk) yc] W fun e w'=>(∃ G:Int,e=.returned (.int .i64 G)/\(GainR r.l (rs.drop kk) G/\-(r.l.length:Int)<=G/\G<=r.l.length))/\Gw W w'):=fun W xo yo xc yc gg hx hy=>by
     have hpd:PR HR W yo (rs.drop kk):=⟨fun h0=>by
      rw [hy h0];have gW:=G.out.trans gg;obtain ⟨b',o',eb,hb',hc'⟩:=(HP.out.gw HH.out.kp gW).cells (by rw [LN.out];omega)
      injection eb with eb;injection eb with e1 e2;subst e1 e2;refine ⟨b,off+kk,rfl,hb',fun i hi=>?_⟩
      rw [List.length_drop] at hi;have:=hc' (kk+i) (by omega)
      rw [Nat.add_assoc,this,List.getD_eq_getElem?_getD,List.getD_eq_getElem?_getD,List.getElem?_drop],fun r hr=>(HP.out.gw HH.out.kp (G.out.trans gg)).runs r (List.mem_of_mem_drop hr)⟩
     have:=gained16 HH.out xo yo xc yc r.l (rs.drop kk) (by have:=RR.few;omega) (by rw [List.length_drop];have:=LN.out;omega) RR.ok.rise W hx hpd
     rw [List.length_drop,LN.out] at this;exact this
    have FI:Aside (∀ g:Int,GainR r.l (rs.drop kk) g->∃ m':Nat,(m':Int)=m+g/\LvN (liveQ (rs.drop j)) m'/\m'<=tot (rs.drop j)):=fun g hg=>by
     rw [<-hkk] at hg;obtain ⟨m',x1,x2⟩:=hg m LV.out;have x3:LvN (liveQ (rs.drop j)) m':=x2.same fun q=>by rw [DR];exact liveE_some q
     refine ⟨m',x1,x3,?_⟩;exact lvn_tot x3
    have AL':Aside (∀ m':Nat,LvN (liveQ (rs.drop j)) m'->(m':Int)<=most->∀ i,j<=i->∃ m,LvN (liveQ (rs.drop i)) m/\(m:Int)<=most):=fun m' x y i hi=>by
     rcases Nat.lt_or_ge j i with z | z
     ·exact AL.out i z
     ·have ei:i=j:=by omega
      rw [ei];exact ⟨m',x,y⟩
    have few:=RR.few;obtain ⟨rl,hrl⟩:∃ rl,r.l.length=rl:=⟨_,rfl⟩;rw [hrl] at GA LA few TD;have HW:Hid (∀ w',Gw wS w'->Gw wS w'/\w'.cell? ⟨b,off+j,none⟩=some (.pointer (some ⟨r.p,0,none⟩))):=fun w' gg=>⟨gg,(gg.cell _ _ hb).trans ci'⟩
    have RLL:Aside (∃ L,r.l=L):=⟨_,rfl⟩;obtain ⟨L,hL⟩:=RLL.out;rw [hL] at GA LA FI;generalize r.p=rp at ci' LA HW;have qn:∀ W:World,(binOp .eql 93 (.pointer (some ⟨rp,0,none⟩)) (.pointer none)).run prog W=.ok (.bool false) W:=fun _=>by kernel_rfl
    have wk:IntKind.i64.wrap ((j:Int)+1)=(kk:Int):=by rw [IntKind.wrap_i64];omega
    have kn:(kk:Int)<=(n:Int):=by omega
    have kn':kk<=n:=by omega
    have k00:(0:Int)<=(kk:Int):=by omega
    have HKK:Aside (j+1=kk):=hkk;clear ci e DR RR LV MT AL hrl RLL hL jl hkk;by_cases dk:d=kk
    ·have nk:n=kk:=by omega
     have GB:Hid (∀ (W:World) (xo:Option Addr) (xc:Nat),Gw wS W->EL W xo L->Calls prog 57 #[.slice xo rl xc,.slice (some ⟨b,off,none⟩) 0 0] W fun e w'=>(∃ G:Int,e=.returned (.int .i64 G)/\(GainR L (rs.drop kk) G/\-(rl:Int)<=G/\G<=rl))/\Gw W w'):=fun W xo xc gg hx=>by
      have:=GA.out W xo (some ⟨b,off,none⟩) xc 0 gg hx (fun h0=>by rw [List.length_drop,LN.out] at h0;omega)
      rw [nk,Nat.sub_self] at this;exact this
     have dk':=dk.symm;subst dk';have nk':=nk.symm;subst nk';clear GA;go_wp2_with fail;go_region_held3 (fun w'=>Gw wS w'/\w'.cell? ⟨b,off+j,none⟩=some (.pointer (some ⟨rp,0,none⟩)))
      ((refine HW.out _ ?_;(repeat (first | exact Gw.refl _ | exact And.left (by assumption) | exact Hid.out (by assumption) | refine Gw.drew ?_ | refine Gw.trans ?_ (by assumption)));done))
      ((
       first
       | (go_at_call_of 58 (Value.pointer (some ⟨rp,0,none⟩));refine (LA.out _ (by repeat (first | exact Gw.refl _ | exact And.left (by assumption) | exact Hid.out (by assumption) | refine Gw.drew ?_ | refine Gw.drewN ?_ _))).mono ?_;rintro ex wA ⟨⟨boA,cA,rfl,elA⟩,gA⟩;have KA:Hid (∀ W,Gw wA W->EL W boA L):=(fun W gg=>elA.gw gg);have FA:Hid (Gw wS wA):=(Gw.trans (by repeat (first | exact Gw.refl _ | exact And.left (by assumption) | exact Hid.out (by assumption) | refine Gw.drew ?_ | refine Gw.drewN ?_ _)) gA);clear elA gA)
       | (go_at_call 57;refine (GB.out _ boA cA (by repeat (first | exact Gw.refl _ | exact And.left (by assumption) | exact Hid.out (by assumption) | refine Gw.drew ?_ | refine Gw.drewN ?_ _)) (by first | exact KA.out _ (Gw.refl _) | exact KA.out _ (Gw.drew (Gw.refl _)))).mono ?_;rintro ex wC ⟨⟨g,rfl,gr⟩,gC⟩;have GRR:Aside (GainR L (rs.drop kk) g/\-(rl:Int)<=g/\g<=rl):=gr;have FC:Hid (Gw wS wC):=(Gw.trans (by repeat (first | exact Gw.refl _ | exact And.left (by assumption) | exact Hid.out (by assumption) | refine Gw.drew ?_ | refine Gw.drewN ?_ _)) gC);clear gC gr)))
     all_goals
      obtain ⟨m',x1,x2,x3⟩:=FI.out g GRR.out.1;have G9:Aside (Gw w wC):=G.out.trans FC.out;have X2:Aside (LvN (liveQ (rs.drop j)) m'):=x2;have X3:Aside (m'<=tot (rs.drop j)):=x3;have gb:=GRR.out.2;have wg:IntKind.i64.wrap ((m:Int)+g)=(m:Int)+g:=by rw [IntKind.wrap_i64];omega
      clear x2 FC FI GRR;by_cases big:most<(m':Int)
      ·have tb:decide (most<(m:Int)+g)=true:=by rw [<-x1];simpa using big
       have RES:Aside (CountT l rs most 0 false):=.inr ⟨rfl,rfl,.inl ⟨j,m',X2.out,big⟩⟩;clear big;go_wp2_with fail;go_ret2;exact ⟨⟨0,false,rfl,RES.out⟩,G9.out⟩
      ·have tb:decide (most<(m:Int)+g)=false:=by rw [<-x1];simpa using big
       have AL9:Aside (∀ i,j<=i->∃ m,LvN (liveQ (rs.drop i)) m/\(m:Int)<=most):=AL'.out m' X2.out (by omega)
       clear big AL';go_wp2_with fail;go_roundg j
       case measure=>omega
       case rel=>exact ⟨j,m',by first | rw [wg,x1] | rw [x1],by go_num,by omega,by omega,by omega,X3,X2,AL9,G9⟩
    ·have d1:¬ (d:Int)=(kk:Int):=by omega
     have d2:(kk:Int)<=(d:Int):=by omega
     have d3:¬ d=kk:=dk;have d4:kk<=d:=by omega
     have d5:(n:Int)<=(d:Int):=by omega
     have GB:Hid (∀ (W:World) (xo:Option Addr) (xc:Nat),Gw wS W->EL W xo L->Calls prog 57 #[.slice xo rl xc,.slice (some ⟨b,off+kk,none⟩) (n-kk) (d-kk)] W fun e w'=>(∃ G:Int,e=.returned (.int .i64 G)/\(GainR L (rs.drop kk) G/\-(rl:Int)<=G/\G<=rl))/\Gw W w'):=fun W xo xc gg hx=>GA.out W xo (some ⟨b,off+kk,none⟩) xc (d-kk) gg hx (fun _=>rfl)
     clear GA;go_wp2_with fail;go_region_held3 (fun w'=>Gw wS w'/\w'.cell? ⟨b,off+j,none⟩=some (.pointer (some ⟨rp,0,none⟩)))
      ((refine HW.out _ ?_;(repeat (first | exact Gw.refl _ | exact And.left (by assumption) | exact Hid.out (by assumption) | refine Gw.drew ?_ | refine Gw.trans ?_ (by assumption)));done))
      ((
       first
       | (go_at_call_of 58 (Value.pointer (some ⟨rp,0,none⟩));refine (LA.out _ (by repeat (first | exact Gw.refl _ | exact And.left (by assumption) | exact Hid.out (by assumption) | refine Gw.drew ?_ | refine Gw.drewN ?_ _))).mono ?_;rintro ex wA ⟨⟨boA,cA,rfl,elA⟩,gA⟩;have KA:Hid (∀ W,Gw wA W->EL W boA L):=(fun W gg=>elA.gw gg);have FA:Hid (Gw wS wA):=(Gw.trans (by repeat (first | exact Gw.refl _ | exact And.left (by assumption) | exact Hid.out (by assumption) | refine Gw.drew ?_ | refine Gw.drewN ?_ _)) gA);clear elA gA)
       | (go_at_call 57;refine (GB.out _ boA cA (by repeat (first | exact Gw.refl _ | exact And.left (by assumption) | exact Hid.out (by assumption) | refine Gw.drew ?_ | refine Gw.drewN ?_ _)) (by first | exact KA.out _ (Gw.refl _) | exact KA.out _ (Gw.drew (Gw.refl _)))).mono ?_;rintro ex wC ⟨⟨g,rfl,gr⟩,gC⟩;have GRR:Aside (GainR L (rs.drop kk) g/\-(rl:Int)<=g/\g<=rl):=gr;have FC:Hid (Gw wS wC):=(Gw.trans (by repeat (first | exact Gw.refl _ | exact And.left (by assumption) | exact Hid.out (by assumption) | refine Gw.drew ?_ | refine Gw.drewN ?_ _)) gC);clear gC gr)))
     all_goals
      obtain ⟨m',x1,x2,x3⟩:=FI.out g GRR.out.1;have G9:Aside (Gw w wC):=G.out.trans FC.out;have X2:Aside (LvN (liveQ (rs.drop j)) m'):=x2;have X3:Aside (m'<=tot (rs.drop j)):=x3;have gb:=GRR.out.2;have wg:IntKind.i64.wrap ((m:Int)+g)=(m:Int)+g:=by rw [IntKind.wrap_i64];omega
      clear x2 FC FI GRR;by_cases big:most<(m':Int)
      ·have tb:decide (most<(m:Int)+g)=true:=by rw [<-x1];simpa using big
       have RES:Aside (CountT l rs most 0 false):=.inr ⟨rfl,rfl,.inl ⟨j,m',X2.out,big⟩⟩;clear big;go_wp2_with fail;go_ret2;exact ⟨⟨0,false,rfl,RES.out⟩,G9.out⟩
      ·have tb:decide (most<(m:Int)+g)=false:=by rw [<-x1];simpa using big
       have AL9:Aside (∀ i,j<=i->∃ m,LvN (liveQ (rs.drop i)) m/\(m:Int)<=most):=AL'.out m' X2.out (by omega)
       clear big AL';go_wp2_with fail;go_roundg j
       case measure=>omega
       case rel=>exact ⟨j,m',by first | rw [wg,x1] | rw [x1],by go_num,by omega,by omega,by omega,X3,X2,AL9,G9⟩
end Go.Proofs.YtemijdhemdhclaaGreat
