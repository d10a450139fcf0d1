/- Layer 15 in plain words: what holds of classes behind Takes. No Go in it. -/
import Derived.Test.YtemijdhemdhclaaGreatNUOf2
import Derived.Test.YtemijdhemdhclaaGreatNUTk
set_option linter.unusedVariables false
namespace Go.Proofs.YtemijdhemdhclaaGreat
open Go.RowKit
section
variable {eps buf:Int} {rs:List (Option Rn)} {t:Nat}
theorem laid_get {o:Option Rn} (l40:rs.length=40) (i:Nat):(laid rs o).getD i none=if i<freeC rs then none else if i=freeC rs then o else rs.getD i none:=by
 unfold laid;rw [List.getD_eq_getElem?_getD];by_cases a:i<freeC rs
 ·rw [if_pos a,List.getElem?_append_left (by simpa using a),List.getElem?_replicate,if_pos a]
  rfl
 ·rw [if_neg a,List.getElem?_append_right (by simpa using Nat.le_of_not_lt a),List.length_replicate]
  by_cases b:i=freeC rs
  ·rw [if_pos b,b,Nat.sub_self]
   rfl
  ·rw [if_neg b]
   obtain ⟨m,hm⟩:∃ m,i-freeC rs=m+1:=⟨i-freeC rs-1,by omega⟩
   rw [hm,List.getElem?_cons_succ,List.getElem?_drop,show freeC rs+1+m=i by omega,List.getD_eq_getElem?_getD]
theorem laid_drop {o:Option Rn} (i:Nat) (hi:freeC rs<=i):(laid rs o).drop (i+1)=rs.drop (i+1):=by
 unfold laid;rw [List.drop_append,List.length_replicate,List.drop_of_length_le (by simp;omega),List.nil_append]
 obtain ⟨m,hm⟩:∃ m,i+1-freeC rs=m+1:=⟨i-freeC rs,by omega⟩
 rw [hm,List.drop_succ_cons,List.drop_drop,show freeC rs+1+m=i+1 by omega]
theorem laid_tot {HR:HRt} {w w':World} {l o kept:List Ent} (tr:TakeR rs l o kept) {rn:Option Rn} (ld:LaidR HR w w' eps kept rn):tot (laid rs rn)<=tot rs+l.length:=by
 have a:=tot_take rs (freeC rs+1);have b:=tr.few.1;unfold took at b;have c:tot (laid rs rn)=tot (rn::rs.drop (freeC rs+1)):=by
  unfold laid;rw [tot_app];have:∀ n,tot (List.replicate n (none:Option Rn))=0:=fun n=>by
   induction n with
   | zero=>rfl
   | succ n ih=>rw [List.replicate_succ,tot_none];exact ih
  rw [this,Nat.zero_add]
 rw [c];rcases ld with ⟨_,e⟩ | ⟨_,r',e,_,e2,_⟩
 ·rw [e,tot_none];omega
 ·rw [e,tot_some,e2];omega
theorem laid_live {HR:HRt} {w w':World} {l o kept:List Ent} (ok:EOk l) (hr:∀ r,some r∈rs->EOk r.l) (tr:TakeR rs l o kept) {rn:Option Rn} (ld:LaidR HR w w' eps kept rn) (q:Int):let a:=nw q (laid rs rn);let b:=(Go.Proofs.YtemijdhemdhclaaGreat.look Ent.k q l).or (nw q rs);liveO a=liveO b/\(liveO a=true->a=b):=by
 have lk:=tr.look ok hr q;have fc:=tr.facts ok hr;have e1:nw q (laid rs rn)=(Go.Proofs.YtemijdhemdhclaaGreat.look Ent.k q kept).or (nw q (rs.drop (freeC rs+1))):=by
  unfold laid;rw [nw_rep];rcases ld with ⟨k0,e⟩ | ⟨_,r',e,_,e2,_⟩
  ·rw [e,nw_none,k0];rfl
  ·rw [e,nw_some,e2]
 have e2:nw q rs=(nw q (rs.take (freeC rs+1))).or (nw q (rs.drop (freeC rs+1))):=by rw [<-nw_app,List.take_append_drop]
 have e3:Go.Proofs.YtemijdhemdhclaaGreat.look Ent.k q kept=(Go.Proofs.YtemijdhemdhclaaGreat.look Ent.k q o).filter (keepP (liveQ (rs.drop (freeC rs+1)))):=by rw [tr.kp,look_filter fc.1.rise]
 show liveO (nw q (laid rs rn))=liveO ((Go.Proofs.YtemijdhemdhclaaGreat.look Ent.k q l).or (nw q rs))/\(liveO (nw q (laid rs rn))=true->nw q (laid rs rn)=(Go.Proofs.YtemijdhemdhclaaGreat.look Ent.k q l).or (nw q rs));rw [e1,e2,e3,<-Option.or_assoc,<-lk];cases ho:Go.Proofs.YtemijdhemdhclaaGreat.look Ent.k q o with
 | none=>exact ⟨rfl,fun _=>rfl⟩
 | some x =>
  have xk:=look_key ho;by_cases p:keepP (liveQ (rs.drop (freeC rs+1))) x=true
  ·rw [show (some x).filter (keepP (liveQ (rs.drop (freeC rs+1))))=some x by simp [Option.filter,p]]
   exact ⟨rfl,fun _=>rfl⟩
  ·rw [show (some x).filter (keepP (liveQ (rs.drop (freeC rs+1))))=none by simp [Option.filter,p]]
   have p':keepP (liveQ (rs.drop (freeC rs+1))) x=false:=by simpa using p
   unfold keepP at p';simp only [Bool.or_eq_false_iff,Bool.not_eq_false'] at p';have lv:liveO (nw q (rs.drop (freeC rs+1)))=false:=by have:=p'.2;rw [xk] at this;exact this
   refine ⟨?_,fun h=>?_⟩
   ·show liveO (nw q (rs.drop (freeC rs+1)))=!x.g
    rw [lv,p'.1];rfl
   ·have h':liveO (nw q (rs.drop (freeC rs+1)))=true:=h
    rw [lv] at h';cases h'
end
theorem len_sub:∀ {a b:List Int},a.Pairwise (·<·)->(∀ x∈a,x∈b)->a.length<=b.length
 | [],b,_,_=>Nat.zero_le _
 | x::a,b,h,s=>by
  obtain ⟨h1,h2⟩:=List.pairwise_cons.1 h;have hx:=s x (List.mem_cons_self ..);have e:(b.erase x).length=b.length-1:=List.length_erase_of_mem hx;have p:0<b.length:=List.length_pos_of_mem hx;have:=len_sub (b:=b.erase x) h2 fun y hy=>(List.mem_erase_of_ne (by have:=h1 y hy;omega)).2 (s y (List.mem_cons_of_mem _ hy))
  simp only [List.length_cons];omega
def LvN (f:Int->Bool) (n:Nat):Prop:=∃ ks:List Int,ks.Pairwise (·<·)/\(∀ q,q∈ks↔f q=true)/\ks.length=n
section
variable {f g:Int->Bool} {n m:Nat}
theorem LvN.le (h:LvN f n) (h':LvN g m) (s:∀ q,f q=true->g q=true):n<=m:=by
 obtain ⟨a,a1,a2,a3⟩:=h;obtain ⟨b,b1,b2,b3⟩:=h';have:=len_sub (b:=b) a1 fun x hx=>(b2 x).2 (s x ((a2 x).1 hx))
 omega
theorem LvN.one (h:LvN f n) (h':LvN f m):n=m:=Nat.le_antisymm (h.le h' fun _ x=>x) (h'.le h fun _ x=>x)
theorem LvN.same (h:LvN f n) (s:∀ q,g q=f q):LvN g n:=by
 obtain ⟨a,a1,a2,a3⟩:=h;exact ⟨a,a1,fun q=>by rw [s];exact a2 q,a3⟩
theorem LvN.nil (h:∀ q,f q=false):LvN f 0:=⟨[],List.Pairwise.nil,fun q=>by rw [h q];simp,rfl⟩
theorem LvN.put (h:LvN f n) {k:Int} (fk:f k=false) (gk:g k=true) (s:∀ q,q≠k->g q=f q):LvN g (n+1):=by
 obtain ⟨a,a1,a2,a3⟩:=h;have nk:k ∉ a:=fun x=>by have:=(a2 k).1 x;rw [fk] at this;cases this
 have spl:∀ {a:List Int},a.Pairwise (·<·)->k ∉ a->∃ b:List Int,b.Pairwise (·<·)/\(∀ q,q∈b↔q=k\/q∈a)/\b.length=a.length+1:=by
  intro a;induction a with
  | nil=>intro _ _;exact ⟨[k],List.pairwise_singleton _ _,fun q=>by simp,rfl⟩
  | cons x a ih =>
   intro p hk;obtain ⟨p1,p2⟩:=List.pairwise_cons.1 p;have xk:x≠k:=fun e=>hk (by rw [e];exact List.mem_cons_self ..)
   by_cases c:x<k
   ·obtain ⟨b,b1,b2,b3⟩:=ih p2 (fun q=>hk (List.mem_cons_of_mem _ q))
    refine ⟨x::b,List.pairwise_cons.2 ⟨fun y hy=>?_,b1⟩,fun q=>?_,by simp [b3]⟩
    ·rcases (b2 y).1 hy with e | e
     ·omega
     ·exact p1 y e
    ·rw [List.mem_cons,List.mem_cons,b2 q]
     constructor
     ·rintro (e | e | e)
      ·exact .inr (.inl e)
      ·exact .inl e
      ·exact .inr (.inr e)
     ·rintro (e | e | e)
      ·exact .inr (.inl e)
      ·exact .inl e
      ·exact .inr (.inr e)
   ·refine ⟨k::x::a,List.pairwise_cons.2 ⟨fun y hy=>?_,p⟩,fun q=>List.mem_cons,rfl⟩
    rcases List.mem_cons.1 hy with e | e
    ·omega
    ·have:=p1 y e;omega
 obtain ⟨b,b1,b2,b3⟩:=spl a1 nk;refine ⟨b,b1,fun q=>?_,by omega⟩
 rw [b2 q];by_cases e:q=k
 ·subst e;simp [gk]
 ·rw [s q e,<-a2 q];simp [e]
theorem LvN.drop (h:LvN f n) {k:Int} (fk:f k=true) (gk:g k=false) (s:∀ q,q≠k->g q=f q):0<n/\LvN g (n-1):=by
 obtain ⟨a,a1,a2,a3⟩:=h;have hk:=(a2 k).2 fk;have e:(a.erase k).length=a.length-1:=List.length_erase_of_mem hk;have nd:k ∉ a.erase k:=by
  have:∀ {a:List Int},a.Pairwise (·<·)->k ∉ a.erase k:=by
   intro a;induction a with
   | nil=>intro _ h;cases h
   | cons x a ih =>
    intro p q;obtain ⟨p1,p2⟩:=List.pairwise_cons.1 p;by_cases c:x=k
    ·subst c
     rw [List.erase_cons_head] at q;have:=p1 x q;omega
    ·rw [List.erase_cons_tail (by simpa using c)] at q
     rcases List.mem_cons.1 q with e | e
     ·exact c e.symm
     ·exact ih p2 e
  exact this a1
 refine ⟨by have:=List.length_pos_of_mem hk;omega,a.erase k,a1.sublist List.erase_sublist,fun q=>?_,by omega⟩
 by_cases c:q=k
 ·subst c
  rw [gk];exact ⟨fun x=>absurd x nd,fun x=>by cases x⟩
 ·rw [s q c,<-a2 q]
  exact List.mem_erase_of_ne c
end
def newE (l:List Ent) (rs:List (Option Rn)) (q:Int):Option Ent:=(look Ent.k q l).or (nw q rs)
def valO (o:Option Ent):Option Int:=match o with
 | some e=>if e.g=true then none else some e.v
 | none=>none
def valE (l:List Ent) (rs:List (Option Rn)) (q:Int):Option Int:=valO (newE l rs q)
theorem valO_live (o:Option Ent):(valO o).isSome=liveO o:=by
 cases o with
 | none=>rfl
 | some e=>unfold valO liveO;cases h:e.g<;>simp [h]
def liveE (l:List Ent) (rs:List (Option Rn)) (q:Int):Bool:=liveO (newE l rs q)
theorem valE_live (l:List Ent) (rs:List (Option Rn)) (q:Int):(valE l rs q).isSome=liveE l rs q:=valO_live _
theorem liveE_nil (rs:List (Option Rn)) (q:Int):liveE [] rs q=liveQ rs q:=rfl
theorem newE_ins {l:List Ent} {rs:List (Option Rn)} {e:Ent} (r:Rise Ent.k l) (q:Int):newE (ins Ent.k e l) rs q=if e.k=q then some e else newE l rs q:=by
 unfold newE;rw [look_ins r];split
 ·rfl
 ·rfl
structure TInv (eps buf keys:Int) (l:List Ent) (rs:List (Option Rn)) (live:Nat):Prop where
 len:rs.length=40
 run:∀ i r,rs.getD i none=some r->r.eps=eps/\0<r.l.length/\(r.l.length:Int)<=mostV buf i/\EOk r.l/\∀ e∈r.l,e.g=true->liveQ (rs.drop (i+1)) e.k=true
 lv:∀ i,∃ n,LvN (liveQ (rs.drop i)) n/\(n:Int)<=keys
 ok:EOk l
 room:(l.length:Int)<buf
 all:LvN (liveE l rs) live
 most:(live:Int)<=keys
section
variable {eps buf keys:Int} {l:List Ent} {rs:List (Option Rn)} {live:Nat}
theorem TInv.below (h:TInv eps buf keys l rs live) (b0:1<=buf) (b1:buf<=4294967296):∀ j,j<=40->(tot (rs.take j):Int)<=buf*2^j-buf
 | 0,_=>by show ((0:Nat):Int)<=_;simp
 | j+1,hj=>by
  have ih:=h.below b0 b1 j (by omega)
  have hj':j<rs.length:=by rw [h.len];omega
  rw [take_rs hj',tot_app];have p:(0:Int)<2^j:=Int.pow_pos (by decide)
  have q:0<buf*2^j:=Int.mul_pos (by omega) p
  have e:buf*2^(j+1)=2*(buf*2^j):=by rw [Int.pow_succ,<-Int.mul_assoc,Int.mul_comm]
  rw [e];rcases cases_rs rs j with x | ⟨r,x⟩
  ·rw [x]
   show ((tot (rs.take j)+0:Nat):Int)<=_;omega
  ·rw [x]
   have y:=(h.run j r x).2.2.1;have z:tot [some r]=r.l.length:=by rw [tot_some];rfl
   have m:mostV buf (j:Int)=min (buf*2^j) 4294967296:=by
    unfold mostV;rw [if_pos ⟨⟨b0,b1⟩,by omega,by omega⟩]
    simp
   rw [m] at y;rw [z];omega
theorem TInv.took (h:TInv eps buf keys l rs live) (b0:1<=buf) (b1:buf<=4294967296) {l':List Ent} (hl:(l'.length:Int)<=buf) (few:l'.length+tot rs<=2000000):(Go.Proofs.YtemijdhemdhclaaGreat.took rs l':Int)<=mostV buf (freeC rs:Nat)/\Go.Proofs.YtemijdhemdhclaaGreat.took rs l'<=2000000:=by
 have t:=tot_take rs (freeC rs+1);have c:freeC rs<40:=by unfold freeC;omega
 have m:mostV buf (freeC rs:Nat)=min (buf*2^freeC rs) 4294967296:=by
  unfold mostV;rw [if_pos ⟨⟨b0,b1⟩,by omega,by omega⟩]
  simp
 have k:Go.Proofs.YtemijdhemdhclaaGreat.took rs l'<=2000000:=by unfold Go.Proofs.YtemijdhemdhclaaGreat.took;omega
 refine ⟨?_,k⟩;rw [m];have p:(0:Int)<2^freeC rs:=Int.pow_pos (by decide)
 rcases Nat.lt_or_ge (free rs) 40 with x | x
 ·have f2:freeC rs=free rs:=by unfold freeC;omega
  have f3:=free_none (rs:=rs) (by rw [h.len];exact x)
  have hj:free rs<rs.length:=by rw [h.len];omega
  have e:Go.Proofs.YtemijdhemdhclaaGreat.took rs l'=l'.length+tot (rs.take (free rs)):=by
   unfold Go.Proofs.YtemijdhemdhclaaGreat.took;rw [f2,take_rs hj,tot_app];have y:rs.getD (free rs) none=none:=by rw [List.getD_eq_getElem?_getD,f3];rfl
   rw [y];rfl
  have:=h.below b0 b1 (free rs) (by omega)
  rw [f2];omega
 ·have f2:freeC rs=39:=by unfold freeC;omega
  rw [f2];have:buf*2^39>=1*2^39:=Int.mul_le_mul_of_nonneg_right b0 (by decide)
  omega
theorem TInv.put (h:TInv eps buf keys l rs live) {e:Ent} (oke:¬ (e.g=true/\e.v≠0)) {n:Nat} (hn:LvN (liveE (ins Ent.k e l) rs) n) (hk:(n:Int)<=keys) (room:((ins Ent.k e l).length:Int)<buf):TInv eps buf keys (ins Ent.k e l) rs n :=
 ⟨h.len,h.run,h.lv,EOk.iff.2 ⟨h.ok.rise.ins,ins_all (P:=fun x:Ent=>¬ (x.g=true/\x.v≠0)) oke (EOk.iff.1 h.ok).2⟩,room,hn,hk⟩
theorem laid_val {HR:HRt} {w w':World} {l' o kept:List Ent} (ok:EOk l') (hr:∀ r,some r∈rs->EOk r.l) (tr:TakeR rs l' o kept) {rn:Option Rn} (ld:LaidR HR w w' eps kept rn) (q:Int):valE [] (laid rs rn) q=valE l' rs q:=by
 obtain ⟨a,b⟩:=laid_live ok hr tr ld q;have e0:newE [] (laid rs rn) q=nw q (laid rs rn):=rfl;unfold valE;rw [e0];have e1:newE l' rs q=(look Ent.k q l').or (nw q rs):=rfl;rw [<-e1] at a b;cases c:liveO (nw q (laid rs rn)) with
 | true=>rw [b c]
 | false =>
  have x1:=valO_live (nw q (laid rs rn));have x2:=valO_live (newE l' rs q);rw [<-a] at x2;rw [c] at x1 x2;rw [Option.isSome_eq_false_iff,Option.isNone_iff_eq_none] at x1 x2;rw [x1,x2]
theorem TInv.take {HR:HRt} {w w':World} (h:TInv eps buf keys l rs live) (b0:1<=buf) (b1:buf<=4294967296) {l' o kept:List Ent} (ok:EOk l') (hl:(l'.length:Int)=buf) (few:l'.length+tot rs<=2000000) {n:Nat} (hn:LvN (liveE l' rs) n) (hk:(n:Int)<=keys) (tr:TakeR rs l' o kept) {rn:Option Rn} (ld:LaidR HR w w' eps kept rn):TInv eps buf keys [] (laid rs rn) n:=by
 have hr:∀ r,some r∈rs->EOk r.l:=fun r hr=>by
  obtain ⟨i,hi,e⟩:=List.mem_iff_getElem.1 hr;exact (h.run i r (by rw [getD_rs hi];exact e)).2.2.2.1
 have tk:=h.took b0 b1 (Int.le_of_eq hl) few;have lvE:∀ q,liveQ (laid rs rn) q=liveE l' rs q:=fun q=>by
  rw [<-liveE_nil,<-valE_live,<-valE_live,laid_val ok hr tr ld q]
 refine ⟨laid_len h.len rn,fun i r hr'=>?_,fun i=>?_,EOk.iff.2 ⟨List.Pairwise.nil,by simp⟩,by simpa using (show (0:Int)<buf by omega),hn.same fun q=>by rw [liveE_nil];exact lvE q,hk⟩
 ·rw [laid_get h.len] at hr'
  by_cases a:i<freeC rs
  ·rw [if_pos a] at hr';cases hr'
  ·rw [if_neg a] at hr'
   rw [laid_drop i (by omega)]
   by_cases b:i=freeC rs
   ·rw [if_pos b] at hr'
    rcases ld with ⟨_,e⟩ | ⟨k0,r',e,e1,e2,_⟩
    ·rw [e] at hr';cases hr'
    ·rw [e] at hr'
     cases hr'
     have fw:=tr.few.1;refine ⟨e1,?_,?_,by rw [e2];exact (tr.facts ok hr).2,fun x hx hg=>?_⟩
     ·rw [e2];exact List.length_pos_iff.2 k0
     ·rw [e2,b];have:=tk.1;omega
     ·rw [e2,tr.kp] at hx
      have:=(List.mem_filter.1 hx).2
      unfold keepP at this;rw [hg] at this;rw [b];simpa using this
   ·rw [if_neg b] at hr'
    exact h.run i r hr'
 ·rcases Nat.lt_or_ge (freeC rs) i with x | x
  ·obtain ⟨j,rfl⟩:∃ j,i=j+1:=⟨i-1,by omega⟩
   rw [laid_drop j (by omega)]
   exact h.lv (j+1)
  ·refine ⟨n,hn.same fun q=>?_,hk⟩
   rw [<-lvE q];have e:(laid rs rn)=(laid rs rn).take i++(laid rs rn).drop i:=(List.take_append_drop ..).symm;have e2:(laid rs rn).take i=List.replicate i none:=by
    unfold laid;rw [List.take_append_of_le_length (by simpa using x),List.take_replicate,Nat.min_eq_left x]
   have e3:nw q (laid rs rn)=nw q ((laid rs rn).drop i):=by
    conv=>lhs;rw [e,e2]
    exact nw_rep q i _
   unfold liveQ;rw [e3]
theorem TInv.of (l40:rs.length=40) (ft:fitAll eps buf rs 40) (ok:∀ r,some r∈rs->EOk r.l) (lv:∀ i,∃ n,LvN (liveQ (rs.drop i)) n/\(n:Int)<=keys) (okl:EOk l) (room:(l.length:Int)<buf) {n:Nat} (hn:LvN (liveE l rs) n) (hk:(n:Int)<=keys):TInv eps buf keys l rs n:=by
 refine ⟨l40,fun i r e=>?_,lv,okl,room,hn,hk⟩
 have hi:i<rs.length:=by
  rcases Nat.lt_or_ge i rs.length with x | x
  ·exact x
  ·rw [List.getD_eq_getElem?_getD,List.getElem?_eq_none x] at e;cases e
 have f:=ft i (by omega)
 rw [e] at f;simp only [fitsB,Bool.and_eq_true,decide_eq_true_eq,beq_iff_eq,List.all_eq_true] at f;obtain ⟨⟨⟨f1,f2⟩,f3⟩,f4⟩:=f;refine ⟨f3,f1,f2,ok r (mem_rs hi e),fun x hx hg=>?_⟩
 have:=f4 x hx
 unfold keepP at this;rw [hg] at this;simpa using this
end
end Go.Proofs.YtemijdhemdhclaaGreat
