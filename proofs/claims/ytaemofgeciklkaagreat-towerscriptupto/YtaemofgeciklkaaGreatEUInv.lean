import Derived.Test.YtaemofgeciklkaaGreatEUOf2
import Derived.Test.YtaemofgeciklkaaGreatEUTk
set_option linter.unusedVariables false
set_option maxHeartbeats 8000000
set_option maxRecDepth 20000
open Go.Proofs.Tryz
namespace Go.Proofs.YtaemofgeciklkaaGreat
open Go.RowKit
section
variable {eps buf:Int} {rs:List (Option Rn)} {t:Nat}
theorem adT {o:Option Rn} (kJ:rs.length=40) (i:Nat):(laid rs o).getD i none=if i<freeC rs then none else if i=freeC rs then o else rs.getD i none:=by
 unfold laid;rw [qag];by_cases a:i<freeC rs
 ·rw [Ym a,qau (by simpa using a),qbk,Ym a]
  rfl
 ·rw [Yl a,qaZ (by simpa using Nat.le_of_not_lt a),qbc]
  by_cases b:i=freeC rs
  ·rw [Ym b,b,Nat.sub_self]
   rfl
  ·rw [Yl b]
   obtain ⟨m,hm⟩:∃ m,i-freeC rs=m+1:=⟨i-freeC rs-1,ω⟩;rw [hm,List.getElem?_cons_succ,List.getElem?_drop,show freeC rs+1+m=i by omega,qag]
theorem TQ {o:Option Rn} (i:Nat) (hi:freeC rs<=i):(laid rs o).drop (i+1)=rs.drop (i+1):=by unfold laid;rw [List.drop_append,qbc,qbo ζ,List.nil_append];obtain ⟨m,hm⟩:∃ m,i+1-freeC rs=m+1:=⟨i-freeC rs,ω⟩;rw [hm,List.drop_succ_cons,List.drop_drop,show freeC rs+1+m=i+1 by omega]
variable {HR:bH} {w w':World} {l o kept:List ah} {rn:Option Rn}
theorem adU (tr:fV rs l o kept) (ld:gZ HR w w' eps kept rn):tot (laid rs rn)<=tot rs+l.length:=by
 have a:=pU rs (freeC rs+1);have b:=tr.few.1;unfold took at b;have c:tot (laid rs rn)=tot (rn::rs.drop (freeC rs+1)):=by
  unfold laid;rw [vU];have:∀ n,tot (List.replicate n (none:Option Rn))=0:=fun n=>by
   induction n with
   | zero=>rfl
   | succ n ih=>rw [List.replicate_succ,Cz];exact ih
  rw [this,qai]
 rw [c];rcases ld with ⟨_,e⟩ | ⟨_,r',e,_,e2,_⟩
 ·rw [e,Cz];omega
 ·rw [e,vT,e2];omega
theorem adV (ok:aR l) (hr:∀ r,some r∈rs->aR r.l) (tr:fV rs l o kept) (ld:gZ HR w w' eps kept rn) (q:Int):let a:=nw q (laid rs rn);let b:=(Go.Proofs.YtaemofgeciklkaaGreat.look ah.k q l).or (nw q rs);iK a=iK b/\(iK a=true->a=b):=by
 have lk:=tr.look ok hr q;have fc:=tr.facts ok hr;have e1:nw q (laid rs rn)=(Go.Proofs.YtaemofgeciklkaaGreat.look ah.k q kept).or (nw q (rs.drop (freeC rs+1))):=by
  unfold laid;rw [yP];rcases ld with ⟨k0,e⟩ | ⟨_,r',e,_,e2,_⟩
  ·rw [e,yO,k0];rfl
  ·rw [e,rI,e2]
 have e2:nw q rs=(nw q (rs.take (freeC rs+1))).or (nw q (rs.drop (freeC rs+1))):=by rw [<-Rk,List.take_append_drop]
 have e3:Go.Proofs.YtaemofgeciklkaaGreat.look ah.k q kept=(Go.Proofs.YtaemofgeciklkaaGreat.look ah.k q o).filter (aW (aM (rs.drop (freeC rs+1)))):=by rw [tr.kp,acs fc.1.rise]
 show iK (nw q (laid rs rn))=iK ((Go.Proofs.YtaemofgeciklkaaGreat.look ah.k q l).or (nw q rs))/\(iK (nw q (laid rs rn))=true->nw q (laid rs rn)=(Go.Proofs.YtaemofgeciklkaaGreat.look ah.k q l).or (nw q rs));rw [e1,e2,e3,<-Option.or_assoc,<-lk];cases ho:Go.Proofs.YtaemofgeciklkaaGreat.look ah.k q o with
 | none=>exact ⟨rfl,fun _=>rfl⟩
 | some x =>
  have xk:=Ch ho;by_cases p:aW (aM (rs.drop (freeC rs+1))) x=true
  ·rw [show (some x).filter (aW (aM (rs.drop (freeC rs+1))))=some x by simp [Option.filter,p]]
   exact ⟨rfl,fun _=>rfl⟩
  ·rw [show (some x).filter (aW (aM (rs.drop (freeC rs+1))))=none by simp [Option.filter,p]]
   have p':aW (aM (rs.drop (freeC rs+1))) x=false:=(by simpa using p);unfold aW at p';simp only [Bool.or_eq_false_iff,Bool.not_eq_false'] at p';have lv:iK (nw q (rs.drop (freeC rs+1)))=false:=(by have:=p'.2;rw [xk] at this;exact this);refine ⟨?_,fun h=>?_⟩
   ·show iK (nw q (rs.drop (freeC rs+1)))=!x.g
    rw [lv,p'.1];rfl
   ·have h':iK (nw q (rs.drop (freeC rs+1)))=true:=h
    rw [lv] at h';cases h'
end
theorem Di:∀ {a b:List Int},a.Pairwise (·<·)->(∀ x∈a,x∈b)->a.length<=b.length
 | [],b,_,_=>Γ _
 | x::a,b,h,s=>by
  obtain ⟨h1,h2⟩:=List.pairwise_cons.1 h;have hx:=s x (qat ..);have e:(b.erase x).length=b.length-1:=List.length_erase_of_mem hx;have p:0<b.length:=List.length_pos_of_mem hx;have:=Di (b:=b.erase x) h2 fun y hy=>(List.mem_erase_of_ne (by have:=h1 y hy;omega)).2 (s y (qay _ hy))
  simp only [qak];omega
def aT (f:Int->Bool) (n:Nat):Prop:=∃ ks:List Int,ks.Pairwise (·<·)/\(∀ q,q∈ks↔f q=true)/\ks.length=n
section
variable {f g:Int->Bool} {n m:Nat}
theorem aT.le (h:aT f n) (h':aT g m) (s:∀ q,f q=true->g q=true):n<=m:=by
 obtain ⟨a,a1,a2,a3⟩:=h;obtain ⟨b,b1,b2,b3⟩:=h';have:=Di (b:=b) a1 fun x hx=>(b2 x).2 (s x ((a2 x).1 hx))
 omega
theorem aT.one (h:aT f n) (h':aT f m):n=m:=Nat.le_antisymm (h.le h' fun _ x=>x) (h'.le h fun _ x=>x)
theorem aT.same (h:aT f n) (s:∀ q,g q=f q):aT g n:=by obtain ⟨a,a1,a2,a3⟩:=h;exact ⟨a,a1,fun q=>by rw [s];exact a2 q,a3⟩
theorem aT.nil (h:∀ q,f q=false):aT f 0:=⟨[],List.Pairwise.nil,fun q=>by rw [h q];simp,rfl⟩
theorem aT.put (h:aT f n) {k:Int} (fk:f k=false) (gk:g k=true) (s:∀ q,q≠k->g q=f q):aT g (n+1):=by
 obtain ⟨a,a1,a2,a3⟩:=h;have nk:k ∉ a:=fun x=>by have:=(a2 k).1 x;rw [fk] at this;cases this
 have spl:∀ {a:List Int},a.Pairwise (·<·)->k ∉ a->∃ b:List Int,b.Pairwise (·<·)/\(∀ q,q∈b↔q=k\/q∈a)/\b.length=a.length+1:=by
  intro a;induction a with
  | nil=>intro _ _;exact ⟨[k],List.pairwise_singleton _ _,fun q=>ε,rfl⟩
  | cons x a ih =>
   intro p hk;obtain ⟨p1,p2⟩:=List.pairwise_cons.1 p;have xk:x≠k:=fun e=>hk (by rw [e];exact qat ..)
   by_cases c:x<k
   ·obtain ⟨b,b1,b2,b3⟩:=ih p2 (fun q=>hk (qay _ q))
    refine ⟨x::b,List.pairwise_cons.2 ⟨fun y hy=>?_,b1⟩,fun q=>?_,by simp [b3]⟩
    ·rcases (b2 y).1 hy with e | e
     ·omega
     ·exact p1 y e
    ·rw [qaf,qaf,b2 q]
     constructor
     ·rintro (e | e | e)
      ·exact .inr (.inl e)
      ·exact .inl e
      ·exact .inr (.inr e)
     ·rintro (e | e | e)
      ·exact .inr (.inl e)
      ·exact .inl e
      ·exact .inr (.inr e)
   ·refine ⟨k::x::a,List.pairwise_cons.2 ⟨fun y hy=>?_,p⟩,fun q=>qaf,rfl⟩
    rcases qaf.1 hy with e | e
    ·omega
    ·have:=p1 y e;omega
 obtain ⟨b,b1,b2,b3⟩:=spl a1 nk;refine ⟨b,b1,fun q=>?_,ω⟩
 rw [b2 q];by_cases e:q=k
 ·subst e;simp [gk]
 ·rw [s q e,<-a2 q];simp [e]
theorem aT.drop (h:aT f n) {k:Int} (fk:f k=true) (gk:g k=false) (s:∀ q,q≠k->g q=f q):0<n/\aT g (n-1):=by
 obtain ⟨a,a1,a2,a3⟩:=h;have hk:=(a2 k).2 fk;have e:(a.erase k).length=a.length-1:=List.length_erase_of_mem hk;have nd:k ∉ a.erase k:=by
  have:∀ {a:List Int},a.Pairwise (·<·)->k ∉ a.erase k:=by
   intro a;induction a with
   | nil=>intro _ h;cases h
   | cons x a ih =>
    intro p q;obtain ⟨p1,p2⟩:=List.pairwise_cons.1 p;by_cases c:x=k
    ·subst c
     rw [List.erase_cons_head] at q;have:=p1 x q;omega
    ·rw [List.erase_cons_tail (by simpa using c)] at q
     rcases qaf.1 q with e | e
     ·exact c e.symm
     ·exact ih p2 e
  exact this a1
 refine ⟨by have:=List.length_pos_of_mem hk;omega,a.erase k,a1.sublist List.erase_sublist,fun q=>?_,ω⟩
 by_cases c:q=k
 ·subst c
  rw [gk];exact ⟨fun x=>absurd x nd,fun x=>by cases x⟩
 ·rw [s q c,<-a2 q]
  exact List.mem_erase_of_ne c
end
def newE (l:List ah) (rs:List (Option Rn)) (q:Int):Option ah:=(look ah.k q l).or (nw q rs)
def zp (o:Option ah):Option Int:=match o with
 | some e=>if e.g=true then none else some e.v
 | none=>none
def bV (l:List ah) (rs:List (Option Rn)) (q:Int):Option Int:=zp (newE l rs q)
theorem Ju (o:Option ah):(zp o).isSome=iK o:=by
 cases o with
 | none=>rfl
 | some e=>unfold zp iK;cases h:e.g<;>simp [h]
def ct (l:List ah) (rs:List (Option Rn)) (q:Int):Bool:=iK (newE l rs q)
theorem zq (l:List ah) (rs:List (Option Rn)) (q:Int):(bV l rs q).isSome=ct l rs q:=Ju _
theorem TU (rs:List (Option Rn)) (q:Int):ct [] rs q=aM rs q:=rfl
variable {l:List ah} {rs:List (Option Rn)}
theorem TV {e:ah} (r:aH ah.k l) (q:Int):newE (ins ah.k e l) rs q=if e.k=q then some e else newE l rs q:=by
 unfold newE;rw [Qz r];split
 ·rfl
 ·rfl
structure jt (eps buf keys:Int) (l:List ah) (rs:List (Option Rn)) (live:Nat):Prop where
 len:rs.length=40
 run:∀ i r,rs.getD i none=some r->r.eps=eps/\0<r.l.length/\(r.l.length:Int)<=jL buf i/\aR r.l/\∀ e∈r.l,e.g=true->aM (rs.drop (i+1)) e.k=true
 lv:∀ i,∃ n,aT (aM (rs.drop i)) n/\(n:Int)<=keys
 ok:aR l
 room:(l.length:Int)<buf
 all:aT (ct l rs) live
 most:(live:Int)<=keys
theorem adW (h:aH ah.k l):(l.map ah.k).Pairwise (·<·):=by rw [List.pairwise_map];exact h
section
variable {eps buf keys:Int} {l:List ah} {rs:List (Option Rn)} {live:Nat}
theorem jt.below (h:jt eps buf keys l rs live) (b0:1<=buf) (b1:buf<=4294967296):∀ j,j<=40->(tot (rs.take j):Int)<=buf*2^j-buf
 | 0,_=>by show ((0:Nat):Int)<=_;simp
 | j+1,hj=>by
  have ih:=h.below b0 b1 j ω;have mT:j<rs.length:=by rw [h.len];omega
  rw [vW mT,vU];have p:(0:Int)<2^j:=Int.pow_pos γ;have q:0<buf*2^j:=Int.mul_pos ω p;have e:buf*2^(j+1)=2*(buf*2^j):=by rw [Int.pow_succ,<-Int.mul_assoc,qaa]
  rw [e];rcases jk rs j with x | ⟨r,x⟩
  ·rw [x]
   show ((tot (rs.take j)+0:Nat):Int)<=_;omega
  ·rw [x]
   have y:=(h.run j r x).2.2.1;have z:tot [some r]=r.l.length:=(by rw [vT];rfl);have m:jL buf (j:Int)=min (buf*2^j) 4294967296:=(by unfold jL;rw [Ym ⟨⟨b0,b1⟩,ω,ω⟩];simp);rw [m] at y;rw [z];omega
variable {l':List ah}
theorem jt.took (h:jt eps buf keys l rs live) (b0:1<=buf) (b1:buf<=4294967296) (hl:(l'.length:Int)<=buf) (few:l'.length+tot rs<=2000000):(Go.Proofs.YtaemofgeciklkaaGreat.took rs l':Int)<=jL buf (freeC rs:Nat)/\Go.Proofs.YtaemofgeciklkaaGreat.took rs l'<=2000000:=by
 have t:=pU rs (freeC rs+1);have c:freeC rs<40:=by unfold freeC;omega
 have m:jL buf (freeC rs:Nat)=min (buf*2^freeC rs) 4294967296:=by unfold jL;rw [Ym ⟨⟨b0,b1⟩,ω,ω⟩];simp
 have k:Go.Proofs.YtaemofgeciklkaaGreat.took rs l'<=2000000:=by unfold Go.Proofs.YtaemofgeciklkaaGreat.took;omega
 refine ⟨?_,k⟩;rw [m];have p:(0:Int)<2^freeC rs:=Int.pow_pos γ;rcases qaB (free rs) 40 with x | x
 ·have f2:freeC rs=free rs:=by unfold freeC;omega
  have f3:=Rl (rs:=rs) (by rw [h.len];exact x)
  have hj:free rs<rs.length:=by rw [h.len];omega
  have e:Go.Proofs.YtaemofgeciklkaaGreat.took rs l'=l'.length+tot (rs.take (free rs)):=by unfold Go.Proofs.YtaemofgeciklkaaGreat.took;rw [f2,vW hj,vU];have y:rs.getD (free rs) none=none:=(by rw [qag,f3];rfl);rw [y];rfl
  have:=h.below b0 b1 (free rs) ω
  rw [f2];omega
 ·have f2:freeC rs=39:=by unfold freeC;omega
  rw [f2];have:buf*2^39>=1*2^39:=qae b0 γ;omega
variable {n:Nat}
theorem jt.put (h:jt eps buf keys l rs live) {e:ah} (eZ:¬ (e.g=true/\e.v≠0)) (hn:aT (ct (ins ah.k e l) rs) n) (hk:(n:Int)<=keys) (room:((ins ah.k e l).length:Int)<buf):jt eps buf keys (ins ah.k e l) rs n :=
 ⟨h.len,h.run,h.lv,aR.iff.2 ⟨h.ok.rise.ins,vL (P:=fun x:ah=>¬ (x.g=true/\x.v≠0)) eZ (aR.iff.1 h.ok).2⟩,room,hn,hk⟩
variable {HR:bH} {w w':World} {o kept:List ah} {rn:Option Rn}
theorem adX (ok:aR l') (hr:∀ r,some r∈rs->aR r.l) (tr:fV rs l' o kept) (ld:gZ HR w w' eps kept rn) (q:Int):bV [] (laid rs rn) q=bV l' rs q:=by
 obtain ⟨a,b⟩:=adV ok hr tr ld q;have e0:newE [] (laid rs rn) q=nw q (laid rs rn):=rfl;unfold bV;rw [e0];have e1:newE l' rs q=(look ah.k q l').or (nw q rs):=rfl;rw [<-e1] at a b;cases c:iK (nw q (laid rs rn)) with
 | true=>rw [b c]
 | false =>
  have x1:=Ju (nw q (laid rs rn));have x2:=Ju (newE l' rs q);rw [<-a] at x2;rw [c] at x1 x2;rw [Option.isSome_eq_false_iff,Option.isNone_iff_eq_none] at x1 x2;rw [x1,x2]
theorem jt.take (h:jt eps buf keys l rs live) (b0:1<=buf) (b1:buf<=4294967296) (ok:aR l') (hl:(l'.length:Int)=buf) (few:l'.length+tot rs<=2000000) (hn:aT (ct l' rs) n) (hk:(n:Int)<=keys) (tr:fV rs l' o kept) (ld:gZ HR w w' eps kept rn):jt eps buf keys [] (laid rs rn) n:=by
 have hr:∀ r,some r∈rs->aR r.l:=fun r hr=>by obtain ⟨i,hi,e⟩:=List.mem_iff_getElem.1 hr;exact (h.run i r (by rw [fI hi];exact e)).2.2.2.1
 have tk:=h.took b0 b1 (Int.le_of_eq hl) few;have TY:∀ q,aM (laid rs rn) q=ct l' rs q:=fun q=>by rw [<-TU,<-zq,<-zq,adX ok hr tr ld q]
 refine ⟨ac7 h.len rn,fun i r fP=>?_,fun i=>?_,aR.iff.2 ⟨List.Pairwise.nil,ε⟩,by simpa using (show (0:Int)<buf by omega),hn.same fun q=>by rw [TU];exact TY q,hk⟩
 ·rw [adT h.len] at fP
  by_cases a:i<freeC rs
  ·rw [Ym a] at fP;cases fP
  ·rw [Yl a] at fP
   rw [TQ i ω];by_cases b:i=freeC rs
   ·rw [Ym b] at fP
    rcases ld with ⟨_,e⟩ | ⟨k0,r',e,e1,e2,_⟩
    ·rw [e] at fP;cases fP
    ·rw [e] at fP
     cases fP
     have fw:=tr.few.1;refine ⟨e1,?_,?_,by rw [e2];exact (tr.facts ok hr).2,fun x hx hg=>?_⟩
     ·rw [e2];exact qbi.2 k0
     ·rw [e2,b];have:=tk.1;omega
     ·rw [e2,tr.kp] at hx
      have:=(List.mem_filter.1 hx).2
      unfold aW at this;rw [hg] at this;rw [b];simpa using this
   ·rw [Yl b] at fP
    exact h.run i r fP
 ·rcases qaB (freeC rs) i with x | x
  ·obtain ⟨j,rfl⟩:∃ j,i=j+1:=⟨i-1,ω⟩
   rw [TQ j ω];exact h.lv (j+1)
  ·refine ⟨n,hn.same fun q=>?_,hk⟩
   rw [<-TY q];have e:(laid rs rn)=(laid rs rn).take i++(laid rs rn).drop i:=(List.take_append_drop ..).symm;have e2:(laid rs rn).take i=List.replicate i none:=(by unfold laid;rw [List.take_append_of_le_length (by simpa using x),List.take_replicate,qaU x]);have e3:nw q (laid rs rn)=nw q ((laid rs rn).drop i):=by
    conv=>lhs;rw [e,e2]
    exact yP q i _
   unfold aM;rw [e3]
theorem jt.of (kJ:rs.length=40) (ft:fitAll eps buf rs 40) (ok:∀ r,some r∈rs->aR r.l) (lv:∀ i,∃ n,aT (aM (rs.drop i)) n/\(n:Int)<=keys) (jq:aR l) (room:(l.length:Int)<buf) (hn:aT (ct l rs) n) (hk:(n:Int)<=keys):jt eps buf keys l rs n:=by
 refine ⟨kJ,fun i r e=>?_,lv,jq,room,hn,hk⟩
 have hi:i<rs.length:=by
  rcases qaB i rs.length with x | x
  ·exact x
  ·rw [qag,qbb x] at e;cases e
 have f:=ft i ω;rw [e] at f;simp only [tR,Bool.and_eq_true,decide_eq_true_eq,beq_iff_eq,List.all_eq_true] at f;obtain ⟨⟨⟨f1,f2⟩,f3⟩,f4⟩:=f;refine ⟨f3,f1,f2,ok r (kG hi e),fun x hx hg=>?_⟩
 have:=f4 x hx
 unfold aW at this;rw [hg] at this;simpa using this
end
variable {HR:bH}
theorem adY (H:bj HR) (ao:Option Addr) (c:Nat) (rs:List (Option Rn)) (q:Int) (q0:0<=q) (q1:q<18446744073709551616) (hl:rs.length<=2000000) (w:World) (h:PR HR w ao rs) :
  Calls prog 104 #[.slice ao rs.length c,BY q] w fun e w'=>e=χ (.bool (aM rs q))/\Gw w w':=by
 have HP:ag (PR HR w ao rs):=h;have HH:ag (bj HR):=H;obtain ⟨n,hn⟩:=qbr rs.length;have LN:ag (rs.length=n):=hn;rw [hn] at hl ⊢;obtain ⟨A,hA⟩:=qbr (aM rs q);have av:ag (aM rs q=A):=hA;rw [hA];clear h H hn hA;go_enter func104,ntmps104;go_wp2_with fail;go_loopg [11] n (fun gg lj wr=>∃ i:Nat,lj=By (i:Int)/\i<=n/\n-i<=gg/\ag (Gw w wr)/\ag (aM (rs.drop i) q=A))
 case atStart=>exact ⟨0,rfl,Γ _,ω,(show ag _ from Gw.refl w),(by rw [List.drop_zero];exact av)⟩
 case round =>
  clear av;obtain ⟨i,rfl,a1,a2,G,N⟩:=hrel;obtain ⟨wS,aS⟩:=qbs wr;subst aS;by_cases ar:i<n
  ·have dH:(i:Int)<(n:Int):=(by omega);obtain ⟨b,off,rfl,hb,hc⟩:=(HP.o.gw HH.o.kp G.o).cells (by rw [LN.o];omega)
   have ci:=hc i (by rw [LN.o];exact ar)
   have DR:=rJ (rs:=rs) (i:=i) (by rw [LN.o];exact ar)
   clear hc;rcases jk rs i with e | ⟨r,e⟩
   ·rw [e] at ci DR
    have N':ag (aM (rs.drop (i+1)) q=A):=(by have:=N.o;unfold aM at this ⊢;rw [DR,yO] at this;exact this);have cH:wS.cell? (φ b (off+i))=some (.pointer none):=ci;clear ci e DR N;go_wp2_with fail;go_roundg (n-(i+1))
    case measure=>omega
    case rel=>exact ⟨i+1,by go_num,ω,Yk _,G,N'⟩
   ·rw [e] at ci DR
    have cH:wS.cell? (φ b (off+i))=some (IS (r.p)):=ci;have RR:=(HP.o.runs r (kG (by rw [LN.o];exact ar) e)).gw HH.o.kp G.o
    obtain ⟨x,y,z,t,f1,f2,f3⟩:=pV (look ah.k q r.l);have GT:ag (Calls prog 119 #[IS (r.p),BY q] wS fun e w'=>e=χ (.tuple #[.agg #[BY x,BY y,.bool z],.bool t])/\Gw wS w'):=by
     have:=HH.o.look RR q q0 q1
     rw [f1] at this;exact this
    have NR:=N.o;unfold aM at NR;rw [DR,rI] at NR;have NT:ag (t=true->A=!z):=fun h=>by
     rw [h] at f3;rw [f2] at h;cases hk:look ah.k q r.l with
     | none=>rw [hk] at h;cases h
     | some en =>
      rw [<-NR,hk];show iK (some en)=_;rw [<-hk,f3];rfl
    have NF:ag (t=false->aM (rs.drop (i+1)) q=A):=fun h=>by
     rw [f2] at h;cases hk:look ah.k q r.l with
     | none=>rw [hk] at NR;exact NR
     | some en=>rw [hk] at h;cases h
    generalize r.p=rp at cH GT;clear ci e DR N RR f1 f2 f3 NR;go_wp2_with fail;refine Calls.mono GT.o ?_;rintro e u1 ⟨rfl,gg⟩;have G1:ag (Gw w (u1.alloc (.cells #[BY x,BY y,.bool z] 71))):=(G.o.trans gg).alloc _ _;clear gg GT G;cases t with
    | false =>
     have N':ag (aM (rs.drop (i+1)) q=A):=NF.o rfl;clear NF NT;go_wp2_with fail;go_roundg (n-(i+1))
     case measure=>omega
     case rel=>exact ⟨i+1,by go_num,ω,Yk _,G1,N'⟩
    | true =>
     have e:=NT.o rfl;subst e;clear NF NT;go_wp2_with fail;go_ret;exact ⟨rfl,G1.o⟩
  ·have:A=false:=by
    have:=N.o
    rw [qbo (by rw [LN.o];omega)] at this
    exact this.symm
   subst this;go_wp2_with fail;go_ret;exact ⟨rfl,G.o⟩
def iN (l:List ah) (rs:List (Option Rn)) (G:Int):Prop:=∀ n,aT (aM rs) n->∃ m:Nat,(m:Int)=n+G/\aT (ct l rs) m
variable {l:List ah}
theorem TZ (r:aH ah.k l) {i:Nat} (hi:i<l.length) (q:Int):look ah.k q (l.take (i+1))=if (l.getD i aq).k=q then some (l.getD i aq) else look ah.k q (l.take i):=by
 have e:l.take (i+1)=l.take i++[l.getD i aq]:=by rw [qaW,qah hi,ji hi];rfl
 have nk:(l.getD i aq).k=q->look ah.k q (l.take i)=none:=fun eq=>by
  unfold look;rw [List.find?_eq_none];intro x hx;have:=List.pairwise_append.1 (by rw [<-e];exact r.sublist (List.take_sublist _ _):((l.take i++[l.getD i aq]).Pairwise fun a b=>a.k<b.k))
  have:=this.2.2 x hx _ (qbg.2 rfl)
  rw [beq_iff_eq];omega
 rw [e];unfold look at nk ⊢;rw [List.find?_append];generalize l.getD i aq=y at nk;by_cases c:y.k=q
 ·rw [Ym c,nk c]
  simp [c]
 ·rw [Yl c]
  simp [c]
variable {rs:List (Option Rn)}
theorem adZ (r:aH ah.k l) {i:Nat} (hi:i<l.length) {G:Int} (h:iN (l.take i) rs G) (z nM:Bool) (hz:(l.getD i aq).g=z) (hw:aM rs (l.getD i aq).k=nM):iN (l.take (i+1)) rs (G+(if z&&nM then -1 else if !z&&!nM then 1 else 0)):=by
 intro n hn;obtain ⟨m,m1,m2⟩:=h n hn;have Dj:ct (l.take i) rs (l.getD i aq).k=nM:=by
  unfold ct newE;have:look ah.k (l.getD i aq).k (l.take i)=none:=by
   unfold look;rw [List.find?_eq_none];intro x hx;have e:l.take (i+1)=l.take i++[l.getD i aq]:=(by rw [qaW,qah hi,ji hi];rfl);have:=List.pairwise_append.1 (by rw [<-e];exact r.sublist (List.take_sublist _ _):((l.take i++[l.getD i aq]).Pairwise fun a b=>a.k<b.k))
   have:=this.2.2 x hx _ (qbg.2 rfl)
   rw [beq_iff_eq];omega
  rw [this];exact hw
 have Dk:ct (l.take (i+1)) rs (l.getD i aq).k=!z:=by unfold ct newE;rw [TZ r hi,Ym rfl];show (!(l.getD i aq).g)=_;rw [hz]
 have nN:∀ q,q≠(l.getD i aq).k->ct (l.take (i+1)) rs q=ct (l.take i) rs q:=fun q hq=>by unfold ct newE;rw [TZ r hi,Yl (fun e=>hq e.symm)]
 cases z<;>cases nM
 ·exact ⟨m+1,by simp;omega,m2.put Dj Dk nN⟩
 ·exact ⟨m,by simp;omega,m2.same fun q=>by
   by_cases c:q=(l.getD i aq).k
   ·rw [c,Dj,Dk];rfl
   ·exact nN q c⟩
 ·exact ⟨m,by simp;omega,m2.same fun q=>by
   by_cases c:q=(l.getD i aq).k
   ·rw [c,Dj,Dk];rfl
   ·exact nN q c⟩
 ·obtain ⟨p,d⟩:=m2.drop Dj Dk nN
  exact ⟨m-1,by simp;omega,d⟩
theorem T7 (H:bj HR) (ao bo:Option Addr) (c d:Nat) (l:List ah) (rs:List (Option Rn)) (hl:l.length<=2000000) (hr:rs.length<=2000000) (rise:aH ah.k l) (w:World) (he:EL w ao l) (h:PR HR w bo rs) :
  Calls prog 77 #[.slice ao l.length c,.slice bo rs.length d] w fun e w'=>(∃ G:Int,e=χ (By G)/\iN l rs G/\-(l.length:Int)<=G/\G<=l.length)/\Gw w w':=by
 have LV:ag (∀ (W:World) (q:Int),Gw w W->0<=q->q<18446744073709551616->Calls prog 104 #[.slice bo rs.length d,BY q] W fun e w'=>e=χ (.bool (aM rs q))/\Gw W w'):=fun W q gg q0 q1=>adY H bo d rs q q0 q1 hr W (h.gw H.kp gg)
 have EA:ag (EL w ao l):=he;have RI:ag (aH ah.k l):=rise;obtain ⟨n,hn⟩:=qbr l.length;have LN:ag (l.length=n):=hn;have G0:ag (iN (l.take 0) rs 0):=fun m hm=>⟨m,ω,hm⟩
 rw [hn] at hl ⊢;generalize rs.length=rn at LV ⊢;clear he h H hn rise;go_enter func77,ntmps77;go_wp2_with fail;go_loopg [5,11] n (fun gg s3 lj wr=>∃ (i:Nat) (g:Int),s3=By g/\lj=By (i:Int)/\i<=n/\n-i<=gg/\-(i:Int)<=g/\g<=(i:Int)/\ag (Gw w wr)/\ag (iN (l.take i) rs g))
 case atStart=>exact ⟨0,0,rfl,rfl,Γ _,ω,ε,ε,(show ag _ from Gw.refl w),G0⟩
 case round =>
  clear G0;obtain ⟨i,g,rfl,rfl,a1,a2,a3,a4,G,N⟩:=hrel;obtain ⟨wS,aS⟩:=qbs wr;subst aS;by_cases ar:i<n
  ·have dH:(i:Int)<(n:Int):=(by omega);have il:i<l.length:=(by rw [LN.o];exact ar);obtain ⟨ab,af,rfl,cN,ju⟩:=(EA.o.gw G.o).cells (by rw [LN.o];omega)
   obtain ⟨c0,c1,c2⟩:=ju i il;obtain ⟨⟨k0,k1⟩,_⟩:=EA.o.ok il;have LQ:=LV.o;have ST:ag (∀ z nM,(l.getD i aq).g=z->aM rs (l.getD i aq).k=nM->iN (l.take (i+1)) rs (g+(if z&&nM then -1 else if !z&&!nM then 1 else 0))):=fun z nM hz hw=>adZ RI.o il N.o z nM hz hw
   generalize (l.getD i aq).k=ki at c0 k0 k1 ST;generalize (l.getD i aq).v=vi at c1;have S2:=ST.o _ (aM rs ki) rfl rfl;have LK:ag (∀ (W:World),Gw w W->Calls prog 104 #[.slice bo rn d,BY ki] W fun e w'=>e=χ (.bool (aM rs ki))/\Gw W w'):=fun W gg=>LV.o W ki gg k0 k1
   generalize (l.getD i aq).g=gi at c2 S2;generalize aM rs ki=lq at LK S2;have S3:ag (iN (l.take (i+1)) rs (g+(if gi&&lq then -1 else if !gi&&!lq then 1 else 0))):=S2
   have GA:ag (Gw w (wS.alloc (.cells #[BY ki,BY vi,.bool gi] 71))):=G.o.alloc _ _;clear ju S2 LQ ST N G k0 k1;go_wp2_with fail;refine Calls.mono (LK.o _ GA.o) ?_;rintro e u1 ⟨rfl,gg⟩;have G1:ag (Gw w u1):=GA.o.trans gg;have E0:u1.heap[wS.heap.size]?=some (.cells #[BY ki,BY vi,.bool gi] 71 (0,0)):=(gg.below.block _ ε).trans (Ω _ _);obtain ⟨m0,m1,m2,_⟩:=lY E0;have ml:=ak E0;generalize wS.heap.size=bq at m0 m1 m2 ml;clear gg GA LK E0;have wp:IntKind.i64.wrap (g+1)=g+1:=(by rw [Δ];omega);have wm:IntKind.i64.wrap (g-1)=g-1:=(by rw [Δ];omega);have S4:ag (iN (l.take (i+1)) rs (if gi&&lq then g-1 else if !gi&&!lq then g+1 else g)):=by
    have:=S3.o
    revert this
    cases gi<;>cases lq<;>simp<;>intro h
    ·exact h
    ·exact h
    ·exact h
    ·have e:g+-1=g-1:=(by omega);rw [e] at h;exact h
   clear S3;cases gi<;>cases lq
   all_goals
    go_wp2_with fail;go_roundg (n-(i+1))
    case measure=>omega
    case rel=>exact ⟨i+1,_,rfl,by go_num,ω,Yk _,ω,ω,G1,(by simpa using S4)⟩
  ·have e:i=n:=(by omega);subst e;have N':ag (iN l rs g):=(by have:=N.o;rw [qaQ (by rw [LN.o];omega)] at this;exact this);go_wp2_with fail;go_ret
   exact ⟨⟨g,rfl,N'.o,a3,a4⟩,G.o⟩
def ma (l:List ah) (rs:List (Option Rn)) (most:Int) (n:Nat) (ok:Bool):Prop :=
 (ok=true/\(∀ i,∃ m,aT (aM (rs.drop i)) m/\(m:Int)<=most)/\aT (ct l rs) n/\(n:Int)<=most)\/(ok=false/\n=0/\((∃ i m,aT (aM (rs.drop i)) m/\most<(m:Int))\/∃ m,aT (ct l rs) m/\most<(m:Int)))
theorem ad0 {m:Nat} (h:aT (aM rs) m):m<=tot rs:=by
 obtain ⟨ks,k1,k2,k3⟩:=h;have:ks.length<=((lists rs).flatMap (List.map ah.k)).length:=Di k1 fun x hx=>by
  have jE:=(k2 x).1 hx;unfold aM at jE;cases hn:nw x rs with
  | none=>rw [hn] at jE;cases jE
  | some e =>
   have:∀ ls:List (List ah),df ah.k x ls=some e->∃ l∈ls,e∈l/\e.k=x:=by
    intro ls;induction ls with
    | nil=>intro h;cases h
    | cons l ls ih =>
     intro h;simp only [df] at h;cases hk:look ah.k x l with
     | some y=>rw [hk] at h;cases h;exact ⟨l,qat ..,vR hk⟩
     | none =>
      rw [hk] at h;obtain ⟨l',a,b⟩:=ih h;exact ⟨l',qay _ a,b⟩
   obtain ⟨l,a,b,c⟩:=this _ hn;exact List.mem_flatMap.2 ⟨l,a,qaA.2 ⟨e,b,c⟩⟩
 rw [List.length_flatMap] at this;unfold tot aN;simpa [<-k3] using this
theorem ad3 {r:Rn} (q:Int):aM (some r::rs) q=ct r.l rs q:=by unfold aM ct newE;rw [rI]
theorem ad4 (H:bj HR) (ao:Option Addr) (c b off d:Nat) (l:List ah) (rs:List (Option Rn)) (most:Int) (hm:0<=most) (hl:l.length+tot rs<=2000000) (hr:rs.length<=40) (hd:rs.length<=d) (rise:aH ah.k l) (w:World) (he:EL w ao l) (h:PR HR w (some (φ b off)) rs) :
  Calls prog 44 #[.slice ao l.length c,ψ b off rs.length d,By most] w fun e w'=>(∃ (n:Nat) (ok:Bool),e=π #[By (n:Int),.bool ok]/\ma l rs most n ok)/\Gw w w':=by
 have HH:ag (bj HR):=H;have HP:ag (PR HR w (some (φ b off)) rs):=h;have GL:ag (∀ W,Gw w W->Calls prog 77 #[.slice ao l.length c,ψ b off rs.length d] W fun e w'=>(∃ G:Int,e=χ (By G)/\iN l rs G/\-(l.length:Int)<=G/\G<=l.length)/\Gw W w'):=fun W gg=>T7 H ao (some (φ b off)) c d l rs ω ω rise W (he.gw gg) (h.gw H.kp gg)
 obtain ⟨ln,ax⟩:=qbr l.length;obtain ⟨n,hn⟩:=qbr rs.length;have LN:ag (rs.length=n):=hn;have TT:ag (ln+tot rs<=2000000):=by rw [<-ax];exact hl
 rw [ax] at GL hl ⊢;rw [hn] at GL hr hd ⊢;have ST:ag (aT (aM (rs.drop n)) 0):=aT.nil fun q=>by rw [qbo (by rw [hn];exact Yk _)];rfl
 have Ua:ag (∀ i,n<=i->∃ m,aT (aM (rs.drop i)) m/\(m:Int)<=most):=fun i hi=>⟨0,aT.nil fun q=>by rw [qbo (by rw [hn];exact hi)];rfl,hm⟩
 clear H h he rise ax hn;have wn:IntKind.i64.wrap ((n:Int)-1)=(n:Int)-1:=by rw [Δ];omega
 go_enter func44,ntmps44;go_wp2_with fail;go_loopg [6,8] (n+1) (fun gg s6 s8 wr=>∃ k m:Nat,s6=By (m:Int)/\s8=By ((k:Int)-1)/\k<=n/\k<gg+1/\m<=2000000/\ag (m<=tot (rs.drop k))/\ag (aT (aM (rs.drop k)) m)/\ag (∀ i,k<=i->∃ m,aT (aM (rs.drop i)) m/\(m:Int)<=most)/\ag (Gw w wr))
 case atStart=>exact ⟨n,0,rfl,rfl,Yk _,ω,ω,(show ag _ from Γ _),ST,Ua,(show ag _ from Gw.refl w)⟩
 case round =>
  clear ST Ua;obtain ⟨k,m,rfl,rfl,a1,a2,a3,MT,LV,AL,G⟩:=hrel;obtain ⟨wS,aS⟩:=qbs wr;subst aS;by_cases k0:k=0
  ·subst k0
   have rO:ag (∀ i,∃ m,aT (aM (rs.drop i)) m/\(m:Int)<=most):=fun i=>AL.o i (Γ _)
   have FI:ag (∀ g:Int,iN l rs g->∃ m':Nat,(m':Int)=m+g/\aT (ct l rs) m'):=fun g hg=>hg m (by have:=LV.o;rw [List.drop_zero] at this;exact this)
   have GB:=GL.o wS G.o;have ez:((0:Nat):Int)-1=-1:=rfl;rw [ez];clear AL LV MT;go_wp2_with fail;refine Calls.mono GB ?_;rintro e w1 ⟨⟨g,rfl,gr,gb⟩,gg⟩;obtain ⟨m',x1,x2⟩:=FI.o g gr;have G9:ag (Gw w w1):=G.o.trans gg;have X2:ag (aT (ct l rs) m'):=x2;have wg:IntKind.i64.wrap ((m:Int)+g)=(m:Int)+g:=(by rw [Δ];omega);clear x2 gg gr FI GB GL;by_cases dx:most<(m':Int)
   ·have tb:decide (most<(m:Int)+g)=true:=(by rw [<-x1];simpa using dx);have av:ag (ma l rs most 0 false):=.inr ⟨rfl,rfl,.inr ⟨m',X2.o,dx⟩⟩;clear dx;go_wp2_with fail;go_ret2;exact ⟨⟨0,false,rfl,av.o⟩,G9.o⟩
   ·have tb:decide (most<(m:Int)+g)=false:=(by rw [<-x1];simpa using dx);have av:ag (ma l rs most m' true):=.inl ⟨rfl,rO.o,X2.o,ω⟩;clear dx;go_wp2_with fail;go_ret2;exact ⟨⟨m',true,by show Ending.returned (.tuple #[By ((m:Int)+g),.bool true])=_;rw [<-x1],av.o⟩,G9.o⟩
  ·obtain ⟨j,rfl⟩:∃ j,k=j+1:=⟨k-1,ω⟩
   have ej:((j+1:Nat):Int)-1=(j:Int):=ω;rw [ej];have j0:(0:Int)<=(j:Int):=ω;have jn:(j:Int)<(n:Int):=ω;have jl:j<rs.length:=(by rw [LN.o];omega);obtain ⟨b',o',eb,hb,hc⟩:=(HP.o.gw HH.o.kp G.o).cells (by rw [LN.o];omega)
   injection eb with eb;injection eb with e1 e2;subst e1 e2;have ci:=hc j jl;have wj:IntKind.i64.wrap ((j:Int)-1)=(j:Int)-1:=(by rw [Δ];omega);clear hc;rcases jk rs j with e | ⟨r,e⟩
   ·rw [e] at ci
    have DR:=rJ (rs:=rs) (i:=j) jl;rw [e] at DR;have cH:wS.cell? (φ b (off+j))=some (.pointer none):=ci;have LV':ag (aT (aM (rs.drop j)) m):=LV.o.same fun q=>by rw [DR];rfl
    have MT':ag (m<=tot (rs.drop j)):=(by have:=MT.o;rw [DR,Cz];exact this);have rO:ag (∀ i,j<=i->∃ m,aT (aM (rs.drop i)) m/\(m:Int)<=most):=fun i hi=>by
     rcases qaB j i with x | x
     ·exact AL.o i x
     ·have ei:i=j:=(by omega);obtain ⟨m',m1,m2⟩:=AL.o (j+1) (Yk _);exact ⟨m',m1.same fun q=>by rw [ei,DR];rfl,m2⟩
    clear ci e DR LV MT AL;go_wp2_with fail;go_roundg j
    case measure=>omega
    case rel=>exact ⟨j,m,rfl,by go_num,ω,ω,a3,MT',LV',rO,G⟩
   ·rw [e] at ci
    have DR:=rJ (rs:=rs) (i:=j) jl;rw [e] at DR;have cH:wS.cell? (φ b (off+j))=some (IS (r.p)):=ci;have RR:=(HP.o.runs r (kG jl e)).gw HH.o.kp G.o;have LA:ag (∀ W,Gw wS W->Calls prog 61 #[IS (r.p)] W fun e w'=>(∃ bo c,e=χ (.slice bo r.l.length c)/\EL w' bo r.l)/\Gw W w'):=fun W gg=>(HH.o.told (RR.gw HH.o.kp gg)).mono fun e w' ⟨⟨bo,c,a,b,_⟩,d⟩=>⟨⟨bo,c,a,b⟩,d⟩
    have TD:ag (r.l.length+tot (rs.drop (j+1))=tot (rs.drop j)):=(by show _=_;rw [DR,vT]);have TL:tot (rs.drop j)<=2000000:=(by have:=pU rs j;have:=TT.o;omega);obtain ⟨kk,yN⟩:=qbr (j+1);have GA:ag (∀ (W:World) (xo yo:Option Addr) (xc yc:Nat),Gw wS W->EL W xo r.l->(0<(rs.drop kk).length->yo=some (φ b (off+kk)))->Calls prog 77 #[.slice xo r.l.length xc,.slice yo (n-kk) yc] W fun e w'=>(∃ G:Int,e=χ (By G)/\(iN r.l (rs.drop kk) G/\-(r.l.length:Int)<=G/\G<=r.l.length))/\Gw W w'):=fun W xo yo xc yc gg hx hy=>by
     have hpd:PR HR W yo (rs.drop kk):=⟨fun h0=>by
      rw [hy h0];have gW:=G.o.trans gg;obtain ⟨b',o',eb,eQ,iX⟩:=(HP.o.gw HH.o.kp gW).cells (by rw [LN.o];omega)
      injection eb with eb;injection eb with e1 e2;subst e1 e2;refine ⟨b,off+kk,rfl,eQ,fun i hi=>?_⟩
      rw [qax] at hi;have:=iX (kk+i) ω;rw [Nat.add_assoc,this,qag,qag,List.getElem?_drop],fun r hr=>(HP.o.gw HH.o.kp (G.o.trans gg)).runs r (qbn hr)⟩
     have:=T7 HH.o xo yo xc yc r.l (rs.drop kk) (by have:=RR.few;omega) (by rw [qax];have:=LN.o;omega) RR.ok.rise W hx hpd
     rw [qax,LN.o] at this;exact this
    have FI:ag (∀ g:Int,iN r.l (rs.drop kk) g->∃ m':Nat,(m':Int)=m+g/\aT (aM (rs.drop j)) m'/\m'<=tot (rs.drop j)):=fun g hg=>by
     rw [<-yN] at hg;obtain ⟨m',x1,x2⟩:=hg m LV.o;have x3:aT (aM (rs.drop j)) m':=x2.same fun q=>by rw [DR];exact ad3 q
     refine ⟨m',x1,x3,?_⟩;exact ad0 x3
    have rO:ag (∀ m':Nat,aT (aM (rs.drop j)) m'->(m':Int)<=most->∀ i,j<=i->∃ m,aT (aM (rs.drop i)) m/\(m:Int)<=most):=fun m' x y i hi=>by
     rcases qaB j i with z | z
     ·exact AL.o i z
     ·have ei:i=j:=(by omega);rw [ei];exact ⟨m',x,y⟩
    have few:=RR.few;obtain ⟨rl,zr⟩:=qbr r.l.length;rw [zr] at GA LA few TD;have HW:ag (∀ w',Gw wS w'->Gw wS w'/\w'.cell? (φ b (off+j))=some (IS (r.p))):=fun w' gg=>⟨gg,(gg.cell _ _ hb).trans cH⟩
    have Ub:ag (∃ L,r.l=L):=⟨_,rfl⟩;obtain ⟨L,hL⟩:=Ub.o;rw [hL] at GA LA FI;generalize r.p=rp at cH LA HW;have qn:∀ W:World,(binOp .eql 108 (IS rp) (.pointer none)).run prog W=.ok (.bool false) W:=fun _=>η
    have wk:IntKind.i64.wrap ((j:Int)+1)=(kk:Int):=(by rw [Δ];omega);have kn:(kk:Int)<=(n:Int):=ω;have Uc:kk<=n:=ω;have k00:(0:Int)<=(kk:Int):=ω;have HKK:ag (j+1=kk):=yN;clear ci e DR RR LV MT AL zr Ub hL jl yN;by_cases dk:d=kk
    ·have nk:n=kk:=(by omega);have GB:ag (∀ (W:World) (xo:Option Addr) (xc:Nat),Gw wS W->EL W xo L->Calls prog 77 #[.slice xo rl xc,ψ b off 0 0] W fun e w'=>(∃ G:Int,e=χ (By G)/\(iN L (rs.drop kk) G/\-(rl:Int)<=G/\G<=rl))/\Gw W w'):=fun W xo xc gg hx=>by
      have:=GA.o W xo (some (φ b off)) xc 0 gg hx (fun h0=>by rw [qax,LN.o] at h0;omega)
      rw [nk,Nat.sub_self] at this;exact this
     have dk':=dk.symm;subst dk';have nk':=nk.symm;subst nk';clear GA;go_wp2_with fail;go_region_held3 (fun w'=>Gw wS w'/\w'.cell? (φ b (off+j))=some (IS rp))
      ((refine HW.o _ ?_;(repeat (first | exact Gw.refl _ | exact Ξ δ | exact ag.o δ | refine Gw.drew ?_ | refine Gw.trans ?_ δ));done))
      ((
       first
       | (go_at_call_of 61 (IS rp);refine (LA.o _ (by repeat (first | exact Gw.refl _ | exact Ξ δ | exact ag.o δ | refine Gw.drew ?_ | refine Gw.drewN ?_ _))).mono ?_;rintro ex wA ⟨⟨nO,cA,rfl,zs⟩,gA⟩;have KA:ag (∀ W,Gw wA W->EL W nO L):=(fun W gg=>zs.gw gg);have FA:ag (Gw wS wA):=(Gw.trans (by repeat (first | exact Gw.refl _ | exact Ξ δ | exact ag.o δ | refine Gw.drew ?_ | refine Gw.drewN ?_ _)) gA);clear zs gA)
       | (go_at_call 77;refine (GB.o _ nO cA (by repeat (first | exact Gw.refl _ | exact Ξ δ | exact ag.o δ | refine Gw.drew ?_ | refine Gw.drewN ?_ _)) (by first | exact KA.o _ (Gw.refl _) | exact KA.o _ (Gw.drew (Gw.refl _)))).mono ?_;rintro ex wC ⟨⟨g,rfl,gr⟩,gC⟩;have ui:ag (iN L (rs.drop kk) g/\-(rl:Int)<=g/\g<=rl):=gr;have FC:ag (Gw wS wC):=(Gw.trans (by repeat (first | exact Gw.refl _ | exact Ξ δ | exact ag.o δ | refine Gw.drew ?_ | refine Gw.drewN ?_ _)) gC);clear gC gr)))
     all_goals
      obtain ⟨m',x1,x2,x3⟩:=FI.o g ui.o.1;have G9:ag (Gw w wC):=G.o.trans FC.o;have X2:ag (aT (aM (rs.drop j)) m'):=x2;have X3:ag (m'<=tot (rs.drop j)):=x3;have gb:=ui.o.2;have wg:IntKind.i64.wrap ((m:Int)+g)=(m:Int)+g:=(by rw [Δ];omega);clear x2 FC FI ui;by_cases dx:most<(m':Int)
      ·have tb:decide (most<(m:Int)+g)=true:=(by rw [<-x1];simpa using dx);have av:ag (ma l rs most 0 false):=.inr ⟨rfl,rfl,.inl ⟨j,m',X2.o,dx⟩⟩;clear dx;go_wp2_with fail;go_ret2;exact ⟨⟨0,false,rfl,av.o⟩,G9.o⟩
      ·have tb:decide (most<(m:Int)+g)=false:=(by rw [<-x1];simpa using dx);have Jv:ag (∀ i,j<=i->∃ m,aT (aM (rs.drop i)) m/\(m:Int)<=most):=rO.o m' X2.o ω;clear dx rO;go_wp2_with fail;go_roundg j
       case measure=>omega
       case rel=>exact ⟨j,m',by first | rw [wg,x1] | rw [x1],by go_num,ω,ω,ω,X3,X2,Jv,G9⟩
    ·have d1:¬ (d:Int)=(kk:Int):=(by omega);have d2:(kk:Int)<=(d:Int):=ω;have d3:¬ d=kk:=dk;have d4:kk<=d:=ω;have d5:(n:Int)<=(d:Int):=ω;have GB:ag (∀ (W:World) (xo:Option Addr) (xc:Nat),Gw wS W->EL W xo L->Calls prog 77 #[.slice xo rl xc,ψ b (off+kk) (n-kk) (d-kk)] W fun e w'=>(∃ G:Int,e=χ (By G)/\(iN L (rs.drop kk) G/\-(rl:Int)<=G/\G<=rl))/\Gw W w'):=fun W xo xc gg hx=>GA.o W xo (some (φ b (off+kk))) xc (d-kk) gg hx (fun _=>rfl)
     clear GA;go_wp2_with fail;go_region_held3 (fun w'=>Gw wS w'/\w'.cell? (φ b (off+j))=some (IS rp))
      ((refine HW.o _ ?_;(repeat (first | exact Gw.refl _ | exact Ξ δ | exact ag.o δ | refine Gw.drew ?_ | refine Gw.trans ?_ δ));done))
      ((
       first
       | (go_at_call_of 61 (IS rp);refine (LA.o _ (by repeat (first | exact Gw.refl _ | exact Ξ δ | exact ag.o δ | refine Gw.drew ?_ | refine Gw.drewN ?_ _))).mono ?_;rintro ex wA ⟨⟨nO,cA,rfl,zs⟩,gA⟩;have KA:ag (∀ W,Gw wA W->EL W nO L):=(fun W gg=>zs.gw gg);have FA:ag (Gw wS wA):=(Gw.trans (by repeat (first | exact Gw.refl _ | exact Ξ δ | exact ag.o δ | refine Gw.drew ?_ | refine Gw.drewN ?_ _)) gA);clear zs gA)
       | (go_at_call 77;refine (GB.o _ nO cA (by repeat (first | exact Gw.refl _ | exact Ξ δ | exact ag.o δ | refine Gw.drew ?_ | refine Gw.drewN ?_ _)) (by first | exact KA.o _ (Gw.refl _) | exact KA.o _ (Gw.drew (Gw.refl _)))).mono ?_;rintro ex wC ⟨⟨g,rfl,gr⟩,gC⟩;have ui:ag (iN L (rs.drop kk) g/\-(rl:Int)<=g/\g<=rl):=gr;have FC:ag (Gw wS wC):=(Gw.trans (by repeat (first | exact Gw.refl _ | exact Ξ δ | exact ag.o δ | refine Gw.drew ?_ | refine Gw.drewN ?_ _)) gC);clear gC gr)))
     all_goals
      obtain ⟨m',x1,x2,x3⟩:=FI.o g ui.o.1;have G9:ag (Gw w wC):=G.o.trans FC.o;have X2:ag (aT (aM (rs.drop j)) m'):=x2;have X3:ag (m'<=tot (rs.drop j)):=x3;have gb:=ui.o.2;have wg:IntKind.i64.wrap ((m:Int)+g)=(m:Int)+g:=(by rw [Δ];omega);clear x2 FC FI ui;by_cases dx:most<(m':Int)
      ·have tb:decide (most<(m:Int)+g)=true:=(by rw [<-x1];simpa using dx);have av:ag (ma l rs most 0 false):=.inr ⟨rfl,rfl,.inl ⟨j,m',X2.o,dx⟩⟩;clear dx;go_wp2_with fail;go_ret2;exact ⟨⟨0,false,rfl,av.o⟩,G9.o⟩
      ·have tb:decide (most<(m:Int)+g)=false:=(by rw [<-x1];simpa using dx);have Jv:ag (∀ i,j<=i->∃ m,aT (aM (rs.drop i)) m/\(m:Int)<=most):=rO.o m' X2.o ω;clear dx rO;go_wp2_with fail;go_roundg j
       case measure=>omega
       case rel=>exact ⟨j,m',by first | rw [wg,x1] | rw [x1],by go_num,ω,ω,ω,X3,X2,Jv,G9⟩
