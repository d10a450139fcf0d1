/- Layer 15 in plain words: what holds of classes behind Takes. No Go in it. -/
import Derived.Test.YtjhaiiegdnamcaaGreatAUOf2
import Derived.Test.YtjhaiiegdnamcaaGreatAUTk
namespace Go.Proofs.YtjhaiiegdnamcaaGreat
open Go.RowKit
set_option linter.unusedVariables false
def occ:List (Option Rn)→Nat
 | []=>0
 | none::rs=>2*occ rs
 | some _::rs=>1+2*occ rs
theorem occ_rep (n:Nat) (rs:List (Option Rn)):occ (List.replicate n none++rs)=2^n*occ rs:=by
 induction n with
 | zero=>simp
 | succ n ih =>
  rw [List.replicate_succ,List.cons_append]
  show 2*occ (List.replicate n none++rs)=_
  rw [ih,Nat.pow_succ]
  rw [Nat.mul_comm (2^n) 2,Nat.mul_assoc]
theorem occ_free:∀ {rs:List (Option Rn)},free rs<rs.length→occ rs+1=2^free rs+2^(free rs+1)*occ (rs.drop (free rs+1))
 | [],h=>by simp at h
 | none::rs,_=>by show 2*occ rs+1=2^0+2^1*occ rs;omega
 | some r::rs,h=>by
  have h':free rs<rs.length:=by simpa [free] using h
  have ih:=occ_free h'
  show 1+2*occ rs+1=2^(free rs+1)+2^(free rs+1+1)*occ (rs.drop (free rs+1))
  rw [Nat.pow_succ 2 (free rs+1),Nat.mul_comm (2^(free rs+1)) 2,Nat.mul_assoc,Nat.pow_succ 2 (free rs)]
  rw [Nat.pow_succ 2 (free rs)] at ih
  omega
theorem occ_ge (rs:List (Option Rn)):2^free rs≤occ rs+1:=by
 induction rs with
 | nil=>exact Nat.le_refl _
 | cons o rs ih=>cases o with
  | none=>show 2^0≤_;omega
  | some r=>show 2^(free rs+1)≤1+2*occ rs+1;rw [Nat.pow_succ];omega
structure HInv (eps buf:Int) (rs:List (Option Rn)) (t:Nat):Prop where
 len:rs.length=40
 occ:Go.Proofs.YtjhaiiegdnamcaaGreat.occ rs≤t
 run:∀ i r,rs.getD i none=some r→r.eps=eps∧0<r.l.length∧(r.l.length:Int)≤buf*2^i∧∀ e∈r.l,e.g=true→liveQ (rs.drop (i+1)) e.k=true
theorem HInv.none (eps buf:Int):HInv eps buf (List.replicate 40 none) 0:=by
 refine ⟨by simp,?_,fun i r h=>?_⟩
 ·have:=occ_rep 40 []
  rw [List.append_nil] at this
  rw [this]
  exact Nat.le_refl _
 ·rw [List.getD_eq_getElem?_getD,List.getElem?_replicate] at h
  split at h<;>cases h
theorem HInv.mono {eps buf:Int} {rs:List (Option Rn)} {t t':Nat} (h:HInv eps buf rs t) (k:t≤t'):HInv eps buf rs t':=⟨h.len,Nat.le_trans h.occ k,h.run⟩
section
variable {eps buf:Int} {rs:List (Option Rn)} {t:Nat}
theorem HInv.free (h:HInv eps buf rs t) (ht:t≤200):Go.Proofs.YtjhaiiegdnamcaaGreat.free rs<8∧freeC rs=Go.Proofs.YtjhaiiegdnamcaaGreat.free rs∧rs[Go.Proofs.YtjhaiiegdnamcaaGreat.free rs]?=some Option.none:=by
 have a:=occ_ge rs
 have b:=h.occ
 have c:Go.Proofs.YtjhaiiegdnamcaaGreat.free rs<8:=Nat.lt_of_not_le fun q=>by
  have:2^8≤2^Go.Proofs.YtjhaiiegdnamcaaGreat.free rs:=Nat.pow_le_pow_right (by decide) q
  omega
 exact ⟨c,by unfold freeC;omega,free_none (by rw [h.len];omega)⟩
theorem HInv.below (h:HInv eps buf rs t) (b0:1≤buf):∀ j,j≤40→(tot (rs.take j):Int)≤buf*2^j-buf
 | 0,_=>by show ((0:Nat):Int)≤_;simp
 | j+1,hj=>by
  have ih:=h.below b0 j (by omega)
  have hj':j<rs.length:=by rw [h.len];omega
  rw [take_rs hj',tot_app]
  have p:(0:Int)<2^j:=Int.pow_pos (by decide)
  have q:0<buf*2^j:=Int.mul_pos (by omega) p
  have e:buf*2^(j+1)=2*(buf*2^j):=by rw [Int.pow_succ,←Int.mul_assoc,Int.mul_comm]
  rw [e]
  rcases cases_rs rs j with x | ⟨r,x⟩
  ·rw [x]
   show ((tot (rs.take j)+0:Nat):Int)≤_
   omega
  ·rw [x]
   have y:=(h.run j r x).2.2.1
   have z:tot [some r]=r.l.length:=by rw [tot_some];rfl
   rw [z]
   omega
theorem HInv.took (h:HInv eps buf rs t) (ht:t≤200) (b0:1≤buf) {l:List Ent} (hl:(l.length:Int)=buf):Go.Proofs.YtjhaiiegdnamcaaGreat.took rs l=l.length+tot (rs.take (Go.Proofs.YtjhaiiegdnamcaaGreat.free rs))∧(Go.Proofs.YtjhaiiegdnamcaaGreat.took rs l:Int)≤buf*2^Go.Proofs.YtjhaiiegdnamcaaGreat.free rs:=by
 obtain ⟨f1,f2,f3⟩:=h.free ht
 have hj:Go.Proofs.YtjhaiiegdnamcaaGreat.free rs<rs.length:=by rw [h.len];omega
 have e:Go.Proofs.YtjhaiiegdnamcaaGreat.took rs l=l.length+tot (rs.take (Go.Proofs.YtjhaiiegdnamcaaGreat.free rs)):=by
  unfold Go.Proofs.YtjhaiiegdnamcaaGreat.took
  rw [f2,take_rs hj,tot_app]
  have x:rs.getD (Go.Proofs.YtjhaiiegdnamcaaGreat.free rs) Option.none=Option.none:=by rw [List.getD_eq_getElem?_getD,f3];rfl
  rw [x]
  rfl
 refine ⟨e,?_⟩
 have:=h.below b0 (Go.Proofs.YtjhaiiegdnamcaaGreat.free rs) (by omega)
 rw [e]
 omega
theorem laid_get {o:Option Rn} (l40:rs.length=40) (i:Nat):(laid rs o).getD i none=if i<freeC rs then none else if i=freeC rs then o else rs.getD i none:=by
 unfold laid
 rw [List.getD_eq_getElem?_getD]
 by_cases a:i<freeC rs
 ·rw [if_pos a,List.getElem?_append_left (by simpa using a),List.getElem?_replicate,if_pos a]
  rfl
 ·rw [if_neg a,List.getElem?_append_right (by simpa using Nat.le_of_not_lt a),List.length_replicate]
  by_cases b:i=freeC rs
  ·rw [if_pos b,b,Nat.sub_self]
   rfl
  ·rw [if_neg b]
   obtain ⟨m,hm⟩:∃ m,i-freeC rs=m+1:=⟨i-freeC rs-1,by omega⟩
   rw [hm,List.getElem?_cons_succ,List.getElem?_drop,show freeC rs+1+m=i by omega,List.getD_eq_getElem?_getD]
theorem laid_drop {o:Option Rn} (i:Nat) (hi:freeC rs≤i):(laid rs o).drop (i+1)=rs.drop (i+1):=by
 unfold laid
 rw [List.drop_append,List.length_replicate,List.drop_of_length_le (by simp;omega),List.nil_append]
 obtain ⟨m,hm⟩:∃ m,i+1-freeC rs=m+1:=⟨i-freeC rs,by omega⟩
 rw [hm,List.drop_succ_cons,List.drop_drop,show freeC rs+1+m=i+1 by omega]
theorem HInv.step {HR:HRt} {w w':World} (h:HInv eps buf rs t) (ht:t≤200) (b0:1≤buf) {l o kept:List Ent} (hl:(l.length:Int)=buf) (tr:TakeR rs l o kept) {rn:Option Rn} (ld:LaidR HR w w' eps kept rn):HInv eps buf (laid rs rn) (t+1):=by
 obtain ⟨f1,f2,f3⟩:=h.free ht
 have tk:=h.took ht b0 hl
 refine ⟨laid_len h.len rn,?_,fun i r hr=>?_⟩
 ·have a:=occ_free (rs:=rs) (by rw [h.len];omega)
  have b:Go.Proofs.YtjhaiiegdnamcaaGreat.occ (laid rs rn)=2^freeC rs*Go.Proofs.YtjhaiiegdnamcaaGreat.occ (rn::rs.drop (freeC rs+1)):=occ_rep _ _
  have c:Go.Proofs.YtjhaiiegdnamcaaGreat.occ (rn::rs.drop (freeC rs+1))≤1+2*Go.Proofs.YtjhaiiegdnamcaaGreat.occ (rs.drop (freeC rs+1)):=by
   cases rn with
   | none=>show 2*_≤_;omega
   | some r=>exact Nat.le_refl _
  have d:=h.occ
  rw [b,f2]
  rw [f2] at c
  have e:=Nat.mul_le_mul_left (2^Go.Proofs.YtjhaiiegdnamcaaGreat.free rs) c
  rw [Nat.mul_add,Nat.mul_one,←Nat.mul_assoc,←Nat.pow_succ,Nat.succ_eq_add_one] at e
  omega
 ·rw [laid_get h.len] at hr
  by_cases a:i<freeC rs
  ·rw [if_pos a] at hr;cases hr
  ·rw [if_neg a] at hr
   rw [laid_drop i (by omega)]
   by_cases b:i=freeC rs
   ·rw [if_pos b] at hr
    rcases ld with ⟨_,e⟩ | ⟨k0,r',e,e1,e2,_⟩
    ·rw [e] at hr;cases hr
    ·rw [e] at hr
     cases hr
     have few:=tr.few.1
     refine ⟨e1,?_,?_,fun x hx hg=>?_⟩
     ·rw [e2];exact List.length_pos_iff.2 k0
     ·rw [e2,b,f2];have:=tk.2;omega
     ·rw [e2,tr.kp] at hx
      have:=(List.mem_filter.1 hx).2
      unfold keepP at this
      rw [hg] at this
      rw [b]
      simpa using this
   ·rw [if_neg b] at hr
    exact h.run i r hr
theorem laid_tot {HR:HRt} {w w':World} {l o kept:List Ent} (tr:TakeR rs l o kept) {rn:Option Rn} (ld:LaidR HR w w' eps kept rn):tot (laid rs rn)≤tot rs+l.length:=by
 have a:=tot_take rs (freeC rs+1)
 have b:=tr.few.1
 unfold took at b
 have c:tot (laid rs rn)=tot (rn::rs.drop (freeC rs+1)):=by
  unfold laid
  rw [tot_app]
  have:∀ n,tot (List.replicate n (none:Option Rn))=0:=fun n=>by
   induction n with
   | zero=>rfl
   | succ n ih=>rw [List.replicate_succ,tot_none];exact ih
  rw [this,Nat.zero_add]
 rw [c]
 rcases ld with ⟨_,e⟩ | ⟨_,r',e,_,e2,_⟩
 ·rw [e,tot_none];omega
 ·rw [e,tot_some,e2];omega
theorem laid_live {HR:HRt} {w w':World} {l o kept:List Ent} (ok:EOk l) (hr:∀ r,some r∈rs→EOk r.l) (tr:TakeR rs l o kept) {rn:Option Rn} (ld:LaidR HR w w' eps kept rn) (q:Int):let a:=nw q (laid rs rn);let b:=(Go.Proofs.YtjhaiiegdnamcaaGreat.look Ent.k q l).or (nw q rs);liveO a=liveO b∧(liveO a=true→a=b):=by
 have lk:=tr.look ok hr q
 have fc:=tr.facts ok hr
 have e1:nw q (laid rs rn)=(Go.Proofs.YtjhaiiegdnamcaaGreat.look Ent.k q kept).or (nw q (rs.drop (freeC rs+1))):=by
  unfold laid
  rw [nw_rep]
  rcases ld with ⟨k0,e⟩ | ⟨_,r',e,_,e2,_⟩
  ·rw [e,nw_none,k0];rfl
  ·rw [e,nw_some,e2]
 have e2:nw q rs=(nw q (rs.take (freeC rs+1))).or (nw q (rs.drop (freeC rs+1))):=by rw [←nw_app,List.take_append_drop]
 have e3:Go.Proofs.YtjhaiiegdnamcaaGreat.look Ent.k q kept=(Go.Proofs.YtjhaiiegdnamcaaGreat.look Ent.k q o).filter (keepP (liveQ (rs.drop (freeC rs+1)))):=by rw [tr.kp,look_filter fc.1.rise]
 show liveO (nw q (laid rs rn))=liveO ((Go.Proofs.YtjhaiiegdnamcaaGreat.look Ent.k q l).or (nw q rs))∧(liveO (nw q (laid rs rn))=true→nw q (laid rs rn)=(Go.Proofs.YtjhaiiegdnamcaaGreat.look Ent.k q l).or (nw q rs))
 rw [e1,e2,e3,←Option.or_assoc,←lk]
 cases ho:Go.Proofs.YtjhaiiegdnamcaaGreat.look Ent.k q o with
 | none=>exact ⟨rfl,fun _=>rfl⟩
 | some x =>
  have xk:=look_key ho
  by_cases p:keepP (liveQ (rs.drop (freeC rs+1))) x=true
  ·rw [show (some x).filter (keepP (liveQ (rs.drop (freeC rs+1))))=some x by simp [Option.filter,p]]
   exact ⟨rfl,fun _=>rfl⟩
  ·rw [show (some x).filter (keepP (liveQ (rs.drop (freeC rs+1))))=none by simp [Option.filter,p]]
   have p':keepP (liveQ (rs.drop (freeC rs+1))) x=false:=by simpa using p
   unfold keepP at p'
   simp only [Bool.or_eq_false_iff,Bool.not_eq_false'] at p'
   have lv:liveO (nw q (rs.drop (freeC rs+1)))=false:=by have:=p'.2;rw [xk] at this;exact this
   refine ⟨?_,fun h=>?_⟩
   ·show liveO (nw q (rs.drop (freeC rs+1)))=!x.g
    rw [lv,p'.1]
    rfl
   ·have h':liveO (nw q (rs.drop (freeC rs+1)))=true:=h
    rw [lv] at h';cases h'
theorem HInv.fits (h:HInv eps buf rs t) (b0:1≤buf) (b1:buf≤4294967296) (few:tot rs≤2000000):fitAll eps buf rs 40:=by
 intro j hj
 rcases cases_rs rs j with e | ⟨r,e⟩
 ·rw [e];rfl
 ·obtain ⟨e1,e2,e3,e4⟩:=h.run j r e
  have e5:=tot_mem (mem_rs (by rw [h.len];exact hj) e)
  rw [e]
  have m:mostV buf (j:Int)=min (buf*2^j) 4294967296:=by
   unfold mostV
   rw [if_pos ⟨⟨b0,b1⟩,by omega,by omega⟩]
   simp
  have d1:decide (0<r.l.length)=true:=by simpa using e2
  have d2:decide ((r.l.length:Int)≤mostV buf (j:Int))=true:=by rw [m];simp;omega
  have d3:(r.eps == eps)=true:=by simpa using e1
  have d4:r.l.all (keepP (liveQ (rs.drop (j+1))))=true:=by
   rw [List.all_eq_true]
   intro x hx
   unfold keepP
   cases hg:x.g with
   | false=>rfl
   | true=>rw [e4 x hx hg];rfl
  simp only [fitsB,d1,d2,d3,d4,Bool.and_self]
end
end Go.Proofs.YtjhaiiegdnamcaaGreat
