/- What a segment predicts: its float is finite where the segment is right; the document's Guess. -/
import Derived.Test.YtepcddmkfdlcjaaGreatMPFg
namespace Go.Proofs.YtepcddmkfdlcjaaGreat
open Go.RowKit
set_option linter.unusedVariables false
theorem V64:V 4895412794951729152=18446744073709551616*Un:=by
 have:=V_pw2 64
 rwa [show (64+1023)*4503599627370496=4895412794951729152 from rfl,show (2:Nat)^64=18446744073709551616 from rfl] at this
theorem V65:V 4899916394579099648=36893488147419103232*Un:=by
 have:=V_pw2 65
 rwa [show (65+1023)*4503599627370496=4899916394579099648 from rfl,show (2:Nat)^65=36893488147419103232 from rfl] at this
theorem line_right {sl ic far:Nat} (hs:sl≤4611686018427387904) (hi:rg ic<9218868437227405312) (hf:far<18446744073709551616) :
  ∃ y p r v,Nr (far*Un) 1 y∧floatOfInt .f64 (far:Int)=y∧Nr (V sl*V y) Un p∧Ieee.double.mul sl y=some p∧Nr ((V p:Int)+SV ic).natAbs 1 r∧Ieee.double.add p ic=some v∧rg v<9218868437227405312∧SV v=rnd ((V p:Int)+SV ic) r∧y≤4895412794951729152∧p≤4899916394579099648:=by
 have U0:=Un_pos
 obtain ⟨y,hy,ey⟩:=ofInt_any (far:Int)
 rw [Int.natAbs_natCast] at hy
 have y1:y≤4895412794951729152:=hy.mono (Nr.of_eq (x:=18446744073709551616*Un) (y:=1) (by decide) (by rw [V64];omega)) (by decide) (by decide) (by
  rw [Nat.mul_one,Nat.mul_one];exact Nat.mul_le_mul_right _ (by omega))
 have dn:decide ((far:Int)<0)=false:=by simp
 rw [dn,Nat.min_eq_left (by omega),word_false] at ey
 have ys:rg y=y:=rg_small (by omega)
 have ss:rg sl=sl:=rg_small (by omega)
 obtain ⟨p,hp,ep⟩:=mul_fin (x:=sl) (y:=y) (by rw [ss];omega) (by rw [ys];omega)
 rw [ss,ys] at hp
 have p1:p≤4899916394579099648:=hp.mono (Nr.of_eq (x:=36893488147419103232*Un*Un) (y:=Un) U0 (by rw [V65])) U0 U0 (by
  refine Nat.mul_le_mul_right _ ?_
  have a:=V_le hs
  have b:=V_le y1
  rw [V2] at a
  rw [V64] at b
  have e:∀ U:Nat,2*U*(18446744073709551616*U)=36893488147419103232*U*U:=fun U=>by rw [Nat.mul_mul_mul_comm,←Nat.mul_assoc]
  exact Nat.le_trans (Nat.mul_le_mul a b) (Nat.le_of_eq (e Un)))
 rw [sg_small (x:=sl) (by omega),sg_small (x:=y) (by omega),Nat.min_eq_left (by omega)] at ep
 have ep':Ieee.double.mul sl y=some p:=ep
 have ps:rg p=p:=rg_small (by omega)
 have pv:SV p=V p:=SV_small (by omega)
 obtain ⟨r,hr,er⟩:=add_fin (x:=p) (y:=ic) (by rw [ps];omega) hi
 rw [pv] at hr er
 have ab:((V p:Int)+SV ic).natAbs≤V 9218868437227405311+36893488147419103232*Un:=by
  have a:=V_le p1
  rw [V65] at a
  have b:=V_le (show rg ic≤9218868437227405311 by omega)
  have c:(SV ic).natAbs≤V (rg ic):=by unfold SV;split<;>omega
  omega
 have r1:=top_fin hr ab
 rw [Nat.min_eq_left (show r≤9218868437227405312 by omega)] at er
 refine ⟨y,p,r,_,hy,ey,hp,ep',hr,er,by rw [word_rg _ _ (by omega)];omega,?_,y1,p1⟩
 rw [SV_word _ _ (by omega)]
 unfold rnd
 by_cases z:(V p:Int)+SV ic=0
 ·have r0:r=0:=by
   rw [z] at hr
   exact hr.uniq (Nr.zero 1 (by decide)) (by decide)
  subst r0
  rw [V_zero]
  simp
 ·rw [if_neg z]
  by_cases n:(V p:Int)+SV ic<0
  ·rw [if_pos (decide_eq_true n),if_pos n]
  ·rw [if_neg (by simpa using n),if_neg n]
theorem clampv_gv {v:Nat} {lo hi:Int} (hv:rg v<9218868437227405312) (h:lo≤hi) (l0:-9223372036854775808≤lo) (h1:hi<9223372036854775808):clampv v lo hi=gv (flo v) lo hi:=by
 have U0:=Un_pos
 have U1:(0:Int)<Un:=by omega
 unfold clampv
 rw [if_neg (by omega)]
 cases c1:cMin v
 ·cases c2:cMax v
  ·rfl
  ·rw [if_neg (by decide),if_pos rfl]
   unfold cMax at c2
   rw [f_ge hv (by decide),SVmax,decide_eq_true_eq] at c2
   have:9223372036854775808≤flo v:=by
    unfold flo
    exact (Int.le_ediv_iff_mul_le U1).2 c2
   unfold gv;omega
 ·rw [if_pos rfl]
  unfold cMin at c1
  rw [f_lt hv (by decide),SVmin,decide_eq_true_eq] at c1
  have:flo v < -9223372036854775808:=by
   unfold flo
   refine Int.ediv_lt_of_lt_mul U1 ?_
   rw [Int.neg_mul];exact c1
  unfold gv;omega
def gfl (sl ic far:Nat):Nat :=
 match Ieee.double.mul sl (floatOfInt .f64 (far:Int)) with
 | some p=>(Ieee.double.add p ic).getD 0
 | none=>0
def guessV (k:Int) (sl ic:Nat) (fr to q:Int):Int:=if errM sl ic fr to=0 then clampv (gfl sl ic (q-k).toNat) fr to else 0
theorem gfl_is {sl ic far y p v:Nat} (ey:floatOfInt .f64 (far:Int)=y) (ep:Ieee.double.mul sl y=some p) (ev:Ieee.double.add p ic=some v):gfl sl ic far=v:=by
 unfold gfl;rw [ey,ep];show (Ieee.double.add p ic).getD 0=v;rw [ev];rfl
theorem AL.is {s y base p v r:Nat} (h:AL s y base r) (ep:Ieee.double.mul s y=some p) (ev:Ieee.double.add p base=some v):r=v:=by
 rcases h with ⟨q,a,b⟩ | ⟨a,b⟩
 ·rw [ep] at a;cases a;rw [ev] at b;cases b;rfl
 ·have:=a p ep;rw [ev] at this;cases this
theorem gfl_mono {sl ic a b:Nat} (hs:sl≤4611686018427387904) (hi:rg ic<9218868437227405312) (hb:b<18446744073709551616) (h:a≤b):flo (gfl sl ic a)≤flo (gfl sl ic b):=by
 have U0:=Un_pos
 obtain ⟨y,p,r,v,hy,ey,hp,ep,hr,ev,fv,sv,-,-⟩:=line_right (far:=a) hs hi (by omega)
 obtain ⟨y',p',r',v',hy',ey',hp',ep',hr',ev',fv',sv',-,-⟩:=line_right (far:=b) hs hi hb
 rw [gfl_is ey ep ev,gfl_is ey' ep' ev']
 unfold flo
 refine Int.ediv_le_ediv (by omega) ?_
 rw [sv,sv']
 refine rnd_le hr hr' ?_
 have a1:y≤y':=hy.mono hy' (by decide) (by decide) (by rw [Nat.mul_one,Nat.mul_one];exact Nat.mul_le_mul_right _ h)
 have a2:p≤p':=hp.mono hp' U0 U0 (Nat.mul_le_mul_right _ (Nat.mul_le_mul_left _ (V_le a1)))
 have:=V_le a2
 omega
theorem guessV_gv {k q fr to:Int} {sl ic:Nat} (h:errM sl ic fr to=0) (k0:0≤k) (q1:q<18446744073709551616):guessV k sl ic fr to q=gv (flo (gfl sl ic (q-k).toNat)) fr to:=by
 obtain ⟨a,b,c,d,e⟩:=errM_ok.1 h
 obtain ⟨y,p,r,v,hy,ey,hp,ep,hr,ev,fv,sv,-,-⟩:=line_right (far:=(q-k).toNat) d e (by omega)
 unfold guessV
 rw [if_pos h,gfl_is ey ep ev,clampv_gv fv (by omega) (by omega) (by omega)]
theorem guessV_mono {k q q' fr to:Int} {sl ic:Nat} (h:errM sl ic fr to=0) (k0:0≤k) (q1:q'<18446744073709551616) (le:q≤q'):guessV k sl ic fr to q≤guessV k sl ic fr to q':=by
 obtain ⟨a,b,c,d,e⟩:=errM_ok.1 h
 rw [guessV_gv h k0 (by omega),guessV_gv h k0 q1]
 exact gv_mono (gfl_mono d e (by omega) (by omega))
theorem guessV_in {k q fr to:Int} {sl ic:Nat} (h:errM sl ic fr to=0) (k0:0≤k) (q1:q<18446744073709551616):fr≤guessV k sl ic fr to q∧guessV k sl ic fr to q≤to:=by
 obtain ⟨a,b,c,d,e⟩:=errM_ok.1 h
 rw [guessV_gv h k0 q1]
 exact gv_in (by omega)
end Go.Proofs.YtepcddmkfdlcjaaGreat
