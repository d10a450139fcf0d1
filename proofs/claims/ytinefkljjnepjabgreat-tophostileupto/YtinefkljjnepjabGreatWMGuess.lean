/- What a segment predicts: its float is finite where the segment is right; the document's Guess. -/
import Derived.Test.YtinefkljjnepjabGreatWPFg
namespace Go.Proofs.YtinefkljjnepjabGreat
open Go.RowKit
set_option linter.unusedVariables false
theorem V64:V 4895412794951729152=18446744073709551616*Un:=by
 have:=V_pw2 64
 rwa [show (64+1023)*4503599627370496=4895412794951729152 from rfl,show (2:Nat)^64=18446744073709551616 from rfl] at this
theorem V65:V 4899916394579099648=36893488147419103232*Un:=by
 have:=V_pw2 65
 rwa [show (65+1023)*4503599627370496=4899916394579099648 from rfl,show (2:Nat)^65=36893488147419103232 from rfl] at this
theorem line_right {sl ic far:Nat} (hs:sl≤4611686018427387904) (hi:rg ic<9218868437227405312) (hf:far<18446744073709551616) :
  ∃ y p r v,Nr (far*Un) 1 y∧floatOfInt .f64 (far:Int)=y∧Nr (V sl*V y) Un p∧Ieee.double.mul sl y=some p∧Nr ((V p:Int)+SV ic).natAbs 1 r∧Ieee.double.add p ic=some v∧rg v<9218868437227405312∧SV v=rnd ((V p:Int)+SV ic) r∧y≤4895412794951729152∧p≤4899916394579099648:=by
 have U0:=Un_pos
 obtain ⟨y,hy,ey⟩:=ofInt_any (far:Int)
 rw [Int.natAbs_natCast] at hy
 have y1:y≤4895412794951729152:=hy.mono (Nr.of_eq (x:=18446744073709551616*Un) (y:=1) (by decide) (by rw [V64];omega)) (by decide) (by decide) (by
  rw [Nat.mul_one,Nat.mul_one];exact Nat.mul_le_mul_right _ (by omega))
 have dn:decide ((far:Int)<0)=false:=by simp
 rw [dn,Nat.min_eq_left (by omega),word_false] at ey
 have ys:rg y=y:=rg_small (by omega)
 have ss:rg sl=sl:=rg_small (by omega)
 obtain ⟨p,hp,ep⟩:=mul_fin (x:=sl) (y:=y) (by rw [ss];omega) (by rw [ys];omega)
 rw [ss,ys] at hp
 have p1:p≤4899916394579099648:=hp.mono (Nr.of_eq (x:=36893488147419103232*Un*Un) (y:=Un) U0 (by rw [V65])) U0 U0 (by
  refine Nat.mul_le_mul_right _ ?_
  have a:=V_le hs
  have b:=V_le y1
  rw [V2] at a
  rw [V64] at b
  have e:∀ U:Nat,2*U*(18446744073709551616*U)=36893488147419103232*U*U:=fun U=>by rw [Nat.mul_mul_mul_comm,←Nat.mul_assoc]
  exact Nat.le_trans (Nat.mul_le_mul a b) (Nat.le_of_eq (e Un)))
 rw [sg_small (x:=sl) (by omega),sg_small (x:=y) (by omega),Nat.min_eq_left (by omega)] at ep
 have ep':Ieee.double.mul sl y=some p:=ep
 have ps:rg p=p:=rg_small (by omega)
 have pv:SV p=V p:=SV_small (by omega)
 obtain ⟨r,hr,er⟩:=add_fin (x:=p) (y:=ic) (by rw [ps];omega) hi
 rw [pv] at hr er
 have ab:((V p:Int)+SV ic).natAbs≤V 9218868437227405311+36893488147419103232*Un:=by
  have a:=V_le p1
  rw [V65] at a
  have b:=V_le (show rg ic≤9218868437227405311 by omega)
  have c:(SV ic).natAbs≤V (rg ic):=by unfold SV;split<;>omega
  omega
 have r1:=top_fin hr ab
 rw [Nat.min_eq_left (show r≤9218868437227405312 by omega)] at er
 refine ⟨y,p,r,_,hy,ey,hp,ep',hr,er,by rw [word_rg _ _ (by omega)];omega,?_,y1,p1⟩
 rw [SV_word _ _ (by omega)]
 unfold rnd
 by_cases z:(V p:Int)+SV ic=0
 ·have r0:r=0:=by
   rw [z] at hr
   exact hr.uniq (Nr.zero 1 (by decide)) (by decide)
  subst r0
  rw [V_zero]
  simp
 ·rw [if_neg z]
  by_cases n:(V p:Int)+SV ic<0
  ·rw [if_pos (decide_eq_true n),if_pos n]
  ·rw [if_neg (by simpa using n),if_neg n]
theorem clampv_gv {v:Nat} {lo hi:Int} (hv:rg v<9218868437227405312) (h:lo≤hi) (l0:-9223372036854775808≤lo) (h1:hi<9223372036854775808):clampv v lo hi=gv (flo v) lo hi:=by
 have U0:=Un_pos
 have U1:(0:Int)<Un:=by omega
 unfold clampv
 rw [if_neg (by omega)]
 cases c1:cMin v
 ·cases c2:cMax v
  ·rfl
  ·rw [if_neg (by decide),if_pos rfl]
   unfold cMax at c2
   rw [f_ge hv (by decide),SVmax,decide_eq_true_eq] at c2
   have:9223372036854775808≤flo v:=by
    unfold flo
    exact (Int.le_ediv_iff_mul_le U1).2 c2
   unfold gv;omega
 ·rw [if_pos rfl]
  unfold cMin at c1
  rw [f_lt hv (by decide),SVmin,decide_eq_true_eq] at c1
  have:flo v < -9223372036854775808:=by
   unfold flo
   refine Int.ediv_lt_of_lt_mul U1 ?_
   rw [Int.neg_mul];exact c1
  unfold gv;omega
def gfl (sl ic far:Nat):Nat :=
 match Ieee.double.mul sl (floatOfInt .f64 (far:Int)) with
 | some p=>(Ieee.double.add p ic).getD 0
 | none=>0
def guessV (k:Int) (sl ic:Nat) (fr to q:Int):Int:=if errM sl ic fr to=0 then clampv (gfl sl ic (q-k).toNat) fr to else 0
theorem gfl_is {sl ic far y p v:Nat} (ey:floatOfInt .f64 (far:Int)=y) (ep:Ieee.double.mul sl y=some p) (ev:Ieee.double.add p ic=some v):gfl sl ic far=v:=by
 unfold gfl;rw [ey,ep];show (Ieee.double.add p ic).getD 0=v;rw [ev];rfl
theorem AL.is {s y base p v r:Nat} (h:AL s y base r) (ep:Ieee.double.mul s y=some p) (ev:Ieee.double.add p base=some v):r=v:=by
 rcases h with ⟨q,a,b⟩ | ⟨a,b⟩
 ·rw [ep] at a;cases a;rw [ev] at b;cases b;rfl
 ·have:=a p ep;rw [ev] at this;cases this
theorem gfl_mono {sl ic a b:Nat} (hs:sl≤4611686018427387904) (hi:rg ic<9218868437227405312) (hb:b<18446744073709551616) (h:a≤b):flo (gfl sl ic a)≤flo (gfl sl ic b):=by
 have U0:=Un_pos
 obtain ⟨y,p,r,v,hy,ey,hp,ep,hr,ev,fv,sv,-,-⟩:=line_right (far:=a) hs hi (by omega)
 obtain ⟨y',p',r',v',hy',ey',hp',ep',hr',ev',fv',sv',-,-⟩:=line_right (far:=b) hs hi hb
 rw [gfl_is ey ep ev,gfl_is ey' ep' ev']
 unfold flo
 refine Int.ediv_le_ediv (by omega) ?_
 rw [sv,sv']
 refine rnd_le hr hr' ?_
 have a1:y≤y':=hy.mono hy' (by decide) (by decide) (by rw [Nat.mul_one,Nat.mul_one];exact Nat.mul_le_mul_right _ h)
 have a2:p≤p':=hp.mono hp' U0 U0 (Nat.mul_le_mul_right _ (Nat.mul_le_mul_left _ (V_le a1)))
 have:=V_le a2
 omega
theorem guessV_gv {k q fr to:Int} {sl ic:Nat} (h:errM sl ic fr to=0) (k0:0≤k) (q1:q<18446744073709551616):guessV k sl ic fr to q=gv (flo (gfl sl ic (q-k).toNat)) fr to:=by
 obtain ⟨a,b,c,d,e⟩:=errM_ok.1 h
 obtain ⟨y,p,r,v,hy,ey,hp,ep,hr,ev,fv,sv,-,-⟩:=line_right (far:=(q-k).toNat) d e (by omega)
 unfold guessV
 rw [if_pos h,gfl_is ey ep ev,clampv_gv fv (by omega) (by omega) (by omega)]
theorem guessV_mono {k q q' fr to:Int} {sl ic:Nat} (h:errM sl ic fr to=0) (k0:0≤k) (q1:q'<18446744073709551616) (le:q≤q'):guessV k sl ic fr to q≤guessV k sl ic fr to q':=by
 obtain ⟨a,b,c,d,e⟩:=errM_ok.1 h
 rw [guessV_gv h k0 (by omega),guessV_gv h k0 q1]
 exact gv_mono (gfl_mono d e (by omega) (by omega))
theorem guessV_in {k q fr to:Int} {sl ic:Nat} (h:errM sl ic fr to=0) (k0:0≤k) (q1:q<18446744073709551616):fr≤guessV k sl ic fr to q∧guessV k sl ic fr to q≤to:=by
 obtain ⟨a,b,c,d,e⟩:=errM_ok.1 h
 rw [guessV_gv h k0 q1]
 exact gv_in (by omega)
set_option maxRecDepth 10000 in
set_option maxHeartbeats 4000000 in
theorem rguess_any (k:Int) (sl ic:Nat) (fr to q:Int) (k0:0≤k) (k1:k<18446744073709551616) (q0:0≤q) (q1:q<18446744073709551616) (hf0:-9223372036854775808≤fr) (hf1:fr<9223372036854775808) (ht0:-9223372036854775808≤to) (ht1:to<9223372036854775808) (w:World) :
  Calls Tryz.prog 133 #[segV k sl ic fr to, .int .u64 q] w fun e w'=>e=.returned (.int .i64 (guessV k sl ic fr to q))∧Gw w w':=by
 have G0:Aside (Gw w (w.alloc (.cells #[.int .u64 k, .float .f64 sl, .float .f64 ic, .int .i64 fr, .int .i64 to] 100))):=(Gw.refl w).alloc _ _
 have C:Hid _:=fun W=>rcheck_any k sl ic fr to W hf0 hf1 ht0 ht1
 by_cases h:errM sl ic fr to=0
 ·obtain ⟨a,b,c,d,e⟩:=errM_ok.1 h
  obtain ⟨y,p,r,v,hy,ey,hp,ep,hr,ev,fv,sv,-,-⟩:=line_right (far:=(q-k).toNat) d e (by omega)
  have V:Hid (guessV k sl ic fr to q=clampv v fr to):=by
   show guessV k sl ic fr to q=clampv v fr to
   unfold guessV;rw [if_pos h,gfl_is ey ep ev]
  have A:Hid _:=fun W=>(ralong_any sl y (q-k).toNat ic (by omega) ey W).mono fun ex w' (hx:(∃ r,ex=.returned (.float .f64 r)∧AL sl y ic r)∧∃ n,w'=W.drewN n) =>
   show ex=.returned (.float .f64 v)∧Gw W w' from ⟨(by obtain ⟨⟨r,e1,al⟩,-⟩:=hx;rw [e1,al.is ep ev]),(by obtain ⟨-,n,e2⟩:=hx;rw [e2];exact (Gw.refl W).drewN n)⟩
  have L:Hid _:=fun W=>rclamp_any v fr to hf0 hf1 ht0 ht1 W
  rw [h] at C
  clear hy ey hp ep hr ev fv sv h
  rw [V.out]
  by_cases g:k<q
  ·have t1:decide (k<q)=true:=by simpa using g
   have mz:IntKind.u64.wrap (q-k)=((q-k).toNat:Int):=by rw [IntKind.wrap_u64];omega
   generalize (q-k).toNat=D at A mz
   clear g
   go_enter Tryz.func133,Tryz.ntmps133
   go_wp2_with fail
   refine (C.out _).mono ?_
   rintro ex w1 ⟨rfl,g1⟩
   have x0:w1.cell? ⟨w.heap.size,0,none⟩=some (.int .u64 k):=(g1.cell _ _ (by simp)).trans (by simp [go_sem])
   have x1:w1.cell? ⟨w.heap.size,1,none⟩=some (.float .f64 sl):=(g1.cell _ _ (by simp)).trans (by simp [go_sem])
   have x2:w1.cell? ⟨w.heap.size,2,none⟩=some (.float .f64 ic):=(g1.cell _ _ (by simp)).trans (by simp [go_sem])
   have x3:w1.cell? ⟨w.heap.size,3,none⟩=some (.int .i64 fr):=(g1.cell _ _ (by simp)).trans (by simp [go_sem])
   have x4:w1.cell? ⟨w.heap.size,4,none⟩=some (.int .i64 to):=(g1.cell _ _ (by simp)).trans (by simp [go_sem])
   have s1:w.heap.size<w1.heap.size:=by have:=g1.size;simp at this;omega
   have G:Aside (Gw w w1):=G0.out.trans g1
   have HK:Hid (∀ w',Gw w1 w'→Gw w1 w'∧w'.cell? ⟨w.heap.size,1,none⟩=some (.float .f64 sl)∧w'.cell? ⟨w.heap.size,2,none⟩=some (.float .f64 ic)∧w'.cell? ⟨w.heap.size,3,none⟩=some (.int .i64 fr)∧w'.cell? ⟨w.heap.size,4,none⟩=some (.int .i64 to)) :=
    fun w' g=>⟨g,(g.cell _ _ s1).trans x1,(g.cell _ _ s1).trans x2,(g.cell _ _ s1).trans x3,(g.cell _ _ s1).trans x4⟩
   clear g1 G0
   go_wp2_with fail
   go_region_held3 (fun w'=>Gw w1 w'∧w'.cell? ⟨w.heap.size,1,none⟩=some (.float .f64 sl)∧w'.cell? ⟨w.heap.size,2,none⟩=some (.float .f64 ic)∧w'.cell? ⟨w.heap.size,3,none⟩=some (.int .i64 fr)∧w'.cell? ⟨w.heap.size,4,none⟩=some (.int .i64 to))
    ((refine HK.out _ ?_;(repeat (first | exact Gw.refl _ | exact And.left (by assumption) | exact Hid.out (by assumption) | refine Gw.drew ?_ | refine Gw.trans ?_ (by assumption)));done))
    (first
    | (go_at_call 153;refine (A.out _).mono ?_;rintro ex w2 ⟨rfl,g2⟩;have G2:Hid (Gw w1 w2):=(Gw.trans (by repeat (first | exact Gw.refl _ | exact And.left (by assumption) | exact Hid.out (by assumption) | refine Gw.drew ?_)) g2);clear g2)
    | (go_at_call 152;refine (L.out _).mono ?_;rintro ex w3 ⟨rfl,rfl⟩))
   all_goals go_wp2_with fail
   all_goals exact bodyPost_ret (v:=.int .i64 (clampv v fr to)) (by simp [results,Tryz.results133,go_sem]) rfl ⟨rfl,Gw.trans G.out (by repeat (first | exact Gw.refl _ | exact And.left (by assumption) | exact Hid.out (by assumption) | refine Gw.drew ?_ | refine Gw.trans ?_ (by assumption)))⟩
  ·have t1:decide (k<q)=false:=by simpa using g
   have wz:((q-k).toNat:Int)=0:=by omega
   rw [wz] at A
   clear g
   go_enter Tryz.func133,Tryz.ntmps133
   go_wp2_with fail
   refine (C.out _).mono ?_
   rintro ex w1 ⟨rfl,g1⟩
   have x0:w1.cell? ⟨w.heap.size,0,none⟩=some (.int .u64 k):=(g1.cell _ _ (by simp)).trans (by simp [go_sem])
   have x1:w1.cell? ⟨w.heap.size,1,none⟩=some (.float .f64 sl):=(g1.cell _ _ (by simp)).trans (by simp [go_sem])
   have x2:w1.cell? ⟨w.heap.size,2,none⟩=some (.float .f64 ic):=(g1.cell _ _ (by simp)).trans (by simp [go_sem])
   have x3:w1.cell? ⟨w.heap.size,3,none⟩=some (.int .i64 fr):=(g1.cell _ _ (by simp)).trans (by simp [go_sem])
   have x4:w1.cell? ⟨w.heap.size,4,none⟩=some (.int .i64 to):=(g1.cell _ _ (by simp)).trans (by simp [go_sem])
   have s1:w.heap.size<w1.heap.size:=by have:=g1.size;simp at this;omega
   have G:Aside (Gw w w1):=G0.out.trans g1
   have HK:Hid (∀ w',Gw w1 w'→Gw w1 w'∧w'.cell? ⟨w.heap.size,1,none⟩=some (.float .f64 sl)∧w'.cell? ⟨w.heap.size,2,none⟩=some (.float .f64 ic)∧w'.cell? ⟨w.heap.size,3,none⟩=some (.int .i64 fr)∧w'.cell? ⟨w.heap.size,4,none⟩=some (.int .i64 to)) :=
    fun w' g=>⟨g,(g.cell _ _ s1).trans x1,(g.cell _ _ s1).trans x2,(g.cell _ _ s1).trans x3,(g.cell _ _ s1).trans x4⟩
   clear g1 G0
   go_wp2_with fail
   go_region_held3 (fun w'=>Gw w1 w'∧w'.cell? ⟨w.heap.size,1,none⟩=some (.float .f64 sl)∧w'.cell? ⟨w.heap.size,2,none⟩=some (.float .f64 ic)∧w'.cell? ⟨w.heap.size,3,none⟩=some (.int .i64 fr)∧w'.cell? ⟨w.heap.size,4,none⟩=some (.int .i64 to))
    ((refine HK.out _ ?_;(repeat (first | exact Gw.refl _ | exact And.left (by assumption) | exact Hid.out (by assumption) | refine Gw.drew ?_ | refine Gw.trans ?_ (by assumption)));done))
    (first
    | (go_at_call 153;refine (A.out _).mono ?_;rintro ex w2 ⟨rfl,g2⟩;have G2:Hid (Gw w1 w2):=(Gw.trans (by repeat (first | exact Gw.refl _ | exact And.left (by assumption) | exact Hid.out (by assumption) | refine Gw.drew ?_)) g2);clear g2)
    | (go_at_call 152;refine (L.out _).mono ?_;rintro ex w3 ⟨rfl,rfl⟩))
   all_goals go_wp2_with fail
   all_goals exact bodyPost_ret (v:=.int .i64 (clampv v fr to)) (by simp [results,Tryz.results133,go_sem]) rfl ⟨rfl,Gw.trans G.out (by repeat (first | exact Gw.refl _ | exact And.left (by assumption) | exact Hid.out (by assumption) | refine Gw.drew ?_ | refine Gw.trans ?_ (by assumption)))⟩
 ·have t1:(errM sl ic fr to != 0)=true:=by simpa using h
  have V:guessV k sl ic fr to q=0:=if_neg h
  rw [V]
  generalize errM sl ic fr to=er at *
  clear V h
  go_enter Tryz.func133,Tryz.ntmps133
  go_wp2_with fail
  refine (C.out _).mono ?_
  rintro ex w1 ⟨rfl,g1⟩
  have G:Aside (Gw w w1):=G0.out.trans g1
  clear g1 G0
  go_wp2_with fail
  exact bodyPost_ret (v:=.int .i64 0) (by simp [results,Tryz.results133,go_sem]) rfl ⟨rfl,G.out⟩
end Go.Proofs.YtinefkljjnepjabGreat
