/- The document's layer 10. -/
import Derived.Test.YtpoohadckhphpaaGreatBPFg
import Derived.Test.YtpoohadckhphpaaGreatBOBase
set_option linter.unusedVariables false
set_option maxHeartbeats 2000000
set_option maxRecDepth 10000
open Go.Proofs.Tryz
namespace Go.Proofs.YtpoohadckhphpaaGreat
open Go.RowKit
attribute [local go_sem] f64from
theorem or_byte {x y:Int} (x0:0<=x) (x1:x*256<18446744073709551616) (y0:0<=y) (y1:y<256):bits BinOp.or IntKind.u64 (x*256) y=x*256+y:=by
 obtain ⟨a,rfl⟩:∃ a:Nat,x=(a:Int):=⟨x.toNat,by omega⟩
 obtain ⟨b,rfl⟩:∃ b:Nat,y=(b:Int):=⟨y.toNat,by omega⟩
 have h:=bits_or_u64_nat (a*256) b (by omega) (by omega)
 have e:a*256 ||| b=a*256+b:=by
  have:=Nat.shiftLeft_add_eq_or_of_lt (show b<2^8 by omega) a
  rw [Nat.shiftLeft_eq] at this;exact this.symm
 rw [e] at h;have h':bits BinOp.or IntKind.u64 ((a*256:Nat):Int) (b:Int)=((a*256+b:Nat):Int):=h;rw [show ((a:Int)*256)=((a*256:Nat):Int) by omega,h']
 omega
structure RRd (T:TypeId) (w:World) (p:Nat) (S:Nat->Prop) (f:Nat->Int) (m:Nat):Prop where
 blk:∃ bo c,w.heap[p]?=some (.cells #[.slice bo m c] T (0,0))/\BS w bo m f/\m<=c/\(∀ a,bo=some a->a.block≠p\/m=0)/\∀ q,S q↔q=p\/∃ a,bo=some a/\q=a.block/\0<m
theorem rd_cell {w:World} {p:Nat} {v:Value} {t:TypeId} (h:w.heap[p]?=some (.cells #[v] t (0,0))):w.cell? ⟨p,0,none⟩=some v/\w.frozen? ⟨p,0,none⟩=false:=by
 constructor
 ·simp [World.cell?,h]
 ·simp [World.frozen?,h]
theorem rleft_any {w:World} {p:Nat} {S:Nat->Prop} {f:Nat->Int} {m:Nat} (h:RRd 66 w p S f m) :
  Calls prog 25 #[.pointer (some ⟨p,0,none⟩)] w fun e w'=>e=.returned (.int .i64 (m:Int))/\w'=w:=by
 obtain ⟨bo,c,h1,_⟩:=h.blk;have c0:=(rd_cell h1).1;clear h h1;go_enter func25,ntmps25;go_wp2_with fail;go_ret;exact ⟨rfl,rfl⟩
theorem rpeek_any {w:World} {p:Nat} {S:Nat->Prop} {f:Nat->Int} {m:Nat} (h:RRd 66 w p S f m) :
  Calls prog 47 #[.pointer (some ⟨p,0,none⟩)] w fun e w'=>e=.returned (if m<8 then .tuple #[.int .u64 0,.int .i64 100] else .tuple #[.int .u64 (numR f 0 8),.int .i64 0])/\w'=w:=by
 obtain ⟨bo,c,h1,hb,hc,_,_⟩:=h.blk;have c0:=(rd_cell h1).1;have pl:p<w.heap.size:=(Array.getElem?_eq_some_iff.1 h1).1;by_cases m8:m<8
 ·have t0:decide ((m:Int)<8)=true:=by simp;omega
  rw [if_pos m8];clear h h1 hb;go_enter func47,ntmps47;go_wp2_with fail;go_ret2;exact ⟨rfl,rfl⟩
 ·have t0:decide ((m:Int)<8)=false:=by simp;omega
  rw [if_neg m8];obtain ⟨bb,of,rfl,hbb,hbc⟩:=hb.cells (by omega)
  have BC:Aside (∀ i,i<m->w.cell? ⟨bb,of+i,none⟩=some (.int .u8 (f i))):=hbc;have BD:Aside (∀ i,i<m->0<=f i/\f i<256):=hb.bd;clear h h1 hb hbc;obtain ⟨N,hN⟩:∃ N,numR f 0 8=N:=⟨_,rfl⟩;have NV:Aside (numR f 0 8=N):=hN;rw [hN];clear hN;go_enter func47,ntmps47;go_wp2_with fail;go_loopg [4,5] 8 (fun gg s4 s5 wr=>∃ j:Nat,s4=.int .u64 (numR f 0 j)/\s5=.int .i64 (j:Int)/\j<=8/\8-j<=gg/\wr=w)
  case atStart=>exact ⟨0,rfl,rfl,Nat.zero_le _,by omega,rfl⟩
  case round =>
   obtain ⟨j,rfl,rfl,a1,a2,hwr⟩:=hrel;have hwr':w=wr:=hwr.symm;subst hwr';clear hwr;by_cases hlt:j<8
   ·have d0:=c0
    have d1:=BC.out j (by omega)
    have jm:j<m:=by omega
    have jm':(j:Int)<(m:Int):=by omega
    obtain ⟨n0,n1⟩:=numR_bd (f:=f) (o:=0) (k:=j) (fun i hi=>by rw [Nat.zero_add];exact BD.out i (by omega))
    have bj:=BD.out j (by omega)
    obtain ⟨y,hy⟩:∃ y,f j=y:=⟨_,rfl⟩;obtain ⟨x,hx⟩:∃ x,numR f 0 j=x:=⟨_,rfl⟩;rw [hy] at d1 bj;rw [hx] at n0 n1 ⊢;have x8:x*256<18446744073709551616:=by
     have m1:(256:Int)^j<=256^7:=by
      have:=Nat.pow_le_pow_right (show 0<256 by decide) (show j<=7 by omega)
      exact_mod_cast this
     have m2:(256:Int)^7=72057594037927936:=rfl;omega
    have wx:IntKind.u64.wrap (x*256)=x*256:=by rw [IntKind.wrap_u64];omega
    have ob:=or_byte n0 x8 bj.1 bj.2;have NX:Aside (numR f 0 (j+1)=x*256+y):=by
     show numR f 0 j*256+f (0+j)=_;rw [Nat.zero_add,hx,hy]
    clear n1 hx hy x8;go_wp2_with fail;go_roundg (8-(j+1))
    case measure=>omega
    case rel=>exact ⟨j+1,by rw [NX.out],by go_num,by omega,Nat.le_refl _,rfl⟩
   ·have ej:j=8:=by omega
    subst ej;rw [NV.out];go_wp2_with fail;go_ret2;exact ⟨rfl,rfl⟩
theorem rd_set {w:World} {p:Nat} {v:Value} {t:TypeId} (h:w.heap[p]?=some (.cells #[v] t (0,0))) (u:Value):(w.setCell ⟨p,0,none⟩ u).heap[p]?=some (.cells #[u] t (0,0)):=by simp [World.setCell,Array.getElem?_modify,h]
theorem RRd.cut {T:TypeId} {w:World} {p:Nat} {S:Nat->Prop} {f:Nat->Int} {m k:Nat} {bo bo':Option Addr} {c c':Nat} (h1:w.heap[p]?=some (.cells #[.slice bo m c] T (0,0))) (hb:BS w bo m f) (hp:∀ a,bo=some a->a.block≠p\/m=0) (hS:∀ q,S q↔q=p\/∃ a,bo=some a/\q=a.block/\0<m) (hk:k<=m) (hc':m-k<=c') (hbo:0<m-k->∃ b off,bo=some ⟨b,off,none⟩/\bo'=some ⟨b,off+k,none⟩) (hbo':∀ a,bo'=some a->∃ a',bo=some a'/\a.block=a'.block):∃ S',RRd T (w.setCell ⟨p,0,none⟩ (.slice bo' (m-k) c')) p S' (fun i=>f (k+i)) (m-k)/\∀ q,S' q->S q:=by
 refine ⟨fun q=>q=p\/∃ a,bo'=some a/\q=a.block/\0<m-k,⟨bo',c',rd_set h1 _,⟨fun h0=>?_,fun i hi=>hb.bd (k+i) (by omega)⟩,hc',fun a e=>?_,fun q=>Iff.rfl⟩,?_⟩
 ·obtain ⟨b,off,e1,e2⟩:=hbo h0
  obtain ⟨b',off',e3,hlt,hcell⟩:=hb.cells (by omega)
  rw [e1] at e3;cases e3;have np:b≠p:=by
   rcases hp _ e1 with h | h
   ·exact h
   ·omega
  refine ⟨b,off+k,e2,by simpa using hlt,fun i hi=>?_⟩
  have:=hcell (k+i) (by omega)
  rw [show off+k+i=off+(k+i) by omega]
  exact (World.cell?_of_block (a:=⟨b,off+(k+i),none⟩) (Go.Deep.blk_setCell_other _ _ _ _ np)).trans this
 ·obtain ⟨a',e4,e5⟩:=hbo' a e
  rcases hp a' e4 with h | h
  ·exact .inl (by rw [e5];exact h)
  ·exact .inr (by omega)
 ·rintro q (e | ⟨a,e1,e2,e3⟩)
  ·exact (hS q).2 (.inl e)
  ·obtain ⟨a',e4,e5⟩:=hbo' a e1
   exact (hS q).2 (.inr ⟨a',e4,by rw [e2,e5],by omega⟩)
theorem RRd.gw {T:TypeId} {w w':World} {p:Nat} {S:Nat->Prop} {f:Nat->Int} {m:Nat} (h:RRd T w p S f m) (g:Gw w w'):RRd T w' p S f m:=by
 obtain ⟨bo,c,h1,h2,h3⟩:=h.blk;exact ⟨bo,c,(g.below.block p (Array.getElem?_eq_some_iff.1 h1).1).trans h1,h2.gw g,h3⟩
theorem rnumber_any {w:World} {p:Nat} {S:Nat->Prop} {f:Nat->Int} {m:Nat} (hm:m<=140737488355000) (h:RRd 66 w p S f m) :
  Calls prog 48 #[.pointer (some ⟨p,0,none⟩)] w fun e w'=>(m<8->e=.returned (.tuple #[.int .u64 0,.int .i64 100])/\w'=w)/\(8<=m->e=.returned (.tuple #[.int .u64 (numR f 0 8),.int .i64 0])/\(∃ S',RRd 66 w' p S' (fun i=>f (8+i)) (m-8)/\∀ q,S' q->S q)/\∃ v,w'=w.setCell ⟨p,0,none⟩ v):=by
 have PK:Hid (Calls prog 47 #[.pointer (some ⟨p,0,none⟩)] w fun e w'=>e=.returned (if m<8 then .tuple #[.int .u64 0,.int .i64 100] else .tuple #[.int .u64 (numR f 0 8),.int .i64 0])/\w'=w):=rpeek_any h
 obtain ⟨bo,c,h1,hb,hc,hp,hS⟩:=h.blk;obtain ⟨c0,f0⟩:=rd_cell h1;have pl:p<w.heap.size:=(Array.getElem?_eq_some_iff.1 h1).1;by_cases m8:m<8
 ·rw [if_pos m8] at PK
  clear h h1 hb hp hS;go_enter func48,ntmps48;go_wp2_with fail;refine Calls.mono PK.out ?_;rintro e w2 ⟨rfl,hw⟩;have hw':w=w2:=hw.symm;subst hw';clear hw PK;go_wp2_with fail;go_ret2;exact ⟨fun _=>⟨rfl,rfl⟩,fun x=>absurd x (by omega)⟩
 ·rw [if_neg m8] at PK
  obtain ⟨b,off,rfl,hbb,_⟩:=hb.cells (by omega)
  have w8:(8:Nat)<=m:=by omega
  by_cases c8:c=8
  ·obtain rfl:m=8:=by omega
   subst c8;have X2:Aside (∃ S',RRd 66 (w.setCell ⟨p,0,none⟩ (.slice (some ⟨b,off,none⟩) 0 0)) p S' (fun i=>f (8+i)) 0/\∀ q,S' q->S q):=RRd.cut (k:=8) h1 hb hp hS w8 (by omega) (fun h=>by omega) (fun a e=>by cases e;exact ⟨_,rfl,rfl⟩)
   clear h h1 hb hp hS;generalize numR f 0 8=N at PK ⊢;go_enter func48,ntmps48;go_wp2_with fail;refine Calls.mono PK.out ?_;rintro e w2 ⟨rfl,hw⟩;have hw':w=w2:=hw.symm;subst hw';clear hw PK;go_wp2_with fail;go_ret2
   first
    | exact ⟨rfl,X2.out,_,rfl⟩
    | exact ⟨fun x=>absurd x (by omega),fun _=>⟨rfl,X2.out,_,rfl⟩⟩
  ·have X1:Aside (∃ S',RRd 66 (w.setCell ⟨p,0,none⟩ (.slice (some ⟨b,off+8,none⟩) (m-8) (c-8))) p S' (fun i=>f (8+i)) (m-8)/\∀ q,S' q->S q):=RRd.cut (k:=8) h1 hb hp hS w8 (by omega) (fun _=>⟨b,off,rfl,rfl⟩) (fun a e=>by cases e;exact ⟨_,rfl,rfl⟩)
   have c8':¬ 8=c:=fun e=>c8 e.symm
   clear h h1 hb hp hS;generalize numR f 0 8=N at PK ⊢;go_enter func48,ntmps48;go_wp2_with fail;refine Calls.mono PK.out ?_;rintro e w2 ⟨rfl,hw⟩;have hw':w=w2:=hw.symm;subst hw';clear hw PK;go_wp2_with fail;go_ret2
   first
    | exact ⟨rfl,X1.out,_,rfl⟩
    | exact ⟨fun x=>absurd x (by omega),fun _=>⟨rfl,X1.out,_,rfl⟩⟩
def CountR (T:TypeId) (w:World) (p:Nat) (S:Nat->Prop) (f:Nat->Int) (m:Nat) (most N:Int) (e:Ending) (w':World):Prop :=
 (m<8/\e=.returned (.tuple #[.int .i64 0,.int .i64 100])/\w'=w)\/(8<=m/\(most<0\/most<N)/\e=.returned (.tuple #[.int .i64 0,.int .i64 101])/\w'=w)\/(8<=m/\0<=most/\N<=most/\e=.returned (.tuple #[.int .i64 N,.int .i64 0])/\(∃ S',RRd T w' p S' (fun i=>f (8+i)) (m-8)/\∀ q,S' q->S q)/\∃ v,w'=w.setCell ⟨p,0,none⟩ v)
theorem rcount_any {w:World} {p:Nat} {S:Nat->Prop} {f:Nat->Int} {m:Nat} (most:Int) (m0:-9223372036854775808<=most) (m1:most<9223372036854775808) (hm:m<=140737488355000) (h:RRd 66 w p S f m) :
  Calls prog 23 #[.pointer (some ⟨p,0,none⟩),.int .i64 most] w (CountR 66 w p S f m most (numR f 0 8)):=by
 have PK:Hid (Calls prog 47 #[.pointer (some ⟨p,0,none⟩)] w fun e w'=>e=.returned (if m<8 then .tuple #[.int .u64 0,.int .i64 100] else .tuple #[.int .u64 (numR f 0 8),.int .i64 0])/\w'=w):=rpeek_any h
 obtain ⟨bo,c,h1,hb,hc,hp,hS⟩:=h.blk;obtain ⟨c0,f0⟩:=rd_cell h1;have pl:p<w.heap.size:=(Array.getElem?_eq_some_iff.1 h1).1;by_cases m8:m<8
 ·rw [if_pos m8] at PK
  clear h h1 hb hp hS;generalize numR f 0 8=N;go_enter func23,ntmps23;go_wp2_with fail;refine Calls.mono PK.out ?_;rintro e w2 ⟨rfl,hw⟩;have hw':w=w2:=hw.symm;subst hw';clear hw PK;go_wp2_with fail;go_ret2;exact .inl ⟨m8,rfl,rfl⟩
 ·rw [if_neg m8] at PK
  have nb:=numR_bd (f:=f) (o:=0) (k:=8) (fun i hi=>by rw [Nat.zero_add];exact hb.bd i (by omega))
  obtain ⟨b,off,rfl,hbb,_⟩:=hb.cells (by omega)
  have w8:(8:Nat)<=m:=by omega
  have n0:=nb.1;clear nb;generalize numR f 0 8=N at PK n0 ⊢;by_cases bad:most<0\/most<N
  ·have ways:decide (most<0)=true\/(decide (most<0)=false/\decide (most<N)=true/\0<=most):=by
    by_cases x:most<0
    ·exact .inl (by simpa using x)
    ·exact .inr ⟨by simpa using x,by simp;omega,by omega⟩
   clear h h1 hb hp hS;rcases ways with t1 | ⟨t1,t2,t3⟩
   ·go_enter func23,ntmps23
    go_wp2_with fail;refine Calls.mono PK.out ?_
    rintro e w2 ⟨rfl,hw⟩;have hw':w=w2:=hw.symm;subst hw';clear hw PK;go_wp2_with fail;go_ret2;exact .inr (.inl ⟨w8,bad,rfl,rfl⟩)
   ·have wm:IntKind.u64.wrap most=most:=by rw [IntKind.wrap_u64];omega
    go_enter func23,ntmps23;go_wp2_with fail;refine Calls.mono PK.out ?_;rintro e w2 ⟨rfl,hw⟩;have hw':w=w2:=hw.symm;subst hw';clear hw PK;go_wp2_with fail;go_ret2;exact .inr (.inl ⟨w8,bad,rfl,rfl⟩)
  ·have g0:0<=most:=by omega
   have g1:N<=most:=by omega
   have t1:decide (most<0)=false:=by simp;omega
   have t2:decide (most<N)=false:=by simp;omega
   have wm:IntKind.u64.wrap most=most:=by rw [IntKind.wrap_u64];omega
   have wn:IntKind.i64.wrap N=N:=by rw [IntKind.wrap_i64];omega
   clear bad;by_cases c8:c=8
   ·obtain rfl:m=8:=by omega
    subst c8;have X2:Aside (∃ S',RRd 66 (w.setCell ⟨p,0,none⟩ (.slice (some ⟨b,off,none⟩) 0 0)) p S' (fun i=>f (8+i)) 0/\∀ q,S' q->S q):=RRd.cut (k:=8) h1 hb hp hS w8 (by omega) (fun h=>by omega) (fun a e=>by cases e;exact ⟨_,rfl,rfl⟩)
    clear h h1 hb hp hS;go_enter func23,ntmps23;go_wp2_with fail;refine Calls.mono PK.out ?_;rintro e w2 ⟨rfl,hw⟩;have hw':w=w2:=hw.symm;subst hw';clear hw PK;go_wp2_with fail;go_ret2;exact .inr (.inr ⟨by omega,by omega,by omega,rfl,X2.out,_,rfl⟩)
   ·have X1:Aside (∃ S',RRd 66 (w.setCell ⟨p,0,none⟩ (.slice (some ⟨b,off+8,none⟩) (m-8) (c-8))) p S' (fun i=>f (8+i)) (m-8)/\∀ q,S' q->S q):=RRd.cut (k:=8) h1 hb hp hS w8 (by omega) (fun _=>⟨b,off,rfl,rfl⟩) (fun a e=>by cases e;exact ⟨_,rfl,rfl⟩)
    have c8':¬ 8=c:=fun e=>c8 e.symm
    clear h h1 hb hp hS;go_enter func23,ntmps23;go_wp2_with fail;refine Calls.mono PK.out ?_;rintro e w2 ⟨rfl,hw⟩;have hw':w=w2:=hw.symm;subst hw';clear hw PK;go_wp2_with fail;go_ret2;exact .inr (.inr ⟨by omega,by omega,by omega,rfl,X1.out,_,rfl⟩)
theorem and_2047 {x:Int} (x0:0<=x) (x1:x<18446744073709551616):bits BinOp.and IntKind.u64 x 2047=x%2048:=by
 obtain ⟨a,rfl⟩:∃ a:Nat,x=(a:Int):=⟨x.toNat,by omega⟩
 have h:=bits_and_u64_nat a 2047 (by omega) (by omega)
 have e:a &&& 2047=a%2048:=Nat.and_two_pow_sub_one_eq_mod a 11;rw [e] at h;have h':bits BinOp.and IntKind.u64 (a:Int) 2047=((a%2048:Nat):Int):=h;rw [h'];omega
def FloatR (T:TypeId) (w:World) (p:Nat) (S:Nat->Prop) (f:Nat->Int) (m:Nat) (N:Int) (e:Ending) (w':World):Prop :=
 (m<8/\e=.returned (.tuple #[.float .f64 0,.int .i64 100])/\w'=w)\/(8<=m/\N/4503599627370496%2048=2047/\e=.returned (.tuple #[.float .f64 0,.int .i64 101])/\w'=w)\/(8<=m/\N/4503599627370496%2048≠2047/\0<=N/\e=.returned (.tuple #[.float .f64 N.toNat,.int .i64 0])/\(∃ S',RRd T w' p S' (fun i=>f (8+i)) (m-8)/\∀ q,S' q->S q)/\∃ v,w'=w.setCell ⟨p,0,none⟩ v)
theorem rfloat_any {w:World} {p:Nat} {S:Nat->Prop} {f:Nat->Int} {m:Nat} (hm:m<=140737488355000) (h:RRd 66 w p S f m) :
  Calls prog 50 #[.pointer (some ⟨p,0,none⟩)] w (FloatR 66 w p S f m (numR f 0 8)):=by
 have PK:Hid (Calls prog 47 #[.pointer (some ⟨p,0,none⟩)] w fun e w'=>e=.returned (if m<8 then .tuple #[.int .u64 0,.int .i64 100] else .tuple #[.int .u64 (numR f 0 8),.int .i64 0])/\w'=w):=rpeek_any h
 obtain ⟨bo,c,h1,hb,hc,hp,hS⟩:=h.blk;obtain ⟨c0,f0⟩:=rd_cell h1;have pl:p<w.heap.size:=(Array.getElem?_eq_some_iff.1 h1).1;by_cases m8:m<8
 ·rw [if_pos m8] at PK
  clear h h1 hb hp hS;generalize numR f 0 8=N;go_enter func50,ntmps50;go_wp2_with fail;refine Calls.mono PK.out ?_;rintro e w2 ⟨rfl,hw⟩;have hw':w=w2:=hw.symm;subst hw';clear hw PK;go_wp2_with fail;go_ret2;exact .inl ⟨m8,rfl,rfl⟩
 ·rw [if_neg m8] at PK
  have nb:=numR_bd (f:=f) (o:=0) (k:=8) (fun i hi=>by rw [Nat.zero_add];exact hb.bd i (by omega))
  obtain ⟨b,off,rfl,hbb,_⟩:=hb.cells (by omega)
  have w8:(8:Nat)<=m:=by omega
  have n0:=nb.1;have n1:numR f 0 8<18446744073709551616:=nb.2;clear nb;generalize numR f 0 8=N at PK n0 n1 ⊢;have ba:=and_2047 (x:=N/4503599627370496) (by omega) (by omega)
  by_cases bad:N/4503599627370496%2048=2047
  ·have t1:(N/4503599627370496%2048 == 2047)=true:=by simpa using bad
   have BAD:Aside (N/4503599627370496%2048=2047):=bad;clear h h1 hb hp hS bad;go_enter func50,ntmps50;go_wp2_with fail;refine Calls.mono PK.out ?_;rintro e w2 ⟨rfl,hw⟩;have hw':w=w2:=hw.symm;subst hw';clear hw PK;go_wp2_with fail;go_ret2;exact .inr (.inl ⟨w8,BAD.out,rfl,rfl⟩)
  ·have t1:(N/4503599627370496%2048 == 2047)=false:=by simpa using bad
   have BAD:Aside (N/4503599627370496%2048≠2047):=bad;clear bad;by_cases c8:c=8
   ·obtain rfl:m=8:=by omega
    subst c8;have X2:Aside (∃ S',RRd 66 (w.setCell ⟨p,0,none⟩ (.slice (some ⟨b,off,none⟩) 0 0)) p S' (fun i=>f (8+i)) 0/\∀ q,S' q->S q):=RRd.cut (k:=8) h1 hb hp hS w8 (by omega) (fun h=>by omega) (fun a e=>by cases e;exact ⟨_,rfl,rfl⟩)
    clear h h1 hb hp hS;go_enter func50,ntmps50;go_wp2_with fail;refine Calls.mono PK.out ?_;rintro e w2 ⟨rfl,hw⟩;have hw':w=w2:=hw.symm;subst hw';clear hw PK;go_wp2_with fail;go_ret2;exact .inr (.inr ⟨by omega,BAD.out,n0,rfl,X2.out,_,rfl⟩)
   ·have X1:Aside (∃ S',RRd 66 (w.setCell ⟨p,0,none⟩ (.slice (some ⟨b,off+8,none⟩) (m-8) (c-8))) p S' (fun i=>f (8+i)) (m-8)/\∀ q,S' q->S q):=RRd.cut (k:=8) h1 hb hp hS w8 (by omega) (fun _=>⟨b,off,rfl,rfl⟩) (fun a e=>by cases e;exact ⟨_,rfl,rfl⟩)
    have c8':¬ 8=c:=fun e=>c8 e.symm
    clear h h1 hb hp hS;go_enter func50,ntmps50;go_wp2_with fail;refine Calls.mono PK.out ?_;rintro e w2 ⟨rfl,hw⟩;have hw':w=w2:=hw.symm;subst hw';clear hw PK;go_wp2_with fail;go_ret2;exact .inr (.inr ⟨by omega,BAD.out,n0,rfl,X1.out,_,rfl⟩)
def ByteR (T:TypeId) (w:World) (p:Nat) (S:Nat->Prop) (f:Nat->Int) (m:Nat) (most:Int) (e:Ending) (w':World):Prop :=
 (m=0/\e=.returned (.tuple #[.int .u8 0,.int .i64 100])/\w'=w)\/(1<=m/\most<f 0/\e=.returned (.tuple #[.int .u8 0,.int .i64 101])/\w'=w)\/(1<=m/\f 0<=most/\e=.returned (.tuple #[.int .u8 (f 0),.int .i64 0])/\(∃ S',RRd T w' p S' (fun i=>f (1+i)) (m-1)/\∀ q,S' q->S q)/\∃ v,w'=w.setCell ⟨p,0,none⟩ v)
theorem rbyte_any {w:World} {p:Nat} {S:Nat->Prop} {f:Nat->Int} {m:Nat} (most:Int) (m0:0<=most) (m1:most<256) (hm:m<=140737488355000) (h:RRd 66 w p S f m) :
  Calls prog 49 #[.pointer (some ⟨p,0,none⟩),.int .u8 most] w (ByteR 66 w p S f m most):=by
 obtain ⟨bo,c,h1,hb,hc,hp,hS⟩:=h.blk;obtain ⟨c0,f0⟩:=rd_cell h1;have pl:p<w.heap.size:=(Array.getElem?_eq_some_iff.1 h1).1;by_cases z:m=0
 ·subst z
  clear h h1 hb hp hS;go_enter func49,ntmps49;go_wp2_with fail;go_ret2;exact .inl ⟨rfl,rfl,rfl⟩
 ·have tz:((m:Int) == 0)=false:=by simp;omega
  have m9:0<m:=by omega
  obtain ⟨b,off,rfl,hbb,hcc⟩:=hb.cells (by omega)
  have ck:=hcc 0 m9;rw [Nat.add_zero] at ck;obtain ⟨y,hy⟩:∃ y,f 0=y:=⟨_,rfl⟩;have Y:Aside (f 0=y):=hy;rw [hy] at ck;have w1:(1:Nat)<=m:=by omega
  by_cases bad:most<y
  ·have t1:decide (most<y)=true:=by simpa using bad
   clear h h1 hb hp hS hcc hy;go_enter func49,ntmps49;go_wp2_with fail;go_ret2;exact .inr (.inl ⟨w1,by rw [Y.out];exact bad,rfl,rfl⟩)
  ·have t1:decide (most<y)=false:=by simpa using bad
   by_cases c1:c=1
   ·obtain rfl:m=1:=by omega
    subst c1;have X2:Aside (∃ S',RRd 66 (w.setCell ⟨p,0,none⟩ (.slice (some ⟨b,off,none⟩) 0 0)) p S' (fun i=>f (1+i)) 0/\∀ q,S' q->S q):=RRd.cut (k:=1) h1 hb hp hS w1 (by omega) (fun h=>by omega) (fun a e=>by cases e;exact ⟨_,rfl,rfl⟩)
    clear h h1 hb hp hS hcc hy;go_enter func49,ntmps49;go_wp2_with fail;go_ret2;exact .inr (.inr ⟨w1,by rw [Y.out];omega,by rw [Y.out];rfl,X2.out,_,rfl⟩)
   ·have X1:Aside (∃ S',RRd 66 (w.setCell ⟨p,0,none⟩ (.slice (some ⟨b,off+1,none⟩) (m-1) (c-1))) p S' (fun i=>f (1+i)) (m-1)/\∀ q,S' q->S q):=RRd.cut (k:=1) h1 hb hp hS w1 (by omega) (fun _=>⟨b,off,rfl,rfl⟩) (fun a e=>by cases e;exact ⟨_,rfl,rfl⟩)
    have c1':¬ 1=c:=fun e=>c1 e.symm
    clear h h1 hb hp hS hcc hy;go_enter func49,ntmps49;go_wp2_with fail;go_ret2;exact .inr (.inr ⟨w1,by rw [Y.out];omega,by rw [Y.out];rfl,X1.out,_,rfl⟩)
theorem rnew10_any (ao:Option Addr) (n cp:Nat) (f:Nat->Int) (hn:n<=140737488355000) (hz:ao=none->n=0/\cp=0) (w:World) (h:BS w ao n f) :
  Calls prog 21 #[.slice ao n cp] w fun e w'=>(∃ p S,e=.returned (.pointer (some ⟨p,0,none⟩))/\RRd 66 w' p S f n/\∀ q,S q->w.heap.size<=q)/\Gw w w':=by
 have BD:Aside (∀ i,i<n->0<=f i/\f i<256):=h.bd;have OW:Hid (∀ y,ao=some y->∀ j u,(bts f n)[j]?=some u->(w.alloc (.cells #[] 5)).cell? (y.add j)=some u):=by
  intro y e j u hu;have hj:j<n:=by
   have:=(List.getElem?_eq_some_iff.1 hu).1
   rw [bts_len] at this;exact this
  obtain ⟨b,off,e',hb,hc⟩:=h.cells (by omega)
  rw [e] at e';cases e';rw [Addr.add_lit];refine (((Gw.refl w).alloc _ _).cell _ _ hb).trans ((hc j hj).trans ?_);rw [<-bts_at f hj];exact hu
 have O0:Hid ((w.alloc (.cells #[] 5)).ownsRow w.heap.size 5 1 (.slice (some ⟨w.heap.size,0,none⟩) 0 0) 0 []):=World.ownsRow_made w #[] 0 (Nat.le_refl _) (Nat.zero_le _) rfl;obtain ⟨ii,hii,iz,is,iby⟩:=info_parts info_b;have NL:Aside ((bts f n).length=n*1):=by show _=_;rw [bts_len,Nat.mul_one]
 have HZ:Aside (ao=none->n=0/\cp=0):=hz;clear h hz;go_enter func21,ntmps21;go_wp2_with (at_builtin;refine wpList_append_src _ rfl _ _ 22 rfl w.heap.size 5 ii (.int .u8 0) 1 1 underlying22 hii iz is iby rfl (by decide) _ 0 [] rfl O0.out ao n cp (bts f n) rfl HZ.out NL.out OW.out (bts_one f n) (by simp only [maxLen];omega) (by omega) (by simp) ?_)
 intro v' w5 q1 q2 q3;have G5:Aside (Gw w w5):=((Gw.refl w).alloc _ _).grown q2 (fun k hk=>by cases hk;exact Nat.le_refl _)
 have R5:BR w5 w.heap.size v' f n:=by show World.ownsRow _ _ _ _ _ _ _;simpa using q1
 have FM:∃ bo c,v'=.slice bo n c/\n<=c/\∀ a,bo=some a->w.heap.size<=a.block/\a.block<w5.heap.size:=by
  rcases R5.2 with ⟨e,z⟩ | ⟨g,cap,cur,e,hb,hh,hc,_⟩
  ·exact ⟨none,0,by rw [e,z],by omega,fun a q=>by cases q⟩
  ·exact ⟨some ⟨g,0,none⟩,cap,e,hc,fun a q=>by cases q;exact ⟨hb,(Array.getElem?_eq_some_iff.1 hh).1⟩⟩
 obtain ⟨bo,bc,rfl,hbc,hbl⟩:=FM;have B5:=br_bs R5 BD.out;have RES:Aside (∃ S,RRd 66 (w5.alloc (.cells #[.slice bo n bc] 66)) w5.heap.size S f n/\∀ q,S q->w.heap.size<=q):=by
  refine ⟨fun q=>q=w5.heap.size\/∃ a,bo=some a/\q=a.block/\0<n,⟨bo,bc,heap_alloc_new w5 _,B5.gw ((Gw.refl w5).alloc _ _),hbc,fun a e=>.inl (by have:=(hbl a e).2;omega),fun q=>Iff.rfl⟩,?_⟩
  rintro q (e | ⟨a,e1,e2,_⟩)
  ·rw [e];exact G5.out.size
  ·rw [e2];exact (hbl a e1).1
 clear q1 q2 q3 OW O0 NL HZ R5 B5 hbl;go_wp2_with fail;go_ret;obtain ⟨S,r1,r2⟩:=RES.out;exact ⟨⟨_,S,rfl,r1,r2⟩,G5.out.alloc _ _⟩
end Go.Proofs.YtpoohadckhphpaaGreat
namespace Go.Proofs.YtpoohadckhphpaaGreat
open Go.RowKit
def strB (s:ByteArray) (j:Nat):Int:=if h:j<s.size then ((s[j]'h).toNat:Int) else 0
def WordR (T:TypeId) (w:World) (p:Nat) (S:Nat->Prop) (f:Nat->Int) (m:Nat) (s:ByteArray) (e:Ending) (w':World):Prop :=
 (m<s.size/\e=.returned (.int .i64 100)/\Gw w w')\/(s.size<=m/\(∃ i,i<s.size/\f i≠strB s i)/\e=.returned (.int .i64 101)/\Gw w w')\/(s.size<=m/\(∀ i,i<s.size->f i=strB s i)/\e=.returned (.int .i64 0)/\(∃ S',RRd T w' p S' (fun i=>f (s.size+i)) (m-s.size)/\∀ q,S' q->S q)/\∃ W v,Gw w W/\W.heap=w.heap/\w'=W.setCell ⟨p,0,none⟩ v)
theorem rword_any {w:World} {p:Nat} {S:Nat->Prop} {f:Nat->Int} {m:Nat} (s:ByteArray) (hm:m<=140737488355000) (h:RRd 66 w p S f m) :
  Calls prog 22 #[.pointer (some ⟨p,0,none⟩),.string s] w (WordR 66 w p S f m s):=by
 have HR:Aside (RRd 66 w p S f m):=h;obtain ⟨bo,c,h1,hb,hc,hp,hS⟩:=h.blk;obtain ⟨c0,f0⟩:=rd_cell h1;have pl:p<w.heap.size:=(Array.getElem?_eq_some_iff.1 h1).1;have HB:Aside (BS w bo m f):=hb;by_cases km:m<s.size
 ·have t0:(m:Int)<(s.size:Int):=by omega
  clear h h1 hb hp hS;go_enter func22,ntmps22;go_wp2_with fail;go_ret;exact .inl ⟨km,rfl,Gw.refl w⟩
 ·have t0:¬ (m:Int)<(s.size:Int):=by omega
  have hs:s.size<=140737488355000:=by omega
  have H1:Aside (w.heap[p]?=some (.cells #[.slice bo m c] 66 (0,0))/\(∀ a,bo=some a->a.block≠p\/m=0)/\∀ q,S q↔q=p\/∃ a,bo=some a/\q=a.block/\0<m):=⟨h1,hp,hS⟩;clear h h1 hb hp hS;go_enter func22,ntmps22;go_wp2_with fail;go_loopg [5] s.size (fun gg s5 wr=>∃ j:Nat,s5=.int .i64 (j:Int)/\j<=s.size/\s.size-j<=gg/\Aside (∀ i,i<j->f i=strB s i)/\Aside (Gw w wr/\wr.heap=w.heap))
  case atStart=>exact ⟨0,rfl,Nat.zero_le _,by omega,(show Aside _ from fun i hi=>absurd hi (by omega)),(show Aside _ from ⟨Gw.refl w,rfl⟩)⟩
  case round =>
   obtain ⟨j,rfl,a1,a2,EQ,GJ⟩:=hrel;obtain ⟨wS,hwS⟩:∃ wx,wx=wr:=⟨_,rfl⟩;subst hwS;have d0:wS.cell? ⟨p,0,none⟩=some (.slice bo m c):=(GJ.out.1.cell _ _ pl).trans c0;have plS:p<wS.heap.size:=by rw [GJ.out.2];exact pl
   by_cases hlt:j<s.size
   ·obtain ⟨bb,of,rfl,hbb,hbc⟩:=HB.out.cells (by omega)
    have d1:wS.cell? ⟨bb,of+j,none⟩=some (.int .u8 (f j)):=(GJ.out.1.cell _ _ hbb).trans (hbc j (by omega))
    have jm:j<m:=by omega
    have jm':(j:Int)<(m:Int):=by omega
    have jk':(j:Int)<(s.size:Int):=by omega
    have SV:Aside (strB s j=((s[j]'hlt).toNat:Int)):=by show strB s j=_;unfold strB;rw [dif_pos hlt]
    obtain ⟨y,hy⟩:∃ y,f j=y:=⟨_,rfl⟩;have Y:Aside (f j=y):=hy;rw [hy] at d1;by_cases q:y=((s[j]'hlt).toNat:Int)
    ·have t1:(y != ((s[j]'hlt).toNat:Int))=false:=by simp [bne,q]
     have E9:Aside (∀ i,i<j+1->f i=strB s i):=fun i hi=>by
      by_cases e:i=j
      ·rw [e,Y.out,SV.out];exact q
      ·exact EQ.out i (by omega)
     have G9:Aside (∀ nn,Gw w (wS.drewN nn)/\(wS.drewN nn).heap=w.heap):=fun nn=>⟨GJ.out.1.drewN nn,GJ.out.2⟩
     clear hbc hy q EQ GJ;go_wp2_with fail;go_quiet (fail);go_wp2_with fail;go_roundg (s.size-(j+1))
     case measure=>omega
     case rel=>exact ⟨j+1,by go_num,by omega,Nat.le_refl _,E9,(show Aside _ from G9.out _)⟩
    ·have t1:(y != ((s[j]'hlt).toNat:Int))=true:=by simp [bne,q]
     have N9:Aside (∃ i,i<s.size/\f i≠strB s i):=⟨j,hlt,by rw [Y.out,SV.out];exact q⟩
     clear hbc hy q EQ;go_wp2_with fail;go_quiet (fail);go_wp2_with fail;go_ret;exact .inr (.inl ⟨by omega,N9.out,rfl,GJ.out.1.drewN _⟩)
   ·have ej:j=s.size:=by omega
    have E9:Aside (∀ i,i<s.size->f i=strB s i):=by rw [<-ej];exact EQ
    have f9:wS.frozen? ⟨p,0,none⟩=false:=by
     have:=(rd_cell (by rw [GJ.out.2];exact H1.out.1:wS.heap[p]?=some (.cells #[.slice bo m c] 66 (0,0)))).2
     exact this
    have hS9:wS.heap[p]?=some (.cells #[.slice bo m c] 66 (0,0)):=by rw [GJ.out.2];exact H1.out.1
    have hB9:=HB.out.gw GJ.out.1;obtain ⟨k,hk⟩:∃ k,s.size=k:=⟨_,rfl⟩;have KS9:Aside (s.size=k):=hk;rw [hk] at ej km t0;subst ej;have jle:j<=m:=by omega
    have FIN:Aside (∀ (bo':Option Addr) (c':Nat),m-j<=c'->(0<m-j->∃ b off,bo=some ⟨b,off,none⟩/\bo'=some ⟨b,off+j,none⟩)->(∀ a,bo'=some a->∃ a',bo=some a'/\a.block=a'.block)->WordR 66 w p S f m s (.returned (.int .i64 0)) (wS.setCell ⟨p,0,none⟩ (.slice bo' (m-j) c'))):=fun bo' c' x1 x2 x3=>by
     refine .inr (.inr ⟨by rw [KS9.out];exact jle,E9.out,rfl,?_,wS,_,GJ.out.1,GJ.out.2,rfl⟩)
     rw [KS9.out];exact RRd.cut (k:=j) hS9 hB9 H1.out.2.1 H1.out.2.2 jle x1 x2 x3
    by_cases cj:c=j
    ·have mj:m=j:=by omega
     subst mj;subst cj;have L9:=FIN.out bo 0 (by omega) (fun h=>by omega) (fun a e=>⟨a,e,rfl⟩)
     rw [Nat.sub_self] at L9;have L10:Aside (WordR 66 w p S f c s (.returned (.int .i64 0)) (wS.setCell ⟨p,0,none⟩ (.slice bo 0 0))):=L9;clear a1 a2 EQ hlt FIN hS9 hB9 L9;go_wp2_with fail;go_ret;exact L10.out
    ·have cj':¬ j=c:=fun e=>cj e.symm
     have L10:Aside (WordR 66 w p S f m s (.returned (.int .i64 0)) (wS.setCell ⟨p,0,none⟩ (.slice (Option.map (fun x=>x.add j) bo) (m-j) (c-j)))):=FIN.out _ _ (by omega) (fun h=>by
       obtain ⟨b,off,e,_⟩:=hB9.cells (by omega)
       exact ⟨b,off,e,by rw [e];simp [Addr.add_lit]⟩) (fun a e=>by
       cases hbo:bo with
       | none=>rw [hbo] at e;cases e
       | some a' =>
        rw [hbo] at e;have e':a'.add j=a:=by simpa using e
        exact ⟨a',rfl,by rw [<-e'];unfold Addr.add;split<;>rfl⟩)
     have ji:(j:Int)<=(m:Int):=by omega
     clear a1 a2 EQ hlt FIN hS9 hB9;go_wp2_with fail
     all_goals go_ret
     all_goals exact L10.out
structure Upd (p:Nat) (w w':World):Prop where
 size:w.heap.size<=w'.heap.size
 blk:∀ q,q≠p->q<w.heap.size->w'.heap[q]?=w.heap[q]?
 gw:∀ w0:World,w0.heap.size<=p->Gw w0 w->Gw w0 w'
theorem Upd.of_gw {p:Nat} {w w':World} (h:Gw w w'):Upd p w w':=⟨h.size,fun q _ hq=>h.below.block q hq,fun w0 _ g=>g.trans h⟩
theorem Upd.refl (p:Nat) (w:World):Upd p w w:=.of_gw (Gw.refl w)
theorem Upd.set (p:Nat) (w:World) (v:Value):Upd p w (w.setCell ⟨p,0,none⟩ v) :=
 ⟨Nat.le_of_eq (by simp),fun q hq _=>Go.Deep.blk_setCell_other _ _ _ _ hq,fun w0 h0 g=>g.setCell h0 v⟩
theorem Upd.trans {p:Nat} {a b c:World} (h:Upd p a b) (k:Upd p b c):Upd p a c :=
 ⟨Nat.le_trans h.size k.size,fun q hq hl=>(k.blk q hq (Nat.lt_of_lt_of_le hl h.size)).trans (h.blk q hq hl),fun w0 h0 g=>k.gw w0 h0 (h.gw w0 h0 g)⟩
theorem RRd.lt {T:TypeId} {w:World} {p:Nat} {S:Nat->Prop} {f:Nat->Int} {m:Nat} (h:RRd T w p S f m):∀ q,S q->q<w.heap.size:=by
 obtain ⟨bo,c,h1,h2,h3,h4,h5⟩:=h.blk;intro q hq;rcases (h5 q).1 hq with rfl | ⟨a,e1,e2,e3⟩
 ·exact (Array.getElem?_eq_some_iff.1 h1).1
 ·obtain ⟨b,off,e,hb,_⟩:=h2.cells e3
  rw [e1] at e;cases e;rw [e2];exact hb
theorem RRd.own {T:TypeId} {w:World} {p:Nat} {S:Nat->Prop} {f:Nat->Int} {m:Nat} (h:RRd T w p S f m):S p:=by
 obtain ⟨bo,c,h1,h2,h3,h4,h5⟩:=h.blk;exact (h5 p).2 (.inl rfl)
theorem RRd.blks {T:TypeId} {w w':World} {p:Nat} {S:Nat->Prop} {f:Nat->Int} {m:Nat} (h:RRd T w p S f m) (hs:w.heap.size<=w'.heap.size) (k:∀ q,S q->w'.heap[q]?=w.heap[q]?):RRd T w' p S f m:=by
 obtain ⟨bo,c,h1,h2,h3,h4,h5⟩:=h.blk;refine ⟨bo,c,(k p ((h5 p).2 (.inl rfl))).trans h1,⟨fun h0=>?_,h2.bd⟩,h3,h4,h5⟩
 obtain ⟨b,off,e,hb,hc⟩:=h2.cells h0;refine ⟨b,off,e,Nat.lt_of_lt_of_le hb hs,fun i hi=>?_⟩
 exact (World.cell?_of_block (a:=⟨b,off+i,none⟩) (k b ((h5 b).2 (.inr ⟨_,e,rfl,h0⟩)))).trans (hc i hi)
theorem RRd.bd {T:TypeId} {w:World} {p:Nat} {S:Nat->Prop} {f:Nat->Int} {m:Nat} (h:RRd T w p S f m):∀ i,i<m->0<=f i/\f i<256:=by
 obtain ⟨bo,c,h1,h2,_⟩:=h.blk;exact h2.bd
def Rds (T:TypeId) (p:Nat) (S:Nat->Prop) (f:Nat->Int) (m k:Nat) (w w':World):Prop :=
 Upd p w w'/\∃ S',RRd T w' p S' (fun i=>f (k+i)) (m-k)/\∀ q,S' q->S q
theorem Rds.none {T:TypeId} {p:Nat} {S:Nat->Prop} {f:Nat->Int} {m:Nat} {w:World} (h:RRd T w p S f m):Rds T p S f m 0 w w :=
 ⟨.refl _ _,S,by simpa using h,fun _ h=>h⟩
theorem Rds.quiet {T:TypeId} {p:Nat} {S:Nat->Prop} {f:Nat->Int} {m:Nat} {w w':World} (h:RRd T w p S f m) (g:Gw w w'):Rds T p S f m 0 w w' :=
 ⟨.of_gw g,S,by simpa using h.gw g,fun _ h=>h⟩
def numA (f:Nat->Int) (m:Nat):Int×Int×Nat:=if m<8 then (0,100,0) else (numR f 0 8,0,8)
def countA (f:Nat->Int) (m:Nat) (most:Int):Int×Int×Nat:=if m<8 then (0,100,0) else if most<0\/most<numR f 0 8 then (0,101,0) else (numR f 0 8,0,8)
def floatA (f:Nat->Int) (m:Nat):Int×Int×Nat:=if m<8 then (0,100,0) else if numR f 0 8/4503599627370496%2048=2047 then (0,101,0) else (numR f 0 8,0,8)
def byteA (f:Nat->Int) (m:Nat) (most:Int):Int×Int×Nat:=if m=0 then (0,100,0) else if most<f 0 then (0,101,0) else (f 0,0,1)
def wordA (f:Nat->Int) (m:Nat) (s:ByteArray):Int×Nat:=if m<s.size then (100,0) else if ∀ i,i<s.size->f i=strB s i then (0,s.size) else (101,0)
structure OctR (T:TypeId) (fn fc ff fb fw fl:Nat):Prop where
 left:∀ {w:World} {p:Nat} {S:Nat->Prop} {f:Nat->Int} {m:Nat},RRd T w p S f m ->
  Calls prog fl #[.pointer (some ⟨p,0,none⟩)] w fun e w'=>e=.returned (.int .i64 (m:Int))/\w'=w
 number:∀ {w:World} {p:Nat} {S:Nat->Prop} {f:Nat->Int} {m:Nat},m<=140737488355000->RRd T w p S f m ->
  Calls prog fn #[.pointer (some ⟨p,0,none⟩)] w fun e w'=>e=.returned (.tuple #[.int .u64 (numA f m).1,.int .i64 (numA f m).2.1])/\Rds T p S f m (numA f m).2.2 w w'
 count:∀ {w:World} {p:Nat} {S:Nat->Prop} {f:Nat->Int} {m:Nat} (most:Int),-9223372036854775808<=most->most<9223372036854775808->m<=140737488355000->RRd T w p S f m ->
  Calls prog fc #[.pointer (some ⟨p,0,none⟩),.int .i64 most] w fun e w'=>e=.returned (.tuple #[.int .i64 (countA f m most).1,.int .i64 (countA f m most).2.1])/\Rds T p S f m (countA f m most).2.2 w w'
 float:∀ {w:World} {p:Nat} {S:Nat->Prop} {f:Nat->Int} {m:Nat},m<=140737488355000->RRd T w p S f m ->
  Calls prog ff #[.pointer (some ⟨p,0,none⟩)] w fun e w'=>e=.returned (.tuple #[.float .f64 (floatA f m).1.toNat,.int .i64 (floatA f m).2.1])/\Rds T p S f m (floatA f m).2.2 w w'
 byte:∀ {w:World} {p:Nat} {S:Nat->Prop} {f:Nat->Int} {m:Nat} (most:Int),0<=most->most<256->m<=140737488355000->RRd T w p S f m ->
  Calls prog fb #[.pointer (some ⟨p,0,none⟩),.int .u8 most] w fun e w'=>e=.returned (.tuple #[.int .u8 (byteA f m most).1,.int .i64 (byteA f m most).2.1])/\Rds T p S f m (byteA f m most).2.2 w w'
 word:∀ {w:World} {p:Nat} {S:Nat->Prop} {f:Nat->Int} {m:Nat} (s:ByteArray),m<=140737488355000->RRd T w p S f m ->
  Calls prog fw #[.pointer (some ⟨p,0,none⟩),.string s] w fun e w'=>e=.returned (.int .i64 (wordA f m s).1)/\Rds T p S f m (wordA f m s).2 w w'
theorem docr:OctR 66 48 23 50 49 22 25 where
 left h:=rleft_any h
 number:=fun {w p S f m} hm h=>(rnumber_any hm h).mono fun e w' ⟨x,y⟩=>by
  unfold numA;by_cases m8:m<8
  ·obtain ⟨rfl,rfl⟩:=x m8
   rw [if_pos m8];exact ⟨rfl,.none h⟩
  ·obtain ⟨rfl,z,v,rfl⟩:=y (by omega)
   rw [if_neg m8];exact ⟨rfl,.set _ _ _,z⟩
 count:=fun {w p S f m} most a b hm h=>(rcount_any most a b hm h).mono fun e w' x=>by
  unfold countA;rcases x with ⟨x,rfl,rfl⟩ | ⟨x,y,rfl,rfl⟩ | ⟨x,y,y',rfl,z,v,rfl⟩
  ·rw [if_pos x];exact ⟨rfl,.none h⟩
  ·rw [if_neg (by omega),if_pos y];exact ⟨rfl,.none h⟩
  ·rw [if_neg (by omega),if_neg (by omega)];exact ⟨rfl,.set _ _ _,z⟩
 float:=fun {w p S f m} hm h=>(rfloat_any hm h).mono fun e w' x=>by
  unfold floatA;rcases x with ⟨x,rfl,rfl⟩ | ⟨x,y,rfl,rfl⟩ | ⟨x,y,y',rfl,z,v,rfl⟩
  ·rw [if_pos x];exact ⟨rfl,.none h⟩
  ·rw [if_neg (by omega),if_pos y];exact ⟨rfl,.none h⟩
  ·rw [if_neg (by omega),if_neg y];exact ⟨rfl,.set _ _ _,z⟩
 byte:=fun {w p S f m} most a b hm h=>(rbyte_any most a b hm h).mono fun e w' x=>by
  unfold byteA;rcases x with ⟨x,rfl,rfl⟩ | ⟨x,y,rfl,rfl⟩ | ⟨x,y,rfl,z,v,rfl⟩
  ·rw [if_pos x];exact ⟨rfl,.none h⟩
  ·rw [if_neg (by omega),if_pos y];exact ⟨rfl,.none h⟩
  ·rw [if_neg (by omega),if_neg (by omega)];exact ⟨rfl,.set _ _ _,z⟩
 word:=fun {w p S f m} s hm h=>(rword_any s hm h).mono fun e w' x=>by
  unfold wordA;rcases x with ⟨x,rfl,g⟩ | ⟨x,⟨i,hi,y⟩,rfl,g⟩ | ⟨x,y,rfl,z,W,v,g,_,rfl⟩
  ·rw [if_pos x];exact ⟨rfl,.quiet h g⟩
  ·rw [if_neg (by omega),if_neg (fun t=>y (t i hi))];exact ⟨rfl,.quiet h g⟩
  ·rw [if_neg (by omega),if_pos y];exact ⟨rfl,(Upd.of_gw g).trans (.set _ _ _),z⟩
end Go.Proofs.YtpoohadckhphpaaGreat
