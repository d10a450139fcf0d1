/- How far off a segment is; the document's Off. -/
import Derived.Test.YtinefkljjnepjabGreatWPBs
import Derived.Test.YtinefkljjnepjabGreatWPFl
import Derived.Test.YtinefkljjnepjabGreatWPFg
import Derived.Test.YtinefkljjnepjabGreatWMGuess
namespace Go.Proofs.YtinefkljjnepjabGreat
open Go.RowKit
set_option linter.unusedVariables false
def worst (g:Nat→Int):Nat→Int
 | 0=>0
 | j+1=>max (max (worst g j) (g j)) (-(g j))
theorem worst_in (g:Nat→Int) (n:Nat):0≤worst g n∧∀ i,i<n→-(worst g n)≤g i∧g i≤worst g n:=by
 induction n with
 | zero=>exact ⟨Int.le_refl _,fun i hi=>by omega⟩
 | succ n ih =>
  obtain ⟨a,b⟩:=ih
  have e:worst g (n+1)=max (max (worst g n) (g n)) (-(g n)):=rfl
  refine ⟨by omega,fun i hi=>?_⟩
  by_cases c:i=n
  ·subst c;omega
  ·have:=b i (by omega);omega
theorem worst_le {g:Nat→Int} {M:Int} (M0:0≤M):∀ n,(∀ i,i<n→-M≤g i∧g i≤M)→worst g n≤M:=by
 intro n
 induction n with
 | zero=>intro _;exact M0
 | succ n ih =>
  intro h
  have a:=ih fun i hi=>h i (by omega)
  have b:=h n (by omega)
  show max (max (worst g n) (g n)) (-(g n))≤M
  omega
def away (k:Int) (sl ic:Nat) (fr to:Int) (f:Nat→Int) (i:Nat):Int:=guessV k sl ic fr to (f i)-(fr+i)
def OffR (k:Int) (sl ic:Nat) (fr to:Int) (n:Nat) (f:Nat→Int) (N er:Int):Prop :=
 (errM sl ic fr to≠0∧N=0∧er=errM sl ic fr to) ∨
 (errM sl ic fr to=0∧¬ ((n:Int)=to-fr∧f 0=k∧Up f n)∧N=0∧er=1) ∨
 (errM sl ic fr to=0∧((n:Int)=to-fr∧f 0=k∧Up f n)∧N=worst (away k sl ic fr to f) n∧er=0)
theorem OffR.uniq {k:Int} {sl ic:Nat} {fr to:Int} {n:Nat} {f:Nat→Int} {N N' er er':Int} (h:OffR k sl ic fr to n f N er) (h':OffR k sl ic fr to n f N' er'):N=N'∧er=er':=by
 rcases h with ⟨a,b,c⟩ | ⟨a,b,c,d⟩ | ⟨a,b,c,d⟩<;>rcases h' with ⟨a',b',c'⟩ | ⟨a',b',c',d'⟩ | ⟨a',b',c',d'⟩<;>first
  | exact absurd a' a
  | exact absurd a a'
  | exact absurd b' b
  | exact absurd b b'
  | (subst b c b' c';exact ⟨rfl,rfl⟩)
  | (subst c d c' d';exact ⟨rfl,rfl⟩)
theorem away_bd {k:Int} {sl ic:Nat} {fr to:Int} {f:Nat→Int} {n:Nat} (h:errM sl ic fr to=0) (k0:0≤k) (hn:(n:Int)=to-fr) (bd:∀ i,i<n→0≤f i∧f i<18446744073709551616):∀ i,i<n→-4294967296≤away k sl ic fr to f i∧away k sl ic fr to f i≤4294967296:=by
 intro i hi
 obtain ⟨a,b,c,d,e⟩:=errM_ok.1 h
 have:=guessV_in h k0 (bd i hi).2
 unfold away
 omega
set_option maxRecDepth 10000 in
set_option maxHeartbeats 8000000 in
theorem roff_any (k:Int) (sl ic:Nat) (fr to:Int) (k0:0≤k) (k1:k<18446744073709551616) (hf0:-9223372036854775808≤fr) (hf1:fr<9223372036854775808) (ht0:-9223372036854775808≤to) (ht1:to<9223372036854775808) (ao:Option Addr) (n cp:Nat) (f:Nat→Int) (hn:n<4611686018427387904) (w:World) (K:KS w ao n f) :
  Calls Tryz.prog 97 #[segV k sl ic fr to, .slice ao n cp] w fun e w'=>(∃ N er:Int,e=.returned (.tuple #[.int .i64 N, .int .i64 er])∧OffR k sl ic fr to n f N er)∧Gw w w':=by
 have G0:Aside (Gw w (w.alloc (.cells #[.int .u64 k, .float .f64 sl, .float .f64 ic, .int .i64 fr, .int .i64 to] 100))):=(Gw.refl w).alloc _ _
 have C:Hid _:=fun W=>rcheck_any k sl ic fr to W hf0 hf1 ht0 ht1
 have GU:Hid _:=fun (q:Int) (q0:0≤q) (q1:q<18446744073709551616) W=>rguess_any k sl ic fr to q k0 k1 q0 q1 hf0 hf1 ht0 ht1 W
 have RI:Hid _:=fun W (g:Gw w W)=>rrising_any ao n cp f hn W (K.gw g)
 have K':Hid (KS w ao n f):=K
 clear K
 by_cases h:errM sl ic fr to=0
 ·obtain ⟨a,b,c,d,e⟩:=errM_ok.1 h
  have h':Aside (errM sl ic fr to=0):=h
  rw [h] at C
  clear h d e
  go_enter Tryz.func97,Tryz.ntmps97
  go_wp2_with fail
  refine (C.out _).mono ?_
  rintro ex w1 ⟨rfl,g1⟩
  have x0:w1.cell? ⟨w.heap.size,0,none⟩=some (.int .u64 k):=(g1.cell _ _ (by simp)).trans (by simp [go_sem])
  have x1:w1.cell? ⟨w.heap.size,1,none⟩=some (.float .f64 sl):=(g1.cell _ _ (by simp)).trans (by simp [go_sem])
  have x2:w1.cell? ⟨w.heap.size,2,none⟩=some (.float .f64 ic):=(g1.cell _ _ (by simp)).trans (by simp [go_sem])
  have x3:w1.cell? ⟨w.heap.size,3,none⟩=some (.int .i64 fr):=(g1.cell _ _ (by simp)).trans (by simp [go_sem])
  have x4:w1.cell? ⟨w.heap.size,4,none⟩=some (.int .i64 to):=(g1.cell _ _ (by simp)).trans (by simp [go_sem])
  have s1:w.heap.size<w1.heap.size:=by have:=g1.size;simp at this;omega
  have G:Aside (Gw w w1):=G0.out.trans g1
  clear g1 G0 C
  obtain ⟨S,hS⟩:∃ S,to-fr=S:=⟨_,rfl⟩
  have wz:IntKind.i64.wrap (to-fr)=S:=by rw [IntKind.wrap_i64];omega
  have BOX:Hid (∀ w',Gw w1 w'→w'.cell? ⟨w.heap.size,0,none⟩=some (.int .u64 k)∧w'.cell? ⟨w.heap.size,1,none⟩=some (.float .f64 sl)∧w'.cell? ⟨w.heap.size,2,none⟩=some (.float .f64 ic)∧w'.cell? ⟨w.heap.size,3,none⟩=some (.int .i64 fr)∧w'.cell? ⟨w.heap.size,4,none⟩=some (.int .i64 to)) :=
   fun w' g=>⟨(g.cell _ _ s1).trans x0,(g.cell _ _ s1).trans x1,(g.cell _ _ s1).trans x2,(g.cell _ _ s1).trans x3,(g.cell _ _ s1).trans x4⟩
  by_cases h1:(n:Int)=S
  ·have n0:0<n:=by omega
   obtain ⟨bk,off,rfl,hb,hc⟩:=(K'.out.gw G.out).cells n0
   have t1:((n:Int) != S)=false:=by simpa using h1
   have c0:w1.cell? ⟨bk,off,none⟩=some (.int .u64 (f 0)):=hc 0 n0
   obtain ⟨f0,hf⟩:∃ f0,f 0=f0:=⟨_,rfl⟩
   rw [hf] at c0
   by_cases h2:f0=k
   ·have t2:(f0 != k)=false:=by simpa using h2
    have FC:Aside ((n:Int)=to-fr∧f 0=k∧∀ i,i<n→w1.cell? ⟨bk,off+i,none⟩=some (.int .u64 (f i))):=⟨h1.trans hS.symm,hf.trans h2,hc⟩
    clear h1 h2 hf hS hc
    by_cases hu:Up f n
    ·have U:Aside (Up f n):=hu
     have RT:Hid (∀ W,Gw w1 W→Calls Tryz.prog 93 #[.slice (some ⟨bk,off,none⟩) n cp] W fun e w'=>e=.returned (.bool true)∧Gw W w'):=fun W g =>
      (RI.out W (G.out.trans g)).mono fun ex w' (hx:(∃ r:Bool,ex=.returned (.bool r)∧(r=true↔Up f n))∧Gw W w')=>⟨(by obtain ⟨⟨r,e1,e2⟩,-⟩:=hx;rw [e1,e2.2 hu]),hx.2⟩
     clear hu RI
     have HK:Hid (∀ w',Gw w1 w'→Gw w1 w'∧w'.cell? ⟨w.heap.size,0,none⟩=some (.int .u64 k)∧w'.cell? ⟨w.heap.size,3,none⟩=some (.int .i64 fr)∧w'.cell? ⟨w.heap.size,4,none⟩=some (.int .i64 to)∧w'.cell? ⟨bk,off,none⟩=some (.int .u64 f0)) :=
      fun w' g=>⟨g,(g.cell _ _ s1).trans x0,(g.cell _ _ s1).trans x3,(g.cell _ _ s1).trans x4,(g.cell _ _ hb).trans c0⟩
     go_wp2_with fail
     go_region_held3 (fun w'=>Gw w1 w'∧w'.cell? ⟨w.heap.size,0,none⟩=some (.int .u64 k)∧w'.cell? ⟨w.heap.size,3,none⟩=some (.int .i64 fr)∧w'.cell? ⟨w.heap.size,4,none⟩=some (.int .i64 to)∧w'.cell? ⟨bk,off,none⟩=some (.int .u64 f0))
      ((refine HK.out _ ?_;(repeat (first | exact Gw.refl _ | exact And.left (by assumption) | exact Hid.out (by assumption) | refine Gw.drew ?_ | refine Gw.trans ?_ (by assumption)));done))
      ((go_at_call 93;refine (RT.out _ (by repeat (first | exact Gw.refl _ | exact And.left (by assumption) | exact Hid.out (by assumption) | refine Gw.drew ?_))).mono ?_;rintro ex w2 ⟨rfl,g2⟩;have G2:Hid (Gw w1 w2):=(Gw.trans (by repeat (first | exact Gw.refl _ | exact And.left (by assumption) | exact Hid.out (by assumption) | refine Gw.drew ?_)) g2);clear g2))
     all_goals go_wp2_with fail
     go_loopg [7,8] n (fun gg s7 s8 wr=>∃ i:Nat,s7=.int .i64 (worst (away k sl ic fr to f) i)∧s8=.int .i64 i∧i≤n∧n-i≤gg∧Aside (Gw w1 wr))
     case atStart=>exact ⟨0,rfl,rfl,Nat.zero_le _,by omega,(by first | exact Hid.out (by assumption) | exact And.left (by assumption))⟩
     case round =>
      obtain ⟨i,rfl,rfl,h2,h3,GR⟩:=hrel
      by_cases hlt:i<n
      ·obtain ⟨y0,y1,y2,y3,y4⟩:=BOX.out _ GR.out
       have ci:=(GR.out.cell _ _ hb).trans (FC.out.2.2 i hlt)
       have lb:=Nat.lt_of_lt_of_le hb GR.out.size
       have ls:=Nat.lt_of_lt_of_le s1 GR.out.size
       have bi:=K'.out.bd i hlt
       have aw:=away_bd h'.out k0 FC.out.1 K'.out.bd
       have gin:=guessV_in (q:=f i) h'.out k0 bi.2
       have wi:=(worst_in (away k sl ic fr to f) i).1
       have wl:=worst_le (g:=away k sl ic fr to f) (M:=4294967296) (by decide) i (fun j hj=>aw j (by omega))
       have ai:=aw i hlt
       clear aw
       have ae:away k sl ic fr to f i=guessV k sl ic fr to (f i)-(fr+i):=rfl
       have WS:Aside (worst (away k sl ic fr to f) (i+1)=max (max (worst (away k sl ic fr to f) i) (away k sl ic fr to f i)) (-(away k sl ic fr to f i))):=rfl
       have GI:Hid _:=fun W=>GU.out (f i) bi.1 bi.2 W
       generalize worst (away k sl ic fr to f) i=Wi at *
       generalize guessV k sl ic fr to (f i)=gi at *
       generalize away k sl ic fr to f i=D at *
       obtain ⟨E,hE⟩:∃ E,fr+(i:Int)=E:=⟨_,rfl⟩
       rw [hE] at ae
       obtain ⟨M,hM⟩:∃ M,-D=M:=⟨_,rfl⟩
       rw [hM] at WS
       have hin:(i:Int)<to-fr:=by have:=FC.out.1;omega
       have z1:IntKind.i64.wrap (fr+(i:Int))=E:=by rw [IntKind.wrap_i64];omega
       have z2:IntKind.i64.wrap (gi-E)=D:=by rw [IntKind.wrap_i64];omega
       have z3:IntKind.i64.wrap (-D)=M:=by rw [IntKind.wrap_i64];omega
       generalize f i=yi at *
       clear ae hE hM wi wl ai gin bi hin
       rename_i wr _ _ _ _
       have HW:Hid (∀ w',Gw wr w'→Gw wr w'∧w'.cell? ⟨w.heap.size,0,none⟩=some (.int .u64 k)∧w'.cell? ⟨w.heap.size,1,none⟩=some (.float .f64 sl)∧w'.cell? ⟨w.heap.size,2,none⟩=some (.float .f64 ic)∧w'.cell? ⟨w.heap.size,3,none⟩=some (.int .i64 fr)∧w'.cell? ⟨w.heap.size,4,none⟩=some (.int .i64 to)∧w'.cell? ⟨bk,off+i,none⟩=some (.int .u64 yi)) :=
        fun w' g=>⟨g,(g.cell _ _ ls).trans y0,(g.cell _ _ ls).trans y1,(g.cell _ _ ls).trans y2,(g.cell _ _ ls).trans y3,(g.cell _ _ ls).trans y4,(g.cell _ _ lb).trans ci⟩
       clear x0 x1 x2 x3 x4 s1 HK RT c0 hb GU BOX G2
       go_wp2_with fail
       go_region_held3 (fun w'=>Gw wr w'∧w'.cell? ⟨w.heap.size,0,none⟩=some (.int .u64 k)∧w'.cell? ⟨w.heap.size,1,none⟩=some (.float .f64 sl)∧w'.cell? ⟨w.heap.size,2,none⟩=some (.float .f64 ic)∧w'.cell? ⟨w.heap.size,3,none⟩=some (.int .i64 fr)∧w'.cell? ⟨w.heap.size,4,none⟩=some (.int .i64 to)∧w'.cell? ⟨bk,off+i,none⟩=some (.int .u64 yi))
        ((refine HW.out _ ?_;(repeat (first | exact Gw.refl _ | exact And.left (by assumption) | exact Hid.out (by assumption) | refine Gw.drew ?_ | refine Gw.trans ?_ (by assumption)));done))
        ((go_at_call 133;refine (GI.out _).mono ?_;rintro ex w3 ⟨rfl,g3⟩;have G3:Hid (Gw wr w3):=(Gw.trans (by repeat (first | exact Gw.refl _ | exact And.left (by assumption) | exact Hid.out (by assumption) | refine Gw.drew ?_)) g3);clear g3))
       all_goals go_wp2_with fail
       all_goals
        go_roundg (n-(i+1))
        case measure=>omega
        case rel =>
         refine ⟨i+1,?_,by go_num,hlt,Nat.le_refl _,(show Aside _ from GR.out.trans (by repeat (first | exact Gw.refl _ | exact And.left (by assumption) | exact Hid.out (by assumption) | refine Gw.drew ?_ | refine Gw.trans ?_ (by assumption))))⟩
         rw [WS.out]
         exact congrArg (Value.int .i64) (show (_:Int)=max (max Wi D) M by first | omega | (simp only [*] at *;omega))
      ·have e:i=n:=by omega
       subst e
       have R:Aside (OffR k sl ic fr to i f (worst (away k sl ic fr to f) i) 0):=.inr (.inr ⟨h'.out,⟨FC.out.1,FC.out.2.1,U.out⟩,rfl,rfl⟩)
       generalize worst (away k sl ic fr to f) i=Wi at *
       go_wp2_with fail
       exact bodyPost_ret (v:=.tuple #[.int .i64 Wi, .int .i64 0]) (by simp [results,Tryz.results97,go_sem]) rfl ⟨⟨Wi,0,rfl,R.out⟩,G.out.trans GR.out⟩
    ·have R:Aside (OffR k sl ic fr to n f 0 1):=.inr (.inl ⟨h'.out,fun q=>hu q.2.2,rfl,rfl⟩)
     have RT:Hid (∀ W,Gw w1 W→Calls Tryz.prog 93 #[.slice (some ⟨bk,off,none⟩) n cp] W fun e w'=>e=.returned (.bool false)∧Gw W w'):=fun W g =>
      (RI.out W (G.out.trans g)).mono fun ex w' (hx:(∃ r:Bool,ex=.returned (.bool r)∧(r=true↔Up f n))∧Gw W w')=>⟨(by
       obtain ⟨⟨r,e1,e2⟩,-⟩:=hx
       have:r=false:=by cases r;rfl;exact absurd (e2.1 rfl) hu
       rw [e1,this]),hx.2⟩
     clear hu RI
     have HK:Hid (∀ w',Gw w1 w'→Gw w1 w'∧w'.cell? ⟨w.heap.size,0,none⟩=some (.int .u64 k)∧w'.cell? ⟨w.heap.size,3,none⟩=some (.int .i64 fr)∧w'.cell? ⟨w.heap.size,4,none⟩=some (.int .i64 to)∧w'.cell? ⟨bk,off,none⟩=some (.int .u64 f0)) :=
      fun w' g=>⟨g,(g.cell _ _ s1).trans x0,(g.cell _ _ s1).trans x3,(g.cell _ _ s1).trans x4,(g.cell _ _ hb).trans c0⟩
     go_wp2_with fail
     go_region_held3 (fun w'=>Gw w1 w'∧w'.cell? ⟨w.heap.size,0,none⟩=some (.int .u64 k)∧w'.cell? ⟨w.heap.size,3,none⟩=some (.int .i64 fr)∧w'.cell? ⟨w.heap.size,4,none⟩=some (.int .i64 to)∧w'.cell? ⟨bk,off,none⟩=some (.int .u64 f0))
      ((refine HK.out _ ?_;(repeat (first | exact Gw.refl _ | exact And.left (by assumption) | exact Hid.out (by assumption) | refine Gw.drew ?_ | refine Gw.trans ?_ (by assumption)));done))
      ((go_at_call 93;refine (RT.out _ (by repeat (first | exact Gw.refl _ | exact And.left (by assumption) | exact Hid.out (by assumption) | refine Gw.drew ?_))).mono ?_;rintro ex w2 ⟨rfl,g2⟩;have G2:Hid (Gw w1 w2):=(Gw.trans (by repeat (first | exact Gw.refl _ | exact And.left (by assumption) | exact Hid.out (by assumption) | refine Gw.drew ?_)) g2);clear g2))
     all_goals go_wp2_with fail
     all_goals exact bodyPost_ret (v:=.tuple #[.int .i64 0, .int .i64 1]) (by simp [results,Tryz.results97,go_sem]) rfl ⟨⟨0,1,rfl,R.out⟩,Gw.trans G.out (by repeat (first | exact Gw.refl _ | exact And.left (by assumption) | exact Hid.out (by assumption) | refine Gw.drew ?_ | refine Gw.trans ?_ (by assumption)))⟩
   ·have t2:(f0 != k)=true:=by simpa using h2
    have R:Aside (OffR k sl ic fr to n f 0 1):=.inr (.inl ⟨h'.out,fun q=>h2 (hf.symm.trans q.2.1),rfl,rfl⟩)
    clear h1 hS h2 hf hc RI GU
    go_wp2_with fail
    go_quiet (fail)
    go_wp2_with fail
    exact bodyPost_ret (v:=.tuple #[.int .i64 0, .int .i64 1]) (by simp [results,Tryz.results97,go_sem]) rfl ⟨⟨0,1,rfl,R.out⟩,G.out.drewN _⟩
  ·have t1:((n:Int) != S)=true:=by simpa using h1
   have R:Aside (OffR k sl ic fr to n f 0 1):=.inr (.inl ⟨h'.out,fun q=>h1 (q.1.trans hS),rfl,rfl⟩)
   clear h1 hS RI GU
   go_wp2_with fail
   go_quiet (fail)
   go_wp2_with fail
   exact bodyPost_ret (v:=.tuple #[.int .i64 0, .int .i64 1]) (by simp [results,Tryz.results97,go_sem]) rfl ⟨⟨0,1,rfl,R.out⟩,G.out.drewN _⟩
 ·have t1:(errM sl ic fr to != 0)=true:=by simpa using h
  have R:Aside (OffR k sl ic fr to n f 0 (errM sl ic fr to)):=.inl ⟨h,rfl,rfl⟩
  generalize errM sl ic fr to=er at *
  clear h GU RI
  go_enter Tryz.func97,Tryz.ntmps97
  go_wp2_with fail
  refine (C.out _).mono ?_
  rintro ex w1 ⟨rfl,g1⟩
  have G:Aside (Gw w w1):=G0.out.trans g1
  clear g1 G0
  go_wp2_with fail
  exact bodyPost_ret (v:=.tuple #[.int .i64 0, .int .i64 er]) (by simp [results,Tryz.results97,go_sem]) rfl ⟨⟨0,er,rfl,R.out⟩,G.out⟩
end Go.Proofs.YtinefkljjnepjabGreat
namespace Go.Proofs.YtinefkljjnepjabGreat
open Go.RowKit
set_option linter.unusedVariables false
theorem whole_f (t:Int) (h0:-9007199254740992≤t) (h1:t≤9007199254740992):rg (floatOfInt .f64 t)<9218868437227405312∧SV (floatOfInt .f64 t)=t*Un:=by
 obtain ⟨b,hb,e⟩:=rep_small t.natAbs (by omega)
 rw [ofInt_whole t b hb e]
 refine ⟨by rw [word_rg _ _ (by omega)];exact hb,?_⟩
 rw [SV_word _ _ (by omega),e]
 by_cases n:t<0
 ·rw [if_pos (decide_eq_true n)]
  have:(t.natAbs:Int)=-t:=by omega
  rw [Int.natCast_mul,this,Int.neg_mul,Int.neg_neg]
 ·rw [if_neg (by simpa using n)]
  have:(t.natAbs:Int)=t:=by omega
  rw [Int.natCast_mul,this]
theorem low_most1 {e:Int} {f:Nat→Int} {n:Nat} {a b:Int} (he:0≤e) (u:Up f n) (h:LowOn e f (Prs n) a b):a≤b:=by
 have b1:=h.b1
 rcases h.att with q | ⟨i,j,s,m,r⟩
 ·omega
 ·have a0:=h.a0
  have D:(j:Int)-i≤f j-f i:=by
   obtain ⟨s1,s2⟩:=s
   have:∀ t:Nat,i+t<n→(t:Int)≤f (i+t)-f i:=by
    intro t
    induction t with
    | zero=>intro _;simp
    | succ t ih =>
     intro ht
     have x:=ih (by omega)
     have y:=u (i+t) (by omega)
     have z:i+(t+1)=i+t+1:=rfl
     rw [z];omega
   have k:=this (j-i) (by omega)
   rw [show i+(j-i)=j by omega] at k
   omega
  have k1:a*((j:Int)-i-2*e)≤a*(f j-f i):=Int.mul_le_mul_of_nonneg_left (by omega) a0
  rw [←r,Int.mul_comm] at k1
  exact Int.le_of_mul_le_mul_left k1 m
theorem slope_le {a b s:Nat} (b0:0<b) (h:a≤b) (hs:Nr (a*Un) b s):s≤4607182418800017408:=by
 refine hs.mono (Nr.of_eq (x:=Un) (y:=1) (by decide) (by rw [V1];omega)) b0 (by decide) ?_
 rw [Nat.mul_one,Nat.mul_comm Un]
 exact Nat.mul_le_mul_right _ h
theorem seg_bound {eps:Int} {f:Nat→Int} {n:Nat} {a b c fr:Int} {s:Nat} (h:OfR eps f n a b c 0) (hn:n≤100000000) (bd:∀ i,i<n→0≤f i∧f i<18446744073709551616) (a1:a<18446744073709551616) (b1:b<18446744073709551616)
  (f0:0≤fr) (f1:fr+n≤4294967296) (hs:Nr (a.toNat*Un) b.toNat s) :
  errM s (floatOfInt .f64 (fr+c)) fr (fr+n)=0∧∀ i,i<n→-eps≤away (f 0) s (floatOfInt .f64 (fr+c)) fr (fr+n) f i∧away (f 0) s (floatOfInt .f64 (fr+c)) fr (fr+n) f i≤eps:=by
 rcases h with ⟨_,_,_,_,h⟩ | ⟨_,_,_,_,_,h⟩ | ⟨_,_,_,_,_,_,h⟩ | ⟨ke,⟨n0,u⟩,F,L,B,_⟩
 ·cases h
 ·cases h
 ·cases h
 have a0:=L.a0
 have bb:=L.b1
 obtain ⟨st,c0,c1⟩:=of_stays ke u n0 hn F L (near_of (by omega) u L F) B
 obtain ⟨wf,ws⟩:=whole_f (fr+c) (by omega) (by omega)
 have s1:=slope_le (b:=b.toNat) (by omega) (by have:=low_most1 (by omega) u L;omega) hs
 have er:errM s (floatOfInt .f64 (fr+c)) fr (fr+n)=0:=errM_ok.2 ⟨f0,by omega,f1,by omega,wf⟩
 refine ⟨er,fun i hi=>?_⟩
 have d0:=u.le (Nat.zero_le i) hi
 have bi:=bd i hi
 have b0':=bd 0 n0
 obtain ⟨-,l1,l2⟩:=st i hi
 have sm:=line_small (e:=eps-1) (by omega) u L F hi
 obtain ⟨d,hd⟩:∃ d:Nat,f i-f 0=d:=⟨(f i-f 0).toNat,by omega⟩
 obtain ⟨A,rfl⟩:∃ A:Nat,a=A:=⟨a.toNat,by omega⟩
 obtain ⟨Bn,rfl⟩:∃ Bn:Nat,b=Bn:=⟨b.toNat,by omega⟩
 rw [Int.toNat_natCast,Int.toNat_natCast] at hs
 rw [hd] at l1 l2 sm
 have q:(A:Int)*d/Bn=((A*d/Bn:Nat):Int):=by rw [Int.natCast_ediv,Int.natCast_mul]
 rw [q] at l1 l2 sm
 obtain ⟨y,p,r,v,hy,ey,hp,ep,hr,ev,fv,sv,-,-⟩:=line_right (sl:=s) (ic:=floatOfInt .f64 (fr+c)) (far:=d) (by omega) wf (by omega)
 rw [ws] at hr sv
 have hq:A*d≤17179869184*Bn:=by
  have x:=Nat.div_add_mod (A*d) Bn
  have z:=Nat.mod_lt (A*d) (show 0<Bn by omega)
  have k:A*d/Bn+1≤17179869184:=by omega
  have k2:=Nat.mul_le_mul_right Bn k
  rw [Nat.add_mul,Nat.mul_comm (A*d/Bn)] at k2
  omega
 obtain ⟨g1,g2⟩:=floor_near (a:=A) (b:=Bn) (d:=d) (c:=fr+c) (by omega) (by omega) (by omega) (by omega) hs hy hp hq (by omega) (by omega) hr
 unfold away
 rw [guessV_gv er b0'.1 bi.2,hd,Int.toNat_natCast,gfl_is ey ep ev]
 have fl:flo v=rnd ((V p:Int)+(fr+c)*Un) r/Un:=by unfold flo;rw [sv]
 rw [fl]
 have:=gv_near (t:=rnd ((V p:Int)+(fr+c)*Un) r/Un) (lo:=fr) (hi:=fr+n) (x:=fr+i) (k:=eps) (by omega) (by omega) (by omega) (by omega) (by omega)
 omega
end Go.Proofs.YtinefkljjnepjabGreat
namespace Go.Proofs.YtinefkljjnepjabGreat
open Go.RowKit
set_option linter.unusedVariables false
def SegR (eps fr:Int) (f:Nat→Int) (n:Nat) (k:Int) (s ic:Nat) (F T er:Int):Prop :=
 (∃ a b c,OfR eps f n a b c er∧er≠0∧k=0∧s=0∧ic=0∧F=0∧T=0) ∨
 (∃ a b c,OfR eps f n a b c 0∧¬ (0≤fr∧fr+n≤4294967296)∧k=0∧s=0∧ic=0∧F=0∧T=0∧er=1) ∨
 (∃ a b c,OfR eps f n a b c 0∧(0≤fr∧fr+n≤4294967296)∧(a<18446744073709551616∧b<18446744073709551616)∧Nr (a.toNat*Un) b.toNat s∧k=f 0∧ic=floatOfInt .f64 (fr+c)∧F=fr∧T=fr+n∧er=0)
def Sb (w:World) (b:Nat) (k:Int) (s ic:Nat) (F T:Int):Prop:=w.heap[b]?=some (.cells #[.int .u64 k, .float .f64 s, .float .f64 ic, .int .i64 F, .int .i64 T] 100 (0,0))
theorem Sb.lt {w:World} {b:Nat} {k:Int} {s ic:Nat} {F T:Int} (h:Sb w b k s ic F T):b<w.heap.size:=(Array.getElem?_eq_some_iff.1 h).1
theorem Sb.gw {w w':World} {b:Nat} {k:Int} {s ic:Nat} {F T:Int} (h:Sb w b k s ic F T) (g:Gw w w'):Sb w' b k s ic F T:=(g.below.block b h.lt).trans h
theorem Sb.cells {w:World} {b:Nat} {k:Int} {s ic:Nat} {F T:Int} (h:Sb w b k s ic F T):w.cell? ⟨b,0,none⟩=some (.int .u64 k)∧w.cell? ⟨b,1,none⟩=some (.float .f64 s)∧w.cell? ⟨b,2,none⟩=some (.float .f64 ic)∧w.cell? ⟨b,3,none⟩=some (.int .i64 F)∧w.cell? ⟨b,4,none⟩=some (.int .i64 T):=by
 unfold Sb at h;simp [World.cell?,h]
theorem Sb.fz {w:World} {b:Nat} {k:Int} {s ic:Nat} {F T:Int} (h:Sb w b k s ic F T) (o:Nat):w.frozen? ⟨b,o,none⟩=false:=by unfold Sb at h;simp [World.frozen?,h]
theorem run_store_float {P:Program} {w:World} {a:Addr} {m:Mode} (k:FloatKind) (n:Nat):(store a (.float k n) m).run P w=stored P w a (.float k n) m:=run_store P w a _ m rfl
attribute [local go_sem] run_store_float
end Go.Proofs.YtinefkljjnepjabGreat
