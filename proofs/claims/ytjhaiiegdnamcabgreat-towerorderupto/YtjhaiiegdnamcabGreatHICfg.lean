/- Package tower: Check; the document's. -/
import Derived.Test.YtjhaiiegdnamcabGreatHPBs
import Derived.Test.YtjhaiiegdnamcabGreatHUTell
import Derived.Test.YtjhaiiegdnamcabGreatHIPlain
import Derived.Test.YtjhaiiegdnamcabGreatHQPut
namespace Go.Proofs.YtjhaiiegdnamcabGreat
open Go.RowKit
set_option linter.unusedVariables false
theorem blk_set16 {w:World} {b o:Nat} {vs:Array Value} {t:TypeId} (h:w.heap[b]?=some (.cells vs t (0,0))) {u:Value}:(w.setCell ⟨b,o,none⟩ u).heap[b]?=some (.cells (vs.setIfInBounds o u) t (0,0)):=by simp [World.setCell,Array.getElem?_modify,h]
def CfgOk (eps buf keys:Int):Prop:=(2≤eps∧eps≤64)∧(1≤buf∧buf≤4294967296)∧(1≤keys∧keys≤4294967296)∧2*keys+buf≤4294967296
instance (eps buf keys:Int):Decidable (CfgOk eps buf keys):=by unfold CfgOk;infer_instance
def cfgE (eps buf keys:Int):Int:=if CfgOk eps buf keys then 0 else 160
def sizeB (n:Int):Bool:=decide (1≤n)&&decide (n≤4294967296)
theorem isSize16 (n:Int) (w:World):Calls Tryz.prog 83 #[.int .i64 n] w fun e w'=>e=.returned (.bool (sizeB n))∧w'=w:=by
 by_cases a:1≤n
 ·by_cases b:n≤4294967296
  ·have t1:decide (1≤n)=true:=by simpa using a
   have t2:decide (n≤4294967296)=true:=by simpa using b
   have R:sizeB n=true:=by simp [sizeB,t1,t2]
   rw [R]
   clear R
   go_enter Tryz.func83,Tryz.ntmps83
   go_wp2_with fail
   go_ret
   exact ⟨rfl,rfl⟩
  ·have t1:decide (1≤n)=true:=by simpa using a
   have t2:decide (n≤4294967296)=false:=by simpa using b
   have R:sizeB n=false:=by simp [sizeB,t2]
   rw [R]
   clear R
   go_enter Tryz.func83,Tryz.ntmps83
   go_wp2_with fail
   go_ret
   exact ⟨rfl,rfl⟩
 ·have t1:decide (1≤n)=false:=by simpa using a
  have R:sizeB n=false:=by simp [sizeB,t1]
  rw [R]
  clear R
  go_enter Tryz.func83,Tryz.ntmps83
  go_wp2_with fail
  go_ret
  exact ⟨rfl,rfl⟩
set_option maxRecDepth 10000 in
set_option maxHeartbeats 2000000 in
theorem check16 (eps buf keys:Int) (w:World):Calls Tryz.prog 39 #[.agg #[.int .i64 eps, .int .i64 buf, .int .i64 keys]] w fun e w'=>e=.returned (.int .i64 (cfgE eps buf keys))∧Gw w w':=by
 by_cases e1:eps<2
 ·have t1:decide (eps<2)=true:=by simpa using e1
  have R:cfgE eps buf keys=160:=if_neg fun h=>by obtain ⟨⟨h1,h2⟩,⟨h3,h4⟩,⟨h5,h6⟩,h7⟩:=h;omega
  rw [R]
  clear R
  clear e1
  go_enter Tryz.func39,Tryz.ntmps39
  go_wp2_with fail
  go_ret
  exact ⟨rfl,(Gw.refl w).alloc _ _⟩
 ·have t1:decide (eps<2)=false:=by simpa using e1
  by_cases e2:64<eps
  ·have t2:decide (64<eps)=true:=by simpa using e2
   have R:cfgE eps buf keys=160:=if_neg fun h=>by obtain ⟨⟨h1,h2⟩,⟨h3,h4⟩,⟨h5,h6⟩,h7⟩:=h;omega
   rw [R]
   clear R
   clear e1 e2
   go_enter Tryz.func39,Tryz.ntmps39
   go_wp2_with fail
   go_ret
   exact ⟨rfl,(Gw.refl w).alloc _ _⟩
  ·have t2:decide (64<eps)=false:=by simpa using e2
   by_cases e3:1≤buf∧buf≤4294967296
   ·have S1:∀ w:World,Calls Tryz.prog 83 #[.int .i64 buf] w fun e w'=>e=.returned (.bool true)∧w'=w:=fun w=>by have:=isSize16 buf w;rwa [show sizeB buf=true by simp [sizeB,e3.1,e3.2]] at this
    by_cases e4:1≤keys∧keys≤4294967296
    ·have S2:∀ w:World,Calls Tryz.prog 83 #[.int .i64 keys] w fun e w'=>e=.returned (.bool true)∧w'=w:=fun w=>by have:=isSize16 keys w;rwa [show sizeB keys=true by simp [sizeB,e4.1,e4.2]] at this
     have w1:IntKind.i64.wrap (2*keys)=2*keys:=by rw [IntKind.wrap_i64];omega
     have w2:IntKind.i64.wrap (2*keys+buf)=2*keys+buf:=by rw [IntKind.wrap_i64];omega
     by_cases e5:4294967296<2*keys+buf
     ·have t5:decide (4294967296<2*keys+buf)=true:=by simpa using e5
      have R:cfgE eps buf keys=160:=if_neg fun h=>by obtain ⟨⟨h1,h2⟩,⟨h3,h4⟩,⟨h5,h6⟩,h7⟩:=h;omega
      rw [R]
      clear R
      clear e1 e2 e3 e4 e5
      go_enter Tryz.func39,Tryz.ntmps39
      go_wp2_with fail
      refine (S1 _).mono ?_
      rintro e u ⟨rfl,hw⟩
      have hw2:=hw.symm
      subst hw2
      clear hw
      go_wp2_with fail
      refine (S2 _).mono ?_
      rintro e u ⟨rfl,hw⟩
      have hw2:=hw.symm
      subst hw2
      clear hw
      go_wp2_with fail
      go_ret
      exact ⟨rfl,(Gw.refl w).alloc _ _⟩
     ·have t5:decide (4294967296<2*keys+buf)=false:=by simpa using e5
      have R:cfgE eps buf keys=0:=if_pos ⟨⟨by omega,by omega⟩,e3,e4,by omega⟩
      rw [R]
      clear R e1 e2 e3 e4 e5
      go_enter Tryz.func39,Tryz.ntmps39
      go_wp2_with fail
      refine (S1 _).mono ?_
      rintro e u ⟨rfl,hw⟩
      have hw2:=hw.symm
      subst hw2
      clear hw
      go_wp2_with fail
      refine (S2 _).mono ?_
      rintro e u ⟨rfl,hw⟩
      have hw2:=hw.symm
      subst hw2
      clear hw
      go_wp2_with fail
      go_ret
      exact ⟨rfl,(Gw.refl w).alloc _ _⟩
    ·have S2:∀ w:World,Calls Tryz.prog 83 #[.int .i64 keys] w fun e w'=>e=.returned (.bool false)∧w'=w:=fun w=>by have:=isSize16 keys w;rwa [show sizeB keys=false by simp only [sizeB,Bool.and_eq_false_iff,decide_eq_false_iff_not];omega] at this
     have R:cfgE eps buf keys=160:=if_neg fun h=>by obtain ⟨⟨h1,h2⟩,⟨h3,h4⟩,⟨h5,h6⟩,h7⟩:=h;omega
     rw [R]
     clear R
     clear e1 e2 e3 e4
     go_enter Tryz.func39,Tryz.ntmps39
     go_wp2_with fail
     refine (S1 _).mono ?_
     rintro e u ⟨rfl,hw⟩
     have hw2:=hw.symm
     subst hw2
     clear hw
     go_wp2_with fail
     refine (S2 _).mono ?_
     rintro e u ⟨rfl,hw⟩
     have hw2:=hw.symm
     subst hw2
     clear hw
     go_wp2_with fail
     go_ret
     exact ⟨rfl,(Gw.refl w).alloc _ _⟩
   ·have S1:∀ w:World,Calls Tryz.prog 83 #[.int .i64 buf] w fun e w'=>e=.returned (.bool false)∧w'=w:=fun w=>by have:=isSize16 buf w;rwa [show sizeB buf=false by simp only [sizeB,Bool.and_eq_false_iff,decide_eq_false_iff_not];omega] at this
    have R:cfgE eps buf keys=160:=if_neg fun h=>by obtain ⟨⟨h1,h2⟩,⟨h3,h4⟩,⟨h5,h6⟩,h7⟩:=h;omega
    rw [R]
    clear R
    clear e1 e2 e3
    go_enter Tryz.func39,Tryz.ntmps39
    go_wp2_with fail
    refine (S1 _).mono ?_
    rintro e u ⟨rfl,hw⟩
    have hw2:=hw.symm
    subst hw2
    clear hw
    go_wp2_with fail
    go_ret
    exact ⟨rfl,(Gw.refl w).alloc _ _⟩
set_option maxRecDepth 10000 in
set_option maxHeartbeats 2000000 in
theorem rcheck16 (eps buf keys:Int) (w:World):Calls Tryz.prog 9 #[.agg #[.int .i64 eps, .int .i64 buf, .int .i64 keys]] w fun e w'=>e=.returned (.int .i64 (cfgE eps buf keys))∧Gw w w':=by
 by_cases e1:eps<2
 ·have te1:decide (eps<2)=true:=by simpa using e1
  have R:cfgE eps buf keys=160:=if_neg fun h=>by obtain ⟨⟨h1,h2⟩,⟨h3,h4⟩,⟨h5,h6⟩,h7⟩:=h;omega
  rw [R]
  clear R
  clear e1
  go_enter Tryz.func9,Tryz.ntmps9
  go_wp2_with fail
  go_ret
  exact ⟨rfl,(Gw.refl w).alloc _ _⟩
 ·have te1:decide (eps<2)=false:=by simpa using e1
  by_cases e2:64<eps
  ·have te2:decide (64<eps)=true:=by simpa using e2
   have R:cfgE eps buf keys=160:=if_neg fun h=>by obtain ⟨⟨h1,h2⟩,⟨h3,h4⟩,⟨h5,h6⟩,h7⟩:=h;omega
   rw [R]
   clear R
   clear e1 e2
   go_enter Tryz.func9,Tryz.ntmps9
   go_wp2_with fail
   go_ret
   exact ⟨rfl,(Gw.refl w).alloc _ _⟩
  ·have te2:decide (64<eps)=false:=by simpa using e2
   by_cases e3:buf<1
   ·have te3:decide (buf<1)=true:=by simpa using e3
    have R:cfgE eps buf keys=160:=if_neg fun h=>by obtain ⟨⟨h1,h2⟩,⟨h3,h4⟩,⟨h5,h6⟩,h7⟩:=h;omega
    rw [R]
    clear R
    clear e1 e2 e3
    go_enter Tryz.func9,Tryz.ntmps9
    go_wp2_with fail
    go_ret
    exact ⟨rfl,(Gw.refl w).alloc _ _⟩
   ·have te3:decide (buf<1)=false:=by simpa using e3
    by_cases e4:4294967296<buf
    ·have te4:decide (4294967296<buf)=true:=by simpa using e4
     have R:cfgE eps buf keys=160:=if_neg fun h=>by obtain ⟨⟨h1,h2⟩,⟨h3,h4⟩,⟨h5,h6⟩,h7⟩:=h;omega
     rw [R]
     clear R
     clear e1 e2 e3 e4
     go_enter Tryz.func9,Tryz.ntmps9
     go_wp2_with fail
     go_ret
     exact ⟨rfl,(Gw.refl w).alloc _ _⟩
    ·have te4:decide (4294967296<buf)=false:=by simpa using e4
     by_cases e5:keys<1
     ·have te5:decide (keys<1)=true:=by simpa using e5
      have R:cfgE eps buf keys=160:=if_neg fun h=>by obtain ⟨⟨h1,h2⟩,⟨h3,h4⟩,⟨h5,h6⟩,h7⟩:=h;omega
      rw [R]
      clear R
      clear e1 e2 e3 e4 e5
      go_enter Tryz.func9,Tryz.ntmps9
      go_wp2_with fail
      go_ret
      exact ⟨rfl,(Gw.refl w).alloc _ _⟩
     ·have te5:decide (keys<1)=false:=by simpa using e5
      by_cases e6:4294967296<keys
      ·have te6:decide (4294967296<keys)=true:=by simpa using e6
       have R:cfgE eps buf keys=160:=if_neg fun h=>by obtain ⟨⟨h1,h2⟩,⟨h3,h4⟩,⟨h5,h6⟩,h7⟩:=h;omega
       rw [R]
       clear R
       clear e1 e2 e3 e4 e5 e6
       go_enter Tryz.func9,Tryz.ntmps9
       go_wp2_with fail
       go_ret
       exact ⟨rfl,(Gw.refl w).alloc _ _⟩
      ·have te6:decide (4294967296<keys)=false:=by simpa using e6
       have w1:IntKind.i64.wrap (2*keys)=2*keys:=by rw [IntKind.wrap_i64];omega
       have w2:IntKind.i64.wrap (2*keys+buf)=2*keys+buf:=by rw [IntKind.wrap_i64];omega
       by_cases e7:4294967296<2*keys+buf
       ·have t7:decide (4294967296<2*keys+buf)=true:=by simpa using e7
        have R:cfgE eps buf keys=160:=if_neg fun h=>by obtain ⟨⟨h1,h2⟩,⟨h3,h4⟩,⟨h5,h6⟩,h7⟩:=h;omega
        rw [R]
        clear R
        clear e1 e2 e3 e4 e5 e6 e7
        go_enter Tryz.func9,Tryz.ntmps9
        go_wp2_with fail
        go_ret
        exact ⟨rfl,(Gw.refl w).alloc _ _⟩
       ·have t7:decide (4294967296<2*keys+buf)=false:=by simpa using e7
        have R:cfgE eps buf keys=0:=if_pos ⟨⟨by omega,by omega⟩,⟨by omega,by omega⟩,⟨by omega,by omega⟩,by omega⟩
        rw [R]
        clear R e1 e2 e3 e4 e5 e6 e7
        go_enter Tryz.func9,Tryz.ntmps9
        go_wp2_with fail
        go_ret
        exact ⟨rfl,(Gw.refl w).alloc _ _⟩
end Go.Proofs.YtjhaiiegdnamcabGreat
namespace Go.Proofs.YtjhaiiegdnamcabGreat
open Go.RowKit
set_option linter.unusedVariables false
def twA (eps buf keys:Int) (pb pc:Nat) (live:Nat):Array Value:=#[.int .i64 eps, .int .i64 buf, .int .i64 keys, .pointer (some ⟨pb,0,none⟩), .pointer (some ⟨pc,0,none⟩), .int .i64 (live:Int)]
structure HS (HR:HRt) (w:World) (pb:Nat) (Sb:Nat→Prop) (pc:Nat) (eps buf:Int) (l:List Ent) (rs:List (Option Rn)) (B W:Int):Prop where
 hb:HB 151 w pb Sb buf l
 hc:HCl HR w pc rs eps buf B W
 nc:¬ Sb pc
 nr:∀ r,some r∈rs→∀ q,Sb q→¬ r.S q
structure HT (HR:HRt) (w:World) (p:Nat) (F:Nat→Prop) (eps buf keys:Int) (l:List Ent) (rs:List (Option Rn)) (B W:Int) (live:Nat):Prop where
 lies:∃ pb Sb pc,w.heap[p]?=some (.cells (twA eps buf keys pb pc live) 102 (0,0))∧HS HR w pb Sb pc eps buf l rs B W∧p≠pc∧¬ Sb p∧(∀ r,some r∈rs→¬ r.S p)∧∀ q,F q↔q=p∨q=pc∨Sb q
 inv:TInv eps buf keys l rs live
 cf:CfgOk eps buf keys
section
variable {HR:HRt} {w w':World} {p pb pc:Nat} {F Sb:Nat→Prop} {eps buf keys:Int} {l:List Ent} {rs:List (Option Rn)} {B W:Int} {live:Nat}
theorem HS.keep (K:Kp HR) (h:HS HR w pb Sb pc eps buf l rs B W) (k:∀ q,(Sb q∨q=pc∨∃ r,some r∈rs∧r.S q)→w'.heap[q]?=w.heap[q]?):HS HR w' pb Sb pc eps buf l rs B W :=
 ⟨h.hb.keep fun q hq=>k q (.inl hq),⟨(k pc (.inr (.inl rfl))).trans h.hc.blk,h.hc.len,fun r hr=>⟨(h.hc.runs r hr).1.keep K fun q hq=>k q (.inr (.inr ⟨r,hr,hq⟩)),(h.hc.runs r hr).2⟩,h.hc.e0,h.hc.e1,h.hc.b0,h.hc.b1⟩,h.nc,h.nr⟩
theorem HS.lt (K:Kp HR) (h:HS HR w pb Sb pc eps buf l rs B W):∀ q,(Sb q∨q=pc∨∃ r,some r∈rs∧r.S q)→q<w.heap.size:=fun q hq=>by
 rcases hq with x | x | ⟨r,x,y⟩
 ·exact h.hb.lt q x
 ·rw [x];exact h.hc.lt
 ·exact K.lt (h.hc.runs r x).1.h q y
theorem HS.gw (K:Kp HR) (h:HS HR w pb Sb pc eps buf l rs B W) (g:Gw w w'):HS HR w' pb Sb pc eps buf l rs B W:=h.keep K fun q hq=>g.below.block q (h.lt K q hq)
theorem HT.keep (K:Kp HR) (h:HT HR w p F eps buf keys l rs B W live) (k:∀ q,(F q∨∃ r,some r∈rs∧r.S q)→w'.heap[q]?=w.heap[q]?):HT HR w' p F eps buf keys l rs B W live:=by
 obtain ⟨pb,Sb,pc,h1,h2,h3,h4,h5,h6⟩:=h.lies
 exact ⟨⟨pb,Sb,pc,(k p (.inl ((h6 p).2 (.inl rfl)))).trans h1,h2.keep K fun q hq=>k q (by
  rcases hq with x | x | x
  ·exact .inl ((h6 q).2 (.inr (.inr x)))
  ·exact .inl ((h6 q).2 (.inr (.inl x)))
  ·exact .inr x),h3,h4,h5,h6⟩,h.inv,h.cf⟩
theorem HT.lt (K:Kp HR) (h:HT HR w p F eps buf keys l rs B W live):∀ q,(F q∨∃ r,some r∈rs∧r.S q)→q<w.heap.size:=fun q hq=>by
 obtain ⟨pb,Sb,pc,h1,h2,h3,h4,h5,h6⟩:=h.lies
 rcases hq with x | x
 ·rcases (h6 q).1 x with y | y | y
  ·rw [y];exact blkl h1
  ·exact h2.lt K q (.inr (.inl y))
  ·exact h2.lt K q (.inl y)
 ·exact h2.lt K q (.inr (.inr x))
theorem HT.own (h:HT HR w p F eps buf keys l rs B W live):F p:=by
 obtain ⟨pb,Sb,pc,h1,h2,h3,h4,h5,h6⟩:=h.lies
 exact (h6 p).2 (.inl rfl)
theorem HT.out (h:HT HR w p F eps buf keys l rs B W live):∀ r,some r∈rs→∀ q,F q→¬ r.S q:=fun r hr q hq=>by
 obtain ⟨pb,Sb,pc,h1,h2,h3,h4,h5,h6⟩:=h.lies
 rcases (h6 q).1 hq with y | y | y
 ·rw [y];exact h5 r hr
 ·rw [y];exact (h2.hc.runs r hr).2
 ·exact h2.nr r hr q y
theorem HT.gw (K:Kp HR) (h:HT HR w p F eps buf keys l rs B W live) (g:Gw w w'):HT HR w' p F eps buf keys l rs B W live:=h.keep K fun q hq=>g.below.block q (h.lt K q hq)
theorem HT.gx (K:Kp HR) {G:Nat→Prop} (h:HT HR w p F eps buf keys l rs B W live) (g:Gx G w w') (d:∀ q,G q→¬ F q) (d':∀ q,G q→∀ r,some r∈rs→¬ r.S q):HT HR w' p F eps buf keys l rs B W live:=h.keep K fun q hq=>g.block q (h.lt K q hq) fun x=>by
 rcases hq with y | ⟨r,y,z⟩
 ·exact d q x y
 ·exact d' q x r y z
theorem HT.pr (h:HT HR w p F eps buf keys l rs B W live):∀ r,some r∈rs→RA HR w r:=fun r hr=>by
 obtain ⟨pb,Sb,pc,h1,h2,h3,h4,h5,h6⟩:=h.lies
 exact (h2.hc.runs r hr).1
theorem HT.len (h:HT HR w p F eps buf keys l rs B W live):rs.length=40:=h.inv.len
end
def LayR (HR:HRt) (w w':World) (eps buf:Int) (l:List Ent) (rs:List (Option Rn)) (B W:Int) (l':List Ent) (rs':List (Option Rn)) (B' W':Int) (e:Ent):Prop :=
 (((ins Ent.k e l).length:Int)<buf∧l'=ins Ent.k e l∧rs'=rs∧B'=B∧W'=W) ∨
 (((ins Ent.k e l).length:Int)=buf∧l'=[]∧∃ o kept rn,TakeR rs (ins Ent.k e l) o kept∧LaidR HR w w' eps kept rn∧rs'=laid rs rn∧B'=B+one15 kept∧W'=W+kept.length)
def NewF (w:World) (F F':Nat→Prop) (rs rs':List (Option Rn)):Prop:=(∀ q,F' q→F q∨w.heap.size≤q)∧∀ r,some r∈rs'→some r∈rs∨∀ q,r.S q→w.heap.size≤q
end Go.Proofs.YtjhaiiegdnamcabGreat
