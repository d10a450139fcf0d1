/- A run's bytes, and bytes laid out as a run's. No Go in it. -/
import Derived.Test.YtinefkljjnepjabGreatWPZa
import Derived.Test.YtinefkljjnepjabGreatWPOc
namespace Go.Proofs.YtinefkljjnepjabGreat
set_option linter.unusedVariables false
def num8 (x:Int):List Int:=(List.range 8).map fun i=>byt x (7-i)
theorem num8_len (x:Int):(num8 x).length=8:=by simp [num8]
def entB (k v:Int) (g:Bool):List Int:=num8 k++(if g then [1] else 0::num8 v)
def entsB (k v:Nat→Int) (g:Nat→Bool) (n:Nat):List Int:=(List.range n).flatMap fun i=>entB (k i) (v i) (g i)
def segB (s:Sg):List Int:=num8 s.te++(num8 s.sl++num8 s.ic)
def segsB (l:List Sg):List Int:=l.flatMap segB
def levB (l:List Sg):List Int:=num8 l.length++segsB l
def levsB (L:List (List Sg)):List Int:=L.flatMap levB
def headB:List Int:=[73,78,67,49]
def putB (eps:Int) (k v:Nat→Int) (g:Nat→Bool) (n:Nat) (L:List (List Sg)):List Int:=headB++(num8 eps++(num8 n++(entsB k v g n++(num8 L.length++levsB L))))
theorem entB_len (k v:Int) (g:Bool):(entB k v g).length=if g then 9 else 17:=by
 unfold entB
 cases g<;>simp [num8_len]
theorem entsB_succ (k v:Nat→Int) (g:Nat→Bool) (n:Nat):entsB k v g (n+1)=entsB k v g n++entB (k n) (v n) (g n):=by
 simp [entsB,List.range_succ]
theorem segB_len (s:Sg):(segB s).length=24:=by simp [segB,num8_len]
theorem segsB_len:∀ l:List Sg,(segsB l).length=24*l.length:=by
 intro l
 induction l with
 | nil=>rfl
 | cons s l ih =>
  have e:segsB (s::l)=segB s++segsB l:=rfl
  rw [e,List.length_append,segB_len,ih,List.length_cons]
  omega
theorem levB_len (l:List Sg):(levB l).length=8+24*l.length:=by simp [levB,num8_len,segsB_len]
theorem byt_nums (x:Int):∀ i,i<8→(num8 x)[i]?=some (byt x (7-i)):=by
 intro i hi
 simp [num8,hi]
theorem num8_bd (x:Int):∀ y∈num8 x,0≤y∧y<256:=by
 intro y hy
 obtain ⟨i,_,rfl⟩:=List.mem_map.1 hy
 exact byt_bd _ _
theorem entB_bd (k v:Int) (g:Bool):∀ y∈entB k v g,0≤y∧y<256:=by
 intro y hy
 unfold entB at hy
 rcases List.mem_append.1 hy with h | h
 ·exact num8_bd _ _ h
 ·cases g
  ·simp at h
   rcases h with rfl | h
   ·decide
   ·exact num8_bd _ _ h
  ·simp at h
   subst h
   decide
theorem entsB_bd (k v:Nat→Int) (g:Nat→Bool) (n:Nat):∀ y∈entsB k v g n,0≤y∧y<256:=by
 intro y hy
 obtain ⟨i,_,h⟩:=List.mem_flatMap.1 hy
 exact entB_bd _ _ _ _ h
theorem segB_bd (s:Sg):∀ y∈segB s,0≤y∧y<256:=by
 intro y hy
 unfold segB at hy
 rcases List.mem_append.1 hy with h | h
 ·exact num8_bd _ _ h
 ·rcases List.mem_append.1 h with h | h<;>exact num8_bd _ _ h
theorem levB_bd (l:List Sg):∀ y∈levB l,0≤y∧y<256:=by
 intro y hy
 rcases List.mem_append.1 hy with h | h
 ·exact num8_bd _ _ h
 ·obtain ⟨s,_,h⟩:=List.mem_flatMap.1 h
  exact segB_bd _ _ h
theorem levsB_bd (L:List (List Sg)):∀ y∈levsB L,0≤y∧y<256:=by
 intro y hy
 obtain ⟨s,_,h⟩:=List.mem_flatMap.1 hy
 exact levB_bd _ _ h
theorem putB_bd (eps:Int) (k v:Nat→Int) (g:Nat→Bool) (n:Nat) (L:List (List Sg)):∀ y∈putB eps k v g n L,0≤y∧y<256:=by
 intro y hy
 unfold putB at hy
 rcases List.mem_append.1 hy with h | h
 ·simp [headB] at h
  omega
 rcases List.mem_append.1 h with h | h
 ·exact num8_bd _ _ h
 rcases List.mem_append.1 h with h | h
 ·exact num8_bd _ _ h
 rcases List.mem_append.1 h with h | h
 ·exact entsB_bd _ _ _ _ _ h
 rcases List.mem_append.1 h with h | h
 ·exact num8_bd _ _ h
 ·exact levsB_bd _ _ h
def Lies (f:Nat→Int) (o:Nat) (l:List Int):Prop:=∀ i,i<l.length→l[i]?=some (f (o+i))
theorem Lies.app {f:Nat→Int} {o:Nat} {a b:List Int}:Lies f o (a++b)↔Lies f o a∧Lies f (o+a.length) b:=by
 constructor
 ·intro h
  refine ⟨fun i hi=>?_,fun i hi=>?_⟩
  ·have:=h i (by rw [List.length_append];omega)
   rwa [List.getElem?_append_left hi] at this
  ·have:=h (a.length+i) (by rw [List.length_append];omega)
   rw [List.getElem?_append_right (by omega),show a.length+i-a.length=i by omega] at this
   rw [this,Nat.add_assoc]
 ·rintro ⟨h,k⟩ i hi
  rw [List.length_append] at hi
  by_cases c:i<a.length
  ·rw [List.getElem?_append_left c,h i c]
  ·rw [List.getElem?_append_right (by omega),k (i-a.length) (by omega)]
   congr 2
   omega
theorem Lies.nil {f:Nat→Int} {o:Nat}:Lies f o []:=fun i hi=>by simp at hi
theorem Lies.at {f:Nat→Int} {o i:Nat} {l:List Int} (h:Lies f o l) {y:Int} (e:l[i]?=some y):f (o+i)=y:=by
 have hi:=(List.getElem?_eq_some_iff.1 e).1
 have:=h i hi
 rw [e] at this
 cases this
 rfl
theorem Lies.num {f:Nat→Int} {o:Nat} {x:Int} (h:Lies f o (num8 x)) (h0:0≤x) (h1:x<18446744073709551616):numR f o 8=x:=by
 rw [numR_congr (g:=fun i=>byt x (7-i)) (o':=0) (fun i hi=>by rw [Nat.zero_add];exact h.at (byt_nums x i hi))]
 exact numR_eight h0 h1
theorem byt_num {f:Nat→Int} {o:Nat}:∀ {k:Nat},(∀ i,i<k→0≤f (o+i)∧f (o+i)<256)→∀ i,i<k→byt (numR f o k) (k-1-i)=f (o+i):=by
 intro k
 induction k with
 | zero=>intro _ i hi;omega
 | succ k ih =>
  intro h i hi
  obtain ⟨c,d⟩:=h k (by omega)
  show byt (numR f o k*256+f (o+k)) (k+1-1-i)=f (o+i)
  by_cases e:i=k
  ·subst e
   rw [show i+1-1-i=0 by omega]
   unfold byt
   rw [Int.pow_zero,Int.ediv_one]
   omega
  ·rw [←ih (fun j hj=>h j (by omega)) i (by omega),show k+1-1-i=(k-1-i)+1 by omega]
   unfold byt
   rw [Int.pow_succ,Int.mul_comm (256^(k-1-i)) 256,←Int.ediv_ediv_of_nonneg (by decide),show (numR f o k*256+f (o+k))/256=numR f o k by omega]
theorem Lies.of_num {f:Nat→Int} {o:Nat} (h:∀ i,i<8→0≤f (o+i)∧f (o+i)<256):Lies f o (num8 (numR f o 8)):=by
 intro i hi
 rw [num8_len] at hi
 rw [byt_nums _ i hi,show 7-i=8-1-i from rfl,byt_num h i hi]
theorem Lies.congr {f f':Nat→Int} {o:Nat} {l:List Int} (h:Lies f o l) (e:∀ i,i<l.length→f (o+i)=f' (o+i)):Lies f' o l:=fun i hi=>by rw [h i hi,e i hi]
def eOff (f:Nat→Int):Nat→Nat
 | 0=>20
 | i+1=>eOff f i+(if f (eOff f i+8)=1 then 9 else 17)
def kF (f:Nat→Int) (i:Nat):Int:=numR f (eOff f i) 8
def gF (f:Nat→Int) (i:Nat):Bool:=decide (f (eOff f i+8)=1)
def vF (f:Nat→Int) (i:Nat):Int:=if f (eOff f i+8)=1 then 0 else numR f (eOff f i+9) 8
def cF (f:Nat→Int) (o:Nat):Nat:=(numR f o 8).toNat
def nF (f:Nat→Int):Nat:=cF f 12
def hF (f:Nat→Int):Nat:=cF f (eOff f (nF f))
def teF (f:Nat→Int) (o j:Nat):Int:=numR f (o+8+24*j) 8
def frF (f:Nat→Int) (o:Nat):Nat→Int
 | 0=>0
 | j+1=>teF f o j
def sgF (f:Nat→Int) (o:Nat) (key:Nat→Int) (j:Nat):Sg:=⟨key (frF f o j).toNat,(numR f (o+8+24*j+8) 8).toNat,(numR f (o+8+24*j+16) 8).toNat,frF f o j,teF f o j⟩
def lvF (f:Nat→Int) (o:Nat) (key:Nat→Int):List Sg:=(List.range (cF f o)).map (sgF f o key)
def lvsF (f:Nat→Int):Nat→Nat→(Nat→Int)→List (List Sg)
 | 0,_,_=>[]
 | h+1,o,key=>lvF f o key::lvsF f h (o+8+24*cF f o) (fst8 (lvF f o key))
def lOff (f:Nat→Int) (o:Nat):Nat→Nat
 | 0=>o
 | l+1=>lOff f o l+8+24*cF f (lOff f o l)
def lO (f:Nat→Int):Nat:=eOff f (nF f)+8
def LF (f:Nat→Int):List (List Sg):=lvsF f (hF f) (lO f) (kF f)
theorem lvF_len (f:Nat→Int) (o:Nat) (key:Nat→Int):(lvF f o key).length=cF f o:=by simp [lvF]
theorem lvF_at (f:Nat→Int) (o:Nat) (key:Nat→Int) {j:Nat} (h:j<cF f o):(lvF f o key).getD j sg0=sgF f o key j:=by simp [lvF,List.getD,h]
theorem lOff_cons (f:Nat→Int) (o:Nat):∀ l,lOff f o (l+1)=lOff f (o+8+24*cF f o) l:=by
 intro l
 induction l with
 | zero=>rfl
 | succ l ih =>
  show lOff f o (l+1)+8+24*cF f (lOff f o (l+1))=_
  rw [ih]
  rfl
theorem lvsF_len (f:Nat→Int):∀ h o key,(lvsF f h o key).length=h:=by
 intro h
 induction h with
 | zero=>intro _ _;rfl
 | succ h ih=>intro o key;show (_::_).length=_;rw [List.length_cons,ih]
theorem lvsF_at (f:Nat→Int):∀ h o key i,i<h→(lvsF f h o key).getD i []=lvF f (lOff f o i) (if i=0 then key else fst8 ((lvsF f h o key).getD (i-1) [])):=by
 intro h
 induction h with
 | zero=>intro _ _ i hi;omega
 | succ h ih =>
  intro o key i hi
  cases i with
  | zero=>rfl
  | succ i =>
   show (lvsF f h _ _).getD i []=_
   rw [ih _ _ i (by omega),lOff_cons]
   cases i with
   | zero=>rfl
   | succ i=>rfl
theorem lvsF_atlen (f:Nat→Int) (h o:Nat) (key:Nat→Int) (i:Nat) (hi:i<h):((lvsF f h o key).getD i []).length=cF f (lOff f o i):=by rw [lvsF_at f h o key i hi,lvF_len]
structure SegFit (f:Nat→Int) (m o N j:Nat):Prop where
 room:o+8+24*j+24≤m
 te:numR f (o+8+24*j) 8≤4294967296
 sl:numR f (o+8+24*j+8) 8/4503599627370496%2048≠2047
 ic:numR f (o+8+24*j+16) 8/4503599627370496%2048≠2047
 fr:(frF f o j).toNat<N
structure LvFit (f:Nat→Int) (m o N:Nat):Prop where
 room:o+8≤m
 cnt:numR f o 8≤4294967296
 seg:∀ j,j<cF f o→SegFit f m o N j
def belowN (f:Nat→Int) (l:Nat):Nat:=if l=0 then nF f else cF f (lOff f (lO f) (l-1))
structure FitB (f:Nat→Int) (m:Nat):Prop where
 hd:4≤m∧Lies f 0 headB
 ep:12≤m∧numR f 4 8≤64
 nn:20≤m∧numR f 12 8≤4294967296
 en:∀ i,i<nF f→eOff f i+9≤m∧f (eOff f i+8)≤1∧eOff f (i+1)≤m
 hh:lO f≤m∧numR f (eOff f (nF f)) 8≤4294967296
 lv:∀ l,l<hF f→LvFit f m (lOff f (lO f) l) (belowN f l)
 all:lOff f (lO f) (hF f)=m
theorem eOff_ge (f:Nat→Int):∀ i,20+9*i≤eOff f i:=by
 intro i
 induction i with
 | zero=>exact Nat.le_refl _
 | succ i ih =>
  show _≤eOff f i+_
  split<;>omega
theorem eOff_mono (f:Nat→Int):∀ {i j},i≤j→eOff f i+9*(j-i)≤eOff f j:=by
 intro i j h
 obtain ⟨d,rfl⟩:∃ d,j=i+d:=⟨j-i,by omega⟩
 clear h
 induction d with
 | zero=>simp
 | succ d ih =>
  have:eOff f (i+(d+1))=eOff f (i+d)+_:=rfl
  rw [this]
  split<;>omega
theorem lOff_mono (f:Nat→Int) (o:Nat):∀ {i j},i≤j→lOff f o i+8*(j-i)≤lOff f o j:=by
 intro i j h
 obtain ⟨d,rfl⟩:∃ d,j=i+d:=⟨j-i,by omega⟩
 clear h
 induction d with
 | zero=>simp
 | succ d ih =>
  have:lOff f o (i+(d+1))=lOff f o (i+d)+8+24*cF f (lOff f o (i+d)):=rfl
  rw [this]
  omega
theorem lOff_lv (f:Nat→Int) (o:Nat) {i j:Nat} (h:i<j):lOff f o i+8+24*cF f (lOff f o i)≤lOff f o j:=by
 have:=lOff_mono f o (i:=i+1) (j:=j) h
 have e:lOff f o (i+1)=lOff f o i+8+24*cF f (lOff f o i):=rfl
 omega
section
variable {f:Nat→Int} {m:Nat}
theorem cF_cast {o:Nat} (bd:∀ i,i<m→0≤f i∧f i<256) (ho:o+8≤m):(cF f o:Int)=numR f o 8:=by
 have:=(numR_bd (f:=f) (o:=o) (k:=8) (fun i hi=>bd _ (by omega))).1
 unfold cF
 omega
theorem entsF_lies (bd:∀ i,i<m→0≤f i∧f i<256):∀ i,(∀ t,t<i→eOff f t+9≤m∧f (eOff f t+8)≤1∧eOff f (t+1)≤m)→Lies f 20 (entsB (kF f) (vF f) (gF f) i)∧20+(entsB (kF f) (vF f) (gF f) i).length=eOff f i:=by
 intro i
 induction i with
 | zero=>intro _;exact ⟨Lies.nil,rfl⟩
 | succ i ih =>
  intro h
  obtain ⟨a,b⟩:=ih fun t ht=>h t (by omega)
  obtain ⟨h1,h2,h3⟩:=h i (by omega)
  have e:eOff f (i+1)=eOff f i+(if f (eOff f i+8)=1 then 9 else 17):=rfl
  rw [entsB_succ,Lies.app,List.length_append,←Nat.add_assoc,b,e,entB_len]
  unfold entB gF vF
  by_cases c:f (eOff f i+8)=1
  ·refine ⟨⟨a,?_⟩,by simp [c]⟩
   rw [if_pos (by simpa using c),Lies.app]
   refine ⟨Lies.of_num fun j hj=>bd _ (by omega),?_⟩
   rw [num8_len]
   intro j hj
   have:j=0:=by simpa using hj
   subst this
   simp [c]
  ·have z:f (eOff f i+8)=0:=by have:=bd (eOff f i+8) (by omega);omega
   rw [e,if_neg c] at h3
   refine ⟨⟨a,?_⟩,by simp [c]⟩
   rw [if_neg (by simpa using c),if_neg c,Lies.app]
   refine ⟨Lies.of_num fun j hj=>bd _ (by omega),?_⟩
   rw [num8_len,show (0:Int)::num8 (numR f (eOff f i+9) 8)=[0]++num8 (numR f (eOff f i+9) 8) from rfl,Lies.app]
   refine ⟨fun j hj=>?_,Lies.of_num fun j hj=>bd _ (by simp;omega)⟩
   have:j=0:=by simpa using hj
   subst this
   simp [z]
theorem segF_lies (bd:∀ i,i<m→0≤f i∧f i<256) (o:Nat) (key:Nat→Int) (j:Nat) (h:o+8+24*j+24≤m):Lies f (o+8+24*j) (segB (sgF f o key j)):=by
 have c:∀ t,t+8≤m→((numR f t 8).toNat:Int)=numR f t 8:=fun t ht=>cF_cast bd ht
 unfold segB sgF teF
 simp only []
 rw [c _ (by omega),c _ (by omega),Lies.app,Lies.app,num8_len,num8_len]
 exact ⟨Lies.of_num fun j hj=>bd _ (by omega),Lies.of_num fun j hj=>bd _ (by omega),Lies.of_num fun j hj=>bd _ (by omega)⟩
theorem segsF_lies (bd:∀ i,i<m→0≤f i∧f i<256) (o:Nat) (key:Nat→Int):∀ j,o+8+24*j≤m→Lies f (o+8) (segsB ((List.range j).map (sgF f o key))):=by
 intro j
 induction j with
 | zero=>intro _;exact Lies.nil
 | succ j ih =>
  intro h
  rw [List.range_succ,List.map_append,segsB,List.flatMap_append,Lies.app]
  refine ⟨ih (by omega),?_⟩
  have e:=segsB_len ((List.range j).map (sgF f o key))
  unfold segsB at e
  rw [e]
  simpa using segF_lies bd o key j (by omega)
theorem levsF_lies (bd:∀ i,i<m→0≤f i∧f i<256):∀ h o key,lOff f o h≤m→Lies f o (levsB (lvsF f h o key))∧o+(levsB (lvsF f h o key)).length=lOff f o h:=by
 intro h
 induction h with
 | zero=>intro o key _;exact ⟨Lies.nil,rfl⟩
 | succ h ih =>
  intro o key hm
  rw [lOff_cons] at hm ⊢
  obtain ⟨a,b⟩:=ih (o+8+24*cF f o) (fst8 (lvF f o key)) hm
  have lo:=lOff_mono f (o+8+24*cF f o) (Nat.zero_le h)
  have lo':o+8+24*cF f o≤m:=Nat.le_trans (by exact Nat.le_trans (Nat.le_add_right _ _) lo) hm
  have e:levsB (lvsF f (h+1) o key)=levB (lvF f o key)++levsB (lvsF f h (o+8+24*cF f o) (fst8 (lvF f o key))):=rfl
  have ll:(levB (lvF f o key)).length=8+24*cF f o:=by rw [levB_len,lvF_len]
  rw [e,Lies.app,List.length_append,ll,←Nat.add_assoc,←Nat.add_assoc]
  refine ⟨⟨?_,a⟩,by omega⟩
  unfold levB
  rw [Lies.app,num8_len,lvF_len,cF_cast bd (by omega)]
  exact ⟨Lies.of_num fun j hj=>bd _ (by omega),segsF_lies bd o key _ lo'⟩
theorem FitB.once (h:FitB f m) (bd:∀ i,i<m→0≤f i∧f i<256):Lies f 0 (putB (numR f 4 8) (kF f) (vF f) (gF f) (nF f) (LF f))∧(putB (numR f 4 8) (kF f) (vF f) (gF f) (nF f) (LF f)).length=m:=by
 obtain ⟨a,b⟩:=entsF_lies bd (nF f) h.en
 have hm:=h.hh.1
 have e0:lO f=eOff f (nF f)+8:=rfl
 obtain ⟨c,d⟩:=levsF_lies bd (hF f) (lO f) (kF f) (Nat.le_of_eq h.all)
 have x1:=h.nn.1
 have n4:headB.length=4:=rfl
 have q1:(nF f:Int)=numR f 12 8:=cF_cast bd (by omega)
 have q2:((LF f).length:Int)=numR f (eOff f (nF f)) 8:=by
  unfold LF
  rw [lvsF_len]
  exact cF_cast bd (by omega)
 unfold putB
 rw [Lies.app,Lies.app,Lies.app,Lies.app,Lies.app,List.length_append,List.length_append,List.length_append,List.length_append,List.length_append,num8_len,num8_len,num8_len,n4,q1,q2]
 rw [show 0+4+8+8=20 from rfl,b,show eOff f (nF f)+8=lO f from rfl]
 refine ⟨⟨h.hd.2,Lies.of_num fun j hj=>bd _ (by omega),Lies.of_num fun j hj=>bd _ (by omega),a,Lies.of_num fun j hj=>bd _ (by omega),c⟩,?_⟩
 have al:=h.all
 unfold LF
 omega
end
def Chain (key:Nat→Int):Int→List Sg→Prop
 | _,[]=>True
 | a,s::l=>s.fr=a∧s.k=key a.toNat∧Chain key s.te l
def Chains:(Nat→Int)→List (List Sg)→Prop
 | _,[]=>True
 | key,l::r=>Chain key 0 l∧Chains (fst8 l) r
structure SgW (s:Sg):Prop where
 t0:0≤s.te
 t1:s.te<18446744073709551616
 s1:s.sl<18446744073709551616
 i1:s.ic<18446744073709551616
section
variable {f:Nat→Int}
theorem entsB_back {k v:Nat→Int} {g:Nat→Bool}:∀ n,(∀ i,i<n→(0≤k i∧k i<18446744073709551616)∧(0≤v i∧v i<18446744073709551616)∧(g i=true→v i=0))→Lies f 20 (entsB k v g n) →
  eOff f n=20+(entsB k v g n).length∧∀ i,i<n→kF f i=k i∧vF f i=v i∧gF f i=g i∧f (eOff f i+8)≤1∧eOff f (i+1)=eOff f i+(if g i then 9 else 17):=by
 intro n
 induction n with
 | zero=>intro _ _;exact ⟨rfl,fun i hi=>by omega⟩
 | succ n ih =>
  intro h l
  rw [entsB_succ,Lies.app] at l
  obtain ⟨a,b⟩:=ih (fun i hi=>h i (by omega)) l.1
  obtain ⟨⟨k0,k1⟩,⟨v0,v1⟩,gv⟩:=h n (by omega)
  have l2:=l.2
  rw [←a] at l2
  unfold entB at l2
  rw [Lies.app,num8_len] at l2
  have ek:kF f n=k n:=l2.1.num k0 k1
  have e1:eOff f (n+1)=eOff f n+(if f (eOff f n+8)=1 then 9 else 17):=rfl
  have main:vF f n=v n∧gF f n=g n∧f (eOff f n+8)≤1∧eOff f (n+1)=eOff f n+(if g n then 9 else 17):=by
   rw [e1]
   unfold vF gF
   cases hg:g n with
   | true =>
    rw [hg] at l2
    have:f (eOff f n+8+0)=1:=l2.2.at (by simp)
    rw [Nat.add_zero] at this
    rw [this]
    exact ⟨by rw [if_pos rfl,gv hg],by simp,by decide,by simp⟩
   | false =>
    rw [hg] at l2
    have l3:=l2.2
    simp only [Bool.false_eq_true,if_false] at l3
    rw [show (0:Int)::num8 (v n)=[0]++num8 (v n) from rfl,Lies.app] at l3
    have z:f (eOff f n+8+0)=0:=l3.1.at (by simp)
    rw [Nat.add_zero] at z
    have w:numR f (eOff f n+9) 8=v n:=l3.2.num v0 v1
    rw [z]
    exact ⟨by rw [if_neg (by decide),w],by simp,by decide,by simp⟩
  refine ⟨?_,fun i hi=>?_⟩
  ·rw [main.2.2.2,a,entsB_succ,List.length_append,entB_len]
   omega
  ·by_cases c:i=n
   ·subst c;exact ⟨ek,main⟩
   ·exact b i (by omega)
theorem segB_back {s:Sg} {o:Nat} (w:SgW s) (l:Lies f o (segB s)):numR f o 8=s.te∧(numR f (o+8) 8).toNat=s.sl∧(numR f (o+16) 8).toNat=s.ic:=by
 unfold segB at l
 rw [Lies.app,Lies.app,num8_len,num8_len] at l
 have a:=l.2.1.num (by omega) (by have:=w.s1;omega)
 have b:=l.2.2.num (by omega) (by have:=w.i1;omega)
 refine ⟨l.1.num w.t0 w.t1,by omega,?_⟩
 rw [show o+16=o+8+8 by omega]
 omega
theorem segsB_back {key:Nat→Int} {o:Nat}:∀ (l:List Sg) (j:Nat),(∀ s∈l,SgW s)→Chain key (frF f o j) l→Lies f (o+8+24*j) (segsB l)→(List.range' j l.length).map (sgF f o key)=l:=by
 intro l
 induction l with
 | nil=>intro j _ _ _;rfl
 | cons s l ih =>
  intro j hw hc hl
  have e:segsB (s::l)=segB s++segsB l:=rfl
  rw [e,Lies.app,segB_len] at hl
  obtain ⟨a,b,c⟩:=segB_back (hw s (List.mem_cons_self ..)) hl.1
  obtain ⟨c1,c2,c3⟩:=hc
  have ne:frF f o (j+1)=s.te:=a
  have:=ih (j+1) (fun t ht=>hw t (List.mem_cons_of_mem _ ht)) (by rw [ne];exact c3) (by rw [show o+8+24*(j+1)=o+8+24*j+24 by omega];exact hl.2)
  rw [List.length_cons,List.range'_succ,List.map_cons,this]
  have es:sgF f o key j=s:=by
   unfold sgF
   rw [←c1] at c2
   rw [←c1,←c2,b,c]
   show Sg.mk s.k s.sl s.ic s.fr (numR f (o+8+24*j) 8)=s
   rw [a]
  rw [es]
theorem levB_back {key:Nat→Int} {o:Nat} {l:List Sg} (n1:l.length<18446744073709551616) (hw:∀ s∈l,SgW s) (hc:Chain key 0 l) (hl:Lies f o (levB l)):cF f o=l.length∧lvF f o key=l:=by
 unfold levB at hl
 rw [Lies.app,num8_len] at hl
 have a:=hl.1.num (by omega) (by omega)
 have c:cF f o=l.length:=by unfold cF;omega
 refine ⟨c,?_⟩
 have:=segsB_back (f:=f) (key:=key) (o:=o) l 0 hw hc hl.2
 unfold lvF
 rw [c,List.range_eq_range']
 exact this
theorem levsB_back:∀ (L:List (List Sg)) (o:Nat) (key:Nat→Int),(∀ l∈L,l.length<18446744073709551616∧∀ s∈l,SgW s)→Chains key L→Lies f o (levsB L)→lvsF f L.length o key=L∧lOff f o L.length=o+(levsB L).length:=by
 intro L
 induction L with
 | nil=>intro o key _ _ _;exact ⟨rfl,rfl⟩
 | cons l L ih =>
  intro o key hw hc hl
  have e:levsB (l::L)=levB l++levsB L:=rfl
  rw [e,Lies.app,levB_len] at hl
  obtain ⟨w1,w2⟩:=hw l (List.mem_cons_self ..)
  obtain ⟨a,b⟩:=levB_back (key:=key) w1 w2 hc.1 hl.1
  have h2:=hl.2
  rw [←Nat.add_assoc,←a] at h2
  obtain ⟨c,d⟩:=ih (o+8+24*cF f o) (fst8 l) (fun t ht=>hw t (List.mem_cons_of_mem _ ht)) hc.2 h2
  rw [List.length_cons,lOff_cons,d,e,List.length_append,levB_len,a]
  refine ⟨?_,by omega⟩
  show lvF f o key::lvsF f L.length (o+8+24*cF f o) (fst8 (lvF f o key))=_
  rw [b,c]
structure RunW (eps:Int) (k v:Nat→Int) (g:Nat→Bool) (n:Nat) (L:List (List Sg)):Prop where
 e0:0≤eps
 e1:eps≤64
 n1:n≤4294967296
 en:∀ i,i<n→(0≤k i∧k i<18446744073709551616)∧(0≤v i∧v i<18446744073709551616)∧(g i=true→v i=0)
 l1:L.length≤4294967296
 lw:∀ l∈L,l.length≤4294967296∧∀ s∈l,SgW s
 ch:Chains k L
theorem chain_congr {k k':Nat→Int} {N:Nat} (e:∀ i,i<N→k i=k' i):∀ (l:List Sg) (a:Int),(∀ s∈l,s.fr.toNat<N)→Chain k a l→Chain k' a l:=by
 intro l
 induction l with
 | nil=>intro _ _ _;trivial
 | cons s l ih =>
  intro a hb ⟨c1,c2,c3⟩
  have hs:=hb s (List.mem_cons_self ..)
  rw [c1] at hs
  exact ⟨c1,by rw [c2,e _ hs],ih _ (fun t ht=>hb t (List.mem_cons_of_mem _ ht)) c3⟩
theorem back12 {eps:Int} {k v:Nat→Int} {g:Nat→Bool} {n:Nat} {L:List (List Sg)} (h:RunW eps k v g n L) (fb:∀ s∈L.getD 0 [],s.fr.toNat<n) (l:Lies f 0 (putB eps k v g n L)) :
  numR f 4 8=eps∧nF f=n∧(∀ i,i<n→kF f i=k i∧vF f i=v i∧gF f i=g i∧f (eOff f i+8)≤1)∧hF f=L.length∧LF f=L∧lOff f (lO f) (hF f)=(putB eps k v g n L).length∧Lies f 0 headB:=by
 have n4:headB.length=4:=rfl
 have ll:(putB eps k v g n L).length=28+(entsB k v g n).length+(levsB L).length:=by
  unfold putB
  rw [List.length_append,List.length_append,List.length_append,List.length_append,List.length_append,num8_len,num8_len,num8_len,n4]
  omega
 rw [ll]
 unfold putB at l
 rw [Lies.app,Lies.app,Lies.app,Lies.app,Lies.app,num8_len,num8_len,num8_len,n4,show 0+4+8+8=20 from rfl] at l
 obtain ⟨a1,a2,a3,a4,a5,a6⟩:=l
 have x0:=h.e0
 have x1:=h.e1
 have x2:=h.n1
 have x3:=h.l1
 have b2:numR f 4 8=eps:=a2.num x0 (by omega)
 have b3:numR f 12 8=(n:Int):=a3.num (by omega) (by omega)
 have bn:nF f=n:=by unfold nF cF;omega
 obtain ⟨b4,c4⟩:=entsB_back n h.en a4
 have lo:lO f=20+(entsB k v g n).length+8:=by unfold lO;rw [bn,b4]
 rw [←b4] at a5
 have b5:=a5.num (by omega) (by omega)
 have hh:hF f=L.length:=by unfold hF cF;rw [bn];omega
 rw [←lo] at a6
 have ch:Chains (kF f) L:=by
  have c:=h.ch
  cases L with
  | nil=>trivial
  | cons l r=>exact ⟨chain_congr (fun i hi=>((c4 i hi).1).symm) l 0 fb c.1,c.2⟩
 obtain ⟨b6,c6⟩:=levsB_back L (lO f) (kF f) (fun t ht=>⟨by have:=(h.lw t ht).1;omega,(h.lw t ht).2⟩) ch a6
 refine ⟨b2,bn,fun i hi=>?_,hh,by unfold LF;rw [hh];exact b6,by rw [hh,c6,lo];omega,a1⟩
 obtain ⟨q1,q2,q3,q4,_⟩:=c4 i hi
 exact ⟨q1,q2,q3,q4⟩
end
end Go.Proofs.YtinefkljjnepjabGreat
