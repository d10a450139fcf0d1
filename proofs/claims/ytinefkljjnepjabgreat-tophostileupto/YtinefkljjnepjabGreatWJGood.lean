/- A run that is right can be written, and is laid out as its bytes. No Go in it. -/
import Derived.Test.YtinefkljjnepjabGreatWPRd
import Derived.Test.YtinefkljjnepjabGreatWPJp
namespace Go.Proofs.YtinefkljjnepjabGreat
set_option linter.unusedVariables false
theorem tile_chain {N:Nat} {key:Nat→Int}:∀ (l:List Sg) (a:Nat),tileB N a l=true→(∀ s∈l,s.k=key s.fr.toNat)→Chain key a l:=by
 intro l
 induction l with
 | nil=>intro _ _ _;trivial
 | cons s l ih =>
  intro a h hk
  obtain ⟨h1,h2,h3,h4⟩:=tileB_cons.1 h
  have k0:=hk s (List.mem_cons_self ..)
  rw [h1] at k0
  refine ⟨h1,k0,?_⟩
  have:=ih _ h4 fun t ht=>hk t (List.mem_cons_of_mem _ ht)
  rwa [show ((s.te.toNat:Nat):Int)=s.te by omega] at this
theorem chains_of:∀ (L:List (List Sg)) (key:Nat→Int),(∀ i,i<L.length→Chain (rowF key L i) 0 (L.getD i []))→Chains key L:=by
 intro L
 induction L with
 | nil=>intro _ _;trivial
 | cons l r ih =>
  intro key h
  refine ⟨h 0 (by simp),ih _ fun i hi=>?_⟩
  have:=h (i+1) (by simpa using hi)
  have e1:rowF key (l::r) (i+1)=rowF (fst8 l) r i:=by
   unfold rowF
   rw [if_neg (by omega)]
   cases i with
   | zero=>rw [if_pos rfl];rfl
   | succ i=>rw [if_neg (by omega)];rfl
  rw [e1] at this
  exact this
theorem mem_getD {α:Type} {l:List α} {x d:α} (h:x∈l):∃ i,i<l.length∧l.getD i d=x:=by
 obtain ⟨i,hi,e⟩:=List.mem_iff_getElem.1 h
 exact ⟨i,hi,by simp [List.getD,hi,e]⟩
theorem getD_mem {α:Type} {l:List α} {d:α} {i:Nat} (h:i<l.length):l.getD i d∈l:=by
 have:l.getD i d=l[i]:=by simp [List.getD,h]
 rw [this]
 exact List.getElem_mem h
structure RunG (eps:Int) (k v:Nat→Int) (g:Nat→Bool) (n:Nat) (L:List (List Sg)):Prop where
 rdy:Ready eps k n L
 of:OfE eps k v g n L 0
 bd:∀ i,i<n→(0≤k i∧k i<18446744073709551616)∧(0≤v i∧v i<18446744073709551616)
 ok:∀ i,i<L.length→∀ j,j<(L.getD i []).length→((L.getD i []).getD j sg0).ok
theorem NewE.gone {eps:Int} {k v:Nat→Int} {g:Nat→Bool} {n:Nat} (h:NewE eps k v g n 0):∀ j,j<n→¬ (g j=true∧v j≠0):=by
 rcases h with ⟨_,e⟩ | ⟨a,⟨_,_,u⟩ | ⟨e,_⟩ | ⟨e,_⟩⟩
 ·cases e
 ·exact u
 ·cases e
 ·cases e
theorem OfE.new0 {eps:Int} {k v:Nat→Int} {g:Nat→Bool} {n:Nat} {L:List (List Sg)} (h:OfE eps k v g n L 0):NewE eps k v g n 0∧CheckR eps k n L 0:=by
 obtain ⟨r,a,⟨b,c⟩ | ⟨b,c⟩⟩:=h
 ·exact absurd c.symm b
 ·rw [b] at a;exact ⟨a,c⟩
section
variable {eps:Int} {k v:Nat→Int} {g:Nat→Bool} {n:Nat} {L:List (List Sg)}
theorem RunG.seg (h:RunG eps k v g n L) {i:Nat} (hi:i<L.length):∀ s∈L.getD i [],(0≤s.fr∧s.fr<s.te∧s.te≤4294967296∧s.sl≤4611686018427387904∧rg s.ic<9218868437227405312)∧s.k=rowF k L i s.fr.toNat∧s.te≤rowN n L i:=by
 intro s hs
 have K:=h.rdy.lv.lvl i hi
 obtain ⟨a,b,_⟩:=segE_ok.1 (K.ok s hs)
 obtain ⟨t,ht,e⟩:=mem_getD (d:=sg0) hs
 have T:=tile_at K.tl t ht
 rw [e] at T
 exact ⟨errM_ok.1 a,b,T.2.2.1⟩
theorem RunG.wr (h:RunG eps k v g n L):RunW eps k v g n L:=by
 have e0:=h.rdy.e0
 have n1:=h.rdy.n1
 have s1:=h.rdy.sh.1
 refine ⟨by omega,h.rdy.e1,by omega,fun i hi=>⟨(h.bd i hi).1,(h.bd i hi).2,fun hg=>?_⟩,by omega,fun l hl=>?_,?_⟩
 ·have:=h.of.new0.1.gone i hi
  by_cases c:v i=0
  ·exact c
  ·exact absurd ⟨hg,c⟩ this
 ·obtain ⟨i,hi,e⟩:=mem_getD (d:=[]) hl
  have s2:=h.rdy.sh.2 i hi
  rw [e] at s2
  refine ⟨by omega,fun s hs=>?_⟩
  have S:=h.seg hi s (by rw [e];exact hs)
  obtain ⟨j,hj,e2⟩:=mem_getD (d:=sg0) hs
  have O:=h.ok i hi j (by rw [e];exact hj)
  rw [e,e2] at O
  exact ⟨by omega,by omega,O.s1,O.i1⟩
 ·exact chains_of L k fun i hi=>by
   have K:=h.rdy.lv.lvl i hi
   exact tile_chain _ 0 K.tl fun s hs=>(h.seg hi s hs).2.1
theorem RunG.low (h:RunG eps k v g n L):∀ s∈L.getD 0 [],s.fr.toNat<n:=by
 intro s hs
 by_cases c:0<L.length
 ·obtain ⟨a,_,b⟩:=h.seg c s hs
  have:rowN n L 0=n:=rfl
  omega
 ·have:L=[]:=by cases L with
   | nil=>rfl
   | cons a b=>simp at c
  rw [this] at hs
  simp at hs
theorem RunG.fit (h:RunG eps k v g n L) {f:Nat→Int} (l:Lies f 0 (putB eps k v g n L)):FitB f (putB eps k v g n L).length:=by
 obtain ⟨m,hm⟩:∃ m,(putB eps k v g n L).length=m:=⟨_,rfl⟩
 have bd:∀ i,i<m→0≤f i∧f i<256:=by
  intro i hi
  have:=l i (by omega)
  rw [Nat.zero_add] at this
  exact putB_bd _ _ _ _ _ _ _ (List.mem_of_getElem? this)
 obtain ⟨b1,b2,b3,b4,b5,b6,b7⟩:=back12 h.wr h.low l
 rw [hm] at b6 ⊢
 have w:=h.wr
 have e1:=w.e1
 have n1:=w.n1
 have l1:=w.l1
 have lm:=lOff_mono f (lO f) (Nat.zero_le (hF f))
 have lz:lOff f (lO f) 0=lO f:=rfl
 have lo:lO f≤m:=by rw [b6,lz] at lm;omega
 have le:lO f=eOff f (nF f)+8:=rfl
 have eg:=eOff_ge f (nF f)
 have cn:(nF f:Int)=numR f 12 8:=cF_cast bd (by omega)
 have ch:(hF f:Int)=numR f (eOff f (nF f)) 8:=cF_cast bd (by omega)
 refine ⟨⟨by omega,b7⟩,⟨by omega,by omega⟩,⟨by omega,by omega⟩,fun i hi=>?_,⟨lo,by omega⟩,fun i hi=>?_,b6⟩
 ·have q:=(b3 i (by omega)).2.2.2
  have m1:=eOff_mono f (i:=i+1) (j:=nF f) hi
  have m2:=eOff_mono f (i:=i) (j:=i+1) (by omega)
  exact ⟨by omega,q,by omega⟩
 ·have hi':i<L.length:=by omega
  have at_:=lvsF_at f (hF f) (lO f) (kF f) i hi
  have al:=lvsF_atlen f (hF f) (lO f) (kF f) i hi
  have eL:lvsF f (hF f) (lO f) (kF f)=L:=b5
  rw [eL] at at_ al
  have lv:=lOff_lv f (lO f) hi
  rw [b6] at lv
  have rn:belowN f i=rowN n L i:=by
   unfold belowN rowN
   by_cases z:i=0
   ·rw [if_pos z,if_pos z,b2]
   ·rw [if_neg z,if_neg z]
    have:=lvsF_atlen f (hF f) (lO f) (kF f) (i-1) (by omega)
    rw [eL] at this
    exact this.symm
  have sh:=(h.wr.lw (L.getD i []) (getD_mem hi')).1
  generalize lOff f (lO f) i=o at at_ al lv ⊢
  obtain ⟨key,hkey⟩:∃ key,(if i=0 then kF f else fst8 (L.getD (i-1) []))=key:=⟨_,rfl⟩
  rw [hkey] at at_
  have co:(cF f o:Int)=numR f o 8:=cF_cast bd (by omega)
  refine ⟨by omega,by omega,fun j hj=>?_⟩
  have hj':j<(L.getD i []).length:=by omega
  have S:=h.seg hi' _ (getD_mem (d:=sg0) hj')
  have es:(L.getD i []).getD j sg0=sgF f o key j:=by rw [at_];exact lvF_at f o key hj
  rw [es] at S
  obtain ⟨⟨s1,s2,s3,s4,s5⟩,_,s6⟩:=S
  have x1:(frF f o j)<numR f (o+8+24*j) 8:=s2
  have x2:numR f (o+8+24*j) 8≤4294967296:=s3
  have x3:(numR f (o+8+24*j+8) 8).toNat≤4611686018427387904:=s4
  have x4:(numR f (o+8+24*j+16) 8).toNat%9223372036854775808<9218868437227405312:=s5
  have x5:numR f (o+8+24*j) 8≤(rowN n L i:Int):=s6
  have x6:0≤frF f o j:=s1
  have y1:(cF f (o+8+24*j+8):Int)=numR f (o+8+24*j+8) 8:=cF_cast bd (by omega)
  have y2:(cF f (o+8+24*j+16):Int)=numR f (o+8+24*j+16) 8:=cF_cast bd (by omega)
  refine ⟨by omega,x2,?_,?_,by omega⟩
  ·generalize numR f (o+8+24*j+8) 8=X at x3 y1 ⊢
   omega
  ·generalize numR f (o+8+24*j+16) 8=X at x4 y2 ⊢
   omega
end
end Go.Proofs.YtinefkljjnepjabGreat
