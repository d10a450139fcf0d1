/- Keys cut into stretches, in plain words: the ends of a greedy cut, that they are one, and what follows. -/
import Derived.Test.YtepcddmkfdlcjaaGreatLPBs
namespace Go.Proofs.YtepcddmkfdlcjaaGreat
set_option linter.unusedVariables false
def sh (f:Nat→Int) (i k:Nat):Int:=f (i+k)
def EndsAt (e:Int) (f:Nat→Int) (n:Nat):Nat→List Nat→Prop
 | i,[]=>i=n
 | i,j::l=>i<j∧j≤n∧FitsOn e (sh f i) (Prs (j-i))∧(j<n→¬ FitsOn e (sh f i) (Prs (j+1-i)))∧EndsAt e f n j l
theorem EndsAt.one {e:Int} {f:Nat→Int} {n:Nat}:∀ {i:Nat} {l l':List Nat},EndsAt e f n i l→EndsAt e f n i l'→l=l':=by
 intro i l
 induction l generalizing i with
 | nil =>
  intro l' h k
  cases l' with
  | nil=>rfl
  | cons j l'=>have h':i=n:=h;have:=k.1;have:=k.2.1;omega
 | cons j l ih =>
  intro l' h k
  cases l' with
  | nil=>have k':i=n:=k;have:=h.1;have:=h.2.1;omega
  | cons j' l' =>
   obtain ⟨h1,h2,h3,h4,h5⟩:=h
   obtain ⟨k1,k2,k3,k4,k5⟩:=k
   have e:j=j':=by
    rcases Nat.lt_trichotomy j j' with q | q | q
    ·exact absurd (fits_less k3 (show j+1-i≤j'-i by omega)) (h4 (by omega))
    ·exact q
    ·exact absurd (fits_less h3 (show j'+1-i≤j-i by omega)) (k4 (by omega))
   subst e
   rw [ih h5 k5]
def EndsR (eps:Int) (f:Nat→Int) (n:Nat) (l:List Nat) (err:Int):Prop :=
 (¬ (2≤eps∧eps≤64)∧l=[]∧err=1)∨((2≤eps∧eps≤64)∧¬ Up f n∧l=[]∧err=60)∨((2≤eps∧eps≤64)∧Up f n∧EndsAt (eps-1) f n 0 l∧err=0)
theorem EndsR.one {eps:Int} {f:Nat→Int} {n:Nat} {l l':List Nat} {err err':Int} (h:EndsR eps f n l err) (k:EndsR eps f n l' err'):l=l'∧err=err':=by
 rcases h with ⟨h1,rfl,rfl⟩ | ⟨h1,h2,rfl,rfl⟩ | ⟨h1,h2,h3,rfl⟩
 ·rcases k with ⟨_,rfl,rfl⟩ | ⟨k1,_⟩ | ⟨k1,_⟩
  ·exact ⟨rfl,rfl⟩
  all_goals exact absurd k1 h1
 ·rcases k with ⟨k1,_⟩ | ⟨_,_,rfl,rfl⟩ | ⟨_,k2,_⟩
  ·exact absurd h1 k1
  ·exact ⟨rfl,rfl⟩
  ·exact absurd k2 h2
 ·rcases k with ⟨k1,_⟩ | ⟨_,k2,_⟩ | ⟨_,_,k3,rfl⟩
  ·exact absurd h1 k1
  ·exact absurd h2 k2
  ·exact ⟨h3.one k3,rfl⟩
theorem sh_up {f:Nat→Int} {n i j:Nat} (u:Up f n) (h:j≤n):Up (sh f i) (j-i):=fun k hk=>u (i+k) (by omega)
theorem EndsAt.mem {e:Int} {f:Nat→Int} {n:Nat}:∀ {i:Nat} {l:List Nat},EndsAt e f n i l→∀ j∈l,i<j∧j≤n:=by
 intro i l
 induction l generalizing i with
 | nil=>intro _ j hj;cases hj
 | cons j l ih =>
  rintro ⟨h1,h2,_,_,h5⟩ k hk
  rcases List.mem_cons.1 hk with rfl | q
  ·exact ⟨h1,h2⟩
  ·have:=ih h5 k q
   omega
theorem EndsAt.le {e:Int} {f:Nat→Int} {n i:Nat} {l:List Nat} (h:EndsAt e f n i l):i≤n:=by
 cases l with
 | nil=>exact Nat.le_of_eq h
 | cons j l=>have:=h.1;have:=h.2.1;omega
theorem EndsAt.len {e:Int} {f:Nat→Int} {n:Nat}:∀ {i:Nat} {l:List Nat},EndsAt e f n i l→i+l.length≤n:=by
 intro i l
 induction l generalizing i with
 | nil=>intro h;have h':i=n:=h;simp;omega
 | cons j l ih =>
  rintro ⟨h1,h2,_,_,h5⟩
  have:=ih h5
  simp only [List.length_cons]
  omega
theorem EndsAt.nonempty {e:Int} {f:Nat→Int} {n i:Nat} {l:List Nat} (h:EndsAt e f n i l) (hi:i<n):l≠[]:=by
 intro q
 subst q
 have h':i=n:=h
 omega
def starts (i:Nat) (l:List Nat) (t:Nat):Nat:=match t with | 0=>i | t+1=>l.getD t 0
theorem EndsAt.step {e:Int} {f:Nat→Int} {n:Nat}:∀ {i:Nat} {l:List Nat},EndsAt e f n i l→∀ t,t<l.length→starts i l t<l.getD t 0∧l.getD t 0≤n∧FitsOn e (sh f (starts i l t)) (Prs (l.getD t 0-starts i l t))∧(l.getD t 0<n→¬ FitsOn e (sh f (starts i l t)) (Prs (l.getD t 0+1-starts i l t)))∧EndsAt e f n (l.getD t 0) (l.drop (t+1)):=by
 intro i l
 induction l generalizing i with
 | nil=>intro _ t ht;simp at ht
 | cons j l ih =>
  rintro ⟨h1,h2,h3,h4,h5⟩ t ht
  cases t with
  | zero=>exact ⟨h1,h2,h3,h4,h5⟩
  | succ t =>
   have:=ih h5 t (by simpa using ht)
   cases t with
   | zero=>exact this
   | succ t=>exact this
theorem EndsAt.last {e:Int} {f:Nat→Int} {n:Nat} {i:Nat} {l:List Nat} (h:EndsAt e f n i l) (t:Nat) (ht:t<l.length):l.getD t 0=n↔t+1=l.length:=by
 have s:=(h.step t ht).2.2.2.2
 constructor
 ·intro q
  rw [q] at s
  have:=s.len
  simp at this
  omega
 ·intro q
  have:l.drop (t+1)=[]:=by rw [q];simp
  rw [this] at s
  exact s
theorem EndsAt.few {e:Int} {f:Nat→Int} {n:Nat} (he:0≤e) (u:Up f n) {i:Nat} {l:List Nat} (h:EndsAt e f n i l) (t:Nat) (ht:t<l.length) (hl:l.getD t 0<n):(2*e+1:Int)≤(l.getD t 0:Int)-starts i l t:=by
 obtain ⟨h1,h2,h3,h4,_⟩:=h.step t ht
 by_cases q:((l.getD t 0+1-starts i l t:Nat):Int)≤2*e+1
 ·exact absurd (few_fit he (sh_up u (by omega)) q) (h4 hl)
 ·omega
theorem EndsAt.count {e:Int} {f:Nat→Int} {n:Nat} (he:0≤e) (u:Up f n):∀ {i:Nat} {l:List Nat},EndsAt e f n i l→i<n→((l.length:Int)-1)*(2*e+1)+1≤(n:Int)-i:=by
 intro i l
 induction l generalizing i with
 | nil=>intro h hi;have h':i=n:=h;omega
 | cons j l ih =>
  intro h hi
  by_cases hj:j<n
  ·have k:=h.few he u 0 (by simp) hj
   have k':(2*e+1:Int)≤(j:Int)-i:=k
   have:=ih h.2.2.2.2 hj
   simp only [List.length_cons]
   have e1:(((l.length+1:Nat):Int)-1)*(2*e+1)=((l.length:Int)-1)*(2*e+1)+(2*e+1):=by
    rw [show ((l.length+1:Nat):Int)-1=((l.length:Int)-1)+1 by omega,Int.add_mul,Int.one_mul]
   omega
  ·have ej:j=n:=by have:=h.2.1;omega
   have h5:=h.2.2.2.2
   rw [ej] at h5
   have:l=[]:=by
    cases l with
    | nil=>rfl
    | cons a l=>have:=h5.1;have:=h5.2.1;omega
   subst this
   simp
   omega
theorem EndsAt.part {e:Int} {f:Nat→Int} {n k:Nat} (hk:k≤n):∀ {i:Nat} {l:List Nat},EndsAt e f n i l→i<k→EndsAt e f k i (l.takeWhile (fun j=>decide (j<k))++[k]):=by
 intro i l
 induction l generalizing i with
 | nil=>intro h hi;have h':i=n:=h;omega
 | cons j l ih =>
  rintro ⟨h1,h2,h3,h4,h5⟩ hi
  by_cases q:j<k
  ·rw [List.takeWhile_cons,if_pos (by simpa using q)]
   exact ⟨h1,by omega,h3,fun _=>h4 (by omega),ih h5 q⟩
  ·rw [List.takeWhile_cons,if_neg (by simpa using q)]
   exact ⟨hi,Nat.le_refl _,fits_less h3 (by omega),fun q=>absurd q (Nat.lt_irrefl _),rfl⟩
theorem EndsAt.rest {e:Int} {f:Nat→Int} {n c:Nat}:∀ {i:Nat} {l:List Nat},c≤i→EndsAt e f n i l→EndsAt e (sh f c) (n-c) (i-c) (l.map (·-c)):=by
 intro i l
 induction l generalizing i with
 | nil=>intro hc h;have h':i=n:=h;show i-c=n-c;omega
 | cons j l ih =>
  rintro hc ⟨h1,h2,h3,h4,h5⟩
  have es:sh (sh f c) (i-c)=sh f i:=by
   funext k
   show f (c+(i-c+k))=f (i+k)
   congr 1;omega
  refine ⟨by show i-c<j-c;omega,by show j-c≤n-c;omega,?_,fun q=>?_,ih (by omega) h5⟩
  ·rw [es,show j-c-(i-c)=j-i by omega];exact h3
  ·rw [es,show j-c+1-(i-c)=j+1-i by omega];exact h4 (by have q':j-c<n-c:=q;omega)
theorem EndsAt.moved {e:Int} {f g:Nat→Int} {n:Nat} (d:∀ i j,i<n→j<n→f j-f i=g j-g i):∀ {i:Nat} {l:List Nat},EndsAt e f n i l→EndsAt e g n i l:=by
 intro i l
 induction l generalizing i with
 | nil=>exact fun h=>h
 | cons j l ih =>
  rintro ⟨h1,h2,h3,h4,h5⟩
  refine ⟨h1,h2,h3.congr (fun _ _ s=>s) (fun a b s=>?_),fun q k=>h4 q (k.congr (fun _ _ s=>s) (fun a b s=>?_)),ih h5⟩
  ·have:=s.1;have:=s.2
   exact d _ _ (by omega) (by omega)
  ·have:=s.1;have:=s.2
   exact (d _ _ (by omega) (by omega)).symm
theorem EndsR.moved {eps:Int} {f g:Nat→Int} {n:Nat} {l:List Nat} {err:Int} (d:∀ i j,i<n→j<n→f j-f i=g j-g i) (h:EndsR eps f n l err):EndsR eps g n l err:=by
 have up:Up g n→Up f n:=fun u j hj=>by have:=d j (j+1) (by omega) hj;have:=u j hj;omega
 have up':Up f n→Up g n:=fun u j hj=>by have:=d j (j+1) (by omega) hj;have:=u j hj;omega
 rcases h with h | ⟨h1,h2,h3⟩ | ⟨h1,h2,h3,h4⟩
 ·exact .inl h
 ·exact .inr (.inl ⟨h1,fun q=>h2 (up q),h3⟩)
 ·exact .inr (.inr ⟨h1,up' h2,h3.moved d,h4⟩)
end Go.Proofs.YtepcddmkfdlcjaaGreat
