/- A tower's bytes, and bytes laid out as a tower's. No Go in it. -/
import Derived.Test.YtpoohadckhphpaaGreatBIMem
import Derived.Test.YtpoohadckhphpaaGreatBJR2
import Derived.Test.YtpoohadckhphpaaGreatBUAl
set_option linter.unusedVariables false
set_option maxHeartbeats 8000000
set_option maxRecDepth 10000
open Go.Proofs.Tryz
namespace Go.Proofs.YtpoohadckhphpaaGreat
def bk (o:Nat) (f:Nat->Int):Nat->Int:=fun i=>f (o+i)
theorem num_bk (f:Nat->Int) (o i:Nat):numR (bk o f) i 8=numR f (o+i) 8:=numR_congr fun j hj=>by unfold bk;rw [Nat.add_assoc]
theorem lies_bk {f:Nat->Int} {o i:Nat} {l:List Int}:Lies (bk o f) i l↔Lies f (o+i) l:=by
 unfold Lies bk;simp only [Nat.add_assoc]
def rO (g:Nat->Int):Nat->Nat
 | 0=>lO g
 | j+1=>rO g j+8+cF g (rO g j)
def rF (g:Nat->Int) (j:Nat):Nat->Int:=bk (rO g j+8) g
def rZ (g:Nat->Int) (j:Nat):Nat:=cF g (rO g j)
theorem rO_succ (g:Nat->Int) (j:Nat):rO g (j+1)=rO g j+8+rZ g j:=rfl
theorem rO_mono (g:Nat->Int):∀ {i j},i<=j->rO g i+8*(j-i)<=rO g j:=by
 intro i j h;obtain ⟨d,rfl⟩:∃ d,j=i+d:=⟨j-i,by omega⟩
 clear h;induction d with
 | zero=>simp
 | succ d ih =>
  have:rO g (i+(d+1))=rO g (i+d)+8+rZ g (i+d):=rfl
  omega
def entF (f:Nat->Int):List Ent:=(List.range (nF f)).map fun i=>⟨kF f i,vF f i,gF f i⟩
theorem entF_len (f:Nat->Int):(entF f).length=nF f:=by simp [entF]
theorem entF_at (f:Nat->Int) {i:Nat} (h:i<nF f):ek (entF f) i=kF f i/\ev (entF f) i=vF f i/\eg (entF f) i=gF f i:=by
 have:(entF f).getD i ent0=⟨kF f i,vF f i,gF f i⟩:=by simp [entF,List.getD,h]
 unfold ek ev eg;rw [this];exact ⟨rfl,rfl,rfl⟩
def rnF (f:Nat->Int):Rn:=⟨0,fun _=>False,numR f 4 8,entF f,LF f⟩
def clF (g:Nat->Int) (j:Nat):Option Rn:=if rZ g j=0 then none else some (rnF (rF g j))
def rsN (g:Nat->Int) (n:Nat):List (Option Rn):=(List.range n).map (clF g)
def rsF (g:Nat->Int):List (Option Rn):=rsN g (hF g)
theorem rsN_len (g:Nat->Int) (n:Nat):(rsN g n).length=n:=by simp [rsN]
theorem rsN_succ (g:Nat->Int) (n:Nat):rsN g (n+1)=rsN g n++[clF g n]:=by simp [rsN,List.range_succ]
theorem rsN_at (g:Nat->Int) {n j:Nat} (h:j<n):(rsN g n).getD j none=clF g j:=by simp [rsN,List.getD,h]
structure ClOK (g:Nat->Int) (M j:Nat):Prop where
 c8:rO g j+8<=M
 nx:rO g (j+1)<=M
 fit:rZ g j≠0->Fit (rF g j) (rZ g j)
def NumOK (g:Nat->Int) (M:Nat):Prop:=lO g<=M/\numR g (eOff g (nF g)) 8<=40
structure LayT (f:Nat->Int) (m:Nat):Prop where
 hd:4<=m/\Lies f 0 headT
 cf:28<=m
 en:EntOK (bk 16 f) (m-16)
 hh:NumOK (bk 16 f) (m-16)
 cl:∀ j,j<hF (bk 16 f)->ClOK (bk 16 f) (m-16) j
 last:hF (bk 16 f)=0\/rZ (bk 16 f) (hF (bk 16 f)-1)≠0
 all:rO (bk 16 f) (hF (bk 16 f))=m-16
def FitT (f:Nat->Int) (m:Nat):Prop:=LayT f m/\∃ n,OfR16 (numR f 4 8) (numR f 12 8) (numR f 20 8) (entF (bk 16 f)) (rsF (bk 16 f)) 0 n
section
variable {f f':Nat->Int} {m m':Nat}
theorem num_same (e:∀ i,i<m->f i=f' i) {o:Nat} (h:o+8<=m):numR f o 8=numR f' o 8:=numR_congr fun i hi=>e _ (by omega)
theorem LayT.one (h:LayT f m) (h':LayT f' m') (e:∀ i,i<m->f i=f' i):m=m':=by
 obtain ⟨g,hg⟩:∃ g,bk 16 f=g:=⟨_,rfl⟩;obtain ⟨g',hg'⟩:∃ g',bk 16 f'=g':=⟨_,rfl⟩;obtain ⟨M,hM⟩:∃ M,m-16=M:=⟨_,rfl⟩;have a2:=h.en;have a3:=h.hh;have a4:=h.cl;have a5:=h.all;have b5:=h'.all;rw [hg,hM] at a2 a3 a5;rw [hg] at a4;rw [hg'] at b5;have E:∀ i,i<M->g i=g' i:=fun i hi=>by rw [<-hg,<-hg'];unfold bk;exact e _ (by omega)
 have c8:∀ o,o+8<=M->cF g o=cF g' o:=fun o ho=>by unfold cF;rw [num_same E ho]
 have n1:nF g=nF g':=c8 12 a2.1.1;have eo:∀ i,i<=nF g->eOff g i=eOff g' i:=by
  intro i;induction i with
  | zero=>intro _;rfl
  | succ i ih =>
   intro hi;have q:=ih (by omega)
   have r:=(a2.2 i (by omega)).1
   show eOff g i+(if g (eOff g i+8)=1 then 9 else 17)=eOff g' i+(if g' (eOff g' i+8)=1 then 9 else 17)
   rw [<-q,E _ (by omega)]
 have o1:eOff g (nF g)=eOff g' (nF g'):=by rw [eo _ (Nat.le_refl _),n1]
 have l1:lO g=lO g':=by unfold lO;rw [o1]
 have h1:hF g=hF g':=by
  unfold hF;rw [<-o1];have:=a3.1;unfold lO at this;exact c8 _ this
 have ro:∀ j,j<=hF g->rO g j=rO g' j:=by
  intro j;induction j with
  | zero=>intro _;exact l1
  | succ j ih =>
   intro hj;have q:=ih (by omega)
   have r:=(a4 j (by omega)).c8
   rw [hM] at r;show rO g j+8+cF g (rO g j)=rO g' j+8+cF g' (rO g' j);rw [<-q,c8 _ r]
 have:=ro _ (Nat.le_refl _)
 rw [a5,h1,b5] at this;have:=h.cf;have:=h'.cf;omega
end
def runB (o:Option Rn):List Int:=match o with
 | none=>[]
 | some r=>putB r.eps (ek r.l) (ev r.l) (eg r.l) r.l.length r.L
def clB (o:Option Rn):List Int:=num8 (runB o).length++runB o
def clsB (rs:List (Option Rn)):List Int:=rs.flatMap clB
def cfgB (eps buf keys:Int):List Int:=headT++num8 eps++num8 buf++num8 keys
def entlB (b:List Ent):List Int:=num8 b.length++entsB (ek b) (ev b) (eg b) b.length
def towB (eps buf keys:Int) (b:List Ent) (rs:List (Option Rn)):List Int:=cfgB eps buf keys++entlB b++(num8 rs.length++clsB rs)
theorem clsB_snoc (rs:List (Option Rn)) (o:Option Rn):clsB (rs++[o])=clsB rs++clB o:=by simp [clsB]
theorem cfgB_len (eps buf keys:Int):(cfgB eps buf keys).length=28:=by
 unfold cfgB;rw [List.length_append,List.length_append,List.length_append,num8_len,num8_len,num8_len];rfl
theorem entsB_same {k v k' v':Nat->Int} {g g':Nat->Bool}:∀ {n:Nat},(∀ i,i<n->k i=k' i/\v i=v' i/\g i=g' i)->entsB k v g n=entsB k' v' g' n:=by
 intro n;induction n with
 | zero=>intro _;rfl
 | succ n ih =>
  intro h;obtain ⟨a,b,c⟩:=h n (by omega)
  rw [entsB_succ,entsB_succ,ih fun i hi=>h i (by omega),a,b,c]
theorem entF_B (f:Nat->Int):entsB (ek (entF f)) (ev (entF f)) (eg (entF f)) (entF f).length=entsB (kF f) (vF f) (gF f) (nF f):=by
 rw [entF_len];exact entsB_same fun i hi=>entF_at f hi
theorem rnF_B (f:Nat->Int):runB (some (rnF f))=putB (numR f 4 8) (kF f) (vF f) (gF f) (nF f) (LF f):=by
 unfold runB rnF putB;simp only [];rw [entF_B,entF_len]
theorem clB_al {o o':Option Rn} (h:o.map sig=o'.map sig):clB o=clB o':=by
 cases o<;>cases o'<;>simp [sig] at h
 ·rfl
 ·unfold clB runB
  simp only [h.1,h.2.1,h.2.2]
theorem clsB_al:∀ {rs rs':List (Option Rn)},Al rs rs'->clsB rs=clsB rs'
 | [],[],_=>rfl
 | [],_::_,h=>by cases h
 | _::_,[],h=>by cases h
 | o::rs,o'::rs',h=>by
  unfold Al at h;rw [List.map_cons,List.map_cons] at h;injection h with h1 h2;show clB o++clsB rs=clB o'++clsB rs';rw [clB_al h1,clsB_al h2]
theorem towB_al {eps buf keys:Int} {b:List Ent} {rs rs':List (Option Rn)} (h:Al rs rs'):towB eps buf keys b rs=towB eps buf keys b rs':=by
 unfold towB;rw [h.len,clsB_al h]
section
variable {g:Nat->Int} {M:Nat}
theorem cl_lies (bd:∀ i,i<M->0<=g i/\g i<256) {j:Nat} (h:ClOK g M j):Lies g (rO g j) (clB (clF g j))/\rO g j+(clB (clF g j)).length=rO g (j+1):=by
 have c8:=h.c8;have nx:=h.nx;rw [rO_succ] at nx ⊢;have cc:(rZ g j:Int)=numR g (rO g j) 8:=cF_cast bd c8;have L8:Lies g (rO g j) (num8 (rZ g j)):=by rw [cc];exact Lies.of_num fun i hi=>bd _ (by omega)
 unfold clF clB;by_cases z:rZ g j=0
 ·rw [if_pos z]
  rw [z] at L8;have e0:runB none=[]:=rfl;rw [e0,List.append_nil,num8_len,z];exact ⟨L8,rfl⟩
 ·rw [if_neg z,rnF_B]
  obtain ⟨a,b⟩:=(h.fit z).1.once (fun i hi=>by unfold rF bk;exact bd _ (by omega))
  rw [List.length_append,num8_len,b,Lies.app,num8_len];refine ⟨⟨L8,?_⟩,by omega⟩
  have:=lies_bk.1 a
  rwa [Nat.add_zero] at this
theorem cls_lies (bd:∀ i,i<M->0<=g i/\g i<256):∀ n,(∀ j,j<n->ClOK g M j)->Lies g (lO g) (clsB (rsN g n))/\lO g+(clsB (rsN g n)).length=rO g n:=by
 intro n;induction n with
 | zero=>intro _;exact ⟨Lies.nil,rfl⟩
 | succ n ih =>
  intro h;obtain ⟨a,b⟩:=ih fun j hj=>h j (by omega)
  obtain ⟨c,d⟩:=cl_lies bd (h n (by omega))
  rw [rsN_succ,clsB_snoc,Lies.app,List.length_append,<-Nat.add_assoc,b];exact ⟨⟨a,c⟩,d⟩
theorem fit_many {f:Nat->Int} {m:Nat} (h:FitB f m):9*nF f<=m:=by
 have a:=eOff_ge f (nF f);have b:=h.hh.1;have c:=lOff_mono f (lO f) (Nat.zero_le (hF f));have d:=h.all;unfold lO at b;omega
theorem cls_many:∀ n,(∀ j,j<n->ClOK g M j)->9*tot (rsN g n)+lO g<=rO g n:=by
 intro n;induction n with
 | zero=>intro _;show 9*tot (rsN g 0)+lO g<=lO g;rw [show rsN g 0=[] from rfl];exact Nat.le_of_eq (Nat.zero_add _)
 | succ n ih =>
  intro h;have a:=ih fun j hj=>h j (by omega)
  have c:=(h n (by omega)).fit
  rw [rsN_succ,tot_app,rO_succ];have:9*tot [clF g n]<=rZ g n:=by
   unfold clF;by_cases z:rZ g n=0
   ·rw [if_pos z];exact Nat.zero_le _
   ·rw [if_neg z,tot_some]
    have:=fit_many (c z).1
    show 9*((entF (rF g n)).length+0)<=_;rw [entF_len];omega
  omega
theorem ents_many (h:EntOK g M):9*nF g+20<=eOff g (nF g):=by
 have:=eOff_ge g (nF g)
 omega
end
section
variable {f:Nat->Int} {m:Nat}
theorem LayT.bd (h:LayT f m) (bd:∀ i,i<m->0<=f i/\f i<256):∀ i,i<m-16->0<=bk 16 f i/\bk 16 f i<256:=fun i hi=>bd _ (by omega)
theorem LayT.many (h:LayT f m):9*(nF (bk 16 f)+tot (rsF (bk 16 f)))<=m:=by
 have a:=cls_many (hF (bk 16 f)) h.cl;have b:=ents_many h.en;have c:=h.all;have d:=h.cf;unfold lO at a;unfold rsF;omega
theorem LayT.once (h:LayT f m) (bd:∀ i,i<m->0<=f i/\f i<256):Lies f 0 (towB (numR f 4 8) (numR f 12 8) (numR f 20 8) (entF (bk 16 f)) (rsF (bk 16 f)))/\(towB (numR f 4 8) (numR f 12 8) (numR f 20 8) (entF (bk 16 f)) (rsF (bk 16 f))).length=m:=by
 have cf:=h.cf;have gb:=h.bd bd;obtain ⟨a,b⟩:=entsF_lies gb (nF (bk 16 f)) h.en.2;obtain ⟨c,d⟩:=cls_lies gb (hF (bk 16 f)) h.cl;have x1:=h.en.1.1;have al:=h.all;have q1:(nF (bk 16 f):Int)=numR f 28 8:=by
  have:=cF_cast gb (show 12+8<=m-16 from x1)
  rw [num_bk] at this;exact this
 have lo:lO (bk 16 f)=eOff (bk 16 f) (nF (bk 16 f))+8:=rfl;have q2:(hF (bk 16 f):Int)=numR f (16+eOff (bk 16 f) (nF (bk 16 f))) 8:=by
  have:=cF_cast gb (show eOff (bk 16 f) (nF (bk 16 f))+8<=m-16 from h.hh.1)
  rw [num_bk] at this;exact this
 have rm:=rO_mono (bk 16 f) (Nat.zero_le (hF (bk 16 f)));have r0:rO (bk 16 f) 0=lO (bk 16 f):=rfl;have n4:headT.length=4:=rfl;have ge:=eOff_ge (bk 16 f) (nF (bk 16 f));have b':(entsB (kF (bk 16 f)) (vF (bk 16 f)) (gF (bk 16 f)) (nF (bk 16 f))).length=eOff (bk 16 f) (nF (bk 16 f))-20:=by omega
 have E1:(entlB (entF (bk 16 f))).length=eOff (bk 16 f) (nF (bk 16 f))-12:=by
  unfold entlB;rw [List.length_append,num8_len,entF_B,b'];omega
 have E2:(clsB (rsF (bk 16 f))).length=m-16-lO (bk 16 f):=by
  unfold rsF;omega
 have LEN:(towB (numR f 4 8) (numR f 12 8) (numR f 20 8) (entF (bk 16 f)) (rsF (bk 16 f))).length=m:=by
  unfold towB;rw [List.length_append,List.length_append,List.length_append,cfgB_len,E1,num8_len,E2];omega
 refine ⟨?_,LEN⟩;have c':=lies_bk.1 c;rw [lo,<-Nat.add_assoc] at c';unfold towB;rw [Lies.app,Lies.app,List.length_append,cfgB_len,E1,show 0+(28+(eOff (bk 16 f) (nF (bk 16 f))-12))=16+eOff (bk 16 f) (nF (bk 16 f)) by omega]
 refine ⟨⟨?_,?_⟩,?_⟩
 ·unfold cfgB
  simp only [Lies.app,List.length_append,num8_len,n4];exact ⟨⟨⟨h.hd.2,Lies.of_num fun j hj=>bd _ (by omega)⟩,Lies.of_num fun j hj=>bd _ (by omega)⟩,Lies.of_num fun j hj=>bd _ (by omega)⟩
 ·unfold entlB
  rw [Lies.app,num8_len,entF_B,entF_len,q1];have a':=lies_bk.1 a;exact ⟨Lies.of_num fun j hj=>bd _ (by omega),a'⟩
 ·rw [Lies.app,num8_len]
  unfold rsF;rw [rsN_len,q2];exact ⟨Lies.of_num fun j hj=>bd _ (by omega),c'⟩
end
theorem CountT.al {l:List Ent} {rs rs':List (Option Rn)} {most:Int} {n:Nat} {ok:Bool} (h:Al rs rs') (c:CountT l rs most n ok):CountT l rs' most n ok:=by
 have e1:∀ i,liveQ (rs.drop i)=liveQ (rs'.drop i):=fun i=>(h.drop i).live
 have e2:liveE l rs=liveE l rs':=funext fun q=>by unfold liveE newE;rw [h.nw]
 unfold CountT at c ⊢;simp only [e1,e2] at c;exact c
theorem OfR16.al {eps buf keys:Int} {b:List Ent} {l l':List (Option Rn)} {E:Int} {n:Nat} (h:Al l l') (o:OfR16 eps buf keys b l E n):OfR16 eps buf keys b l' E n:=by
 rcases o with a | ⟨a,x | ⟨c,y | ⟨d,⟨e0,o⟩ | ⟨o,⟨z,k⟩ | ⟨z,k⟩⟩⟩⟩⟩
 ·exact .inl a
 ·exact .inr ⟨a,.inl x⟩
 ·exact .inr ⟨a,.inr ⟨c,.inl y⟩⟩
 ·exact .inr ⟨a,.inr ⟨c,.inr ⟨d,.inl ⟨e0,h.of o⟩⟩⟩⟩
 ·exact .inr ⟨a,.inr ⟨c,.inr ⟨d,.inr ⟨h.of o,.inl ⟨z,k.al h.up⟩⟩⟩⟩⟩
 ·exact .inr ⟨a,.inr ⟨c,.inr ⟨d,.inr ⟨h.of o,.inr ⟨z,k.al h.up⟩⟩⟩⟩⟩
open Go.RowKit
def CfgF (f:Nat->Int) (m:Nat):Prop:=28<=m/\numR f 4 8<=64/\numR f 12 8<=4294967296/\numR f 20 8<=4294967296
theorem cfg_put {w:World} {b:Nat} {x0 y0 z0:Value} {t:TypeId} (h:w.heap[b]?=some (.cells #[x0,y0,z0] t (0,0))) (x y z:Int):(((w.setCell ⟨b,0,none⟩ (.int .i64 x)).setCell ⟨b,1,none⟩ (.int .i64 y)).setCell ⟨b,2,none⟩ (.int .i64 z)).cell? ⟨b,0,none⟩=some (.int .i64 x)/\(((w.setCell ⟨b,0,none⟩ (.int .i64 x)).setCell ⟨b,1,none⟩ (.int .i64 y)).setCell ⟨b,2,none⟩ (.int .i64 z)).cell? ⟨b,1,none⟩=some (.int .i64 y)/\(((w.setCell ⟨b,0,none⟩ (.int .i64 x)).setCell ⟨b,1,none⟩ (.int .i64 y)).setCell ⟨b,2,none⟩ (.int .i64 z)).cell? ⟨b,2,none⟩=some (.int .i64 z):=by
 refine ⟨?_,?_,?_⟩<;>simp [World.cell?,World.setCell,Array.getElem?_modify,h]
theorem sconfig {w:World} {p:Nat} {S:Nat->Prop} {f:Nat->Int} {m:Nat} (hm:m<=140737488355000) (om:4<=m) (h:Rd w p S f m 4) :
  Calls prog 15 #[.agg #[.pointer (some ⟨p,0,none⟩)]] w fun e w'=>POut (CfgF f m) e (.agg #[.int .i64 (numR f 4 8),.int .i64 (numR f 12 8),.int .i64 (numR f 20 8)]) (RStep w w' p S f m 28) (Upd p w w'):=by
 have pl:=h.pl;have FZz:Hid (∀ q,S q->q<w.heap.size):=fun q hq=>RRd.lt h q hq
 obtain ⟨wa,hwa⟩:∃ wa,wa=(w.alloc (.cells #[.pointer (some ⟨p,0,none⟩)] 44)).alloc (.cells #[.int .i64 0,.int .i64 0,.int .i64 0] 35):=⟨_,rfl⟩;have GA:Gw w wa:=by rw [hwa];exact ((Gw.refl w).alloc _ _).alloc _ _
 have UA:Hid (Upd p w wa):=.of_gw GA;have wz:wa.heap.size=w.heap.size+2:=by rw [hwa];simp
 have b0:wa.heap[w.heap.size]?=some (.cells #[.pointer (some ⟨p,0,none⟩)] 44 (0,0)):=by
  rw [hwa];exact (((Gw.refl _).alloc _ _).below.block _ (by simp)).trans (heap_alloc_new w _)
 have b1:wa.heap[w.heap.size+1]?=some (.cells #[.int .i64 0,.int .i64 0,.int .i64 0] 35 (0,0)):=by
  rw [hwa];have:=heap_alloc_new (w.alloc (.cells #[.pointer (some ⟨p,0,none⟩)] 44)) (.cells #[.int .i64 0,.int .i64 0,.int .i64 0] 35);rw [show (w.alloc (.cells #[.pointer (some ⟨p,0,none⟩)] 44)).heap.size=w.heap.size+1 by simp] at this
  exact this
 have BX:Hid (∀ w2,Upd p wa w2->w2.cell? ⟨w.heap.size,0,none⟩=some (.pointer (some ⟨p,0,none⟩))/\w.heap.size<w2.heap.size):=fun w2 u=>by
  have hb:=(u.blk _ (by omega) (by omega)).trans b0
  exact ⟨(rd_cell hb).1,(Array.getElem?_eq_some_iff.1 hb).1⟩
 have B1X:Hid (∀ w2,Upd p wa w2->w2.heap[w.heap.size+1]?=some (.cells #[.int .i64 0,.int .i64 0,.int .i64 0] 35 (0,0))):=fun w2 u=>(u.blk _ (by omega) (by omega)).trans b1
 have C1:Hid _:=scount 64 (by decide) (by decide) hm om (h.gw GA)
 clear h b0 b1 GA wz;go_enter func15,ntmps15;go_wp2_with fail;rw [<-hwa];clear hwa;refine Calls.mono C1.out ?_;rintro e w2 hh;clear C1;rcases hh with ⟨a1,rfl,u2,S2,r2,s2⟩ | ⟨a1,rfl,R⟩
 rotate_left
 ·have FIN:Hid (Upd p w w2):=UA.out.trans R
  clear R UA;go_wp2_with fail;exact ⟨rfl,.inr ⟨fun t=>a1 ⟨by have:=t.1;omega,t.2.1⟩,rfl,FIN.out⟩⟩
 obtain ⟨x2,l2⟩:=BX.out _ u2;have A1:Hid (4+8<=m/\numR f 4 8<=64):=a1;have U2:Hid (Upd p wa w2):=u2;have SB2:Hid (∀ q,S2 q->S q):=s2;have C2:Hid _:=scount 4294967296 (by decide) (by decide) hm a1.1 r2
 obtain ⟨n1,hn1⟩:∃ n,numR f 4 8=n:=⟨_,rfl⟩;have N1:Hid (numR f 4 8=n1):=hn1;rw [hn1];clear u2 s2 r2 a1 hn1;go_wp2_with fail;refine Calls.mono C2.out ?_;rintro e w3 hh;clear C2;rcases hh with ⟨a2,rfl,u3,S3,r3,s3⟩ | ⟨a2,rfl,R⟩
 rotate_left
 ·have FIN:Hid (Upd p w w3):=UA.out.trans (U2.out.trans R)
  clear R UA U2 x2 l2;go_wp2_with fail;exact ⟨rfl,.inr ⟨fun t=>a2 ⟨by have:=t.1;omega,t.2.2.1⟩,rfl,FIN.out⟩⟩
 obtain ⟨x3,l3⟩:=BX.out _ (U2.out.trans u3);have A2:Hid (4+8+8<=m/\numR f 12 8<=4294967296):=a2;have U3:Hid (Upd p wa w3):=U2.out.trans u3;have SB3:Hid (∀ q,S3 q->S q):=fun q hq=>SB2.out q (s3 q hq)
 have C3:Hid _:=scount 4294967296 (by decide) (by decide) hm a2.1 r3
 obtain ⟨n2,hn2⟩:∃ n,numR f 12 8=n:=⟨_,rfl⟩;have N2:Hid (numR f 12 8=n2):=hn2;rw [show numR f (4+8) 8=n2 from hn2];clear u3 s3 r3 a2 hn2 x2 l2 U2 SB2;go_wp2_with fail;refine Calls.mono C3.out ?_;rintro e w4 hh;clear C3;rcases hh with ⟨a3,rfl,R⟩ | ⟨a3,rfl,R⟩
 rotate_left
 ·have FIN:Hid (Upd p w w4):=UA.out.trans (U3.out.trans R)
  clear R UA U3 x3 l3;go_wp2_with fail;exact ⟨rfl,.inr ⟨fun t=>a3 ⟨by have:=t.1;omega,t.2.2.2⟩,rfl,FIN.out⟩⟩
 have RES0:RStep wa w4 p S f m 28:=RStep.after U3.out SB3.out R;have bq:=B1X.out w4 RES0.1;have RES1:RStep w w4 p S f m 28:=RStep.after UA.out (fun _ h=>h) RES0
 have A3:Hid (4+8+8+8<=m/\numR f 20 8<=4294967296):=a3;obtain ⟨n3,hn3⟩:∃ n,numR f 20 8=n:=⟨_,rfl⟩;have N3:Hid (numR f 20 8=n3):=hn3;rw [show numR f (4+8+8) 8=n3 from hn3];have RES:Hid (RStep w (((w4.setCell ⟨w.heap.size+1,0,none⟩ (.int .i64 n1)).setCell ⟨w.heap.size+1,1,none⟩ (.int .i64 n2)).setCell ⟨w.heap.size+1,2,none⟩ (.int .i64 n3)) p S f m 28):=((RES1.setN (by omega) FZz.out _ _).setN (by omega) FZz.out _ _).setN (by omega) FZz.out _ _
 obtain ⟨p30,p31,p32⟩:=cfg_put bq n1 n2 n3;obtain ⟨z0,z1,z2⟩:=ent_cells bq;obtain ⟨f0,f1,f2⟩:=ent_fz bq;have bl:=(Array.getElem?_eq_some_iff.1 bq).1;clear R a3 hn3 x3 l3 U3 SB3 RES0 RES1 bq;go_wp2_with fail;exact bodyPost_ret (v:=.agg #[.int .i64 n1,.int .i64 n2,.int .i64 n3]) (by simp [results,results15,go_sem,p30,p31,p32]) rfl (.inl ⟨⟨A3.out.1,A1.out.2,A2.out.2,A3.out.2⟩,by rw [N1.out,N2.out,N3.out],RES.out⟩)
theorem made_brow {w:World} {b n i:Nat} {F:Nat->Int} (h:w.rowIs b 5 n (fun j=>.int .u8 (eT 0 i F j))):(w.setCell ⟨b,i,none⟩ (.int .u8 (F i))).rowIs b 5 n (fun j=>.int .u8 (eT 0 (i+1) F j)):=by
 refine (h.set i (.int .u8 (F i))).congr fun j hj=>?_
 unfold eT;by_cases e:j=i
 ·subst e;rw [if_pos rfl,if_pos (by omega)]
 ·rw [if_neg e]
  by_cases q:j<i
  ·rw [if_pos q,if_pos (by omega)]
  ·rw [if_neg q,if_neg (by omega)]
def ByOK (f:Nat->Int) (m o:Nat):Prop:=o+8<=m/\o+8+cF f o<=m
theorem sbytes {w:World} {p:Nat} {S:Nat->Prop} {f:Nat->Int} {m o:Nat} (hm:m<=16000000) (om:o<=m) (bd:∀ i,i<m->0<=f i/\f i<256) (h:Rd w p S f m o) :
  Calls prog 70 #[.agg #[.pointer (some ⟨p,0,none⟩)]] w fun e w'=>(ByOK f m o/\∃ b,e=.returned (.slice (some ⟨b,0,none⟩) (cF f o) (cF f o))/\w.heap.size<=b/\BS w' (some ⟨b,0,none⟩) (cF f o) (bk (o+8) f)/\RStep w w' p S f m (o+8+cF f o))\/(¬ ByOK f m o/\e=.panicked (thrown 120)/\Upd p w w'):=by
 have pl:=h.pl;have FZz:Hid (∀ q,S q->q<w.heap.size):=fun q hq=>RRd.lt h q hq
 have UA:Hid (Upd p w (w.alloc (.cells #[.pointer (some ⟨p,0,none⟩)] 44))):=.of_gw ((Gw.refl w).alloc _ _);have IT:=sitems 9223372036854775807 (by decide) (by decide) 1 (by omega) (by omega) (show m<=140737488355000 by omega) om (h.gw ((Gw.refl w).alloc #[.pointer (some ⟨p,0,none⟩)] 44))
 have b0:(w.alloc (.cells #[.pointer (some ⟨p,0,none⟩)] 44)).heap[w.heap.size]?=some (.cells #[.pointer (some ⟨p,0,none⟩)] 44 (0,0)):=heap_alloc_new w _;have C1:Hid (Calls prog 38 #[.agg #[.pointer (some ⟨p,0,none⟩)],.int .i64 9223372036854775807,.int .i64 1] (w.alloc (.cells #[.pointer (some ⟨p,0,none⟩)] 44)) fun e w'=>(ByOK f m o/\e=.returned (.int .i64 (cF f o:Int))/\RStep w w' p S f m (o+8)/\w'.heap[w.heap.size]?=some (.cells #[.pointer (some ⟨p,0,none⟩)] 44 (0,0)))\/(¬ ByOK f m o/\e=.panicked (thrown 120)/\Upd p w w')):=IT.mono fun e w' hh=>by
  rcases hh with ⟨a,b,c⟩ | ⟨a,b,c⟩
  ·exact .inl ⟨⟨a.1.1,by have:=a.2;rw [Nat.div_one] at this;have:=a.1.1;omega⟩,b,RStep.after UA.out (fun _ h=>h) c,(c.1.blk _ (by omega) (by simp)).trans b0⟩
  ·refine .inr ⟨fun t=>a ⟨⟨t.1,?_⟩,?_⟩,b,UA.out.trans c⟩
   ·have:=cF_cast bd t.1
    have:=t.2
    omega
   ·rw [Nat.div_one]
    have:=t.2
    omega
 have BDH:Hid (∀ i,i<m->0<=f i/\f i<256):=bd;clear h IT b0 UA bd;go_enter func70,ntmps70;go_wp2_with fail;refine C1.out.mono ?_;rintro e w2 hh;clear C1;rcases hh with ⟨a1,rfl,R,B2⟩ | ⟨a,rfl,R⟩
 ·have A1:Hid (ByOK f m o):=a1
  obtain ⟨n,hn⟩:∃ n,cF f o=n:=⟨_,rfl⟩;have HN:Hid (cF f o=n):=hn;have n1:o+8+n<=m:=by rw [<-hn];exact a1.2
  rw [hn];have hmk:=made_b n (n:Int) rfl (by omega) w2
  have sz2:w.heap.size<w2.heap.size:=(Array.getElem?_eq_some_iff.1 B2).1;have RR0:Hid ((w2.alloc (.cells (madeCells #[.int .u8 0] n) 5)).rowIs w2.heap.size 5 n (fun j=>.int .u8 (eT 0 0 (bk (o+8) f) j))):=World.rowIs_made w2 (.int .u8 0) n 5
  have ST0:Hid (RStep w (w2.alloc (.cells (madeCells #[.int .u8 0] n) 5)) p S f m (o+8+0)):=R.gw ((Gw.refl w2).alloc _ _);have BX0:Hid ((w2.alloc (.cells (madeCells #[.int .u8 0] n) 5)).heap[w.heap.size]?=some (.cells #[.pointer (some ⟨p,0,none⟩)] 44 (0,0))):=(((Gw.refl w2).alloc _ _).below.block _ sz2).trans B2;obtain ⟨b,hb⟩:∃ b,b=w2.heap.size:=⟨_,rfl⟩;have bw:w.heap.size<b:=by omega
  clear R B2 hn a1;go_wp2_with fail;rw [<-hb] at RR0 ⊢;generalize w2.alloc (.cells (madeCells #[.int .u8 0] n) 5)=w3 at RR0 ST0 BX0 ⊢;clear hb hmk sz2;go_loopg [10] n (fun gg s10 wr=>∃ i:Nat,s10=.int .i64 i/\i<=n/\n-i<=gg/\Hid (wr.rowIs b 5 n (fun j=>.int .u8 (eT 0 i (bk (o+8) f) j)))/\Hid (RStep w wr p S f m (o+8+i))/\Hid (wr.heap[w.heap.size]?=some (.cells #[.pointer (some ⟨p,0,none⟩)] 44 (0,0))))
  case atStart=>exact ⟨0,rfl,Nat.zero_le _,by omega,RR0,ST0,BX0⟩
  case round =>
   clear RR0 ST0 BX0;obtain ⟨i,rfl,h1,h2,RI,SI,BI⟩:=hrel;by_cases hlt:i<n
   ·obtain ⟨u,Si,ri,subi⟩:=SI.out
    obtain ⟨x0,_⟩:=rd_cell BI.out;have xl:w.heap.size<wr.heap.size:=(Array.getElem?_eq_some_iff.1 BI.out).1;have bl:=RI.out.lt;have KE:Hid (∀ w5,Upd p wr w5->w5.heap[w.heap.size]?=some (.cells #[.pointer (some ⟨p,0,none⟩)] 44 (0,0))/\w5.rowIs b 5 n (fun j=>.int .u8 (eT 0 i (bk (o+8) f) j))):=fun w5 u5=>⟨(u5.blk _ (by omega) xl).trans BI.out,rows_kept RI.out (u5.blk _ (by omega) bl)⟩
    have CE:Hid (Calls prog 69 #[.agg #[.pointer (some ⟨p,0,none⟩)],.int .u8 255] wr fun e w'=>e=.returned (.int .u8 (bk (o+8) f i))/\RStep w w' p S f m (o+8+(i+1))/\Upd p wr w'):=(soctet 255 (by decide) (by decide) (show m<=140737488355000 by omega) (show o+8+i<=m by omega) ri).mono fun e w' hq=>by
     rcases hq with ⟨q1,q2,q3⟩ | ⟨q1,q2,q3⟩
     ·exact ⟨q2,RStep.after u subi q3,q3.1⟩
     ·exact absurd ⟨by omega,by have:=BDH.out (o+8+i) (by omega);omega⟩ q1
    clear u ri subi SI bl;go_wp2_with fail;refine CE.out.mono ?_;rintro e w5 ⟨rfl,q3,q4⟩;clear CE;obtain ⟨BX,RW⟩:=KE.out w5 q4;have RN:Hid ((w5.setCell ⟨b,i,none⟩ (.int .u8 (bk (o+8) f i))).rowIs b 5 n (fun j=>.int .u8 (eT 0 (i+1) (bk (o+8) f) j))):=made_brow RW
    have SN:Hid (RStep w (w5.setCell ⟨b,i,none⟩ (.int .u8 (bk (o+8) f i))) p S f m (o+8+(i+1))):=q3.setN (by omega) FZz.out _ _
    have BN:Hid ((w5.setCell ⟨b,i,none⟩ (.int .u8 (bk (o+8) f i))).heap[w.heap.size]?=some (.cells #[.pointer (some ⟨p,0,none⟩)] 44 (0,0))):=by
     show _=_;rw [Go.Deep.blk_setCell_other _ _ _ _ (show w.heap.size≠b by omega)]
     exact BX
    have z0:=RW.cell (i:=i) hlt;have f0:=RW.frozen i;have bl:=RW.lt;clear RW q3 q4 BX x0 xl RI KE;generalize bk (o+8) f i=ki at RN SN BN ⊢;go_wp2_with fail;go_roundg (n-(i+1))
    case measure=>omega
    case rel=>exact ⟨i+1,by go_num,by omega,Nat.le_refl _,RN,SN,BN⟩
   ·have ei:i=n:=by omega
    subst ei;have FIN:Hid (BS wr (some ⟨b,0,none⟩) i (bk (o+8) f)):=bs_of_row (RI.out.congr fun j hj=>by unfold eT;rw [if_pos hj]) (Nat.le_refl _) (fun t ht=>BDH.out _ (by omega))
    clear RI;go_wp2_with fail;go_ret;exact .inl ⟨A1.out,b,by rw [HN.out];rfl,by omega,by rw [HN.out];exact FIN.out,by rw [HN.out];exact SI.out⟩
 ·have FIN:Hid (Upd p w w2):=R
  have NO:Hid (¬ ByOK f m o):=a;clear R a;go_wp2_with fail;exact ⟨rfl,.inr ⟨NO.out,rfl,FIN.out⟩⟩
structure AlikeR (HR:HRt):Prop where
 alk:∀ {w:World} {p:Nat} {S:Nat->Prop} {eps:Int} {k v k' v':Nat->Int} {g g':Nat->Bool} {n:Nat} {L:List (List Sg)},HR w p S eps k v g n L->Ready eps k' n L->(∀ i,i<n->k i=k' i/\v i=v' i/\g i=g' i)->HR w p S eps k' v' g' n L
theorem ent_ra {HR:HRt} (A:AlikeR HR) {w:World} {p:Nat} {S:Nat->Prop} {f:Nat->Int} (h:HR w p S (numR f 4 8) (kF f) (vF f) (gF f) (nF f) (LF f)) (rd:Ready (numR f 4 8) (kF f) (nF f) (LF f)) (G:RunG (numR f 4 8) (kF f) (vF f) (gF f) (nF f) (LF f)):RA HR w ⟨p,S,numR f 4 8,entF f,LF f⟩:=by
 have e:∀ i,i<nF f->kF f i=ek (entF f) i/\vF f i=ev (entF f) i/\gF f i=eg (entF f) i:=fun i hi=>by
  obtain ⟨a,b,c⟩:=entF_at f hi;exact ⟨a.symm,b.symm,c.symm⟩
 have O:=G.of.congr0 e;obtain ⟨N,C⟩:=O.new0;have bd:∀ t,t<nF f->0<=ek (entF f) t/\ek (entF f) t<18446744073709551616:=fun t ht=>by rw [<-(e t ht).1];exact (G.bd t ht).1
 have rd':=Ready.of C rd.n1 rd.sh bd;refine ⟨?_,?_,fun x hx=>?_,?_⟩
 ·show HR w p S (numR f 4 8) _ _ _ (entF f).length (LF f)
  rw [entF_len];exact A.alk h rd' e
 ·unfold EOk
  show ChkR _ _ _ (entF f).length 0;rw [entF_len];have up:=N.up;exact .inl ⟨rfl,up.2,fun j hj=>N.gone j hj⟩
 ·have hx':x∈entF f:=hx
  obtain ⟨i,hi,e'⟩:=List.mem_iff_getElem.1 hx';rw [entF_len] at hi;have gd:=G.bd i hi;have:x=⟨kF f i,vF f i,gF f i⟩:=by rw [<-e'];simp [entF]
  rw [this];exact gd
 ·show (entF f).length<=2000000
  rw [entF_len];exact rd.n1
def RunOK (f:Nat->Int) (m o:Nat):Prop:=ByOK f m o/\(cF f o≠0->Fit (bk (o+8) f) (cF f o))
theorem srun {HR:HRt} (H:RunC HR) (A:AlikeR HR) {w:World} {p:Nat} {S:Nat->Prop} {f:Nat->Int} {m o:Nat} (hm:m<=16000000) (om:o<=m) (bd:∀ i,i<m->0<=f i/\f i<256) (h:Rd w p S f m o) :
  Calls prog 40 #[.agg #[.pointer (some ⟨p,0,none⟩)]] w fun e w'=>(RunOK f m o/\((cF f o=0/\e=.returned (.pointer none))\/(cF f o≠0/\∃ pr Sr,e=.returned (.pointer (some ⟨pr,0,none⟩))/\(∀ q,Sr q->w.heap.size<=q)/\RA HR w' ⟨pr,Sr,numR (bk (o+8) f) 4 8,entF (bk (o+8) f),LF (bk (o+8) f)⟩))/\RStep w w' p S f m (o+8+cF f o))\/(¬ RunOK f m o/\e=.panicked (thrown 120)/\Upd p w w'):=by
 have UA:Hid (Upd p w (w.alloc (.cells #[.pointer (some ⟨p,0,none⟩)] 44))):=.of_gw ((Gw.refl w).alloc _ _);have HH:Hid (RunC HR):=H;have AA:Hid (AlikeR HR):=A;have C1:Hid _:=sbytes hm om bd (h.gw ((Gw.refl w).alloc #[.pointer (some ⟨p,0,none⟩)] 44));have SZ:Hid (w.heap.size<=(w.alloc (.cells #[.pointer (some ⟨p,0,none⟩)] 44)).heap.size):=by show _<=_;simp
 clear h H A bd;go_enter func40,ntmps40;go_wp2_with fail;refine Calls.mono C1.out ?_;rintro e w2 hh;clear C1;rcases hh with ⟨a1,b,rfl,hb,bs,R⟩ | ⟨a,rfl,R⟩
 ·have A1:Hid (ByOK f m o):=a1
  have RR:Hid (RStep w w2 p S f m (o+8+cF f o)):=RStep.after UA.out (fun _ h=>h) R
  have WB:Hid (w.heap.size<=w2.heap.size):=Nat.le_trans SZ.out R.1.size;have F1:cF f o<=16000000:=by have:=a1.2;omega
  obtain ⟨n,hn⟩:∃ n,cF f o=n:=⟨_,rfl⟩;have HN:Hid (cF f o=n):=hn;rw [hn] at bs RR F1 ⊢;by_cases z:n=0
  ·have t0:((n:Int) == 0)=true:=by simpa using z
   have ZZ:Hid (n=0):=z;clear bs R a1 hn;subst z;go_wp2_with fail;go_ret;exact .inl ⟨⟨A1.out,fun t=>absurd HN.out t⟩,.inl ⟨HN.out,rfl⟩,by rw [HN.out];exact RR.out⟩
  ·have t0:((n:Int) == 0)=false:=by simpa using z
   have ZZ:Hid (¬ n=0):=z;have JG:Hid _:=jget HH.out (some ⟨b,0,none⟩) n n (bk (o+8) f) (by omega) (.few F1) w2 bs
   clear bs R a1 hn z;go_wp2_with fail;refine Calls.mono JG.out ?_;rintro e w3 ⟨hG,g3⟩;clear JG;rcases hG with ⟨ft,pr,Sr,rfl,hS,hR,hG⟩ | ⟨nf,rfl⟩
   ·have RES:Hid (RunOK f m o/\(∀ q,Sr q->w.heap.size<=q)/\RA HR w3 ⟨pr,Sr,numR (bk (o+8) f) 4 8,entF (bk (o+8) f),LF (bk (o+8) f)⟩/\RStep w w3 p S f m (o+8+n)):=⟨⟨A1.out,fun _=>by rw [HN.out];exact ft⟩,fun q hq=>Nat.le_trans WB.out (hS q hq),ent_ra AA.out hR (HH.out.ready hR) hG,RR.out.gw g3⟩
    clear hS hR hG ft g3 RR;go_wp2_with fail;refine (sneed_ok _).mono ?_;rintro e w4 ⟨rfl,hw⟩;subst hw;go_wp2_with fail;go_ret;exact .inl ⟨RES.out.1,.inr ⟨by rw [HN.out];exact ZZ.out,pr,Sr,rfl,RES.out.2.1,RES.out.2.2.1⟩,by rw [HN.out];exact RES.out.2.2.2⟩
   ·have FIN:Hid (Upd p w w3):=RR.out.1.trans (.of_gw g3)
    have NO:Hid (¬ RunOK f m o):=fun t=>nf (by have:=t.2 (by rw [HN.out];exact ZZ.out);rw [HN.out] at this;exact this)
    clear g3 RR nf;go_wp2_with fail;refine (sneed_bad _).mono ?_;rintro e w4 ⟨rfl,hw⟩;subst hw;go_wp2_with fail;exact ⟨rfl,.inr ⟨NO.out,rfl,FIN.out⟩⟩
 ·have FIN:Hid (Upd p w w2):=UA.out.trans R
  have NO:Hid (¬ RunOK f m o):=fun t=>a t.1
  clear R a;go_wp2_with fail;exact ⟨rfl,.inr ⟨NO.out,rfl,FIN.out⟩⟩
structure RunsOK (g:Nat->Int) (M:Nat):Prop where
 num:NumOK g M
 cl:∀ j,j<hF g->ClOK g M j
 last:hF g=0\/rZ g (hF g-1)≠0
theorem clok {g:Nat->Int} {M j:Nat}:RunOK g M (rO g j)↔ClOK g M j:=⟨fun h=>⟨h.1.1,h.1.2,h.2⟩,fun h=>⟨⟨h.c8,h.nx⟩,h.fit⟩⟩
theorem made_rp (m:Nat) (hm:m<=2000000) (w:World) :
  (Instr.makeSlice 49 (.int .i64 (m:Int)) (.int .i64 (m:Int))).run prog w=.ok (.slice (some ⟨w.heap.size,0,none⟩) m m) (w.alloc (.cells (madeCells #[.pointer none] m) 90)):=by
 obtain ⟨i,hi,hz',hs,hb⟩:=info_parts (show (prog.info? 90).map (fun i=>(i.zero,i.size,i.bytes))=some (some (.pointer none),1,8) by kernel_rfl)
 exact run_make_row (P:=prog) 49 90 i (.pointer none) underlying49 hi hz' hs rfl .i64 .i64 m (by rw [hb];omega) (by omega) w
theorem prow_put {w:World} {b n:Nat} {rs:List (Option Rn)} {o:Option Rn} (h:w.rowIs b 90 n (fun j=>ptr (rs.getD j none))):(w.setCell ⟨b,rs.length,none⟩ (ptr o)).rowIs b 90 n (fun j=>ptr ((rs++[o]).getD j none)):=by
 refine (h.set rs.length (ptr o)).congr fun j hj=>?_
 by_cases e:j=rs.length
 ·subst e;rw [if_pos rfl];simp [List.getD]
 ·rw [if_neg e]
  by_cases q:j<rs.length
  ·simp [List.getD,List.getElem?_append_left q]
  ·have q1:rs.length<j:=by omega
   simp only [List.getD];rw [List.getElem?_eq_none (by omega),List.getElem?_eq_none (by simp;omega)]
theorem sruns {HR:HRt} (H:RunC HR) (A:AlikeR HR) {w:World} {p:Nat} {S:Nat->Prop} {g:Nat->Int} {M:Nat} (hm:M<=16000000) (om:eOff g (nF g)<=M) (bd:∀ i,i<M->0<=g i/\g i<256) (h:Rd w p S g M (eOff g (nF g))) :
  Calls prog 17 #[.agg #[.pointer (some ⟨p,0,none⟩)]] w fun e w'=>(RunsOK g M/\∃ b rs,e=.returned (.slice (some ⟨b,0,none⟩) (hF g) (hF g))/\Al rs (rsF g)/\rs.length=hF g/\PR HR w' (some ⟨b,0,none⟩) rs/\(∀ r,some r∈rs->∀ q,r.S q->w.heap.size<=q)/\RStep w w' p S g M (rO g (hF g)))\/(¬ RunsOK g M/\e=.panicked (thrown 120)/\Upd p w w'):=by
 have pl:=h.pl;have FZz:Hid (∀ q,S q->q<w.heap.size):=fun q hq=>RRd.lt h q hq
 have UA:Hid (Upd p w (w.alloc (.cells #[.pointer (some ⟨p,0,none⟩)] 44))):=.of_gw ((Gw.refl w).alloc _ _);have IT:=sitems 40 (by decide) (by decide) 8 (by omega) (by omega) (show M<=140737488355000 by omega) om (h.gw ((Gw.refl w).alloc #[.pointer (some ⟨p,0,none⟩)] 44))
 have b0:(w.alloc (.cells #[.pointer (some ⟨p,0,none⟩)] 44)).heap[w.heap.size]?=some (.cells #[.pointer (some ⟨p,0,none⟩)] 44 (0,0)):=heap_alloc_new w _;have C1:Hid (Calls prog 38 #[.agg #[.pointer (some ⟨p,0,none⟩)],.int .i64 40,.int .i64 8] (w.alloc (.cells #[.pointer (some ⟨p,0,none⟩)] 44)) fun e w'=>((NumOK g M/\hF g<=40)/\e=.returned (.int .i64 (hF g:Int))/\RStep w w' p S g M (rO g 0)/\w'.heap[w.heap.size]?=some (.cells #[.pointer (some ⟨p,0,none⟩)] 44 (0,0)))\/(¬ RunsOK g M/\e=.panicked (thrown 120)/\Upd p w w')):=IT.mono fun e w' hh=>by
  rcases hh with ⟨a,b,c⟩ | ⟨a,b,c⟩
  ·refine .inl ⟨⟨⟨a.1.1,a.1.2⟩,?_⟩,b,RStep.after UA.out (fun _ h=>h) c,(c.1.blk _ (by omega) (by simp)).trans b0⟩
   have q1:(hF g:Int)=numR g (eOff g (nF g)) 8:=cF_cast bd a.1.1;have:=a.1.2;omega
  ·refine .inr ⟨fun t=>a ⟨⟨t.num.1,t.num.2⟩,?_⟩,b,UA.out.trans c⟩
   have r8:=rO_mono g (Nat.zero_le (hF g));have r0:rO g 0=eOff g (nF g)+8:=rfl;have ch:cF g (eOff g (nF g))=hF g:=rfl;rw [ch,Nat.le_div_iff_mul_le (by decide)]
   have:rO g (hF g)<=M:=by
    cases hh:hF g with
    | zero=>exact t.num.1
    | succ j=>exact (t.cl j (by omega)).nx
   omega
 have BDH:Hid (∀ i,i<M->0<=g i/\g i<256):=bd;have HH:Hid (RunC HR):=H;have AA:Hid (AlikeR HR):=A;clear h IT b0 UA bd H A;go_enter func17,ntmps17;go_wp2_with fail;refine C1.out.mono ?_;rintro e w2 hh;clear C1;rcases hh with ⟨⟨a1,a2⟩,rfl,R,B2⟩ | ⟨a,rfl,R⟩
 ·have A1:Hid (NumOK g M):=a1
  obtain ⟨n,hn⟩:∃ n,hF g=n:=⟨_,rfl⟩;have HN:Hid (hF g=n):=hn;rw [hn] at a2 ⊢;have hmk:=made_rp n (by omega) w2
  have sz2:w.heap.size<w2.heap.size:=(Array.getElem?_eq_some_iff.1 B2).1;have RR0:Hid ((w2.alloc (.cells (madeCells #[.pointer none] n) 90)).rowIs w2.heap.size 90 n (fun j=>ptr (([]:List (Option Rn)).getD j none))):=World.rowIs_made w2 (.pointer none) n 90
  have ST0:Hid (RStep w (w2.alloc (.cells (madeCells #[.pointer none] n) 90)) p S g M (rO g 0)):=R.gw ((Gw.refl w2).alloc _ _);have BX0:Hid ((w2.alloc (.cells (madeCells #[.pointer none] n) 90)).heap[w.heap.size]?=some (.cells #[.pointer (some ⟨p,0,none⟩)] 44 (0,0))):=(((Gw.refl w2).alloc _ _).below.block _ sz2).trans B2;obtain ⟨b,hb⟩:∃ b,b=w2.heap.size:=⟨_,rfl⟩;have bw:w.heap.size<b:=by omega
  clear R B2 hn a1;go_wp2_with fail;rw [<-hb] at RR0 ⊢;generalize w2.alloc (.cells (madeCells #[.pointer none] n) 90)=w3 at RR0 ST0 BX0 ⊢;clear hb hmk sz2;go_loopg [10] n (fun gg s10 wr=>∃ (i:Nat) (rs:List (Option Rn)),s10=.int .i64 i/\i<=n/\n-i<=gg/\Hid (rs.length=i/\Al rs (rsN g i))/\Hid (wr.rowIs b 90 n (fun j=>ptr (rs.getD j none)))/\Hid (RStep w wr p S g M (rO g i))/\Hid (wr.heap[w.heap.size]?=some (.cells #[.pointer (some ⟨p,0,none⟩)] 44 (0,0)))/\Hid (∀ r,some r∈rs->RA HR wr r/\∀ q,r.S q->b<q)/\Hid (rO g i<=M)/\Hid (∀ j,j<i->ClOK g M j))
  case atStart=>exact ⟨0,[],rfl,Nat.zero_le _,by omega,⟨rfl,rfl⟩,RR0,ST0,BX0,(show Hid _ from fun r hr=>by cases hr),A1.out.1,(show Hid _ from fun j hj=>by omega)⟩
  case round =>
   clear RR0 ST0 BX0;obtain ⟨i,rs,rfl,h1,h2,LI,RI,SI,BI,AI,MI,CI⟩:=hrel;by_cases hlt:i<n
   ·obtain ⟨u,Si,ri,subi⟩:=SI.out
    obtain ⟨x0,_⟩:=rd_cell BI.out;have xl:w.heap.size<wr.heap.size:=(Array.getElem?_eq_some_iff.1 BI.out).1;have bl:=RI.out.lt;have KE:Hid (∀ w5,Upd p wr w5->w5.heap[w.heap.size]?=some (.cells #[.pointer (some ⟨p,0,none⟩)] 44 (0,0))/\w5.rowIs b 90 n (fun j=>ptr (rs.getD j none))/\∀ r,some r∈rs->RA HR w5 r/\∀ q,r.S q->b<q):=fun w5 u5=>⟨(u5.blk _ (by omega) xl).trans BI.out,rows_kept RI.out (u5.blk _ (by omega) bl),fun r hr=>⟨(AI.out r hr).1.keep HH.out.kp fun q hq=>u5.blk q (by have:=(AI.out r hr).2 q hq;omega) (HH.out.kp.lt (AI.out r hr).1.h q hq),(AI.out r hr).2⟩⟩
    have CE:Hid (Calls prog 40 #[.agg #[.pointer (some ⟨p,0,none⟩)]] wr fun e w'=>(∃ o:Option Rn,e=.returned (ptr o)/\ClOK g M i/\o.map sig=(clF g i).map sig/\(∀ r,o=some r->RA HR w' r/\∀ q,r.S q->b<q)/\RStep w w' p S g M (rO g (i+1))/\Upd p wr w')\/(¬ RunsOK g M/\e=.panicked (thrown 120)/\Upd p w w')):=(srun HH.out AA.out hm MI.out BDH.out ri).mono fun e w' hq=>by
     rcases hq with ⟨q1,q2,q3⟩ | ⟨q1,q2,q3⟩
     ·refine .inl ?_
      rcases q2 with ⟨z,rfl⟩ | ⟨z,pr,Sr,rfl,hS,hR⟩
      ·exact ⟨none,rfl,clok.1 q1,by unfold clF;rw [if_pos (show rZ g i=0 from z)],(fun r hr=>by cases hr),RStep.after u subi q3,q3.1⟩
      ·exact ⟨some ⟨pr,Sr,numR (bk (rO g i+8) g) 4 8,entF (bk (rO g i+8) g),LF (bk (rO g i+8) g)⟩,rfl,clok.1 q1,by unfold clF;rw [if_neg (show ¬ rZ g i=0 from z)];rfl,(fun r hr=>by cases hr;exact ⟨hR,fun q hq=>Nat.lt_of_lt_of_le bl (hS q hq)⟩),RStep.after u subi q3,q3.1⟩
     ·exact .inr ⟨fun t=>q1 (clok.2 (t.cl i (by rw [HN.out];exact hlt))),q2,u.trans q3⟩
    clear u ri subi SI;go_wp2_with fail;refine CE.out.mono ?_;rintro e w5 hq;clear CE;rcases hq with ⟨o,rfl,q1,q2,q3,q4,q5⟩ | ⟨q1,rfl,q3⟩
    ·obtain ⟨BX,RW,RAs⟩:=KE.out w5 q5
     have li:=LI.out.1;have RN:Hid ((w5.setCell ⟨b,i,none⟩ (ptr o)).rowIs b 90 n (fun j=>ptr ((rs++[o]).getD j none))):=by rw [<-li];exact prow_put RW
     have SN:Hid (RStep w (w5.setCell ⟨b,i,none⟩ (ptr o)) p S g M (rO g (i+1))):=q4.setN (by omega) FZz.out _ _
     have BN:Hid ((w5.setCell ⟨b,i,none⟩ (ptr o)).heap[w.heap.size]?=some (.cells #[.pointer (some ⟨p,0,none⟩)] 44 (0,0))):=by
      show _=_;rw [Go.Deep.blk_setCell_other _ _ _ _ (show w.heap.size≠b by omega)]
      exact BX
     have AN:Hid (∀ r,some r∈rs++[o]->RA HR (w5.setCell ⟨b,i,none⟩ (ptr o)) r/\∀ q,r.S q->b<q):=fun r hr=>by
      have h9:RA HR w5 r/\∀ q,r.S q->b<q:=by
       rcases List.mem_append.1 hr with x | x
       ·exact RAs r x
       ·exact q3 r (List.mem_singleton.1 x).symm
      exact ⟨h9.1.keep HH.out.kp fun q hq=>Go.Deep.blk_setCell_other _ _ _ _ (by have:=h9.2 q hq;show q≠b;omega),h9.2⟩
     have LN:Hid ((rs++[o]).length=i+1/\Al (rs++[o]) (rsN g (i+1))):=⟨by rw [List.length_append,li];rfl,by
      have:=LI.out.2
      unfold Al at this ⊢;rw [rsN_succ,List.map_append,List.map_append,this];simp [q2]⟩
     have CN:Hid (∀ j,j<i+1->ClOK g M j):=fun j hj=>by
      by_cases c:j=i
      ·subst c;exact q1
      ·exact CI.out j (by omega)
     have MN:Hid (rO g (i+1)<=M):=q1.nx;have z0:=RW.cell (i:=i) hlt;have f0:=RW.frozen i;have bl:=RW.lt;clear RW q1 q2 q3 q4 q5 BX x0 xl RI KE RAs li AI CI;obtain ⟨v,hv⟩:∃ v,ptr o=.pointer v:=by cases o<;>exact ⟨_,rfl⟩
     rw [hv] at RN SN BN AN ⊢;clear hv;go_wp2_with fail;go_roundg (n-(i+1))
     case measure=>omega
     case rel=>exact ⟨i+1,rs++[o],by go_num,by omega,Nat.le_refl _,LN,RN,SN,BN,AN,MN,CN⟩
    ·have FIN:Hid (Upd p w w5):=q3
     have NO:Hid (¬ RunsOK g M):=q1;clear q1 q3 KE;go_wp2_with fail;exact ⟨rfl,.inr ⟨NO.out,rfl,FIN.out⟩⟩
   ·have ei:i=n:=by omega
    subst ei;have pr:PR HR wr (some ⟨b,0,none⟩) rs:=⟨fun h0=>⟨b,0,rfl,RI.out.lt,fun j hj=>by rw [Nat.zero_add];exact RI.out.cell (by rw [<-LI.out.1];exact hj)⟩,fun r hr=>(AI.out r hr).1⟩
    have PRH:Hid (PR HR wr (some ⟨b,0,none⟩) rs/\∀ r,some r∈rs->∀ q,r.S q->w.heap.size<=q):=⟨pr,fun r hr q hq=>by have:=(AI.out r hr).2 q hq;omega⟩
    have UW:Hid (Upd p w wr):=SI.out.1;by_cases z:i=0
    ·have OK:Hid (RunsOK g M):=⟨A1.out,fun j hj=>CI.out j (by rw [HN.out] at hj;exact hj),.inl (by rw [HN.out];exact z)⟩
     clear RI AI CI pr;subst z;go_wp2_with fail;refine (sneed_ok _).mono ?_;rintro e w4 ⟨rfl,hw⟩;subst hw;go_wp2_with fail;go_ret;exact .inl ⟨OK.out,b,rs,by rw [HN.out];rfl,by unfold rsF;rw [HN.out];exact LI.out.2,by rw [HN.out];exact LI.out.1,PRH.out.1,PRH.out.2,by rw [HN.out];exact SI.out⟩
    ·have t0:((i:Int) == 0)=false:=by simpa using z
     have t1:IntKind.i64.wrap ((i:Int)-1)=((i-1:Nat):Int):=by rw [IntKind.wrap_i64];omega
     have t2:(i:Int)-1=((i-1:Nat):Int):=by omega
     have c9:=RI.out.cell (i:=i-1) (by omega)
     have LS:Hid ((rs.getD (i-1) none).map sig=(clF g (i-1)).map sig):=by
      show _=_;have:=LI.out.2;unfold Al at this;have e1:(rs.map (Option.map sig)).getD (i-1) none=(rs.getD (i-1) none).map sig:=by
       have:i-1<rs.length:=by rw [LI.out.1];omega
       simp [List.getD,this]
      have e2:((rsN g i).map (Option.map sig)).getD (i-1) none=(clF g (i-1)).map sig:=by
       rw [<-rsN_at g (n:=i) (j:=i-1) (by omega)]
       have:i-1<(rsN g i).length:=by rw [rsN_len];omega
       simp [List.getD,this]
      rw [<-e1,<-e2,this]
     obtain ⟨k,hk⟩:∃ k,i-1=k:=⟨_,rfl⟩;have HK:Hid (i-1=k):=hk;have k1:k<i:=by omega
     rw [hk] at t1 t2 c9 LS;have bl:=RI.out.lt;clear hk;cases ho:rs.getD k none with
     | none =>
      rw [ho] at c9 LS;have c9':wr.cell? ⟨b,k,none⟩=some (.pointer none):=c9;have NO:Hid (¬ RunsOK g M):=fun t=>by
       rcases t.last with x | x
       ·rw [HN.out] at x;exact z x
       ·rw [HN.out,HK.out] at x
        have:=LS.out
        unfold clF at this;rw [if_neg x] at this;cases this
      clear RI AI CI pr c9 ho LS z;go_wp2_with fail;refine (sneed_bad _).mono ?_;rintro e w4 ⟨rfl,hw⟩;subst hw;go_wp2_with fail;exact ⟨rfl,.inr ⟨NO.out,rfl,UW.out⟩⟩
     | some r =>
      rw [ho] at c9 LS;have c9':wr.cell? ⟨b,k,none⟩=some (.pointer (some ⟨r.p,0,none⟩)):=c9;have OK:Hid (RunsOK g M):=⟨A1.out,fun j hj=>CI.out j (by rw [HN.out] at hj;exact hj),.inr fun x=>by
       rw [HN.out,HK.out] at x;have:=LS.out;unfold clF at this;rw [if_pos x] at this;cases this⟩
      generalize r.p=rp at c9';clear RI AI CI pr c9 ho LS z;go_wp2_with fail;refine (sneed_ok _).mono ?_;rintro e w4 ⟨rfl,hw⟩;subst hw;go_wp2_with fail;go_ret;exact .inl ⟨OK.out,b,rs,by rw [HN.out];rfl,by unfold rsF;rw [HN.out];exact LI.out.2,by rw [HN.out];exact LI.out.1,PRH.out.1,PRH.out.2,by rw [HN.out];exact SI.out⟩
 ·have FIN:Hid (Upd p w w2):=R
  have NO:Hid (¬ RunsOK g M):=a;clear R a;go_wp2_with fail;exact ⟨rfl,.inr ⟨NO.out,rfl,FIN.out⟩⟩
theorem CountT.one {l:List Ent} {rs:List (Option Rn)} {most:Int} {n n':Nat} {ok ok':Bool} (h:CountT l rs most n ok) (h':CountT l rs most n' ok'):ok=ok':=by
 have cross:∀ {n n':Nat},CountT l rs most n true->CountT l rs most n' false->False:=by
  intro n n' h h';rcases h with ⟨_,a,b,c⟩ | ⟨e,_⟩
  ·rcases h' with ⟨e,_⟩ | ⟨_,_,⟨i,m,x,y⟩ | ⟨m,x,y⟩⟩
   ·cases e
   ·obtain ⟨m',a1,a2⟩:=a i
    have:=a1.one x
    omega
   ·have:=b.one x
    omega
  ·cases e
 cases ok<;>cases ok'
 ·rfl
 ·exact (cross h' h).elim
 ·exact (cross h h').elim
 ·rfl
theorem OfR16.one {eps buf keys:Int} {b:List Ent} {l:List (Option Rn)} {E E':Int} {n n':Nat} (h:OfR16 eps buf keys b l E n) (h':OfR16 eps buf keys b l E' n'):E=E':=by
 have ok0:∀ {E:Int},EOk b->E≠0->¬ ChkR (ek b) (ev b) (eg b) b.length E:=fun k0 e0 c=>e0 (c.one k0)
 rcases h with ⟨a,rfl⟩ | ⟨a,x⟩
 ·rcases h' with ⟨_,rfl⟩ | ⟨a',_⟩
  ·rfl
  ·exact absurd a' a
 ·rcases h' with ⟨a',_⟩ | ⟨_,x'⟩
  ·exact absurd a a'
  ·rcases x with ⟨e0,c⟩ | ⟨k0,x⟩
   ·rcases x' with ⟨_,c'⟩ | ⟨k0,_⟩
    ·exact c.one c'
    ·exact absurd c (ok0 k0 e0)
   ·rcases x' with ⟨e0,c'⟩ | ⟨_,x'⟩
    ·exact absurd c' (ok0 k0 e0)
    ·rcases x with ⟨q,rfl⟩ | ⟨q,x⟩
     ·rcases x' with ⟨_,rfl⟩ | ⟨q',_⟩
      ·rfl
      ·omega
     ·rcases x' with ⟨q',_⟩ | ⟨_,x'⟩
      ·omega
      ·rcases x with ⟨e0,o⟩ | ⟨o,x⟩
       ·rcases x' with ⟨_,o'⟩ | ⟨o',_⟩
        ·exact o.one o'
        ·exact absurd (o.one o') e0
       ·rcases x' with ⟨e0,o'⟩ | ⟨_,x'⟩
        ·exact absurd (o'.one o) e0
        ·rcases x with ⟨rfl,c⟩ | ⟨rfl,c⟩<;>rcases x' with ⟨rfl,c'⟩ | ⟨rfl,c'⟩
         ·rfl
         ·cases c.one c'
         ·cases c.one c'
         ·rfl
def LoadOut (HR:HRt) (w w':World) (e:Ending) (f:Nat->Int) (m:Nat):Prop :=
 (FitT f m/\∃ p F rs n,e=.returned (.tuple #[.pointer (some ⟨p,0,none⟩),.int .i64 0])/\HT HR w' p F (numR f 4 8) (numR f 12 8) (numR f 20 8) (entF (bk 16 f)) (upR rs) 0 0 n/\Al rs (rsF (bk 16 f))/\rs.length=hF (bk 16 f))\/(¬ FitT f m/\e=.returned (.tuple #[.pointer none,.int .i64 120]))
theorem told20_any (err:Int) (w:World):Calls prog 12 #[.iface 25 (.int .i64 err)] w fun e w'=>e=.returned (.int .i64 err)/\w'=w:=by
 have ha:=assert_errno err;go_enter func12,ntmps12;go_wp2_with fail;go_ret;exact ⟨rfl,rfl⟩
theorem caught20 (bl be:Nat) (v0 v1:Value) (E:Int) (ne:¬ bl=be) (w:World) (h0:w.cell? ⟨bl,0,none⟩=some v0) (f0:w.frozen? ⟨bl,0,none⟩=false) (h1:w.cell? ⟨be,0,none⟩=some v1) (f1:w.frozen? ⟨be,0,none⟩=false) :
  CallsD prog 11 #[.pointer (some ⟨bl,0,none⟩),.pointer (some ⟨be,0,none⟩)] (.panicking (thrown E)) w fun e u' w' =>
   e=.returned (.tuple #[])/\u'=.panicking [{ v:=.iface 25 (.int .i64 E),recovered:=true }]/\w'=(w.setCell ⟨bl,0,none⟩ (.pointer none)).setCell ⟨be,0,none⟩ (.int .i64 E):=by
 refine callsD_of_wpS func11 rfl fun c₀ cs hu=>?_
 apply wpS_seq
 apply wpS_region
 simp [wpOpsS,go_sem,recoverD,hu,ntmps11,Exit.thenS]
 apply wpS_seq
 apply wpS_region
 simp [wpOpsS,go_sem,recoverD,Exit.thenS]
 refine wpS_cond (t:=true) (by simp [Act.eval,Array.replicate]) ?_
 simp only [if_true];refine wpS_of_wp ?_;change Code.wp _ _ _ ⟨#[.pointer (some ⟨bl,0,none⟩),.pointer (some ⟨be,0,none⟩),.iface 25 (.int .i64 E),.iface 25 (.int .i64 E),.iface 25 (.int .i64 E),.bool true,undef,undef],[]⟩ w;go_wp2_with fail;refine (told20_any E _).mono ?_;rintro e w1 ⟨rfl,rfl⟩;go_wp2_with fail;simp [bodyPostS,results,results11,go_sem]
theorem idle20 (bl be:Nat) (w:World) :
  CallsD prog 11 #[.pointer (some ⟨bl,0,none⟩),.pointer (some ⟨be,0,none⟩)] .returning w fun e u' w'=>e=.returned (.tuple #[])/\u'=.returning/\w'=w:=by
 refine callsD_of_wpS func11 rfl fun c₀ cs hu=>?_
 apply wpS_seq
 apply wpS_region
 simp [wpOpsS,go_sem,recoverD,hu,ntmps11,Exit.thenS]
 apply wpS_seq
 apply wpS_region
 simp [wpOpsS,go_sem,recoverD,Exit.thenS]
 refine wpS_cond (t:=false) (by simp [Act.eval,Array.replicate]) ?_
 simp only [Bool.false_eq_true,if_false];refine wpS_of_wp (wp_skip ?_);cases c₀
 simp_all [bodyPostS,results,results11]
structure GT (w:World) (br be:Nat) (v:Value) (W:World):Prop where
 gw:Gw w W
 rx:Box W br v 24
 ex:Box W be (.int .i64 0) 25
theorem GT.upd {w:World} {br be p:Nat} {v:Value} {W W':World} (h:GT w br be v W) (u:Upd p W W') (hp:w.heap.size<=p) (n1:br≠p) (n2:be≠p):GT w br be v W':=⟨u.gw w hp h.gw,(u.blk _ n1 h.rx.lt).trans h.rx,(u.blk _ n2 h.ex.lt).trans h.ex⟩
theorem GT.mono {w:World} {br be:Nat} {v:Value} {W W':World} (h:GT w br be v W) (g:Gw W W'):GT w br be v W':=⟨h.gw.trans g,h.rx.gw g,h.ex.gw g⟩
theorem head_liesT {f:Nat->Int}:(∀ i,i<(⟨#[73,78,84,49]⟩:ByteArray).size->f i=strB ⟨#[73,78,84,49]⟩ i)↔Lies f 0 headT:=by
 have e0:strB ⟨#[73,78,84,49]⟩ 0=73:=rfl;have e1:strB ⟨#[73,78,84,49]⟩ 1=78:=rfl;have e2:strB ⟨#[73,78,84,49]⟩ 2=84:=rfl;have e3:strB ⟨#[73,78,84,49]⟩ 3=49:=rfl;constructor
 ·intro h i hi
  have hi4:i<4:=hi;have:=h i hi;rw [Nat.zero_add,this]
  match i,hi4 with
  | 0,_=>rw [e0];rfl
  | 1,_=>rw [e1];rfl
  | 2,_=>rw [e2];rfl
  | 3,_=>rw [e3];rfl
 ·intro h i hi
  have hi4:i<4:=hi;have:=h i hi;rw [Nat.zero_add] at this
  match i,hi4 with
  | 0,_=>rw [e0];exact (Option.some.inj this).symm
  | 1,_=>rw [e1];exact (Option.some.inj this).symm
  | 2,_=>rw [e2];exact (Option.some.inj this).symm
  | 3,_=>rw [e3];exact (Option.some.inj this).symm
theorem rd_bk {w:World} {p:Nat} {S:Nat->Prop} {f:Nat->Int} {m c o:Nat}:Rd w p S f m (c+o)↔Rd w p S (bk c f) (m-c) o:=by
 unfold Rd bk;rw [show m-(c+o)=m-c-o by omega,show (fun i=>f (c+o+i))=fun i=>f (c+(o+i)) from funext fun i=>by rw [Nat.add_assoc]]
theorem entF_ES {w:World} {ao:Option Addr} {f:Nat->Int} (h:ES w ao (nF f) (kF f) (vF f) (gF f)):EL w ao (entF f):=by
 unfold EL;rw [entF_len];have e:∀ i,i<nF f->((entF f).getD i ent0).k=kF f i/\((entF f).getD i ent0).v=vF f i/\((entF f).getD i ent0).g=gF f i:=fun i hi=>entF_at f hi
 refine ⟨fun h0=>?_,fun i hi=>?_⟩
 ·obtain ⟨b,off,x,hb,hc⟩:=h.cells h0
  exact ⟨b,off,x,hb,fun i hi=>by rw [(e i hi).1,(e i hi).2.1,(e i hi).2.2];exact hc i hi⟩
 ·rw [(e i hi).1,(e i hi).2.1];exact h.bd i hi
theorem cfg_cells {w:World} {b:Nat} {x y z:Value} {t:TypeId} (h:w.heap[b]?=some (.cells #[x,y,z] t (0,0))):w.cell? ⟨b,0,none⟩=some x/\w.cell? ⟨b,1,none⟩=some y/\w.cell? ⟨b,2,none⟩=some z:=ent_cells h
theorem tload {HR:HRt} (H:RunC HR) (A:AlikeR HR) (ao:Option Addr) (m cp:Nat) (f:Nat->Int) (hm:m<=16000000) (w:World) (h:BS w ao m f) :
  Calls prog 5 #[.slice ao m cp] w fun e w'=>LoadOut HR w w' e f m/\Gw w w':=by
 have hmf:∀ (fn:Fn) (first cap:Array Value) (w:World),(Instr.makeFunc fn first cap).run prog w=.ok (.func fn first cap) w:=fun _ _ _ _=>rfl
 have HH:Hid (RunC HR):=H;have AA:Hid (AlikeR HR):=A;have BD:Hid (∀ i,i<m->0<=f i/\f i<256):=h.bd;have HB:Hid (BS w ao m f):=h;have hm7:m<=140737488355000:=by omega
 clear h H A;have NW:Hid (∀ W,BS W ao m f->Calls prog 13 #[.slice ao m cp] W fun e w'=>(∃ p S,e=.returned (.pointer (some ⟨p,0,none⟩))/\RRd 86 w' p S f m/\∀ q,S q->W.heap.size<=q)/\Gw W w'):=fun W hb=>xnew_any ao m cp f hm7 W hb
 go_enter_defers func5,ntmps5
 go_wp2_with fail;have X0:Hid (GT w w.heap.size (w.heap.size+1) (.pointer none) ((w.alloc (.cells #[.pointer none] 24)).alloc (.cells #[.int .i64 0] 25))):=by
  refine ⟨((Gw.refl w).alloc _ _).alloc _ _,(Box.new w _ _).gw ((Gw.refl _).alloc _ _),?_⟩;have:=Box.new (w.alloc (.cells #[.pointer none] 24)) (.int .i64 0) 25;rw [show (w.alloc (.cells #[.pointer none] 24)).heap.size=w.heap.size+1 by simp] at this
  exact this
 have Z0:Hid (((w.alloc (.cells #[.pointer none] 24)).alloc (.cells #[.int .i64 0] 25)).heap.size=w.heap.size+2):=by show _=_;simp
 generalize ((w.alloc (.cells #[.pointer none] 24)).alloc (.cells #[.int .i64 0] 25))=w0 at X0 Z0 ⊢;obtain ⟨br,hbr⟩:∃ br,w.heap.size=br:=⟨_,rfl⟩;obtain ⟨be,hbe⟩:∃ be,br+1=be:=⟨_,rfl⟩;have BB:Hid (w.heap.size<=br/\w.heap.size<=be):=⟨by omega,by omega⟩
 have z0:=Z0.out;rw [hbr] at X0 z0;rw [hbe] at X0;rw [hbr,hbe];have ne:¬ br=be:=by omega
 refine (NW.out _ (HB.out.gw X0.out.gw)).mono ?_;rintro e w1 ⟨⟨p,S0,rfl,rd,hS⟩,g1⟩;have pS:=hS p (RRd.own rd);have np1:br≠p:=by omega
 have np2:be≠p:=by omega
 have np3:w.heap.size<=p:=by omega
 have X1:Hid (GT w br be (.pointer none) w1):=X0.out.mono g1;have RD1:Hid (Rd w1 p S0 f m 0):=by
  show RRd _ _ _ _ _ _;simpa using rd
 have pl1:p<w1.heap.size:=RRd.lt rd p (RRd.own rd);clear rd hS g1 X0 Z0 z0 NW HB hbr hbe pS;go_wp2_with fail;obtain ⟨bi,hbi⟩:∃ bi,w1.heap.size=bi:=⟨_,rfl⟩;have X2:Hid (GT w br be (.pointer none) (w1.alloc (.cells #[.pointer (some ⟨p,0,none⟩)] 44))):=X1.out.mono ((Gw.refl w1).alloc _ _);have RD2:Hid (Rd (w1.alloc (.cells #[.pointer (some ⟨p,0,none⟩)] 44)) p S0 f m 0):=RD1.out.gw ((Gw.refl w1).alloc _ _);have BX2:Hid ((w1.alloc (.cells #[.pointer (some ⟨p,0,none⟩)] 44)).heap[bi]?=some (.cells #[.pointer (some ⟨p,0,none⟩)] 44 (0,0))):=hbi▸heap_alloc_new w1 _;rw [hbi];have np4:bi≠p:=by omega
 generalize w1.alloc (.cells #[.pointer (some ⟨p,0,none⟩)] 44)=w2 at X2 RD2 BX2 ⊢;clear X1 RD1 hbi pl1;have BI:Hid (∀ W W',W.heap[bi]?=some (.cells #[.pointer (some ⟨p,0,none⟩)] 44 (0,0))->Upd p W W'->W'.heap[bi]?=some (.cells #[.pointer (some ⟨p,0,none⟩)] 44 (0,0))):=fun W W' hb u=>(u.blk bi np4 (Array.getElem?_eq_some_iff.1 hb).1).trans hb
 refine (sword ⟨#[73,78,84,49]⟩ hm7 RD2.out).mono ?_;rintro e w3 hq;rcases hq with ⟨q1,rfl,q3⟩ | ⟨q1,rfl,q3⟩
 rotate_left
 ·have GX:Hid (GT w br be (.pointer none) w3):=X2.out.upd q3 np3 np1 np2
  have NF:Hid (¬ FitT f m):=fun t=>q1 ⟨t.1.hd.1,head_liesT.2 t.1.hd.2⟩
  clear q1 q3 X2 RD2 BX2;go_wp2_with fail;refine leaves_cons (f:=11) (args:=#[.pointer (some ⟨br,0,none⟩),.pointer (some ⟨be,0,none⟩)]) (by simp) (by simp [go_sem]) ?_
  refine (caught20 br be _ _ 120 ne _ GX.out.rx.cell GX.out.rx.fz GX.out.ex.cell GX.out.ex.fz).mono ?_;rintro e u' wz ⟨rfl,rfl,rfl⟩;have cz:=(Box.other (GX.out.rx.set (.pointer none)) ⟨be,0,none⟩ (.int .i64 120) ne).cell;have dz:=(Box.set (Box.other GX.out.ex ⟨br,0,none⟩ (.pointer none) (fun e=>ne e.symm)) (.int .i64 120)).cell
  exact ⟨.tuple #[.pointer none,.int .i64 120],by simp [results,results5,go_sem,cz,dz],.inr ⟨NF.out,rfl⟩,(GX.out.gw.setCell (by show w.heap.size<=br;exact BB.out.1) _).setCell (by show w.heap.size<=be;exact BB.out.2) _⟩
 have Q3:Hid (4<=m/\Lies f 0 headT):=⟨q1.1,head_liesT.1 q1.2⟩;obtain ⟨u3,S3,rd3,_⟩:=q3;have X3:Hid (GT w br be (.pointer none) w3):=X2.out.upd u3 np3 np1 np2;have RD3:Hid (Rd w3 p S3 f m 4):=rd3;have BX3:Hid (w3.heap[bi]?=some (.cells #[.pointer (some ⟨p,0,none⟩)] 44 (0,0))):=BI.out _ _ BX2.out u3;obtain ⟨x3,_⟩:=rd_cell BX3.out;have l3:bi<w3.heap.size:=(Array.getElem?_eq_some_iff.1 BX3.out).1;clear u3 rd3 q1 X2 RD2 BX2;go_wp2_with fail;refine (sconfig hm7 Q3.out.1 RD3.out).mono ?_;rintro e w4 hq;rcases hq with ⟨q1,rfl,q3⟩ | ⟨q1,rfl,q3⟩
 rotate_left
 ·have GX:Hid (GT w br be (.pointer none) w4):=X3.out.upd q3 np3 np1 np2
  have NF:Hid (¬ FitT f m):=fun t=>q1 (by
   obtain ⟨n,o⟩:=t.2;rcases o with ⟨_,e⟩ | ⟨c,_⟩
   ·omega
   ·exact ⟨t.1.cf,c.1.2,c.2.1.2,c.2.2.1.2⟩)
  clear q1 q3 X3 RD3 BX3 x3;go_wp2_with fail;refine leaves_cons (f:=11) (args:=#[.pointer (some ⟨br,0,none⟩),.pointer (some ⟨be,0,none⟩)]) (by simp) (by simp [go_sem]) ?_
  refine (caught20 br be _ _ 120 ne _ GX.out.rx.cell GX.out.rx.fz GX.out.ex.cell GX.out.ex.fz).mono ?_;rintro e u' wz ⟨rfl,rfl,rfl⟩;have cz:=(Box.other (GX.out.rx.set (.pointer none)) ⟨be,0,none⟩ (.int .i64 120) ne).cell;have dz:=(Box.set (Box.other GX.out.ex ⟨br,0,none⟩ (.pointer none) (fun e=>ne e.symm)) (.int .i64 120)).cell
  exact ⟨.tuple #[.pointer none,.int .i64 120],by simp [results,results5,go_sem,cz,dz],.inr ⟨NF.out,rfl⟩,(GX.out.gw.setCell (by show w.heap.size<=br;exact BB.out.1) _).setCell (by show w.heap.size<=be;exact BB.out.2) _⟩
 have Q4:Hid (CfgF f m):=q1;obtain ⟨u3,S4,rd3,_⟩:=q3;have X4:Hid (GT w br be (.pointer none) w4):=X3.out.upd u3 np3 np1 np2;have RD4:Hid (Rd w4 p S4 (bk 16 f) (m-16) 12):=rd_bk.1 rd3;have BX4:Hid (w4.heap[bi]?=some (.cells #[.pointer (some ⟨p,0,none⟩)] 44 (0,0))):=BI.out _ _ BX3.out u3;have p4:p<w4.heap.size:=rd3.pl;clear u3 rd3 q1 X3 RD3 BX3 x3 l3;obtain ⟨eps,heps⟩:∃ x,numR f 4 8=x:=⟨_,rfl⟩;obtain ⟨buf,hbuf⟩:∃ x,numR f 12 8=x:=⟨_,rfl⟩;obtain ⟨keys,hkeys⟩:∃ x,numR f 20 8=x:=⟨_,rfl⟩;have HE:Hid (numR f 4 8=eps/\numR f 12 8=buf/\numR f 20 8=keys):=⟨heps,hbuf,hkeys⟩;rw [heps,hbuf,hkeys];clear heps hbuf hkeys;obtain ⟨g,hg⟩:∃ g,bk 16 f=g:=⟨_,rfl⟩;obtain ⟨M,hM⟩:∃ M,m-16=M:=⟨_,rfl⟩;have HG:Hid (bk 16 f=g/\m-16=M):=⟨hg,hM⟩;have m28:28<=m:=Q4.out.1;have hM1:M<=16000000:=by omega
 have hM2:12<=M:=by omega
 have BG:Hid (∀ i,i<M->0<=g i/\g i<256):=fun i hi=>by rw [<-hg];exact BD.out _ (by omega)
 rw [hg,hM] at RD4;clear hg hM;obtain ⟨x4,_⟩:=rd_cell BX4.out;have l4:bi<w4.heap.size:=(Array.getElem?_eq_some_iff.1 BX4.out).1;go_wp2_with fail;obtain ⟨bc,hbc⟩:∃ bc,w4.heap.size=bc:=⟨_,rfl⟩;have X5:Hid (GT w br be (.pointer none) (w4.alloc (.cells #[.int .i64 eps,.int .i64 buf,.int .i64 keys] 35))):=X4.out.mono ((Gw.refl w4).alloc _ _);have RD5:Hid (Rd (w4.alloc (.cells #[.int .i64 eps,.int .i64 buf,.int .i64 keys] 35)) p S4 g M 12):=RD4.out.gw ((Gw.refl w4).alloc _ _);have BX5:Hid ((w4.alloc (.cells #[.int .i64 eps,.int .i64 buf,.int .i64 keys] 35)).heap[bi]?=some (.cells #[.pointer (some ⟨p,0,none⟩)] 44 (0,0))):=(((Gw.refl w4).alloc _ _).below.block _ (Array.getElem?_eq_some_iff.1 BX4.out).1).trans BX4.out;have BC5:Hid ((w4.alloc (.cells #[.int .i64 eps,.int .i64 buf,.int .i64 keys] 35)).heap[bc]?=some (.cells #[.int .i64 eps,.int .i64 buf,.int .i64 keys] 35 (0,0))):=hbc▸heap_alloc_new w4 _;rw [hbc];have np5:bc≠p:=by omega
 generalize w4.alloc (.cells #[.int .i64 eps,.int .i64 buf,.int .i64 keys] 35)=w5 at X5 RD5 BX5 BC5 ⊢;have BCK:Hid (∀ W W',W.heap[bc]?=some (.cells #[.int .i64 eps,.int .i64 buf,.int .i64 keys] 35 (0,0))->Upd p W W'->W'.heap[bc]?=some (.cells #[.int .i64 eps,.int .i64 buf,.int .i64 keys] 35 (0,0))):=fun W W' hb u=>(u.blk bc np5 (Array.getElem?_eq_some_iff.1 hb).1).trans hb
 clear X4 RD4 BX4 hbc x4 l4;have EN:Hid _:=sentries (show M<=140737488355000 by omega) (.few hM1) hM2 BG.out RD5.out
 refine Calls.mono EN.out ?_;rintro e w6 hq;clear EN;rcases hq with ⟨q1,eb,rfl,qb,qe,q3⟩ | ⟨q1,rfl,q3⟩
 rotate_left
 ·have GX:Hid (GT w br be (.pointer none) w6):=X5.out.upd q3 np3 np1 np2
  have NF:Hid (¬ FitT f m):=fun t=>q1 (by have:=t.1.en;rw [HG.out.1,HG.out.2] at this;exact this)
  clear q1 q3 X5 RD5 BX5 BC5;go_wp2_with fail;refine leaves_cons (f:=11) (args:=#[.pointer (some ⟨br,0,none⟩),.pointer (some ⟨be,0,none⟩)]) (by simp) (by simp [go_sem]) ?_
  refine (caught20 br be _ _ 120 ne _ GX.out.rx.cell GX.out.rx.fz GX.out.ex.cell GX.out.ex.fz).mono ?_;rintro e u' wz ⟨rfl,rfl,rfl⟩;have cz:=(Box.other (GX.out.rx.set (.pointer none)) ⟨be,0,none⟩ (.int .i64 120) ne).cell;have dz:=(Box.set (Box.other GX.out.ex ⟨br,0,none⟩ (.pointer none) (fun e=>ne e.symm)) (.int .i64 120)).cell
  exact ⟨.tuple #[.pointer none,.int .i64 120],by simp [results,results5,go_sem,cz,dz],.inr ⟨NF.out,rfl⟩,(GX.out.gw.setCell (by show w.heap.size<=br;exact BB.out.1) _).setCell (by show w.heap.size<=be;exact BB.out.2) _⟩
 have Q5:Hid (EntOK g M):=q1;have p5:=RD5.out.pl;obtain ⟨u3,S6,rd3,_⟩:=q3;have X6:Hid (GT w br be (.pointer none) w6):=X5.out.upd u3 np3 np1 np2;have RD6:Hid (Rd w6 p S6 g M (eOff g (nF g))):=rd3;have BX6:Hid (w6.heap[bi]?=some (.cells #[.pointer (some ⟨p,0,none⟩)] 44 (0,0))):=BI.out _ _ BX5.out u3;have BC6:Hid (w6.heap[bc]?=some (.cells #[.int .i64 eps,.int .i64 buf,.int .i64 keys] 35 (0,0))):=BCK.out _ _ BC5.out u3;have E6:Hid (ES w6 (some ⟨eb,0,none⟩) (nF g) (kF g) (vF g) (gF g)):=qe;have np6:eb≠p:=by omega
 have oe:eOff g (nF g)<=M:=by
  cases hnn:nF g with
  | zero=>exact q1.1.1
  | succ i=>exact (q1.2 i (by omega)).2.2
 have RU:Hid _:=sruns HH.out AA.out hM1 oe BG.out rd3;obtain ⟨x6,_⟩:=rd_cell BX6.out;have l6:bi<w6.heap.size:=(Array.getElem?_eq_some_iff.1 BX6.out).1;have S6w:Hid (br<w6.heap.size/\be<w6.heap.size):=⟨X6.out.rx.lt,X6.out.ex.lt⟩;clear u3 rd3 q1 X5 RD5 BX5 BC5 qe qb oe;obtain ⟨n,hn⟩:∃ n,nF g=n:=⟨_,rfl⟩;have HN:Hid (nF g=n):=hn;rw [hn];clear hn;go_wp2_with fail;refine Calls.mono RU.out ?_;rintro e w7 hq;clear RU;rcases hq with ⟨q1,rb,rs,rfl,qa,ql,qp,qs,q3⟩ | ⟨q1,rfl,q3⟩
 rotate_left
 ·have GX:Hid (GT w br be (.pointer none) w7):=X6.out.upd q3 np3 np1 np2
  have NF:Hid (¬ FitT f m):=fun t=>q1 (by
   have a:=t.1.hh;have b:=t.1.cl;have c:=t.1.last;rw [HG.out.1,HG.out.2] at a;rw [HG.out.1,HG.out.2] at b;rw [HG.out.1] at c;exact ⟨a,b,c⟩)
  clear q1 q3 X6 RD6 BX6 BC6 x6;go_wp2_with fail;refine leaves_cons (f:=11) (args:=#[.pointer (some ⟨br,0,none⟩),.pointer (some ⟨be,0,none⟩)]) (by simp) (by simp [go_sem]) ?_
  refine (caught20 br be _ _ 120 ne _ GX.out.rx.cell GX.out.rx.fz GX.out.ex.cell GX.out.ex.fz).mono ?_;rintro e u' wz ⟨rfl,rfl,rfl⟩;have cz:=(Box.other (GX.out.rx.set (.pointer none)) ⟨be,0,none⟩ (.int .i64 120) ne).cell;have dz:=(Box.set (Box.other GX.out.ex ⟨br,0,none⟩ (.pointer none) (fun e=>ne e.symm)) (.int .i64 120)).cell
  exact ⟨.tuple #[.pointer none,.int .i64 120],by simp [results,results5,go_sem,cz,dz],.inr ⟨NF.out,rfl⟩,(GX.out.gw.setCell (by show w.heap.size<=br;exact BB.out.1) _).setCell (by show w.heap.size<=be;exact BB.out.2) _⟩
 have Q6:Hid (RunsOK g M):=q1;obtain ⟨u3,S7,rd3,_⟩:=q3;have X7:Hid (GT w br be (.pointer none) w7):=X6.out.upd u3 np3 np1 np2;have BX7:Hid (w7.heap[bi]?=some (.cells #[.pointer (some ⟨p,0,none⟩)] 44 (0,0))):=BI.out _ _ BX6.out u3;have BC7:Hid (w7.heap[bc]?=some (.cells #[.int .i64 eps,.int .i64 buf,.int .i64 keys] 35 (0,0))):=BCK.out _ _ BC6.out u3;have E7:Hid (EL w7 (some ⟨eb,0,none⟩) (entF g)):=entF_ES (E6.out.upd u3 (fun a ha=>by cases ha;exact np6))
 have P7:Hid (PR HR w7 (some ⟨rb,0,none⟩) rs):=qp;have AL:Hid (Al rs (rsF g)/\rs.length=hF g):=⟨qa,ql⟩;have RSW:Hid (∀ r,some r∈rs->∀ q,r.S q->q≠br/\q≠be):=fun r hr q hq=>by
  have:=qs r hr q hq
  have:=S6w.out
  omega
 have LE:=octr.left rd3;have LEF:Hid (Calls prog 19 #[.pointer (some ⟨p,0,none⟩)] w7 fun e w'=>e=.returned (.int .i64 ((M-rO g (hF g):Nat):Int))/\w'=w7):=LE
 have rm:rO g (hF g)<=M:=by
  cases hh:hF g with
  | zero=>exact q1.num.1
  | succ j=>exact (q1.cl j (by omega)).nx
 obtain ⟨x7,_⟩:=rd_cell BX7.out;have l7:bi<w7.heap.size:=(Array.getElem?_eq_some_iff.1 BX7.out).1;have ht:hF g<=40:=by
  have e:(hF g:Int)=numR g (eOff g (nF g)) 8:=cF_cast BG.out (show eOff g (nF g)+8<=M from q1.num.1);have:=q1.num.2;omega
 have TOT:Hid ((entF g).length+tot rs<=2000000):=by
  have a:=cls_many (hF g) q1.cl;have b:=ents_many Q5.out;have e1:lO g=eOff g (nF g)+8:=rfl;have e2:tot rs=tot (rsN g (hF g)):=qa.tot;show _<=_;rw [entF_len,e2];omega
 have OFH:Hid (Calls prog 20 #[.agg #[.int .i64 eps,.int .i64 buf,.int .i64 keys],.slice (some ⟨eb,0,none⟩) n n,.slice (some ⟨rb,0,none⟩) (hF g) (hF g)] w7 fun e w'=>OfT HR w7 w' e eps buf keys (entF g) rs/\Gw w7 w'):=by
  have:=of16 HH.out eps buf keys (some ⟨eb,0,none⟩) (some ⟨rb,0,none⟩) n (hF g) (entF g) rs TOT.out (by omega) (by rw [entF_len,HN.out];exact Nat.le_refl _) (by omega) (fun h=>by cases h) w7 E7.out P7.out
  rw [entF_len,HN.out,ql] at this;exact this
 clear u3 rd3 X6 RD6 BX6 BC6 x6 l6 qa ql qp qs LE q1 S6w;go_wp2_with fail;refine LEF.out.mono ?_;rintro e w8 ⟨rfl,hw⟩;subst hw;by_cases al:rO g (hF g)=M
 rotate_left
 ·have t0:(((M-rO g (hF g):Nat):Int) == 0)=false:=by simp;omega
  have t1:¬ M-rO g (hF g)=0:=by omega
  have t2:¬ M<=rO g (hF g):=by omega
  have NF:Hid (¬ FitT f m):=fun t=>al (by have:=t.1.all;rw [HG.out.1,HG.out.2] at this;exact this)
  have GX:Hid (GT w br be (.pointer none) w8):=X7.out;generalize M-rO g (hF g)=mm at *;clear LEF al rm t2 OFH;go_wp2_with fail;refine (sneed_bad _).mono ?_;rintro e wa ⟨rfl,hw⟩;subst hw;go_wp2_with fail;refine leaves_cons (f:=11) (args:=#[.pointer (some ⟨br,0,none⟩),.pointer (some ⟨be,0,none⟩)]) (by simp) (by simp [go_sem]) ?_
  refine (caught20 br be _ _ 120 ne _ GX.out.rx.cell GX.out.rx.fz GX.out.ex.cell GX.out.ex.fz).mono ?_;rintro e u' wz ⟨rfl,rfl,rfl⟩;have cz:=(Box.other (GX.out.rx.set (.pointer none)) ⟨be,0,none⟩ (.int .i64 120) ne).cell;have dz:=(Box.set (Box.other GX.out.ex ⟨br,0,none⟩ (.pointer none) (fun e=>ne e.symm)) (.int .i64 120)).cell
  exact ⟨.tuple #[.pointer none,.int .i64 120],by simp [results,results5,go_sem,cz,dz],.inr ⟨NF.out,rfl⟩,(GX.out.gw.setCell (by show w.heap.size<=br;exact BB.out.1) _).setCell (by show w.heap.size<=be;exact BB.out.2) _⟩
 have t1:M-rO g (hF g)=0:=by omega
 have t2:M<=rO g (hF g):=by omega
 have ALL:Hid (rO g (hF g)=M):=al;have LAY:Hid (LayT f m):=by
  refine ⟨Q3.out,Q4.out.1,?_,?_,?_,?_,?_⟩
  ·rw [HG.out.1,HG.out.2];exact Q5.out
  ·rw [HG.out.1,HG.out.2];exact Q6.out.num
  ·rw [HG.out.1,HG.out.2];exact Q6.out.cl
  ·rw [HG.out.1];exact Q6.out.last
  ·rw [HG.out.1,HG.out.2];exact al
 obtain ⟨c0,c1,c2⟩:=cfg_cells BC7.out;have lc:=(Array.getElem?_eq_some_iff.1 BC7.out).1;clear LEF al rm;rw [t1];obtain ⟨ht',hht⟩:∃ k,hF g=k:=⟨_,rfl⟩;have HHT:Hid (hF g=ht'):=hht;rw [hht] at OFH ht ⊢;clear hht t1 t2;go_wp2_with fail;refine (sneed_ok _).mono ?_;rintro e w9 ⟨rfl,hw⟩;subst hw;go_wp2_with fail;refine OFH.out.mono ?_;rintro e wA ⟨⟨E,nl,hE,hX⟩,gA⟩;have XA:Hid (GT w br be (.pointer none) wA):=X7.out.mono gA;have OE:Hid (OfR16 eps buf keys (entF g) rs E nl):=hE;have SZA:Hid (br<w9.heap.size/\be<w9.heap.size):=⟨X7.out.rx.lt,X7.out.ex.lt⟩;clear gA hE OFH;have rc:=XA.out.rx.cell;have rf:=XA.out.rx.fz;have rl:=XA.out.rx.lt;rcases hX with ⟨e0,rfl⟩ | ⟨e0,pp,F,rfl,hT,hF'⟩
 ·have t3:(E == 0)=false:=by simpa using e0
  have GX:Hid (GT w br be (.pointer none) (wA.setCell ⟨br,0,none⟩ (.pointer none))):=⟨XA.out.gw.setCell (by show w.heap.size<=br;exact BB.out.1) _,XA.out.rx.set _,XA.out.ex.other _ _ (fun e=>ne e.symm)⟩
  have NF:Hid (¬ FitT f m):=fun t=>e0 (by
   obtain ⟨n',o⟩:=t.2;rw [HE.out.1,HE.out.2.1,HE.out.2.2,HG.out.1] at o;have a:Al (rsF g) rs:=AL.out.1.symm;exact OE.out.one (o.al a))
  clear e0;go_wp2_with fail;refine (sneed_bad _).mono ?_;rintro e wa ⟨rfl,hw⟩;subst hw;go_wp2_with fail;refine leaves_cons (f:=11) (args:=#[.pointer (some ⟨br,0,none⟩),.pointer (some ⟨be,0,none⟩)]) (by simp) (by simp [go_sem]) ?_
  refine (caught20 br be _ _ 120 ne _ GX.out.rx.cell GX.out.rx.fz GX.out.ex.cell GX.out.ex.fz).mono ?_;rintro e u' wz ⟨rfl,rfl,rfl⟩;have cz:=(Box.other (GX.out.rx.set (.pointer none)) ⟨be,0,none⟩ (.int .i64 120) ne).cell;have dz:=(Box.set (Box.other GX.out.ex ⟨br,0,none⟩ (.pointer none) (fun e=>ne e.symm)) (.int .i64 120)).cell
  exact ⟨.tuple #[.pointer none,.int .i64 120],by simp [results,results5,go_sem,cz,dz],.inr ⟨NF.out,rfl⟩,(GX.out.gw.setCell (by show w.heap.size<=br;exact BB.out.1) _).setCell (by show w.heap.size<=be;exact BB.out.2) _⟩
 ·subst e0
  have nb:∀ q,F q->q≠br/\q≠be:=fun q hq=>by
   have:=hF' q hq
   have:=SZA.out
   omega
  have RES:Hid (LoadOut HR w (((wA.setCell ⟨br,0,none⟩ (.pointer (some ⟨pp,0,none⟩))).setCell ⟨br,0,none⟩ (.pointer (some ⟨pp,0,none⟩))).setCell ⟨be,0,none⟩ (.int .i64 0)) (.returned (.tuple #[.pointer (some ⟨pp,0,none⟩),.int .i64 0])) f m):=by
   have hT2:HT HR (((wA.setCell ⟨br,0,none⟩ (.pointer (some ⟨pp,0,none⟩))).setCell ⟨br,0,none⟩ (.pointer (some ⟨pp,0,none⟩))).setCell ⟨be,0,none⟩ (.int .i64 0)) pp F eps buf keys (entF g) (upR rs) 0 0 nl:=hT.keep HH.out.kp fun q hq=>by
    have nq:q≠br/\q≠be:=by
     rcases hq with x | ⟨r,hr,x⟩
     ·exact nb q x
     ·exact RSW.out r (upR_mem hr) q x
    rw [Go.Deep.blk_setCell_other _ _ _ _ nq.2,Go.Deep.blk_setCell_other _ _ _ _ nq.1,Go.Deep.blk_setCell_other _ _ _ _ nq.1]
   have ft:FitT f m:=⟨LAY.out,nl,by rw [HE.out.1,HE.out.2.1,HE.out.2.2,HG.out.1];exact OE.out.al AL.out.1⟩
   refine .inl ⟨ft,pp,F,rs,nl,rfl,?_,?_,?_⟩
   ·rw [HE.out.1,HE.out.2.1,HE.out.2.2,HG.out.1];exact hT2
   ·rw [HG.out.1];exact AL.out.1
   ·rw [HG.out.1];exact AL.out.2
  have GF:Hid (Gw w (((wA.setCell ⟨br,0,none⟩ (.pointer (some ⟨pp,0,none⟩))).setCell ⟨br,0,none⟩ (.pointer (some ⟨pp,0,none⟩))).setCell ⟨be,0,none⟩ (.int .i64 0))):=((XA.out.gw.setCell (by show w.heap.size<=br;exact BB.out.1) _).setCell (by show w.heap.size<=br;exact BB.out.1) _).setCell (by show w.heap.size<=be;exact BB.out.2) _
  have ec:=XA.out.ex.cell;have ef:=XA.out.ex.fz;have el:=XA.out.ex.lt;have ne':¬ be=br:=fun e=>ne e.symm
  have c5:=(Box.other ((XA.out.rx.set (.pointer (some ⟨pp,0,none⟩))).set (.pointer (some ⟨pp,0,none⟩))) ⟨be,0,none⟩ (.int .i64 0) ne).cell;have d5:=(Box.set (Box.other (Box.other XA.out.ex ⟨br,0,none⟩ (.pointer (some ⟨pp,0,none⟩)) ne') ⟨br,0,none⟩ (.pointer (some ⟨pp,0,none⟩)) ne') (.int .i64 0)).cell;clear hT hF' nb;go_wp2_with fail;refine (sneed_ok _).mono ?_;rintro e wa ⟨rfl,hw⟩;subst hw;go_wp2_with fail;refine leaves_cons (f:=11) (args:=#[.pointer (some ⟨br,0,none⟩),.pointer (some ⟨be,0,none⟩)]) (by simp) (by simp [go_sem]) ?_
  refine (idle20 br be _).mono ?_;rintro e u' wz ⟨rfl,rfl,rfl⟩;exact ⟨.tuple #[.pointer (some ⟨pp,0,none⟩),.int .i64 0],by simp [results,results5,go_sem,c5,d5],RES.out,GF.out⟩
end Go.Proofs.YtpoohadckhphpaaGreat
