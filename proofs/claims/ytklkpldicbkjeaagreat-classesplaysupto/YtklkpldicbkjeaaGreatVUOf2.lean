/- Package classes: Of. -/
import Derived.Test.YtklkpldicbkjeaaGreatVUTk
set_option linter.unusedVariables false
set_option maxHeartbeats 8000000
set_option maxRecDepth 20000
open Go.Proofs.Tryz
namespace Go.Proofs.YtklkpldicbkjeaaGreat
open Go.RowKit
def aT (l:List (Option Rn)):List (Option Rn):=l.take 40++List.replicate (40-l.length) none
theorem Qz (l:List (Option Rn)):(aT l).length=40:=by unfold aT;simp;omega
theorem abS {l:List (Option Rn)} {r:Rn} (h:some r∈aT l):some r∈l:=by
 unfold aT at h;rcases List.mem_append.1 h with q | q
 ·exact List.mem_of_mem_take q
 ·simp at q
def fitAll (eps buf:Int) (rs:List (Option Rn)) (n:Nat):Prop:=∀ j,j<n->jh eps buf j (rs.drop (j+1)) (rs.getD j none)=true
def kG (eps buf:Int) (l:List (Option Rn)) (E:Int):Prop :=
 (E=1/\(¬ dM eps buf\/∃ r,some r∈l.drop 40))\/(E=150/\(dM eps buf/\¬ ∃ r,some r∈l.drop 40)/\¬ fitAll eps buf (aT l) 40)\/(E=0/\(dM eps buf/\¬ ∃ r,some r∈l.drop 40)/\fitAll eps buf (aT l) 40)
theorem kG.one {eps buf:Int} {l:List (Option Rn)} {E E':Int} (h:kG eps buf l E) (h':kG eps buf l E'):E=E':=by
 rcases h with ⟨e,a⟩ | ⟨e,⟨a,b⟩,c⟩ | ⟨e,⟨a,b⟩,c⟩<;>rcases h' with ⟨e',a'⟩ | ⟨e',⟨a',b'⟩,c'⟩ | ⟨e',⟨a',b'⟩,c'⟩<;>try rw [e,e']
 ·rcases a with a | a
  ·exact absurd a' a
  ·exact absurd a b'
 ·rcases a with a | a
  ·exact absurd a' a
  ·exact absurd a b'
 ·rcases a' with a' | a'
  ·exact absurd a a'
  ·exact absurd a' b
 ·exact absurd c' c
 ·rcases a' with a' | a'
  ·exact absurd a a'
  ·exact absurd a' b
 ·exact absurd c c'
def kH (HC:World->Nat->List (Option Rn)->Prop) (w w':World) (e:Ending) (eps buf:Int) (l:List (Option Rn)):Prop :=
 ∃ E,kG eps buf l E/\((E≠0/\e=.returned (.tuple #[.pointer none,.int .i64 E]))\/(E=0/\∃ p,e=.returned (.tuple #[.pointer (some ⟨p,0,none⟩),.int .i64 0])/\w.heap.size<=p/\HC w' p (aT l)))
theorem abT {HR:aV} (H:cV HR) {w w1:World} {p:Nat} {eps buf:Int} (g:Gw w w1) (hp:w.heap.size<=p) (h:au HR w1 p (List.replicate 40 none) eps buf 0 0) (ao:Option Addr) (c:Nat) (l:List (Option Rn)) (hl:PR HR w ao l) :
  ∃ W1 m,(∀ ty,(Builtin.copy_ #[50,50] ty #[.slice (some ⟨p,2,none⟩) 40 40,.slice ao l.length c]).run prog w1=.ok (goInt m) W1)/\au HR W1 p (aT l) eps buf 0 0/\Gw w W1:=by
 obtain ⟨ii,aM,_,bZ,_⟩:=info_parts Ek;have hs:(prog.info? 57).map (·.size)=some 1:=by rw [aM];exact congrArg some bZ
 have l1:=hl.gw H.kp g;rcases Nat.eq_zero_or_pos l.length with z | z
 ·have e:l=[]:=List.length_eq_zero_iff.1 z
  subst e;exact ⟨w1,0,fun ty=>run_copy_none w1 50 50 ty 57 _ _ _ _ _ _ underlying50 hs (by simp),h,g⟩
 ·obtain ⟨b,off,rfl,hb,hc⟩:=l1.cells z
  refine ⟨w1.setCells p 2 ((l.take 40).map ptr),((l.take 40).map ptr).length,fun ty=>run_copy_cells w1 50 50 ty 57 p 2 40 40 ⟨b,off,none⟩ l.length c ((l.take 40).map ptr) underlying50 hs ?_ ?_ ?_ ?_ (zT _),?_,?_⟩
  ·rw [List.length_map,List.length_take];exact Nat.min_comm _ _
  ·intro j u hu
   have hj:j<(l.take 40).length:=by
    have:=(List.getElem?_eq_some_iff.1 hu).1
    simpa using this
   have uO:j<l.length:=by rw [List.length_take] at hj;omega
   rw [Addr.add_lit,hc j uO,dL uO];rw [List.getElem?_map,List.getElem?_eq_getElem hj,List.getElem_take] at hu;exact hu
  ·intro j hj
   have uO:j<40:=by rw [List.length_map,List.length_take] at hj;omega
   rw [h.cell uO];rfl
  ·intro j _
   exact dR h.blk
  ·have gx:Gx (fun q=>q=p) w1 (w1.setCells p 2 ((l.take 40).map ptr)):=vZ _ _ _
   have hb:=Es (l.take 40) 0 (List.replicate 40 none) w1 (by simp;omega) h.blk
   have e:(List.replicate 40 (none:Option Rn)).take 0++l.take 40++(List.replicate 40 none).drop (0+(l.take 40).length)=aT l:=by
    unfold aT;rw [List.take_zero,List.nil_append,List.drop_replicate,List.length_take,Nat.zero_add,show 40-min 40 l.length=40-l.length by omega]
   rw [e] at hb;refine ⟨hb,Qz l,fun r hr=>?_,h.e0,h.e1,h.b0,h.b1⟩
   have r0:=hl.runs r (abS hr);have np:¬ r.S p:=fun x=>by have:=H.lt r0.h p x;omega
   exact ⟨(r0.gw H.kp g).gx H.kp gx (fun q hq=>by rw [hq];exact np),np⟩
  ·exact Gx.gw g (vZ _ _ _) (fun q hq=>by rw [hq];exact hp)
theorem abU {HR:aV} (H:cV HR) (eps buf:Int) (ao:Option Addr) (c:Nat) (l:List (Option Rn)) (hn:l.length<=2000000) (hc:l.length<=c) (hz:ao=none->l.length=0/\c=0) (w:World) (h:PR HR w ao l) :
  Calls prog 17 #[.int .i64 eps,.int .i64 buf,.slice ao l.length c] w fun e w'=>kH (fun w' p rs=>au HR w' p rs eps buf 0 0) w w' e eps buf l/\Gw w w':=by
 have HP:ag _:=h;have HH:ag _:=H;have NW:ag (Calls prog 6 #[.int .i64 eps,.int .i64 buf] w fun e w'=>((¬ dM eps buf/\e=.returned (.tuple #[.pointer none,.int .i64 1]))\/(dM eps buf/\∃ p,e=.returned (.tuple #[.pointer (some ⟨p,0,none⟩),.int .i64 0])/\w.heap.size<=p/\au HR w' p (List.replicate 40 none) eps buf 0 0))/\Gw w w'):=zS eps buf w
 obtain ⟨n,aA⟩:∃ n,l.length=n:=⟨_,rfl⟩;have LN:ag _:=aA;have HZ:ag (ao=none->n=0/\c=0):=by rw [<-aA];exact hz
 rw [aA] at hn hc ⊢;have CT:ag (∀ (W:World) (bo:Option Addr) (cc m:Nat),Gw w W->m=n-40->(0<m->∃ b off,ao=some ⟨b,off,none⟩/\bo=some ⟨b,off+40,none⟩)->Calls prog 43 #[.slice bo m cc,.func (.func 44) #[] #[]] W fun e w'=>(∃ x:Bool,e=.returned (.bool x)/\(x=true↔∃ r,some r∈l.drop 40))/\w'=W):=fun W bo cc m gg hm hb=>by
  have pr:PR HR W bo (l.drop 40):=by
   refine ⟨fun h0=>?_,fun r hr=>((HP.o.gw H.kp gg).runs r (List.mem_of_mem_drop hr))⟩
   rw [List.length_drop,aA] at h0;obtain ⟨b,off,e1,e2⟩:=hb (by omega)
   obtain ⟨b',sU,e3,ak,gI⟩:=(HP.o.gw H.kp gg).cells (by omega)
   rw [e1] at e3;cases e3;refine ⟨b,off+40,e2,ak,fun i hi=>?_⟩
   rw [List.length_drop] at hi;rw [show off+40+i=off+(40+i) by omega,gI (40+i) (by omega),dL (by omega),dL (by rw [List.length_drop];omega),List.getElem_drop]
  have:=abC bo cc (l.drop 40) (by rw [List.length_drop];omega) W pr
  rw [show (l.drop 40).length=m by rw [List.length_drop,aA,hm]] at this
  exact this
 clear h H aA hz;go_enter func17,ntmps17;go_wp2_with fail;refine Calls.mono NW.o ?_;rintro e w1 ⟨x,g1⟩;have G1:ag _:=g1;rcases x with ⟨xm,rfl⟩ | ⟨xm,p,rfl,hp,mL⟩
 ·have aK:ag (kH (fun w' p rs=>au HR w' p rs eps buf 0 0) w w1 (.returned (.tuple #[.pointer none,.int .i64 1])) eps buf l):=⟨1,.inl ⟨rfl,.inl xm⟩,.inl ⟨by decide,rfl⟩⟩
  clear xm g1 NW CT;go_wp2_with fail;go_ret2;exact ⟨aK.o,G1.o⟩
 ·have xr:ag (dM eps buf):=xm
  have HC:ag (au HR w1 p (List.replicate 40 none) eps buf 0 0/\w.heap.size<=p):=⟨mL,hp⟩;have pl:=mL.lt;clear xm hp mL g1 NW;obtain ⟨M,hM⟩:∃ M,min n 40=M:=⟨_,rfl⟩;have MM:ag _:=hM;have mn:min (n:Int) 40=(M:Int):=by omega
  have mn1:(M:Int)<=(n:Int):=by omega
  have mn2:(M:Int)<=(c:Int):=by omega
  clear hM;by_cases cM:c=M;have HB:ag (0<n-M->∃ b off,ao=some ⟨b,off,none⟩/\ao=some ⟨b,off+40,none⟩):=fun z=>by omega
  subst cM;go_wp2_with fail;refine Calls.mono (CT.o w1 _ _ _ G1.o (by have:=MM.o;omega) (fun z=>by first | exact HB.o z | omega)) ?_
  rotate_left
  have HB:ag (0<n-M->∃ b off,ao=some ⟨b,off,none⟩/\Option.map (fun x=>x.add M) ao=some ⟨b,off+40,none⟩):=fun z=>by
   obtain ⟨b,off,e,_⟩:=HP.o.cells (by rw [LN.o];omega)
   refine ⟨b,off,e,?_⟩;have e40:M=40:=by have:=MM.o;omega
   rw [e,e40];simp [Addr.add_lit]
  go_wp2_with fail;refine Calls.mono (CT.o w1 _ _ _ G1.o (by have:=MM.o;omega) HB.o) ?_
  rotate_left
  all_goals
   rintro e w2 ⟨⟨x,rfl,hx⟩,hw⟩;have cR:w1=w2:=hw.symm;subst cR;have HX:ag _:=hx;clear hx hw CT HB;cases x with
   | true =>
    have aK:ag (kH (fun w' p rs=>au HR w' p rs eps buf 0 0) w w1 (.returned (.tuple #[.pointer none,.int .i64 1])) eps buf l):=⟨1,.inl ⟨rfl,.inr (HX.o.1 rfl)⟩,.inl ⟨by decide,rfl⟩⟩
    clear HX;go_wp2_with fail;go_ret2;exact ⟨aK.o,G1.o⟩
   | false =>
    have NX:ag (¬ ∃ r,some r∈l.drop 40):=fun q=>by have:=HX.o.2 q;cases this
    obtain ⟨W1,m,cZ,mL,gW⟩:=abT HH.o G1.o HC.o.2 HC.o.1 ao c l HP.o;rw [LN.o] at cZ;have fL:ag _:=mL;have gM:ag _:=gW;have PW:ag _:=HC.o.2;have hpW:=mL.lt;clear mL gW HC HX;go_wp2_with fail;go_loopg [33] 40 (fun gg s33 wr=>∃ i:Nat,s33=.int .i64 (i:Int)/\i<=40/\40-i<=gg/\ag (Gw W1 wr)/\ag (fitAll eps buf (aT l) i))
    case atStart=>exact ⟨0,rfl,Nat.zero_le _,by omega,(show ag _ from Gw.refl W1),(show ag _ from fun j hj=>by omega)⟩
    case round =>
     obtain ⟨i,rfl,a1,a2,G,N⟩:=hrel;obtain ⟨wS,aZ⟩:∃ wx,wx=wr:=⟨_,rfl⟩;subst aZ;by_cases ak:i<40
     ·have dG:(i:Int)<40:=by omega
      have FT:ag _:=abE HH.o (fL.o.gw HH.o.kp G.o) i ak;obtain ⟨fb,Fm⟩:∃ fb,jh eps buf i ((aT l).drop (i+1)) ((aT l).getD i none)=fb:=⟨_,rfl⟩;have FB:ag _:=Fm;rw [Fm] at FT;clear Fm cZ;go_wp2_with fail;refine Calls.mono FT.o ?_;rintro e u1 ⟨rfl,gg⟩;have G2:ag _:=G.o.trans gg;clear gg FT;cases fb with
      | true =>
       have N':ag (fitAll eps buf (aT l) (i+1)):=fun j hj=>by
        by_cases x:j=i
        ·subst x;exact FB.o
        ·exact N.o j (by omega)
       clear N FB;go_wp2_with fail;go_roundg (40-(i+1))
       case measure=>omega
       case rel=>exact ⟨i+1,by go_num,by omega,Nat.le_refl _,G2,N'⟩
      | false =>
       have aK:ag (kH (fun w' p rs=>au HR w' p rs eps buf 0 0) w u1 (.returned (.tuple #[.pointer none,.int .i64 150])) eps buf l):=⟨150,.inr (.inl ⟨rfl,⟨xr.o,NX.o⟩,fun q=>by have:=q i ak;rw [FB.o] at this;cases this⟩),.inl ⟨by decide,rfl⟩⟩
       clear N FB;go_wp2_with fail;go_ret2;exact ⟨aK.o,gM.o.trans G2.o⟩
     ·have ei:i=40:=by omega
      subst ei;have aK:ag (kH (fun w' p rs=>au HR w' p rs eps buf 0 0) w wS (.returned (.tuple #[.pointer (some ⟨p,0,none⟩),.int .i64 0])) eps buf l):=⟨0,.inr (.inr ⟨rfl,⟨xr.o,NX.o⟩,N.o⟩),.inr ⟨rfl,p,rfl,PW.o,fL.o.gw HH.o.kp G.o⟩⟩
      clear N cZ;go_wp2_with fail;go_ret2;exact ⟨aK.o,gM.o.trans G.o⟩
section
variable {eps buf:Int} {rs:List (Option Rn)} {t:Nat}
theorem abV {HR:aV} {w w':World} {l o kept:List ah} (tr:jK rs l o kept) {rn:Option Rn} (ld:mI HR w w' eps kept rn):tot (laid rs rn)<=tot rs+l.length:=by
 have a:=zK rs (freeC rs+1);have b:=tr.few.1;unfold took at b;have c:tot (laid rs rn)=tot (rn::rs.drop (freeC rs+1)):=by
  unfold laid;rw [DY];have:∀ n,tot (List.replicate n (none:Option Rn))=0:=fun n=>by
   induction n with
   | zero=>rfl
   | succ n ih=>rw [List.replicate_succ,DX];exact ih
  rw [this,Nat.zero_add]
 rw [c];rcases ld with ⟨_,e⟩ | ⟨_,r',e,_,e2,_⟩
 ·rw [e,DX];omega
 ·rw [e,nY,e2];omega
theorem QA {k:Nat} (rK:rs.length=40) (tp:dq rs k):aT (rs.take k)=rs:=by
 have OQ:k<=40:=by have:=tp.le;omega
 refine List.ext_getElem (by rw [Qz,rK]) fun i h1 h2=>?_
 have e:(aT (rs.take k)).getD i none=rs.getD i none:=by
  unfold aT;rw [List.take_of_length_le (by simp;omega),List.getD_eq_getElem?_getD]
  by_cases a:i<k
  ·rw [List.getElem?_append_left (by simp;omega),List.getElem?_take,if_pos a,<-List.getD_eq_getElem?_getD]
  ·rw [tp.no i (by omega),List.getElem?_append_right (by simp;omega),List.getElem?_replicate]
   split<;>rfl
 rwa [dL h1,dL h2] at e
end
def sig (r:Rn):Int×List ah×List (List Sg):=(r.eps,r.l,r.L)
def Al (rs aI:List (Option Rn)):Prop:=rs.map (Option.map sig)=aI.map (Option.map sig)
section
variable {rs aI:List (Option Rn)}
theorem Al.len (h:Al rs aI):rs.length=aI.length:=by
 have:=congrArg List.length h
 simpa using this
theorem Al.get (h:Al rs aI) (i:Nat):(rs.getD i none).map sig=(aI.getD i none).map sig:=by
 have:=congrArg (fun x=>(x[i]?).getD none) h
 simp only [List.getElem?_map] at this;rw [List.getD_eq_getElem?_getD,List.getD_eq_getElem?_getD];cases h1:rs[i]?<;>cases h2:aI[i]?<;>rw [h1,h2] at this<;>simpa using this
theorem Al.no (h:Al rs aI) {i:Nat} (e:rs.getD i none=none):aI.getD i none=none:=by
 have:=h.get i
 rw [e] at this;cases y:aI.getD i none with
 | none=>rfl
 | some r=>rw [y] at this;cases this
theorem Al.is (h:Al rs aI) {i:Nat} {r:Rn} (e:rs.getD i none=some r):∃ r',aI.getD i none=some r'/\r'.eps=r.eps/\r'.l=r.l/\r'.L=r.L:=by
 have:=h.get i
 rw [e] at this;cases y:aI.getD i none with
 | none=>rw [y] at this;cases this
 | some r' =>
  rw [y] at this;simp only [Option.map_some,Option.some.injEq,sig,Prod.mk.injEq] at this;exact ⟨r',rfl,this.1.symm,this.2.1.symm,this.2.2.symm⟩
theorem Al.symm (h:Al rs aI):Al aI rs:=Eq.symm h
theorem Al.take (h:Al rs aI) (j:Nat):Al (rs.take j) (aI.take j):=by
 unfold Al at h ⊢;rw [List.map_take,List.map_take,h]
theorem Al.drop (h:Al rs aI) (j:Nat):Al (rs.drop j) (aI.drop j):=by
 unfold Al at h ⊢;rw [List.map_drop,List.map_drop,h]
theorem QB (rs:List (Option Rn)):lists rs=(rs.map (Option.map sig)).filterMap (Option.map fun x=>x.2.1):=by
 unfold lists;rw [List.filterMap_map];congr 1;funext o;cases o<;>rfl
theorem Al.lists (h:Al rs aI):Go.Proofs.YtklkpldicbkjeaaGreat.lists rs=Go.Proofs.YtklkpldicbkjeaaGreat.lists aI:=by rw [QB,QB,h]
theorem Al.tot (h:Al rs aI):Go.Proofs.YtklkpldicbkjeaaGreat.tot rs=Go.Proofs.YtklkpldicbkjeaaGreat.tot aI:=by unfold Go.Proofs.YtklkpldicbkjeaaGreat.tot;rw [h.lists]
theorem Al.nw (h:Al rs aI) (q:Int):Go.Proofs.YtklkpldicbkjeaaGreat.nw q rs=Go.Proofs.YtklkpldicbkjeaaGreat.nw q aI:=by unfold Go.Proofs.YtklkpldicbkjeaaGreat.nw;rw [h.lists]
theorem Al.live (h:Al rs aI):bX rs=bX aI:=by
 funext q
 unfold bX;rw [h.nw]
theorem Al.free (h:Al rs aI):Go.Proofs.YtklkpldicbkjeaaGreat.free rs=Go.Proofs.YtklkpldicbkjeaaGreat.free aI:=by
 induction rs generalizing aI with
 | nil =>
  cases aI with
  | nil=>rfl
  | cons o aI=>cases h
 | cons o rs ih =>
  cases aI with
  | nil=>cases h
  | cons o' aI =>
   unfold Al at h;rw [List.map_cons,List.map_cons] at h;injection h with h1 h2;cases o<;>cases o'<;>simp at h1
   ·rfl
   ·simp only [Go.Proofs.YtklkpldicbkjeaaGreat.free];rw [ih h2]
theorem Al.freeC (h:Al rs aI):Go.Proofs.YtklkpldicbkjeaaGreat.freeC rs=Go.Proofs.YtklkpldicbkjeaaGreat.freeC aI:=by unfold Go.Proofs.YtklkpldicbkjeaaGreat.freeC;rw [h.free]
theorem Al.takeR (h:Al rs aI) {l o kept:List ah} (t:jK rs l o kept):jK aI l o kept:=by
 refine ⟨?_,?_⟩
 ·have:=t.mg
  rw [h.freeC,(h.take _).lists] at this;exact this
 ·have:=t.kp
  rw [h.freeC,(h.drop _).live] at this;exact this
theorem Al.took (h:Al rs aI) (l:List ah):Go.Proofs.YtklkpldicbkjeaaGreat.took rs l=Go.Proofs.YtklkpldicbkjeaaGreat.took aI l:=by
 unfold Go.Proofs.YtklkpldicbkjeaaGreat.took;rw [h.freeC,(h.take _).tot]
theorem Al.laid (h:Al rs aI) {rn rM:Option Rn} (e:rn.map sig=rM.map sig):Al (Go.Proofs.YtklkpldicbkjeaaGreat.laid rs rn) (Go.Proofs.YtklkpldicbkjeaaGreat.laid aI rM):=by
 unfold Go.Proofs.YtklkpldicbkjeaaGreat.laid;rw [h.freeC];have:=h.drop (Go.Proofs.YtklkpldicbkjeaaGreat.freeC aI+1);unfold Al at this ⊢;rw [List.map_append,List.map_append,List.map_cons,List.map_cons,e,this]
theorem Al.top (h:Al rs aI) {t:Nat} (a:dq rs t):dq aI t:=by
 refine ⟨by rw [<-h.len];exact a.le,fun i hi=>h.no (a.no i hi),?_⟩
 rcases a.is with x | ⟨r,x⟩
 ·exact .inl x
 ·obtain ⟨r',e,_⟩:=h.is x
  exact .inr ⟨r',e⟩
theorem Al.size (h:Al rs aI) (i:Nat):eM (rs.getD i none)=eM (aI.getD i none):=by
 have:=h.get i
 cases h1:rs.getD i none<;>cases h2:aI.getD i none<;>rw [h1,h2] at this<;>simp [sig] at this
 show List.length _=List.length _;rw [this.2.1]
theorem Al.fit (h:Al rs aI) (eps buf:Int) (j:Nat):jh eps buf j (rs.drop (j+1)) (rs.getD j none)=jh eps buf j (aI.drop (j+1)) (aI.getD j none):=by
 have:=h.get j
 have lv:=(h.drop (j+1)).live;cases h1:rs.getD j none<;>cases h2:aI.getD j none<;>rw [h1,h2] at this<;>simp [sig] at this
 ·rfl
 ·simp only [jh,this.1,this.2.1,lv]
theorem Al.up (h:Al rs aI):Al (aT rs) (aT aI):=by
 unfold aT;have:=h.take 40;unfold Al at this ⊢;rw [List.map_append,List.map_append,this,h.len]
theorem Al.far (h:Al rs aI):(∃ r,some r∈rs.drop 40)->∃ r,some r∈aI.drop 40:=fun ⟨r,hr⟩=>by
 obtain ⟨i,hi,e⟩:=List.mem_iff_getElem.1 hr;obtain ⟨r',e',_⟩:=(h.drop 40).is (i:=i) (r:=r) (by rw [dL hi,e])
 exact ⟨r',jN (by rw [<-(h.drop 40).len];exact hi) e'⟩
theorem Al.of (h:Al rs aI) {eps buf E:Int} (o:kG eps buf rs E):kG eps buf aI E:=by
 have fa:fitAll eps buf (aT rs) 40↔fitAll eps buf (aT aI) 40:=⟨fun f j hj=>by rw [<-h.up.fit];exact f j hj,fun f j hj=>by rw [h.up.fit];exact f j hj⟩
 rcases o with ⟨e,a⟩ | ⟨e,⟨a,b⟩,c⟩ | ⟨e,⟨a,b⟩,c⟩
 ·refine .inl ⟨e,?_⟩
  rcases a with a | a
  ·exact .inl a
  ·exact .inr (h.far a)
 ·exact .inr (.inl ⟨e,⟨a,fun x=>b (h.symm.far x)⟩,fun x=>c (fa.2 x)⟩)
 ·exact .inr (.inr ⟨e,⟨a,fun x=>b (h.symm.far x)⟩,fa.1 c⟩)
end
theorem mI.al {HR Fo:aV} {w w' v v':World} {eps:Int} {kept:List ah} {rn rM:Option Rn} (h:mI HR w w' eps kept rn) (h':mI Fo v v' eps kept rM):rn.map sig=rM.map sig:=by
 rcases h with ⟨a,b⟩ | ⟨a,r,b1,b2,b3,b4,_⟩<;>rcases h' with ⟨a',b'⟩ | ⟨a',r',c1,c2,c3,c4,_⟩
 ·rw [b,b']
 ·exact absurd a a'
 ·exact absurd a' a
 ·rw [b1,c1]
  simp only [Option.map_some,sig];rw [b2,c2,b3,c3,b4.one c4]
end Go.Proofs.YtklkpldicbkjeaaGreat
