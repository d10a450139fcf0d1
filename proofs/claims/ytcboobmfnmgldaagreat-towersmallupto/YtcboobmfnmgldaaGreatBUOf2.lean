/- Package classes: Of. -/
import Derived.Lib.MinMax
import Derived.Test.YtcboobmfnmgldaaGreatBUClone
set_option linter.unusedVariables false
set_option maxHeartbeats 8000000
set_option maxRecDepth 20000
open Go.Proofs.Tryz
namespace Go.Proofs.YtcboobmfnmgldaaGreat
open Go.RowKit
def aH (l:List (Option Rn)):List (Option Rn):=l.take 40++List.replicate (40-l.length) none
theorem AJ (l:List (Option Rn)):(aH l).length=40:=by unfold aH;simp;omega
variable {r:Rn}
theorem abT {l:List (Option Rn)} (h:some r∈aH l):some r∈l:=by
 unfold aH at h;rcases List.mem_append.1 h with q | q
 ·exact List.mem_of_mem_take q
 ·simp at q
def fitAll (eps buf:Int) (rs:List (Option Rn)) (n:Nat):Prop:=∀ j,j<n->iX eps buf j (rs.drop (j+1)) (rs.getD j none)=true
def lI (eps buf:Int) (l:List (Option Rn)) (E:Int):Prop :=
 (E=1/\(¬ eK eps buf\/∃ r,some r∈l.drop 40))\/(E=150/\(eK eps buf/\¬ ∃ r,some r∈l.drop 40)/\¬ fitAll eps buf (aH l) 40)\/(E=0/\(eK eps buf/\¬ ∃ r,some r∈l.drop 40)/\fitAll eps buf (aH l) 40)
variable {eps buf:Int}
theorem lI.one {l:List (Option Rn)} {E E':Int} (h:lI eps buf l E) (h':lI eps buf l E'):E=E':=by
 rcases h with ⟨e,a⟩ | ⟨e,⟨a,b⟩,c⟩ | ⟨e,⟨a,b⟩,c⟩<;>rcases h' with ⟨e',a'⟩ | ⟨e',⟨a',b'⟩,c'⟩ | ⟨e',⟨a',b'⟩,c'⟩<;>try rw [e,e']
 ·rcases a with a | a
  ·exact absurd a' a
  ·exact absurd a b'
 ·rcases a with a | a
  ·exact absurd a' a
  ·exact absurd a b'
 ·rcases a' with a' | a'
  ·exact absurd a a'
  ·exact absurd a' b
 ·exact absurd c' c
 ·rcases a' with a' | a'
  ·exact absurd a a'
  ·exact absurd a' b
 ·exact absurd c c'
def lJ (HC:World->Nat->List (Option Rn)->Prop) (w w':World) (e:Ending) (eps buf:Int) (l:List (Option Rn)):Prop :=
 ∃ E,lI eps buf l E/\((E≠0/\e=.returned (.tuple #[.pointer none,AI E]))\/(E=0/\∃ p,e=.returned (.tuple #[BY p,AI 0])/\w.heap.size<=p/\HC w' p (aH l)))
variable {HR:bQ} {w:World} {p:Nat}
theorem abU (H:bJ HR) {w1:World} (g:Gw w w1) (hp:w.heap.size<=p) (h:aP HR w1 p (List.replicate 40 none) eps buf 0 0) (ao:Option Addr) (c:Nat) (l:List (Option Rn)) (hl:PR HR w ao l) :
  ∃ W1 m,(∀ ty,(Builtin.copy_ #[37,37] ty #[.slice (some ⟨p,2,none⟩) 40 40,.slice ao l.length c]).run prog w1=.ok (goInt m) W1)/\aP HR W1 p (aH l) eps buf 0 0/\Gw w W1:=by
 obtain ⟨ii,aQ,_,cU,_⟩:=info_parts Am;have hs:(prog.info? 39).map (·.size)=some 1:=by rw [aQ];exact congrArg some cU
 have l1:=hl.gw H.kp g;rcases Nat.eq_zero_or_pos l.length with z | z
 ·have e:l=[]:=List.length_eq_zero_iff.1 z
  subst e;exact ⟨w1,0,fun ty=>run_copy_none w1 37 37 ty 39 _ _ _ _ _ _ underlying37 hs (by simp),h,g⟩
 ·obtain ⟨b,off,rfl,hb,hc⟩:=l1.cells z
  refine ⟨w1.setCells p 2 ((l.take 40).map ptr),((l.take 40).map ptr).length,fun ty=>run_copy_cells w1 37 37 ty 39 p 2 40 40 ⟨b,off,none⟩ l.length c ((l.take 40).map ptr) underlying37 hs ?_ ?_ ?_ ?_ (O2 _),?_,?_⟩
  ·rw [List.length_map,List.length_take];exact Nat.min_comm _ _
  ·intro j u hu
   have hj:j<(l.take 40).length:=by
    have:=(List.getElem?_eq_some_iff.1 hu).1
    simpa using this
   have vr:j<l.length:=by rw [List.length_take] at hj;omega
   rw [Addr.add_lit,hc j vr,fs vr];rw [List.getElem?_map,List.getElem?_eq_getElem hj,List.getElem_take] at hu;exact hu
  ·intro j hj
   have vr:j<40:=by rw [List.length_map,List.length_take] at hj;omega
   rw [h.cell vr];rfl
  ·intro j _
   exact bT h.blk
  ·have gx:Gx (fun q=>q=p) w1 (w1.setCells p 2 ((l.take 40).map ptr)):=wF _ _ _
   have hb:=Fg (l.take 40) 0 (List.replicate 40 none) w1 (by simp;omega) h.blk
   have e:(List.replicate 40 (none:Option Rn)).take 0++l.take 40++(List.replicate 40 none).drop (0+(l.take 40).length)=aH l:=by
    unfold aH;rw [List.take_zero,List.nil_append,List.drop_replicate,List.length_take,Nat.zero_add,show 40-min 40 l.length=40-l.length by omega]
   rw [e] at hb;refine ⟨hb,AJ l,fun r hr=>?_,h.e0,h.e1,h.b0,h.b1⟩
   have r0:=hl.runs r (abT hr);have np:¬ r.S p:=fun x=>by have:=H.lt r0.h p x;omega
   exact ⟨(r0.gw H.kp g).gx H.kp gx (fun q hq=>by rw [hq];exact np),np⟩
  ·exact Gx.gw g (wF _ _ _) (fun q hq=>by rw [hq];exact hp)
theorem abV (H:bJ HR) (eps buf:Int) (ao:Option Addr) (c:Nat) (l:List (Option Rn)) (hn:l.length<=2000000) (hc:l.length<=c) (hz:ao=none->l.length=0/\c=0) (w:World) (h:PR HR w ao l) :
  Calls prog 34 #[AI eps,AI buf,.slice ao l.length c] w fun e w'=>lJ (fun w' p rs=>aP HR w' p rs eps buf 0 0) w w' e eps buf l/\Gw w w':=by
 have HP:ag _:=h;have HH:ag _:=H;have NW:ag (Calls prog 64 #[AI eps,AI buf] w fun e w'=>((¬ eK eps buf/\e=.returned (.tuple #[.pointer none,AI 1]))\/(eK eps buf/\∃ p,e=.returned (.tuple #[BY p,AI 0])/\w.heap.size<=p/\aP HR w' p (List.replicate 40 none) eps buf 0 0))/\Gw w w'):=abg eps buf w
 obtain ⟨n,au⟩:∃ n,l.length=n:=⟨_,rfl⟩;have LN:ag _:=au;have HZ:ag (ao=none->n=0/\c=0):=by rw [<-au];exact hz
 rw [au] at hn hc ⊢;have CT:ag (∀ (W:World) (bo:Option Addr) (cc m:Nat),Gw w W->m=n-40->(0<m->∃ b off,ao=some ⟨b,off,none⟩/\bo=some ⟨b,off+40,none⟩)->Calls prog 65 #[.slice bo m cc,.func (.func 66) #[] #[]] W fun e w'=>(∃ x:Bool,e=.returned (.bool x)/\(x=true↔∃ r,some r∈l.drop 40))/\w'=W):=fun W bo cc m gg hm hb=>by
  have pr:PR HR W bo (l.drop 40):=by
   refine ⟨fun h0=>?_,fun r hr=>((HP.o.gw H.kp gg).runs r (List.mem_of_mem_drop hr))⟩
   rw [List.length_drop,au] at h0;obtain ⟨b,off,e1,e2⟩:=hb (by omega)
   obtain ⟨b',tJ,e3,ar,eT⟩:=(HP.o.gw H.kp gg).cells (by omega)
   rw [e1] at e3;cases e3;refine ⟨b,off+40,e2,ar,fun i hi=>?_⟩
   rw [List.length_drop] at hi;rw [show off+40+i=off+(40+i) by omega,eT (40+i) (by omega),fs (by omega),fs (by rw [List.length_drop];omega),List.getElem_drop]
  have:=abQ bo cc (l.drop 40) (by rw [List.length_drop];omega) W pr
  rw [show (l.drop 40).length=m by rw [List.length_drop,au,hm]] at this
  exact this
 clear h H au hz;go_enter func34,ntmps34;go_wp2_with fail;refine Calls.mono NW.o ?_;rintro e w1 ⟨x,g1⟩;have G1:ag _:=g1;rcases x with ⟨rM,rfl⟩ | ⟨rM,p,rfl,hp,mO⟩
 ·have ak:ag (lJ (fun w' p rs=>aP HR w' p rs eps buf 0 0) w w1 (.returned (.tuple #[.pointer none,AI 1])) eps buf l):=⟨1,.inl ⟨rfl,.inl rM⟩,.inl ⟨by decide,rfl⟩⟩
  clear rM g1 NW CT;go_wp2_with fail;go_ret2;exact ⟨ak.o,G1.o⟩
 ·have wX:ag (eK eps buf):=rM
  have HC:ag (aP HR w1 p (List.replicate 40 none) eps buf 0 0/\w.heap.size<=p):=⟨mO,hp⟩;have pl:=mO.lt;clear rM hp mO g1 NW;obtain ⟨M,hM⟩:∃ M,min n 40=M:=⟨_,rfl⟩;have MM:ag _:=hM;have mn:min (n:Int) 40=(M:Int):=by omega
  have mn1:(M:Int)<=(n:Int):=by omega
  have mn2:(M:Int)<=(c:Int):=by omega
  clear hM;by_cases cM:c=M;have HB:ag (0<n-M->∃ b off,ao=some ⟨b,off,none⟩/\ao=some ⟨b,off+40,none⟩):=fun z=>by omega
  subst cM;go_wp2_with fail;refine Calls.mono (CT.o w1 _ _ _ G1.o (by have:=MM.o;omega) (fun z=>by first | exact HB.o z | omega)) ?_
  rotate_left
  have HB:ag (0<n-M->∃ b off,ao=some ⟨b,off,none⟩/\Option.map (fun x=>x.add M) ao=some ⟨b,off+40,none⟩):=fun z=>by
   obtain ⟨b,off,e,_⟩:=HP.o.cells (by rw [LN.o];omega)
   refine ⟨b,off,e,?_⟩;have e40:M=40:=by have:=MM.o;omega
   rw [e,e40];simp [Addr.add_lit]
  go_wp2_with fail;refine Calls.mono (CT.o w1 _ _ _ G1.o (by have:=MM.o;omega) HB.o) ?_
  rotate_left
  all_goals
   rintro e w2 ⟨⟨x,rfl,hx⟩,hw⟩;have dR:w1=w2:=hw.symm;subst dR;have HX:ag _:=hx;clear hx hw CT HB;cases x with
   | true =>
    have ak:ag (lJ (fun w' p rs=>aP HR w' p rs eps buf 0 0) w w1 (.returned (.tuple #[.pointer none,AI 1])) eps buf l):=⟨1,.inl ⟨rfl,.inr (HX.o.1 rfl)⟩,.inl ⟨by decide,rfl⟩⟩
    clear HX;go_wp2_with fail;go_ret2;exact ⟨ak.o,G1.o⟩
   | false =>
    have NX:ag (¬ ∃ r,some r∈l.drop 40):=fun q=>by have:=HX.o.2 q;cases this
    obtain ⟨W1,m,dc,mO,gW⟩:=abU HH.o G1.o HC.o.2 HC.o.1 ao c l HP.o;rw [LN.o] at dc;have iH:ag _:=mO;have ie:ag _:=gW;have PW:ag _:=HC.o.2;have hpW:=mO.lt;clear mO gW HC HX;go_wp2_with fail;go_loopg [33] 40 (fun gg s33 wr=>∃ i:Nat,s33=AI (i:Int)/\i<=40/\40-i<=gg/\ag (Gw W1 wr)/\ag (fitAll eps buf (aH l) i))
    case atStart=>exact ⟨0,rfl,Nat.zero_le _,by omega,(show ag _ from Gw.refl W1),(show ag _ from fun j hj=>by omega)⟩
    case round =>
     obtain ⟨i,rfl,a1,a2,G,N⟩:=hrel;obtain ⟨wS,bj⟩:∃ wx,wx=wr:=⟨_,rfl⟩;subst bj;by_cases ar:i<40
     ·have eZ:(i:Int)<40:=by omega
      have FT:ag _:=abS HH.o (iH.o.gw HH.o.kp G.o) i ar;obtain ⟨fb,Gj⟩:∃ fb,iX eps buf i ((aH l).drop (i+1)) ((aH l).getD i none)=fb:=⟨_,rfl⟩;have FB:ag _:=Gj;rw [Gj] at FT;clear Gj dc;go_wp2_with fail;refine Calls.mono FT.o ?_;rintro e u1 ⟨rfl,gg⟩;have G2:ag _:=G.o.trans gg;clear gg FT;cases fb with
      | true =>
       have N':ag (fitAll eps buf (aH l) (i+1)):=fun j hj=>by
        by_cases x:j=i
        ·subst x;exact FB.o
        ·exact N.o j (by omega)
       clear N FB;go_wp2_with fail;go_roundg (40-(i+1))
       case measure=>omega
       case rel=>exact ⟨i+1,by go_num,by omega,Nat.le_refl _,G2,N'⟩
      | false =>
       have ak:ag (lJ (fun w' p rs=>aP HR w' p rs eps buf 0 0) w u1 (.returned (.tuple #[.pointer none,AI 150])) eps buf l):=⟨150,.inr (.inl ⟨rfl,⟨wX.o,NX.o⟩,fun q=>by have:=q i ar;rw [FB.o] at this;cases this⟩),.inl ⟨by decide,rfl⟩⟩
       clear N FB;go_wp2_with fail;go_ret2;exact ⟨ak.o,ie.o.trans G2.o⟩
     ·have ei:i=40:=by omega
      subst ei;have ak:ag (lJ (fun w' p rs=>aP HR w' p rs eps buf 0 0) w wS (.returned (.tuple #[BY p,AI 0])) eps buf l):=⟨0,.inr (.inr ⟨rfl,⟨wX.o,NX.o⟩,N.o⟩),.inr ⟨rfl,p,rfl,PW.o,iH.o.gw HH.o.kp G.o⟩⟩
      clear N dc;go_wp2_with fail;go_ret2;exact ⟨ak.o,ie.o.trans G.o⟩
def sig (r:Rn):Int×List ah×List (List Sg):=(r.eps,r.l,r.L)
def Al (rs aM:List (Option Rn)):Prop:=rs.map (Option.map sig)=aM.map (Option.map sig)
section
variable {rs aM:List (Option Rn)}
theorem Al.len (h:Al rs aM):rs.length=aM.length:=by
 have:=congrArg List.length h
 simpa using this
theorem Al.get (h:Al rs aM) (i:Nat):(rs.getD i none).map sig=(aM.getD i none).map sig:=by
 have:=congrArg (fun x=>(x[i]?).getD none) h
 simp only [List.getElem?_map] at this;rw [List.getD_eq_getElem?_getD,List.getD_eq_getElem?_getD];cases h1:rs[i]?<;>cases h2:aM[i]?<;>rw [h1,h2] at this<;>simpa using this
variable {i:Nat} {r:Rn}
theorem Al.is (h:Al rs aM) (e:rs.getD i none=some r):∃ r',aM.getD i none=some r'/\r'.eps=r.eps/\r'.l=r.l/\r'.L=r.L:=by
 have:=h.get i
 rw [e] at this;cases y:aM.getD i none with
 | none=>rw [y] at this;cases this
 | some r' =>
  rw [y] at this;simp only [Option.map_some,Option.some.injEq,sig,Prod.mk.injEq] at this;exact ⟨r',rfl,this.1.symm,this.2.1.symm,this.2.2.symm⟩
theorem Al.symm (h:Al rs aM):Al aM rs:=Eq.symm h
theorem Al.take (h:Al rs aM) (j:Nat):Al (rs.take j) (aM.take j):=by
 unfold Al at h ⊢;rw [List.map_take,List.map_take,h]
theorem Al.drop (h:Al rs aM) (j:Nat):Al (rs.drop j) (aM.drop j):=by
 unfold Al at h ⊢;rw [List.map_drop,List.map_drop,h]
theorem QB (rs:List (Option Rn)):lists rs=(rs.map (Option.map sig)).filterMap (Option.map fun x=>x.2.1):=by
 unfold lists;rw [List.filterMap_map];congr 1;funext o;cases o<;>rfl
theorem Al.lists (h:Al rs aM):Go.Proofs.YtcboobmfnmgldaaGreat.lists rs=Go.Proofs.YtcboobmfnmgldaaGreat.lists aM:=by rw [QB,QB,h]
theorem Al.nw (h:Al rs aM) (q:Int):Go.Proofs.YtcboobmfnmgldaaGreat.nw q rs=Go.Proofs.YtcboobmfnmgldaaGreat.nw q aM:=by unfold Go.Proofs.YtcboobmfnmgldaaGreat.nw;rw [h.lists]
theorem Al.live (h:Al rs aM):aI rs=aI aM:=by
 funext q
 unfold aI;rw [h.nw]
theorem Al.fit (h:Al rs aM) (eps buf:Int) (j:Nat):iX eps buf j (rs.drop (j+1)) (rs.getD j none)=iX eps buf j (aM.drop (j+1)) (aM.getD j none):=by
 have:=h.get j
 have lv:=(h.drop (j+1)).live;cases h1:rs.getD j none<;>cases h2:aM.getD j none<;>rw [h1,h2] at this<;>simp [sig] at this
 ·rfl
 ·simp only [iX,this.1,this.2.1,lv]
theorem Al.up (h:Al rs aM):Al (aH rs) (aH aM):=by
 unfold aH;have:=h.take 40;unfold Al at this ⊢;rw [List.map_append,List.map_append,this,h.len]
theorem Al.far (h:Al rs aM):(∃ r,some r∈rs.drop 40)->∃ r,some r∈aM.drop 40:=fun ⟨r,hr⟩=>by
 obtain ⟨i,hi,e⟩:=List.mem_iff_getElem.1 hr;obtain ⟨r',e',_⟩:=(h.drop 40).is (i:=i) (r:=r) (by rw [fs hi,e])
 exact ⟨r',jo (by rw [<-(h.drop 40).len];exact hi) e'⟩
variable {eps buf:Int}
theorem Al.of (h:Al rs aM) {E:Int} (o:lI eps buf rs E):lI eps buf aM E:=by
 have fa:fitAll eps buf (aH rs) 40↔fitAll eps buf (aH aM) 40:=⟨fun f j hj=>by rw [<-h.up.fit];exact f j hj,fun f j hj=>by rw [h.up.fit];exact f j hj⟩
 rcases o with ⟨e,a⟩ | ⟨e,⟨a,b⟩,c⟩ | ⟨e,⟨a,b⟩,c⟩
 ·refine .inl ⟨e,?_⟩
  rcases a with a | a
  ·exact .inl a
  ·exact .inr (h.far a)
 ·exact .inr (.inl ⟨e,⟨a,fun x=>b (h.symm.far x)⟩,fun x=>c (fa.2 x)⟩)
 ·exact .inr (.inr ⟨e,⟨a,fun x=>b (h.symm.far x)⟩,fa.1 c⟩)
end
variable {i:Nat}
theorem QC {L:List (List ah)} (hi:i<L.length):aF (L.take (i+1))=aF (L.take i)+(L.getD i []).length/\aF (L.take (i+1))<=aF L:=by
 have e:L.take (i+1)=L.take i++[L.getD i []]:=by
  rw [List.take_add_one,List.getElem?_eq_getElem hi,List.getD_eq_getElem?_getD,List.getElem?_eq_getElem hi];rfl
 have f:aF (L.take (i+1))+aF (L.drop (i+1))=aF L:=by rw [<-nQ,List.take_append_drop]
 refine ⟨by rw [e,nQ];simp [aF],by omega⟩
section
variable {eps buf:Int} {rs:List (Option Rn)} {t:Nat}
theorem abW {o:Option Rn} (QD:rs.length=40) (i:Nat):(laid rs o).getD i none=if i<aZ rs then none else if i=aZ rs then o else rs.getD i none:=by
 unfold laid;rw [List.getD_eq_getElem?_getD];by_cases a:i<aZ rs
 ·rw [if_pos a,List.getElem?_append_left (by simpa using a),List.getElem?_replicate,if_pos a]
  rfl
 ·rw [if_neg a,List.getElem?_append_right (by simpa using Nat.le_of_not_lt a),List.length_replicate]
  by_cases b:i=aZ rs
  ·rw [if_pos b,b,Nat.sub_self]
   rfl
  ·rw [if_neg b]
   obtain ⟨m,hm⟩:∃ m,i-aZ rs=m+1:=⟨i-aZ rs-1,by omega⟩
   rw [hm,List.getElem?_cons_succ,List.getElem?_drop,show aZ rs+1+m=i by omega,List.getD_eq_getElem?_getD]
theorem QF {o:Option Rn} (i:Nat) (hi:aZ rs<=i):(laid rs o).drop (i+1)=rs.drop (i+1):=by
 unfold laid;rw [List.drop_append,List.length_replicate,List.drop_of_length_le (by simp;omega),List.nil_append]
 obtain ⟨m,hm⟩:∃ m,i+1-aZ rs=m+1:=⟨i-aZ rs,by omega⟩
 rw [hm,List.drop_succ_cons,List.drop_drop,show aZ rs+1+m=i+1 by omega]
variable {HR:bQ} {w w':World} {l o kept:List ah} {rn:Option Rn}
theorem abX (tr:iV rs l o kept) (ld:kI HR w w' eps kept rn):tot (laid rs rn)<=tot rs+l.length:=by
 have a:=pE rs (aZ rs+1);have b:=tr.few.1;unfold took at b;have c:tot (laid rs rn)=tot (rn::rs.drop (aZ rs+1)):=by
  unfold laid;rw [vY];have:∀ n,tot (List.replicate n (none:Option Rn))=0:=fun n=>by
   induction n with
   | zero=>rfl
   | succ n ih=>rw [List.replicate_succ,vX];exact ih
  rw [this,Nat.zero_add]
 rw [c];rcases ld with ⟨_,e⟩ | ⟨_,r',e,_,e2,_⟩
 ·rw [e,vX];omega
 ·rw [e,tR,e2];omega
theorem abY (ok:aW l) (hr:∀ r,some r∈rs->aW r.l) (tr:iV rs l o kept) (ld:kI HR w w' eps kept rn) (q:Int):let a:=nw q (laid rs rn);let b:=(Go.Proofs.YtcboobmfnmgldaaGreat.look ah.k q l).or (nw q rs);gI a=gI b/\(gI a=true->a=b):=by
 have lk:=tr.look ok hr q;have fc:=tr.facts ok hr;have e1:nw q (laid rs rn)=(Go.Proofs.YtcboobmfnmgldaaGreat.look ah.k q kept).or (nw q (rs.drop (aZ rs+1))):=by
  unfold laid;rw [v8];rcases ld with ⟨k0,e⟩ | ⟨_,r',e,_,e2,_⟩
  ·rw [e,vZ,k0];rfl
  ·rw [e,nU,e2]
 have e2:nw q rs=(nw q (rs.take (aZ rs+1))).or (nw q (rs.drop (aZ rs+1))):=by rw [<-Ow,List.take_append_drop]
 have e3:Go.Proofs.YtcboobmfnmgldaaGreat.look ah.k q kept=(Go.Proofs.YtcboobmfnmgldaaGreat.look ah.k q o).filter (bB (aI (rs.drop (aZ rs+1)))):=by rw [tr.kp,aaT fc.1.rise]
 show gI (nw q (laid rs rn))=gI ((Go.Proofs.YtcboobmfnmgldaaGreat.look ah.k q l).or (nw q rs))/\(gI (nw q (laid rs rn))=true->nw q (laid rs rn)=(Go.Proofs.YtcboobmfnmgldaaGreat.look ah.k q l).or (nw q rs));rw [e1,e2,e3,<-Option.or_assoc,<-lk];cases ho:Go.Proofs.YtcboobmfnmgldaaGreat.look ah.k q o with
 | none=>exact ⟨rfl,fun _=>rfl⟩
 | some x =>
  have xk:=vP ho;by_cases p:bB (aI (rs.drop (aZ rs+1))) x=true
  ·rw [show (some x).filter (bB (aI (rs.drop (aZ rs+1))))=some x by simp [Option.filter,p]]
   exact ⟨rfl,fun _=>rfl⟩
  ·rw [show (some x).filter (bB (aI (rs.drop (aZ rs+1))))=none by simp [Option.filter,p]]
   have p':bB (aI (rs.drop (aZ rs+1))) x=false:=by simpa using p
   unfold bB at p';simp only [Bool.or_eq_false_iff,Bool.not_eq_false'] at p';have lv:gI (nw q (rs.drop (aZ rs+1)))=false:=by have:=p'.2;rw [xk] at this;exact this
   refine ⟨?_,fun h=>?_⟩
   ·show gI (nw q (rs.drop (aZ rs+1)))=!x.g
    rw [lv,p'.1];rfl
   ·have h':gI (nw q (rs.drop (aZ rs+1)))=true:=h
    rw [lv] at h';cases h'
end
theorem wY:∀ {a b:List Int},a.Pairwise (·<·)->(∀ x∈a,x∈b)->a.length<=b.length
 | [],b,_,_=>Nat.zero_le _
 | x::a,b,h,s=>by
  obtain ⟨h1,h2⟩:=List.pairwise_cons.1 h;have hx:=s x (List.mem_cons_self ..);have e:(b.erase x).length=b.length-1:=List.length_erase_of_mem hx;have p:0<b.length:=List.length_pos_of_mem hx;have:=wY (b:=b.erase x) h2 fun y hy=>(List.mem_erase_of_ne (by have:=h1 y hy;omega)).2 (s y (List.mem_cons_of_mem _ hy))
  simp only [List.length_cons];omega
def aS (f:Int->Bool) (n:Nat):Prop:=∃ ks:List Int,ks.Pairwise (·<·)/\(∀ q,q∈ks↔f q=true)/\ks.length=n
section
variable {f g:Int->Bool} {n m:Nat}
theorem aS.le (h:aS f n) (h':aS g m) (s:∀ q,f q=true->g q=true):n<=m:=by
 obtain ⟨a,a1,a2,a3⟩:=h;obtain ⟨b,b1,b2,b3⟩:=h';have:=wY (b:=b) a1 fun x hx=>(b2 x).2 (s x ((a2 x).1 hx))
 omega
theorem aS.one (h:aS f n) (h':aS f m):n=m:=Nat.le_antisymm (h.le h' fun _ x=>x) (h'.le h fun _ x=>x)
theorem aS.same (h:aS f n) (s:∀ q,g q=f q):aS g n:=by
 obtain ⟨a,a1,a2,a3⟩:=h;exact ⟨a,a1,fun q=>by rw [s];exact a2 q,a3⟩
theorem aS.nil (h:∀ q,f q=false):aS f 0:=⟨[],List.Pairwise.nil,fun q=>by rw [h q];simp,rfl⟩
theorem aS.put (h:aS f n) {k:Int} (fk:f k=false) (gk:g k=true) (s:∀ q,q≠k->g q=f q):aS g (n+1):=by
 obtain ⟨a,a1,a2,a3⟩:=h;have nk:k ∉ a:=fun x=>by have:=(a2 k).1 x;rw [fk] at this;cases this
 have spl:∀ {a:List Int},a.Pairwise (·<·)->k ∉ a->∃ b:List Int,b.Pairwise (·<·)/\(∀ q,q∈b↔q=k\/q∈a)/\b.length=a.length+1:=by
  intro a;induction a with
  | nil=>intro _ _;exact ⟨[k],List.pairwise_singleton _ _,fun q=>by simp,rfl⟩
  | cons x a ih =>
   intro p hk;obtain ⟨p1,p2⟩:=List.pairwise_cons.1 p;have xk:x≠k:=fun e=>hk (by rw [e];exact List.mem_cons_self ..)
   by_cases c:x<k
   ·obtain ⟨b,b1,b2,b3⟩:=ih p2 (fun q=>hk (List.mem_cons_of_mem _ q))
    refine ⟨x::b,List.pairwise_cons.2 ⟨fun y hy=>?_,b1⟩,fun q=>?_,by simp [b3]⟩
    ·rcases (b2 y).1 hy with e | e
     ·omega
     ·exact p1 y e
    ·rw [List.mem_cons,List.mem_cons,b2 q]
     constructor
     ·rintro (e | e | e)
      ·exact .inr (.inl e)
      ·exact .inl e
      ·exact .inr (.inr e)
     ·rintro (e | e | e)
      ·exact .inr (.inl e)
      ·exact .inl e
      ·exact .inr (.inr e)
   ·refine ⟨k::x::a,List.pairwise_cons.2 ⟨fun y hy=>?_,p⟩,fun q=>List.mem_cons,rfl⟩
    rcases List.mem_cons.1 hy with e | e
    ·omega
    ·have:=p1 y e;omega
 obtain ⟨b,b1,b2,b3⟩:=spl a1 nk;refine ⟨b,b1,fun q=>?_,by omega⟩
 rw [b2 q];by_cases e:q=k
 ·subst e;simp [gk]
 ·rw [s q e,<-a2 q];simp [e]
theorem aS.drop (h:aS f n) {k:Int} (fk:f k=true) (gk:g k=false) (s:∀ q,q≠k->g q=f q):0<n/\aS g (n-1):=by
 obtain ⟨a,a1,a2,a3⟩:=h;have hk:=(a2 k).2 fk;have e:(a.erase k).length=a.length-1:=List.length_erase_of_mem hk;have nd:k ∉ a.erase k:=by
  have:∀ {a:List Int},a.Pairwise (·<·)->k ∉ a.erase k:=by
   intro a;induction a with
   | nil=>intro _ h;cases h
   | cons x a ih =>
    intro p q;obtain ⟨p1,p2⟩:=List.pairwise_cons.1 p;by_cases c:x=k
    ·subst c
     rw [List.erase_cons_head] at q;have:=p1 x q;omega
    ·rw [List.erase_cons_tail (by simpa using c)] at q
     rcases List.mem_cons.1 q with e | e
     ·exact c e.symm
     ·exact ih p2 e
  exact this a1
 refine ⟨by have:=List.length_pos_of_mem hk;omega,a.erase k,a1.sublist List.erase_sublist,fun q=>?_,by omega⟩
 by_cases c:q=k
 ·subst c
  rw [gk];exact ⟨fun x=>absurd x nd,fun x=>by cases x⟩
 ·rw [s q c,<-a2 q]
  exact List.mem_erase_of_ne c
theorem aS.few (h:aS f n) {a:List Int} (p:a.Pairwise (·<·)) (s:∀ q∈a,f q=true):a.length<=n:=by
 obtain ⟨b,b1,b2,b3⟩:=h;rw [<-b3];exact wY p fun x hx=>(b2 x).2 (s x hx)
end
def dB (l:List ah) (rs:List (Option Rn)) (q:Int):Option ah:=(look ah.k q l).or (nw q rs)
def wZ (o:Option ah):Option Int:=match o with
 | some e=>if e.g=true then none else some e.v
 | none=>none
def dK (l:List ah) (rs:List (Option Rn)) (q:Int):Option Int:=wZ (dB l rs q)
theorem Gl (o:Option ah):(wZ o).isSome=gI o:=by
 cases o with
 | none=>rfl
 | some e=>unfold wZ gI;cases h:e.g<;>simp [h]
def bE (l:List ah) (rs:List (Option Rn)) (q:Int):Bool:=gI (dB l rs q)
theorem xd (l:List ah) (rs:List (Option Rn)) (q:Int):(dK l rs q).isSome=bE l rs q:=Gl _
theorem QG (rs:List (Option Rn)) (q:Int):bE [] rs q=aI rs q:=rfl
variable {l:List ah} {rs:List (Option Rn)}
theorem QH {e:ah} (r:aG ah.k l) (q:Int):dB (ins ah.k e l) rs q=if e.k=q then some e else dB l rs q:=by
 unfold dB;rw [Oa r];split
 ·rfl
 ·rfl
structure gh (eps buf keys:Int) (l:List ah) (rs:List (Option Rn)) (live:Nat):Prop where
 len:rs.length=40
 run:∀ i r,rs.getD i none=some r->r.eps=eps/\0<r.l.length/\(r.l.length:Int)<=ct buf i/\aW r.l/\∀ e∈r.l,e.g=true->aI (rs.drop (i+1)) e.k=true
 lv:∀ i,∃ n,aS (aI (rs.drop i)) n/\(n:Int)<=keys
 ok:aW l
 room:(l.length:Int)<buf
 all:aS (bE l rs) live
 most:(live:Int)<=keys
theorem AM (h:aG ah.k l):(l.map ah.k).Pairwise (·<·):=by
 rw [List.pairwise_map];exact h
section
variable {eps buf keys:Int} {l:List ah} {rs:List (Option Rn)} {live:Nat}
variable {i:Nat} {r:Rn}
theorem gh.small (h:gh eps buf keys l rs live) (e:rs.getD i none=some r):(r.l.length:Int)<=2*keys:=by
 obtain ⟨_,_,_,ok,tb⟩:=h.run i r e;obtain ⟨n,n1,n2⟩:=h.lv i;obtain ⟨m,m1,m2⟩:=h.lv (i+1);have hi:i<rs.length:=by
  rcases Nat.lt_or_ge i rs.length with x | x
  ·exact x
  ·rw [List.getD_eq_getElem?_getD,List.getElem?_eq_none x] at e;cases e
 have d:=rj hi;rw [e] at d;have a:=n1.few (AM (ok.rise.filter fun x=>!x.g)) fun q hq=>by
  obtain ⟨x,hx,rfl⟩:=List.mem_map.1 hq;obtain ⟨x1,x2⟩:=List.mem_filter.1 hx;unfold aI;rw [d,nU,vV ok.rise x1];exact x2
 have b:=m1.few (AM (ok.rise.filter fun x=>x.g)) fun q hq=>by
  obtain ⟨x,hx,rfl⟩:=List.mem_map.1 hq;obtain ⟨x1,x2⟩:=List.mem_filter.1 hx;exact tb x x1 x2
 rw [List.length_map] at a b;have c:r.l.length=(r.l.filter fun x=>x.g).length+(r.l.filter fun x=>!x.g).length:=by
  generalize r.l=z;induction z with
  | nil=>rfl
  | cons y z ih =>
   cases hg:y.g
   ·simp [hg];omega
   ·simp [hg];omega
 omega
theorem gh.below (h:gh eps buf keys l rs live) (b0:1<=buf) (b1:buf<=4294967296):∀ j,j<=40->(tot (rs.take j):Int)<=buf*2^j-buf
 | 0,_=>by show ((0:Nat):Int)<=_;simp
 | j+1,hj=>by
  have ih:=h.below b0 b1 j (by omega)
  have kW:j<rs.length:=by rw [h.len];omega
  rw [wh kW,vY];have p:(0:Int)<2^j:=Int.pow_pos (by decide)
  have q:0<buf*2^j:=Int.mul_pos (by omega) p
  have e:buf*2^(j+1)=2*(buf*2^j):=by rw [Int.pow_succ,<-Int.mul_assoc,Int.mul_comm]
  rw [e];rcases iW rs j with x | ⟨r,x⟩
  ·rw [x]
   show ((tot (rs.take j)+0:Nat):Int)<=_;omega
  ·rw [x]
   have y:=(h.run j r x).2.2.1;have z:tot [some r]=r.l.length:=by rw [tR];rfl
   have m:ct buf (j:Int)=min (buf*2^j) 4294967296:=by
    unfold ct;rw [if_pos ⟨⟨b0,b1⟩,by omega,by omega⟩]
    simp
   rw [m] at y;rw [z];omega
variable {l':List ah}
theorem gh.took (h:gh eps buf keys l rs live) (b0:1<=buf) (b1:buf<=4294967296) (hl:(l'.length:Int)<=buf) (few:l'.length+tot rs<=2000000):(Go.Proofs.YtcboobmfnmgldaaGreat.took rs l':Int)<=ct buf (aZ rs:Nat)/\Go.Proofs.YtcboobmfnmgldaaGreat.took rs l'<=2000000:=by
 have t:=pE rs (aZ rs+1);have c:aZ rs<40:=by unfold aZ;omega
 have m:ct buf (aZ rs:Nat)=min (buf*2^aZ rs) 4294967296:=by
  unfold ct;rw [if_pos ⟨⟨b0,b1⟩,by omega,by omega⟩]
  simp
 have k:Go.Proofs.YtcboobmfnmgldaaGreat.took rs l'<=2000000:=by unfold Go.Proofs.YtcboobmfnmgldaaGreat.took;omega
 refine ⟨?_,k⟩;rw [m];have p:(0:Int)<2^aZ rs:=Int.pow_pos (by decide)
 rcases Nat.lt_or_ge (free rs) 40 with x | x
 ·have f2:aZ rs=free rs:=by unfold aZ;omega
  have f3:=aa9 (rs:=rs) (by rw [h.len];exact x)
  have hj:free rs<rs.length:=by rw [h.len];omega
  have e:Go.Proofs.YtcboobmfnmgldaaGreat.took rs l'=l'.length+tot (rs.take (free rs)):=by
   unfold Go.Proofs.YtcboobmfnmgldaaGreat.took;rw [f2,wh hj,vY];have y:rs.getD (free rs) none=none:=by rw [List.getD_eq_getElem?_getD,f3];rfl
   rw [y];rfl
  have:=h.below b0 b1 (free rs) (by omega)
  rw [f2];omega
 ·have f2:aZ rs=39:=by unfold aZ;omega
  rw [f2];have:buf*2^39>=1*2^39:=Int.mul_le_mul_of_nonneg_right b0 (by decide)
  omega
variable {n:Nat}
theorem gh.put (h:gh eps buf keys l rs live) {e:ah} (ig:¬ (e.g=true/\e.v≠0)) (hn:aS (bE (ins ah.k e l) rs) n) (hk:(n:Int)<=keys) (room:((ins ah.k e l).length:Int)<buf):gh eps buf keys (ins ah.k e l) rs n :=
 ⟨h.len,h.run,h.lv,aW.iff.2 ⟨h.ok.rise.ins,vQ (P:=fun x:ah=>¬ (x.g=true/\x.v≠0)) ig (aW.iff.1 h.ok).2⟩,room,hn,hk⟩
variable {HR:bQ} {w w':World} {o kept:List ah} {rn:Option Rn}
theorem abZ (ok:aW l') (hr:∀ r,some r∈rs->aW r.l) (tr:iV rs l' o kept) (ld:kI HR w w' eps kept rn) (q:Int):dK [] (laid rs rn) q=dK l' rs q:=by
 obtain ⟨a,b⟩:=abY ok hr tr ld q;have e0:dB [] (laid rs rn) q=nw q (laid rs rn):=rfl;unfold dK;rw [e0];have e1:dB l' rs q=(look ah.k q l').or (nw q rs):=rfl;rw [<-e1] at a b;cases c:gI (nw q (laid rs rn)) with
 | true=>rw [b c]
 | false =>
  have x1:=Gl (nw q (laid rs rn));have x2:=Gl (dB l' rs q);rw [<-a] at x2;rw [c] at x1 x2;rw [Option.isSome_eq_false_iff,Option.isNone_iff_eq_none] at x1 x2;rw [x1,x2]
theorem gh.take (h:gh eps buf keys l rs live) (b0:1<=buf) (b1:buf<=4294967296) (ok:aW l') (hl:(l'.length:Int)=buf) (few:l'.length+tot rs<=2000000) (hn:aS (bE l' rs) n) (hk:(n:Int)<=keys) (tr:iV rs l' o kept) (ld:kI HR w w' eps kept rn):gh eps buf keys [] (laid rs rn) n:=by
 have hr:∀ r,some r∈rs->aW r.l:=fun r hr=>by
  obtain ⟨i,hi,e⟩:=List.mem_iff_getElem.1 hr;exact (h.run i r (by rw [fs hi];exact e)).2.2.2.1
 have tk:=h.took b0 b1 (Int.le_of_eq hl) few;have QI:∀ q,aI (laid rs rn) q=bE l' rs q:=fun q=>by
  rw [<-QG,<-xd,<-xd,abZ ok hr tr ld q]
 refine ⟨aa' h.len rn,fun i r gP=>?_,fun i=>?_,aW.iff.2 ⟨List.Pairwise.nil,by simp⟩,by simpa using (show (0:Int)<buf by omega),hn.same fun q=>by rw [QG];exact QI q,hk⟩
 ·rw [abW h.len] at gP
  by_cases a:i<aZ rs
  ·rw [if_pos a] at gP;cases gP
  ·rw [if_neg a] at gP
   rw [QF i (by omega)]
   by_cases b:i=aZ rs
   ·rw [if_pos b] at gP
    rcases ld with ⟨_,e⟩ | ⟨k0,r',e,e1,e2,_⟩
    ·rw [e] at gP;cases gP
    ·rw [e] at gP
     cases gP
     have fw:=tr.few.1;refine ⟨e1,?_,?_,by rw [e2];exact (tr.facts ok hr).2,fun x hx hg=>?_⟩
     ·rw [e2];exact List.length_pos_iff.2 k0
     ·rw [e2,b];have:=tk.1;omega
     ·rw [e2,tr.kp] at hx
      have:=(List.mem_filter.1 hx).2
      unfold bB at this;rw [hg] at this;rw [b];simpa using this
   ·rw [if_neg b] at gP
    exact h.run i r gP
 ·rcases Nat.lt_or_ge (aZ rs) i with x | x
  ·obtain ⟨j,rfl⟩:∃ j,i=j+1:=⟨i-1,by omega⟩
   rw [QF j (by omega)]
   exact h.lv (j+1)
  ·refine ⟨n,hn.same fun q=>?_,hk⟩
   rw [<-QI q];have e:(laid rs rn)=(laid rs rn).take i++(laid rs rn).drop i:=(List.take_append_drop ..).symm;have e2:(laid rs rn).take i=List.replicate i none:=by
    unfold laid;rw [List.take_append_of_le_length (by simpa using x),List.take_replicate,Nat.min_eq_left x]
   have e3:nw q (laid rs rn)=nw q ((laid rs rn).drop i):=by
    conv=>lhs;rw [e,e2]
    exact v8 q i _
   unfold aI;rw [e3]
theorem gh.of (QD:rs.length=40) (ft:fitAll eps buf rs 40) (ok:∀ r,some r∈rs->aW r.l) (lv:∀ i,∃ n,aS (aI (rs.drop i)) n/\(n:Int)<=keys) (uh:aW l) (room:(l.length:Int)<buf) (hn:aS (bE l rs) n) (hk:(n:Int)<=keys):gh eps buf keys l rs n:=by
 refine ⟨QD,fun i r e=>?_,lv,uh,room,hn,hk⟩
 have hi:i<rs.length:=by
  rcases Nat.lt_or_ge i rs.length with x | x
  ·exact x
  ·rw [List.getD_eq_getElem?_getD,List.getElem?_eq_none x] at e;cases e
 have f:=ft i (by omega)
 rw [e] at f;simp only [iX,Bool.and_eq_true,decide_eq_true_eq,beq_iff_eq,List.all_eq_true] at f;obtain ⟨⟨⟨f1,f2⟩,f3⟩,f4⟩:=f;refine ⟨f3,f1,f2,ok r (jo hi e),fun x hx hg=>?_⟩
 have:=f4 x hx
 unfold bB at this;rw [hg] at this;simpa using this
end
variable {HR:bQ}
theorem ab0 (H:bJ HR) (ao:Option Addr) (c:Nat) (rs:List (Option Rn)) (q:Int) (q0:0<=q) (q1:q<18446744073709551616) (hl:rs.length<=2000000) (w:World) (h:PR HR w ao rs) :
  Calls prog 106 #[.slice ao rs.length c,By q] w fun e w'=>e=.returned (.bool (aI rs q))/\Gw w w':=by
 have HP:ag (PR HR w ao rs):=h;have HH:ag (bJ HR):=H;obtain ⟨n,hn⟩:∃ n,rs.length=n:=⟨_,rfl⟩;have LN:ag (rs.length=n):=hn;rw [hn] at hl ⊢;obtain ⟨A,hA⟩:∃ A,aI rs q=A:=⟨_,rfl⟩;have ak:ag (aI rs q=A):=hA;rw [hA];clear h H hn hA;go_enter func106,ntmps106;go_wp2_with fail;go_loopg [11] n (fun gg gV wr=>∃ i:Nat,gV=AI (i:Int)/\i<=n/\n-i<=gg/\ag (Gw w wr)/\ag (aI (rs.drop i) q=A))
 case atStart=>exact ⟨0,rfl,Nat.zero_le _,by omega,(show ag _ from Gw.refl w),(by rw [List.drop_zero];exact ak)⟩
 case round =>
  clear ak;obtain ⟨i,rfl,a1,a2,G,N⟩:=hrel;obtain ⟨wS,bj⟩:∃ wx,wx=wr:=⟨_,rfl⟩;subst bj;by_cases ar:i<n
  ·have eZ:(i:Int)<(n:Int):=by omega
   obtain ⟨b,off,rfl,hb,hc⟩:=(HP.o.gw HH.o.kp G.o).cells (by rw [LN.o];omega)
   have ci:=hc i (by rw [LN.o];exact ar)
   have DR:=rj (rs:=rs) (i:=i) (by rw [LN.o];exact ar)
   clear hc;rcases iW rs i with e | ⟨r,e⟩
   ·rw [e] at ci DR
    have N':ag (aI (rs.drop (i+1)) q=A):=by have:=N.o;unfold aI at this ⊢;rw [DR,vZ] at this;exact this
    have dq:wS.cell? ⟨b,off+i,none⟩=some (.pointer none):=ci;clear ci e DR N;go_wp2_with fail;go_roundg (n-(i+1))
    case measure=>omega
    case rel=>exact ⟨i+1,by go_num,by omega,Nat.le_refl _,G,N'⟩
   ·rw [e] at ci DR
    have dq:wS.cell? ⟨b,off+i,none⟩=some (BY (r.p)):=ci;have RR:=(HP.o.runs r (jo (by rw [LN.o];exact ar) e)).gw HH.o.kp G.o
    obtain ⟨x,y,z,t,f1,f2,f3⟩:=nV (look ah.k q r.l);have GT:ag (Calls prog 118 #[BY (r.p),By q] wS fun e w'=>e=.returned (.tuple #[.agg #[By x,By y,.bool z],.bool t])/\Gw wS w'):=by
     have:=HH.o.look RR q q0 q1
     rw [f1] at this;exact this
    have NR:=N.o;unfold aI at NR;rw [DR,nU] at NR;have NT:ag (t=true->A=!z):=fun h=>by
     rw [h] at f3;rw [f2] at h;cases hk:look ah.k q r.l with
     | none=>rw [hk] at h;cases h
     | some en =>
      rw [<-NR,hk];show gI (some en)=_;rw [<-hk,f3];rfl
    have NF:ag (t=false->aI (rs.drop (i+1)) q=A):=fun h=>by
     rw [f2] at h;cases hk:look ah.k q r.l with
     | none=>rw [hk] at NR;exact NR
     | some en=>rw [hk] at h;cases h
    generalize r.p=rp at dq GT;clear ci e DR N RR f1 f2 f3 NR;go_wp2_with fail;refine Calls.mono GT.o ?_;rintro e u1 ⟨rfl,gg⟩;have G1:ag (Gw w (u1.alloc (.cells #[By x,By y,.bool z] 75))):=(G.o.trans gg).alloc _ _;clear gg GT G;cases t with
    | false =>
     have N':ag (aI (rs.drop (i+1)) q=A):=NF.o rfl;clear NF NT;go_wp2_with fail;go_roundg (n-(i+1))
     case measure=>omega
     case rel=>exact ⟨i+1,by go_num,by omega,Nat.le_refl _,G1,N'⟩
    | true =>
     have e:=NT.o rfl;subst e;clear NF NT;go_wp2_with fail;go_ret;exact ⟨rfl,G1.o⟩
  ·have:A=false:=by
    have:=N.o
    rw [List.drop_of_length_le (by rw [LN.o];omega)] at this
    exact this.symm
   subst this;go_wp2_with fail;go_ret;exact ⟨rfl,G.o⟩
def ij (l:List ah) (rs:List (Option Rn)) (G:Int):Prop:=∀ n,aS (aI rs) n->∃ m:Nat,(m:Int)=n+G/\aS (bE l rs) m
variable {l:List ah} {i:Nat}
theorem QJ (r:aG ah.k l) (hi:i<l.length) (q:Int):look ah.k q (l.take (i+1))=if (l.getD i ax).k=q then some (l.getD i ax) else look ah.k q (l.take i):=by
 have e:l.take (i+1)=l.take i++[l.getD i ax]:=by
  rw [List.take_add_one,List.getElem?_eq_getElem hi,jP hi];rfl
 have nk:(l.getD i ax).k=q->look ah.k q (l.take i)=none:=fun eq=>by
  unfold look;rw [List.find?_eq_none];intro x hx;have:=List.pairwise_append.1 (by rw [<-e];exact r.sublist (List.take_sublist _ _):((l.take i++[l.getD i ax]).Pairwise fun a b=>a.k<b.k))
  have:=this.2.2 x hx _ (List.mem_singleton.2 rfl)
  rw [beq_iff_eq];omega
 rw [e];unfold look at nk ⊢;rw [List.find?_append];generalize l.getD i ax=y at nk;by_cases c:y.k=q
 ·rw [if_pos c,nk c]
  simp [c]
 ·rw [if_neg c]
  simp [c]
variable {rs:List (Option Rn)}
theorem ab1 (r:aG ah.k l) (hi:i<l.length) {G:Int} (h:ij (l.take i) rs G) (z lK:Bool) (hz:(l.getD i ax).g=z) (hw:aI rs (l.getD i ax).k=lK):ij (l.take (i+1)) rs (G+(if z&&lK then -1 else if !z&&!lK then 1 else 0)):=by
 intro n hn;obtain ⟨m,m1,m2⟩:=h n hn;have AO:bE (l.take i) rs (l.getD i ax).k=lK:=by
  unfold bE dB;have:look ah.k (l.getD i ax).k (l.take i)=none:=by
   unfold look;rw [List.find?_eq_none];intro x hx;have e:l.take (i+1)=l.take i++[l.getD i ax]:=by
    rw [List.take_add_one,List.getElem?_eq_getElem hi,jP hi];rfl
   have:=List.pairwise_append.1 (by rw [<-e];exact r.sublist (List.take_sublist _ _):((l.take i++[l.getD i ax]).Pairwise fun a b=>a.k<b.k))
   have:=this.2.2 x hx _ (List.mem_singleton.2 rfl)
   rw [beq_iff_eq];omega
  rw [this];exact hw
 have AP:bE (l.take (i+1)) rs (l.getD i ax).k=!z:=by
  unfold bE dB;rw [QJ r hi,if_pos rfl];show (!(l.getD i ax).g)=_;rw [hz]
 have pK:∀ q,q≠(l.getD i ax).k->bE (l.take (i+1)) rs q=bE (l.take i) rs q:=fun q hq=>by
  unfold bE dB;rw [QJ r hi,if_neg (fun e=>hq e.symm)]
 cases z<;>cases lK
 ·exact ⟨m+1,by simp;omega,m2.put AO AP pK⟩
 ·exact ⟨m,by simp;omega,m2.same fun q=>by
   by_cases c:q=(l.getD i ax).k
   ·rw [c,AO,AP];rfl
   ·exact pK q c⟩
 ·exact ⟨m,by simp;omega,m2.same fun q=>by
   by_cases c:q=(l.getD i ax).k
   ·rw [c,AO,AP];rfl
   ·exact pK q c⟩
 ·obtain ⟨p,d⟩:=m2.drop AO AP pK
  exact ⟨m-1,by simp;omega,d⟩
theorem QK (H:bJ HR) (ao bo:Option Addr) (c d:Nat) (l:List ah) (rs:List (Option Rn)) (hl:l.length<=2000000) (hr:rs.length<=2000000) (rise:aG ah.k l) (w:World) (he:EL w ao l) (h:PR HR w bo rs) :
  Calls prog 68 #[.slice ao l.length c,.slice bo rs.length d] w fun e w'=>(∃ G:Int,e=.returned (AI G)/\ij l rs G/\-(l.length:Int)<=G/\G<=l.length)/\Gw w w':=by
 have LV:ag (∀ (W:World) (q:Int),Gw w W->0<=q->q<18446744073709551616->Calls prog 106 #[.slice bo rs.length d,By q] W fun e w'=>e=.returned (.bool (aI rs q))/\Gw W w'):=fun W q gg q0 q1=>ab0 H bo d rs q q0 q1 hr W (h.gw H.kp gg)
 have EA:ag (EL w ao l):=he;have RI:ag (aG ah.k l):=rise;obtain ⟨n,hn⟩:∃ n,l.length=n:=⟨_,rfl⟩;have LN:ag (l.length=n):=hn;have G0:ag (ij (l.take 0) rs 0):=fun m hm=>⟨m,by omega,hm⟩
 rw [hn] at hl ⊢;generalize rs.length=rn at LV ⊢;clear he h H hn rise;go_enter func68,ntmps68;go_wp2_with fail;go_loopg [5,11] n (fun gg s3 gV wr=>∃ (i:Nat) (g:Int),s3=AI g/\gV=AI (i:Int)/\i<=n/\n-i<=gg/\-(i:Int)<=g/\g<=(i:Int)/\ag (Gw w wr)/\ag (ij (l.take i) rs g))
 case atStart=>exact ⟨0,0,rfl,rfl,Nat.zero_le _,by omega,by simp,by simp,(show ag _ from Gw.refl w),G0⟩
 case round =>
  clear G0;obtain ⟨i,g,rfl,rfl,a1,a2,a3,a4,G,N⟩:=hrel;obtain ⟨wS,bj⟩:∃ wx,wx=wr:=⟨_,rfl⟩;subst bj;by_cases ar:i<n
  ·have eZ:(i:Int)<(n:Int):=by omega
   have il:i<l.length:=by rw [LN.o];exact ar
   obtain ⟨ab,af,rfl,cT,jX⟩:=(EA.o.gw G.o).cells (by rw [LN.o];omega)
   obtain ⟨c0,c1,c2⟩:=jX i il;obtain ⟨⟨k0,k1⟩,_⟩:=EA.o.ok il;have LQ:=LV.o;have ST:ag (∀ z lK,(l.getD i ax).g=z->aI rs (l.getD i ax).k=lK->ij (l.take (i+1)) rs (g+(if z&&lK then -1 else if !z&&!lK then 1 else 0))):=fun z lK hz hw=>ab1 RI.o il N.o z lK hz hw
   generalize (l.getD i ax).k=ki at c0 k0 k1 ST;generalize (l.getD i ax).v=vi at c1;have S2:=ST.o _ (aI rs ki) rfl rfl;have LK:ag (∀ (W:World),Gw w W->Calls prog 106 #[.slice bo rn d,By ki] W fun e w'=>e=.returned (.bool (aI rs ki))/\Gw W w'):=fun W gg=>LV.o W ki gg k0 k1
   generalize (l.getD i ax).g=gi at c2 S2;generalize aI rs ki=lq at LK S2;have S3:ag (ij (l.take (i+1)) rs (g+(if gi&&lq then -1 else if !gi&&!lq then 1 else 0))):=S2
   have GA:ag (Gw w (wS.alloc (.cells #[By ki,By vi,.bool gi] 75))):=G.o.alloc _ _;clear jX S2 LQ ST N G k0 k1;go_wp2_with fail;refine Calls.mono (LK.o _ GA.o) ?_;rintro e u1 ⟨rfl,gg⟩;have G1:ag (Gw w u1):=GA.o.trans gg;have E0:u1.heap[wS.heap.size]?=some (.cells #[By ki,By vi,.bool gi] 75 (0,0)):=(gg.below.block _ (by simp)).trans (heap_alloc_new _ _)
   obtain ⟨m0,m1,m2,_⟩:=kH E0;have ml:=aC E0;generalize wS.heap.size=bq at m0 m1 m2 ml;clear gg GA LK E0;have wp:IntKind.i64.wrap (g+1)=g+1:=by rw [IntKind.wrap_i64];omega
   have wm:IntKind.i64.wrap (g-1)=g-1:=by rw [IntKind.wrap_i64];omega
   have S4:ag (ij (l.take (i+1)) rs (if gi&&lq then g-1 else if !gi&&!lq then g+1 else g)):=by
    have:=S3.o
    revert this
    cases gi<;>cases lq<;>simp<;>intro h
    ·exact h
    ·exact h
    ·exact h
    ·have e:g+-1=g-1:=by omega
     rw [e] at h;exact h
   clear S3;cases gi<;>cases lq
   all_goals
    go_wp2_with fail;go_roundg (n-(i+1))
    case measure=>omega
    case rel=>exact ⟨i+1,_,rfl,by go_num,by omega,Nat.le_refl _,by omega,by omega,G1,(by simpa using S4)⟩
  ·have e:i=n:=by omega
   subst e;have N':ag (ij l rs g):=by have:=N.o;rw [List.take_of_length_le (by rw [LN.o];omega)] at this;exact this
   go_wp2_with fail;go_ret
   exact ⟨⟨g,rfl,N'.o,a3,a4⟩,G.o⟩
def fA (l:List ah) (rs:List (Option Rn)) (most:Int) (n:Nat) (ok:Bool):Prop :=
 (ok=true/\(∀ i,∃ m,aS (aI (rs.drop i)) m/\(m:Int)<=most)/\aS (bE l rs) n/\(n:Int)<=most)\/(ok=false/\n=0/\((∃ i m,aS (aI (rs.drop i)) m/\most<(m:Int))\/∃ m,aS (bE l rs) m/\most<(m:Int)))
theorem ab2 {m:Nat} (h:aS (aI rs) m):m<=tot rs:=by
 obtain ⟨ks,k1,k2,k3⟩:=h;have:ks.length<=((lists rs).flatMap (List.map ah.k)).length:=wY k1 fun x hx=>by
  have fP:=(k2 x).1 hx;unfold aI at fP;cases hn:nw x rs with
  | none=>rw [hn] at fP;cases fP
  | some e =>
   have:∀ ls:List (List ah),cI ah.k x ls=some e->∃ l∈ls,e∈l/\e.k=x:=by
    intro ls;induction ls with
    | nil=>intro h;cases h
    | cons l ls ih =>
     intro h;simp only [cI] at h;cases hk:look ah.k x l with
     | some y=>rw [hk] at h;cases h;exact ⟨l,List.mem_cons_self ..,vW hk⟩
     | none =>
      rw [hk] at h;obtain ⟨l',a,b⟩:=ih h;exact ⟨l',List.mem_cons_of_mem _ a,b⟩
   obtain ⟨l,a,b,c⟩:=this _ hn;exact List.mem_flatMap.2 ⟨l,a,List.mem_map.2 ⟨e,b,c⟩⟩
 rw [List.length_flatMap] at this;unfold tot aF;simpa [<-k3] using this
variable {r:Rn}
theorem ab3 (q:Int):aI (some r::rs) q=bE r.l rs q:=by
 unfold aI bE dB;rw [nU]
theorem ab4 (H:bJ HR) (ao:Option Addr) (c b off d:Nat) (l:List ah) (rs:List (Option Rn)) (most:Int) (hm:0<=most) (hl:l.length+tot rs<=2000000) (hr:rs.length<=40) (hd:rs.length<=d) (rise:aG ah.k l) (w:World) (he:EL w ao l) (h:PR HR w (some ⟨b,off,none⟩) rs) :
  Calls prog 35 #[.slice ao l.length c,.slice (some ⟨b,off,none⟩) rs.length d,AI most] w fun e w'=>(∃ (n:Nat) (ok:Bool),e=.returned (.tuple #[AI (n:Int),.bool ok])/\fA l rs most n ok)/\Gw w w':=by
 have HH:ag (bJ HR):=H;have HP:ag (PR HR w (some ⟨b,off,none⟩) rs):=h;have GL:ag (∀ W,Gw w W->Calls prog 68 #[.slice ao l.length c,.slice (some ⟨b,off,none⟩) rs.length d] W fun e w'=>(∃ G:Int,e=.returned (AI G)/\ij l rs G/\-(l.length:Int)<=G/\G<=l.length)/\Gw W w'):=fun W gg=>QK H ao (some ⟨b,off,none⟩) c d l rs (by omega) (by omega) rise W (he.gw gg) (h.gw H.kp gg)
 obtain ⟨ln,au⟩:∃ n,l.length=n:=⟨_,rfl⟩;obtain ⟨n,hn⟩:∃ n,rs.length=n:=⟨_,rfl⟩;have LN:ag (rs.length=n):=hn;have TT:ag (ln+tot rs<=2000000):=by rw [<-au];exact hl
 rw [au] at GL hl ⊢;rw [hn] at GL hr hd ⊢;have ST:ag (aS (aI (rs.drop n)) 0):=aS.nil fun q=>by rw [List.drop_of_length_le (by rw [hn];exact Nat.le_refl _)];rfl
 have QL:ag (∀ i,n<=i->∃ m,aS (aI (rs.drop i)) m/\(m:Int)<=most):=fun i hi=>⟨0,aS.nil fun q=>by rw [List.drop_of_length_le (by rw [hn];exact hi)];rfl,hm⟩
 clear H h he rise au hn;have wn:IntKind.i64.wrap ((n:Int)-1)=(n:Int)-1:=by rw [IntKind.wrap_i64];omega
 go_enter func35,ntmps35;go_wp2_with fail;go_loopg [6,8] (n+1) (fun gg s6 s8 wr=>∃ k m:Nat,s6=AI (m:Int)/\s8=AI ((k:Int)-1)/\k<=n/\k<gg+1/\m<=2000000/\ag (m<=tot (rs.drop k))/\ag (aS (aI (rs.drop k)) m)/\ag (∀ i,k<=i->∃ m,aS (aI (rs.drop i)) m/\(m:Int)<=most)/\ag (Gw w wr))
 case atStart=>exact ⟨n,0,rfl,rfl,Nat.le_refl _,by omega,by omega,(show ag _ from Nat.zero_le _),ST,QL,(show ag _ from Gw.refl w)⟩
 case round =>
  clear ST QL;obtain ⟨k,m,rfl,rfl,a1,a2,a3,MT,LV,AL,G⟩:=hrel;obtain ⟨wS,bj⟩:∃ wx,wx=wr:=⟨_,rfl⟩;subst bj;by_cases k0:k=0
  ·subst k0
   have pL:ag (∀ i,∃ m,aS (aI (rs.drop i)) m/\(m:Int)<=most):=fun i=>AL.o i (Nat.zero_le _)
   have FI:ag (∀ g:Int,ij l rs g->∃ m':Nat,(m':Int)=m+g/\aS (bE l rs) m'):=fun g hg=>hg m (by have:=LV.o;rw [List.drop_zero] at this;exact this)
   have GB:=GL.o wS G.o;have ez:((0:Nat):Int)-1=-1:=rfl;rw [ez];clear AL LV MT;go_wp2_with fail;refine Calls.mono GB ?_;rintro e w1 ⟨⟨g,rfl,gr,gb⟩,gg⟩;obtain ⟨m',x1,x2⟩:=FI.o g gr;have G9:ag (Gw w w1):=G.o.trans gg;have X2:ag (aS (bE l rs) m'):=x2;have wg:IntKind.i64.wrap ((m:Int)+g)=(m:Int)+g:=by rw [IntKind.wrap_i64];omega
   clear x2 gg gr FI GB GL;by_cases cY:most<(m':Int)
   ·have tb:decide (most<(m:Int)+g)=true:=by rw [<-x1];simpa using cY
    have ak:ag (fA l rs most 0 false):=.inr ⟨rfl,rfl,.inr ⟨m',X2.o,cY⟩⟩;clear cY;go_wp2_with fail;go_ret2;exact ⟨⟨0,false,rfl,ak.o⟩,G9.o⟩
   ·have tb:decide (most<(m:Int)+g)=false:=by rw [<-x1];simpa using cY
    have ak:ag (fA l rs most m' true):=.inl ⟨rfl,pL.o,X2.o,by omega⟩
    clear cY;go_wp2_with fail;go_ret2;exact ⟨⟨m',true,by show Ending.returned (.tuple #[AI ((m:Int)+g),.bool true])=_;rw [<-x1],ak.o⟩,G9.o⟩
  ·obtain ⟨j,rfl⟩:∃ j,k=j+1:=⟨k-1,by omega⟩
   have ej:((j+1:Nat):Int)-1=(j:Int):=by omega
   rw [ej];have j0:(0:Int)<=(j:Int):=by omega
   have jn:(j:Int)<(n:Int):=by omega
   have jl:j<rs.length:=by rw [LN.o];omega
   obtain ⟨b',o',eb,hb,hc⟩:=(HP.o.gw HH.o.kp G.o).cells (by rw [LN.o];omega)
   injection eb with eb;injection eb with e1 e2;subst e1 e2;have ci:=hc j jl;have wj:IntKind.i64.wrap ((j:Int)-1)=(j:Int)-1:=by rw [IntKind.wrap_i64];omega
   clear hc;rcases iW rs j with e | ⟨r,e⟩
   ·rw [e] at ci
    have DR:=rj (rs:=rs) (i:=j) jl;rw [e] at DR;have dq:wS.cell? ⟨b,off+j,none⟩=some (.pointer none):=ci;have LV':ag (aS (aI (rs.drop j)) m):=LV.o.same fun q=>by rw [DR];rfl
    have MT':ag (m<=tot (rs.drop j)):=by have:=MT.o;rw [DR,vX];exact this
    have pL:ag (∀ i,j<=i->∃ m,aS (aI (rs.drop i)) m/\(m:Int)<=most):=fun i hi=>by
     rcases Nat.lt_or_ge j i with x | x
     ·exact AL.o i x
     ·have ei:i=j:=by omega
      obtain ⟨m',m1,m2⟩:=AL.o (j+1) (Nat.le_refl _);exact ⟨m',m1.same fun q=>by rw [ei,DR];rfl,m2⟩
    clear ci e DR LV MT AL;go_wp2_with fail;go_roundg j
    case measure=>omega
    case rel=>exact ⟨j,m,rfl,by go_num,by omega,by omega,a3,MT',LV',pL,G⟩
   ·rw [e] at ci
    have DR:=rj (rs:=rs) (i:=j) jl;rw [e] at DR;have dq:wS.cell? ⟨b,off+j,none⟩=some (BY (r.p)):=ci;have RR:=(HP.o.runs r (jo jl e)).gw HH.o.kp G.o;have LA:ag (∀ W,Gw wS W->Calls prog 69 #[BY (r.p)] W fun e w'=>(∃ bo c,e=.returned (.slice bo r.l.length c)/\EL w' bo r.l)/\Gw W w'):=fun W gg=>(HH.o.told (RR.gw HH.o.kp gg)).mono fun e w' ⟨⟨bo,c,a,b,_⟩,d⟩=>⟨⟨bo,c,a,b⟩,d⟩
    have TD:ag (r.l.length+tot (rs.drop (j+1))=tot (rs.drop j)):=by show _=_;rw [DR,tR]
    have TL:tot (rs.drop j)<=2000000:=by have:=pE rs j;have:=TT.o;omega
    obtain ⟨kk,Gm⟩:∃ kk,j+1=kk:=⟨_,rfl⟩;have GA:ag (∀ (W:World) (xo yo:Option Addr) (xc yc:Nat),Gw wS W->EL W xo r.l->(0<(rs.drop kk).length->yo=some ⟨b,off+kk,none⟩)->Calls prog 68 #[.slice xo r.l.length xc,.slice yo (n-kk) yc] W fun e w'=>(∃ G:Int,e=.returned (AI G)/\(ij r.l (rs.drop kk) G/\-(r.l.length:Int)<=G/\G<=r.l.length))/\Gw W w'):=fun W xo yo xc yc gg hx hy=>by
     have hpd:PR HR W yo (rs.drop kk):=⟨fun h0=>by
      rw [hy h0];have gW:=G.o.trans gg;obtain ⟨b',o',eb,eP,kC⟩:=(HP.o.gw HH.o.kp gW).cells (by rw [LN.o];omega)
      injection eb with eb;injection eb with e1 e2;subst e1 e2;refine ⟨b,off+kk,rfl,eP,fun i hi=>?_⟩
      rw [List.length_drop] at hi;have:=kC (kk+i) (by omega)
      rw [Nat.add_assoc,this,List.getD_eq_getElem?_getD,List.getD_eq_getElem?_getD,List.getElem?_drop],fun r hr=>(HP.o.gw HH.o.kp (G.o.trans gg)).runs r (List.mem_of_mem_drop hr)⟩
     have:=QK HH.o xo yo xc yc r.l (rs.drop kk) (by have:=RR.few;omega) (by rw [List.length_drop];have:=LN.o;omega) RR.ok.rise W hx hpd
     rw [List.length_drop,LN.o] at this;exact this
    have FI:ag (∀ g:Int,ij r.l (rs.drop kk) g->∃ m':Nat,(m':Int)=m+g/\aS (aI (rs.drop j)) m'/\m'<=tot (rs.drop j)):=fun g hg=>by
     rw [<-Gm] at hg;obtain ⟨m',x1,x2⟩:=hg m LV.o;have x3:aS (aI (rs.drop j)) m':=x2.same fun q=>by rw [DR];exact ab3 q
     refine ⟨m',x1,x3,?_⟩;exact ab2 x3
    have pL:ag (∀ m':Nat,aS (aI (rs.drop j)) m'->(m':Int)<=most->∀ i,j<=i->∃ m,aS (aI (rs.drop i)) m/\(m:Int)<=most):=fun m' x y i hi=>by
     rcases Nat.lt_or_ge j i with z | z
     ·exact AL.o i z
     ·have ei:i=j:=by omega
      rw [ei];exact ⟨m',x,y⟩
    have few:=RR.few;obtain ⟨rl,QM⟩:∃ rl,r.l.length=rl:=⟨_,rfl⟩;rw [QM] at GA LA few TD;have HW:ag (∀ w',Gw wS w'->Gw wS w'/\w'.cell? ⟨b,off+j,none⟩=some (BY (r.p))):=fun w' gg=>⟨gg,(gg.cell _ _ hb).trans dq⟩
    have QN:ag (∃ L,r.l=L):=⟨_,rfl⟩;obtain ⟨L,hL⟩:=QN.o;rw [hL] at GA LA FI;generalize r.p=rp at dq LA HW;have qn:∀ W:World,(binOp .eql 39 (BY rp) (.pointer none)).run prog W=.ok (.bool false) W:=fun _=>by kernel_rfl
    have wk:IntKind.i64.wrap ((j:Int)+1)=(kk:Int):=by rw [IntKind.wrap_i64];omega
    have kn:(kk:Int)<=(n:Int):=by omega
    have QO:kk<=n:=by omega
    have k00:(0:Int)<=(kk:Int):=by omega
    have HKK:ag (j+1=kk):=Gm;clear ci e DR RR LV MT AL QM QN hL jl Gm;by_cases dk:d=kk
    ·have nk:n=kk:=by omega
     have GB:ag (∀ (W:World) (xo:Option Addr) (xc:Nat),Gw wS W->EL W xo L->Calls prog 68 #[.slice xo rl xc,.slice (some ⟨b,off,none⟩) 0 0] W fun e w'=>(∃ G:Int,e=.returned (AI G)/\(ij L (rs.drop kk) G/\-(rl:Int)<=G/\G<=rl))/\Gw W w'):=fun W xo xc gg hx=>by
      have:=GA.o W xo (some ⟨b,off,none⟩) xc 0 gg hx (fun h0=>by rw [List.length_drop,LN.o] at h0;omega)
      rw [nk,Nat.sub_self] at this;exact this
     have dk':=dk.symm;subst dk';have nk':=nk.symm;subst nk';clear GA;go_wp2_with fail;go_region_held3 (fun w'=>Gw wS w'/\w'.cell? ⟨b,off+j,none⟩=some (BY rp))
      ((refine HW.o _ ?_;(repeat (first | exact Gw.refl _ | exact And.left (by assumption) | exact ag.o (by assumption) | refine Gw.drew ?_ | refine Gw.trans ?_ (by assumption)));done))
      ((
       first
       | (go_at_call_of 69 (BY rp);refine (LA.o _ (by repeat (first | exact Gw.refl _ | exact And.left (by assumption) | exact ag.o (by assumption) | refine Gw.drew ?_ | refine Gw.drewN ?_ _))).mono ?_;rintro ex wA ⟨⟨oh,cA,rfl,xf⟩,gA⟩;have KA:ag (∀ W,Gw wA W->EL W oh L):=(fun W gg=>xf.gw gg);have FA:ag (Gw wS wA):=(Gw.trans (by repeat (first | exact Gw.refl _ | exact And.left (by assumption) | exact ag.o (by assumption) | refine Gw.drew ?_ | refine Gw.drewN ?_ _)) gA);clear xf gA)
       | (go_at_call 68;refine (GB.o _ oh cA (by repeat (first | exact Gw.refl _ | exact And.left (by assumption) | exact ag.o (by assumption) | refine Gw.drew ?_ | refine Gw.drewN ?_ _)) (by first | exact KA.o _ (Gw.refl _) | exact KA.o _ (Gw.drew (Gw.refl _)))).mono ?_;rintro ex wC ⟨⟨g,rfl,gr⟩,gC⟩;have rN:ag (ij L (rs.drop kk) g/\-(rl:Int)<=g/\g<=rl):=gr;have FC:ag (Gw wS wC):=(Gw.trans (by repeat (first | exact Gw.refl _ | exact And.left (by assumption) | exact ag.o (by assumption) | refine Gw.drew ?_ | refine Gw.drewN ?_ _)) gC);clear gC gr)))
     all_goals
      obtain ⟨m',x1,x2,x3⟩:=FI.o g rN.o.1;have G9:ag (Gw w wC):=G.o.trans FC.o;have X2:ag (aS (aI (rs.drop j)) m'):=x2;have X3:ag (m'<=tot (rs.drop j)):=x3;have gb:=rN.o.2;have wg:IntKind.i64.wrap ((m:Int)+g)=(m:Int)+g:=by rw [IntKind.wrap_i64];omega
      clear x2 FC FI rN;by_cases cY:most<(m':Int)
      ·have tb:decide (most<(m:Int)+g)=true:=by rw [<-x1];simpa using cY
       have ak:ag (fA l rs most 0 false):=.inr ⟨rfl,rfl,.inl ⟨j,m',X2.o,cY⟩⟩;clear cY;go_wp2_with fail;go_ret2;exact ⟨⟨0,false,rfl,ak.o⟩,G9.o⟩
      ·have tb:decide (most<(m:Int)+g)=false:=by rw [<-x1];simpa using cY
       have Gn:ag (∀ i,j<=i->∃ m,aS (aI (rs.drop i)) m/\(m:Int)<=most):=pL.o m' X2.o (by omega)
       clear cY pL;go_wp2_with fail;go_roundg j
       case measure=>omega
       case rel=>exact ⟨j,m',by first | rw [wg,x1] | rw [x1],by go_num,by omega,by omega,by omega,X3,X2,Gn,G9⟩
    ·have d1:¬ (d:Int)=(kk:Int):=by omega
     have d2:(kk:Int)<=(d:Int):=by omega
     have d3:¬ d=kk:=dk;have d4:kk<=d:=by omega
     have d5:(n:Int)<=(d:Int):=by omega
     have GB:ag (∀ (W:World) (xo:Option Addr) (xc:Nat),Gw wS W->EL W xo L->Calls prog 68 #[.slice xo rl xc,.slice (some ⟨b,off+kk,none⟩) (n-kk) (d-kk)] W fun e w'=>(∃ G:Int,e=.returned (AI G)/\(ij L (rs.drop kk) G/\-(rl:Int)<=G/\G<=rl))/\Gw W w'):=fun W xo xc gg hx=>GA.o W xo (some ⟨b,off+kk,none⟩) xc (d-kk) gg hx (fun _=>rfl)
     clear GA;go_wp2_with fail;go_region_held3 (fun w'=>Gw wS w'/\w'.cell? ⟨b,off+j,none⟩=some (BY rp))
      ((refine HW.o _ ?_;(repeat (first | exact Gw.refl _ | exact And.left (by assumption) | exact ag.o (by assumption) | refine Gw.drew ?_ | refine Gw.trans ?_ (by assumption)));done))
      ((
       first
       | (go_at_call_of 69 (BY rp);refine (LA.o _ (by repeat (first | exact Gw.refl _ | exact And.left (by assumption) | exact ag.o (by assumption) | refine Gw.drew ?_ | refine Gw.drewN ?_ _))).mono ?_;rintro ex wA ⟨⟨oh,cA,rfl,xf⟩,gA⟩;have KA:ag (∀ W,Gw wA W->EL W oh L):=(fun W gg=>xf.gw gg);have FA:ag (Gw wS wA):=(Gw.trans (by repeat (first | exact Gw.refl _ | exact And.left (by assumption) | exact ag.o (by assumption) | refine Gw.drew ?_ | refine Gw.drewN ?_ _)) gA);clear xf gA)
       | (go_at_call 68;refine (GB.o _ oh cA (by repeat (first | exact Gw.refl _ | exact And.left (by assumption) | exact ag.o (by assumption) | refine Gw.drew ?_ | refine Gw.drewN ?_ _)) (by first | exact KA.o _ (Gw.refl _) | exact KA.o _ (Gw.drew (Gw.refl _)))).mono ?_;rintro ex wC ⟨⟨g,rfl,gr⟩,gC⟩;have rN:ag (ij L (rs.drop kk) g/\-(rl:Int)<=g/\g<=rl):=gr;have FC:ag (Gw wS wC):=(Gw.trans (by repeat (first | exact Gw.refl _ | exact And.left (by assumption) | exact ag.o (by assumption) | refine Gw.drew ?_ | refine Gw.drewN ?_ _)) gC);clear gC gr)))
     all_goals
      obtain ⟨m',x1,x2,x3⟩:=FI.o g rN.o.1;have G9:ag (Gw w wC):=G.o.trans FC.o;have X2:ag (aS (aI (rs.drop j)) m'):=x2;have X3:ag (m'<=tot (rs.drop j)):=x3;have gb:=rN.o.2;have wg:IntKind.i64.wrap ((m:Int)+g)=(m:Int)+g:=by rw [IntKind.wrap_i64];omega
      clear x2 FC FI rN;by_cases cY:most<(m':Int)
      ·have tb:decide (most<(m:Int)+g)=true:=by rw [<-x1];simpa using cY
       have ak:ag (fA l rs most 0 false):=.inr ⟨rfl,rfl,.inl ⟨j,m',X2.o,cY⟩⟩;clear cY;go_wp2_with fail;go_ret2;exact ⟨⟨0,false,rfl,ak.o⟩,G9.o⟩
      ·have tb:decide (most<(m:Int)+g)=false:=by rw [<-x1];simpa using cY
       have Gn:ag (∀ i,j<=i->∃ m,aS (aI (rs.drop i)) m/\(m:Int)<=most):=pL.o m' X2.o (by omega)
       clear cY pL;go_wp2_with fail;go_roundg j
       case measure=>omega
       case rel=>exact ⟨j,m',by first | rw [wg,x1] | rw [x1],by go_num,by omega,by omega,by omega,X3,X2,Gn,G9⟩
theorem bI.kp:Kp bI:=⟨fun h k=>h.keep k,fun h=>h.lt⟩
structure cS (w:World) (p b:Nat) (rs:List (Option Rn)) (eps buf B W:Int):Prop where
 blk:∃ c,40<=c/\w.heap[p]?=some (.cells #[AI eps,AI buf,.slice (some ⟨b,0,none⟩) 40 c,AI B,AI W] 153 (0,0))
 row:∃ x:List Value,w.heap[b]?=some (.cells (rs.map ptr++x).toArray 60 (0,0))
 len:rs.length=40
 runs:∀ r,some r∈rs->RA bI w r/\¬ r.S p/\¬ r.S b
 ne:b≠p
 e0:2<=eps
 e1:eps<=64
 b0:1<=buf
 b1:buf<=4294967296
section
variable {w w':World} {p b:Nat} {rs:List (Option Rn)} {eps buf B W:Int}
theorem cS.plt (h:cS w p b rs eps buf B W):p<w.heap.size:=h.blk.elim fun _ x=>aC x.2
theorem cS.blt (h:cS w p b rs eps buf B W):b<w.heap.size:=h.row.elim fun _ x=>aC x
theorem cS.fz (h:cS w p b rs eps buf B W) (i:Nat):w.frozen? ⟨b,i,none⟩=false:=h.row.elim fun _ x=>bT x
theorem cS.gw (h:cS w p b rs eps buf B W) (g:Gw w w'):cS w' p b rs eps buf B W :=
 ⟨h.blk.elim fun c x=>⟨c,x.1,(g.below.block p (aC x.2)).trans x.2⟩,h.row.elim fun y x=>⟨y,(g.below.block b (aC x)).trans x⟩,h.len,fun r hr=>⟨(h.runs r hr).1.gw bI.kp g,(h.runs r hr).2⟩,h.ne,h.e0,h.e1,h.b0,h.b1⟩
theorem cS.c2 (h:cS w p b rs eps buf B W):∃ c,40<=c/\w.cell? ⟨p,2,none⟩=some (.slice (some ⟨b,0,none⟩) 40 c):=h.blk.elim fun c x=>⟨c,x.1,aj x.2 rfl⟩
variable {i:Nat}
theorem cS.cell (h:cS w p b rs eps buf B W) (hi:i<40):w.cell? ⟨b,i,none⟩=some (ptr (rs.getD i none)):=by
 have hl:i<rs.length:=by rw [h.len];exact hi
 obtain ⟨y,x⟩:=h.row;refine aj x ?_;rw [List.getElem?_toArray,List.getElem?_append_left (by simpa using hl),List.getElem?_map,List.getElem?_eq_getElem hl,fs hl]
 rfl
end
theorem QP:(prog.info? 60).map (fun i=>(i.zero,i.size,i.bytes))=some (some (.pointer none),1,8):=by kernel_rfl
theorem ab5 (w:World):(Instr.makeSlice 59 (AI 40) (AI 40)).run prog w=.ok (.slice (some ⟨w.heap.size,0,none⟩) 40 40) (w.alloc (.cells (madeCells #[.pointer none] 40) 60)):=by
 obtain ⟨i,hi,qZ,hs,hb⟩:=info_parts QP;exact run_make_row (P:=prog) 59 60 i (.pointer none) underlying59 hi qZ hs rfl .i64 .i64 40 (by rw [hb];omega) (by omega) w
theorem ab6:madeCells #[Value.pointer none] 40=((List.replicate 40 (none:Option Rn)).map ptr).toArray:=by
 rw [O8];refine Array.ext_getElem? fun i=>?_
 by_cases h:i<40
 ·have e1:(madeCells #[Value.pointer none] 40)[i]?=some (.pointer none):=by simp [madeCells,h,Nat.mod_one]
  have e2:((List.replicate 40 (Value.pointer none)).toArray)[i]?=some (.pointer none):=by rw [List.getElem?_toArray,List.getElem?_replicate,if_pos h]
  rw [e1,e2]
 ·have e1:(madeCells #[Value.pointer none] 40)[i]?=none:=Array.getElem?_eq_none (by simp [madeCells];omega)
  have e2:((List.replicate 40 (Value.pointer none)).toArray)[i]?=none:=by rw [List.getElem?_toArray,List.getElem?_replicate,if_neg h]
  rw [e1,e2]
theorem QR (eps buf:Int) (w:World) :
  Calls prog 77 #[AI eps,AI buf] w fun e w'=>((¬ eK eps buf/\e=.returned (.tuple #[.pointer none,AI 1]))\/(eK eps buf/\∃ p b,e=.returned (.tuple #[BY p,AI 0])/\w.heap.size<=p/\w.heap.size<=b/\cS w' p b (List.replicate 40 none) eps buf 0 0))/\Gw w w':=by
 have NO:(eps<2\/(¬ eps<2/\64<eps)\/(¬ eps<2/\¬ 64<eps/\buf<1)\/(¬ eps<2/\¬ 64<eps/\¬ buf<1/\4294967296<buf))/\¬ eK eps buf\/eK eps buf:=by
  by_cases h:eK eps buf
  ·exact .inr h
  ·refine .inl ⟨?_,h⟩
   unfold eK at h;omega
 rcases NO with ⟨a,b⟩ | a
 ·have BB:ag (¬ eK eps buf):=b
  clear b;rcases a with a | ⟨a,b⟩ | ⟨a,b,c⟩ | ⟨a,b,c,d⟩
  ·have t1:decide (eps<2)=true:=by simpa using a
   clear a;go_enter func77,ntmps77;go_wp2_with fail;go_ret2;exact ⟨.inl ⟨BB.o,rfl⟩,Gw.refl w⟩
  ·have t1:decide (eps<2)=false:=by simpa using a
   have t2:decide (64<eps)=true:=by simpa using b
   clear a b;go_enter func77,ntmps77;go_wp2_with fail;go_ret2;exact ⟨.inl ⟨BB.o,rfl⟩,Gw.refl w⟩
  ·have t1:decide (eps<2)=false:=by simpa using a
   have t2:decide (64<eps)=false:=by simpa using b
   have t3:decide (buf<1)=true:=by simpa using c
   clear a b c;go_enter func77,ntmps77;go_wp2_with fail;go_ret2;exact ⟨.inl ⟨BB.o,rfl⟩,Gw.refl w⟩
  ·have t1:decide (eps<2)=false:=by simpa using a
   have t2:decide (64<eps)=false:=by simpa using b
   have t3:decide (buf<1)=false:=by simpa using c
   have t4:decide (4294967296<buf)=true:=by simpa using d
   clear a b c d;go_enter func77,ntmps77;go_wp2_with fail;go_ret2;exact ⟨.inl ⟨BB.o,rfl⟩,Gw.refl w⟩
 ·have AA:ag (eK eps buf):=a
  obtain ⟨⟨a1,a2⟩,a3,a4⟩:=a;have t1:decide (eps<2)=false:=by simpa using a1
  have t2:decide (64<eps)=false:=by simpa using a2
  have t3:decide (buf<1)=false:=by simpa using a3
  have t4:decide (4294967296<buf)=false:=by simpa using a4
  obtain ⟨W1,lF⟩:∃ W1,w.alloc (.cells (madeCells #[.pointer none] 40) 60)=W1:=⟨_,rfl⟩;obtain ⟨bq,aE⟩:∃ b,w.heap.size=b:=⟨_,rfl⟩;have mk:=ab5 w;rw [lF,aE] at mk;have HC:ag (cS (W1.alloc (.cells #[AI eps,AI buf,.slice (some ⟨bq,0,none⟩) 40 40,AI 0,AI 0] 153)) W1.heap.size bq (List.replicate 40 none) eps buf 0 0):=by
   have s1:W1.heap.size=bq+1:=by rw [<-lF,<-aE];simp
   refine ⟨⟨40,Nat.le_refl _,heap_alloc_new _ _⟩,⟨[],?_⟩,by simp,(fun r hr=>by simp at hr),by omega,a1,a2,a3,a4⟩
   rw [List.append_nil,heap_alloc_old _ _ (by omega),<-lF,<-aE,<-ab6]
   exact heap_alloc_new _ _
  have GG:ag (Gw w W1/\w.heap.size<=bq):=⟨by rw [<-lF];exact (Gw.refl w).alloc _ _,Nat.le_of_eq aE⟩
  clear a1 a2 a3 a4 lF aE;go_enter func77,ntmps77;go_wp2_with fail;go_ret2;exact ⟨.inr ⟨AA.o,_,bq,rfl,GG.o.1.size,GG.o.2,HC.o⟩,GG.o.1.alloc _ _⟩
variable {w:World} {r:Rn}
theorem ab7 (h:RA bI w r) (q:Int) :
  Calls prog 135 #[BY (r.p),By q] w fun e w'=>e=.returned (.tuple #[(de (look ah.k q r.l)).1,.bool (de (look ah.k q r.l)).2])/\Gw w w':=by
 have:=aaM h.h h.ok.up q
 rw [Ot h.ok.rise] at this;exact this
variable {p:Nat} {rs:List (Option Rn)} {eps buf:Int}
theorem ab8 {rb:Nat} {B W:Int} (h:cS w p rb rs eps buf B W) (j:Nat) (hj:j<=40) (q:Int) :
  Calls prog 111 #[BY p,AI (j:Int),By q] w fun e w'=>e=.returned (.tuple #[(de (nw q (rs.drop j))).1,.bool (de (nw q (rs.drop j))).2])/\Gw w w':=by
 have HC:ag _:=h;obtain ⟨A,hA⟩:∃ A,de (nw q (rs.drop j))=A:=⟨_,rfl⟩;have ak:ag _:=hA;rw [hA];clear h hA;obtain ⟨bq,aE⟩:∃ b,w.heap.size=b:=⟨_,rfl⟩;have BQ:ag _:=aE;have B0:ag (aT w [(bq,#[By 0,By 0,.bool false],75)] (w.alloc (.cells #[By 0,By 0,.bool false] 75))):=by rw [<-aE];exact (aT.nil (Gw.refl w)).add _ _
 clear aE;go_enter func111,ntmps111;go_wp2_with fail;rw [BQ.o];generalize w.alloc (.cells #[By 0,By 0,.bool false] 75)=w1 at B0 ⊢;go_loopg [8] 41 (fun gg s8 wr=>∃ i:Nat,s8=AI (i:Int)/\i<=40/\41-i<=gg/\ag (aT w [(bq,#[By 0,By 0,.bool false],75)] wr)/\ag (de (nw q (rs.drop i))=A))
 case atStart=>exact ⟨j,rfl,hj,by omega,B0,ak⟩
 case round =>
  clear B0 ak;obtain ⟨i,rfl,a1,a2,B',N⟩:=hrel;obtain ⟨wS,bj⟩:∃ wx,wx=wr:=⟨_,rfl⟩;subst bj;have pM:=HC.o.gw B'.o.gw0;obtain ⟨cc,_,c2⟩:=pM.c2;have pl:=pM.plt;have bl:=pM.blt;by_cases ar:i<40
  ·have eZ:(i:Int)<40:=by omega
   have ci:=pM.cell ar;have DR:=rj (rs:=rs) (i:=i) (by rw [HC.o.len];exact ar)
   rcases iW rs i with e | ⟨r,e⟩
   ·rw [e] at ci DR
    have N':ag (de (nw q (rs.drop (i+1)))=A):=by have:=N.o;rw [DR,vZ] at this;exact this
    have dq:wS.cell? ⟨rb,i,none⟩=some (.pointer none):=ci;clear ci e DR N pM;go_wp2_with fail;go_roundg (41-(i+1))
    case measure=>omega
    case rel=>exact ⟨i+1,by go_num,by omega,Nat.le_refl _,B',N'⟩
   ·rw [e] at ci DR
    have dq:wS.cell? ⟨rb,i,none⟩=some (BY (r.p)):=ci;have RR:=(pM.runs r (jo (by rw [HC.o.len];exact ar) e)).1
    obtain ⟨x,y,z,t,f1,f2,f3⟩:=nV (look ah.k q r.l);have GT:ag (Calls prog 135 #[BY (r.p),By q] wS fun e w'=>e=.returned (.tuple #[.agg #[By x,By y,.bool z],.bool t])/\Gw wS w'):=by
     have:=ab7 RR q
     rw [f1] at this;exact this
    have NR:=N.o;rw [DR,nU] at NR;have NT:ag (t=true->A=(.agg #[By x,By y,.bool z],true)):=fun h=>by
     rw [f2] at h;cases hk:look ah.k q r.l with
     | none=>rw [hk] at h;cases h
     | some en =>
      rw [<-NR,hk];show de (some en)=_;rw [<-hk,f1,f2,h]
    have NF:ag (t=false->de (nw q (rs.drop (i+1)))=A):=fun h=>by
     rw [f2] at h;cases hk:look ah.k q r.l with
     | none=>rw [hk] at NR;exact NR
     | some en=>rw [hk] at h;cases h
    generalize r.p=rp at dq GT;clear ci e DR N RR f1 f2 f3 NR pM;go_wp2_with fail;refine Calls.mono GT.o ?_;rintro e u1 ⟨rfl,gg⟩;have B1:=(B'.o.gw gg).add #[By x,By y,.bool z] 75;obtain ⟨bx,dT⟩:∃ b,u1.heap.size=b:=⟨_,rfl⟩;have BX:ag _:=dT;rw [dT] at B1;clear gg GT dT;go_upto_region 6 with fail;rw [BX.o];generalize u1.alloc (.cells #[By x,By y,.bool z] 75)=U at B1 ⊢;have E0:U.heap[bq]?=some (.cells #[By 0,By 0,.bool false] 75 (0,0)):=B1.lie (bq,#[By 0,By 0,.bool false],75) (by simp)
    have E1:U.heap[bx]?=some (.cells #[By x,By y,.bool z] 75 (0,0)):=B1.lie (bx,#[By x,By y,.bool z],75) (by simp)
    have GU:ag _:=B1.gw0;cases t with
    | false =>
     have B2:ag (aT w [(bq,#[By 0,By 0,.bool false],75)] U):=⟨B1.gw0,fun x hx=>by rw [List.mem_singleton.1 hx];exact E0⟩
     have N':ag _:=NF.o rfl;clear E0 E1 B1 B' NF NT;go_wp2_with fail;go_roundg (41-(i+1))
     case measure=>omega
     case rel=>exact ⟨i+1,by go_num,by omega,Nat.le_refl _,B2,N'⟩
    | true =>
     have e:=NT.o rfl;subst e;obtain ⟨x0,x1,x2,_⟩:=kH E1;obtain ⟨m0,m1,m2,z0,z1,z2,bl',TT⟩:=kH E0;have T3:=TT x y z;clear E0 E1 B1 B' NT NF TT;go_wp2_with fail;exact bodyPost_ret (v:=.tuple #[.agg #[By x,By y,.bool z],.bool true]) (by simp [results,results111,go_sem,T3.1,T3.2.1,T3.2.2]) rfl ⟨rfl,((GU.o.setCell (Nat.le_of_eq BQ.o) _).setCell (Nat.le_of_eq BQ.o) _).setCell (Nat.le_of_eq BQ.o) _⟩
  ·have ei:i=40:=by omega
   subst ei;have e:A=(.agg #[By 0,By 0,.bool false],false):=by
    rw [<-N.o,List.drop_of_length_le (by rw [HC.o.len];exact Nat.le_refl _)]
    rfl
   subst e;have E0:wS.heap[bq]?=some (.cells #[By 0,By 0,.bool false] 75 (0,0)):=B'.o.lie (bq,#[By 0,By 0,.bool false],75) (by simp)
   have GU:ag _:=B'.o.gw0;obtain ⟨m0,m1,m2,z0,z1,z2,bl',TT⟩:=kH E0;have T3:=TT 0 0 false;clear E0 B' N TT pM;go_wp2_with fail;exact bodyPost_ret (v:=.tuple #[.agg #[By 0,By 0,.bool false],.bool false]) (by simp [results,results111,go_sem,T3.1,T3.2.1,T3.2.2]) rfl ⟨rfl,((GU.o.setCell (Nat.le_of_eq BQ.o) _).setCell (Nat.le_of_eq BQ.o) _).setCell (Nat.le_of_eq BQ.o) _⟩
def AQ (up:List (Option Rn)) (e:ah):Bool:=e.g&&aI up e.k
def cd (up:List (Option Rn)) (l:List ah):List Int:=(l.filter (AQ up)).map ah.k
def rO (A:List Int):List Value:=A.map (Value.int .u64)
theorem ab9 (up:List (Option Rn)) (l:List ah):(cd up l).length<=l.length:=by unfold cd;rw [List.length_map];exact List.length_filter_le ..
theorem aca (up:List (Option Rn)) (l:List ah) (e:ah):cd up (l++[e])=cd up l++(if AQ up e=true then [e.k] else []):=by
 unfold cd;rw [List.filter_append,List.map_append,List.filter_cons];split<;>rfl
theorem acb {rb:Nat} {B W:Int} (h:cS w p rb rs eps buf B W) (ao:Option Addr) (c:Nat) (l:List ah) (hl:EL w ao l) (hn:l.length<=2000000) (j:Nat) (hj:j<40) :
  Calls prog 80 #[BY p,.slice ao l.length c,AI (j:Int)] w fun e w'=>(∃ ob m oc,e=.returned (.slice (some ⟨ob,0,none⟩) m oc)/\(cd (rs.drop (j+1)) l).length=m/\KS w' (some ⟨ob,0,none⟩) m (fun i=>(cd (rs.drop (j+1)) l).getD i 0))/\Gw w w':=by
 have HE:ag (EL w ao l):=hl;have HC:ag (cS w p rb rs eps buf B W):=h;obtain ⟨n,au⟩:∃ n,l.length=n:=⟨_,rfl⟩;have LN:ag (l.length=n):=au;rw [au] at hn ⊢;obtain ⟨up,tv⟩:∃ up,rs.drop (j+1)=up:=⟨_,rfl⟩;have UP:ag (rs.drop (j+1)=up):=tv;rw [tv];have NW:ag (∀ W' q,Gw w W'->Calls prog 111 #[BY p,AI ((j+1:Nat):Int),By q] W' fun e w'=>e=.returned (.tuple #[(de (nw q up)).1,.bool (de (nw q up)).2])/\Gw W' w'):=fun W' q gg=>by
  have:=ab8 (h.gw gg) (j+1) (by omega) q
  rw [tv] at this;exact this
 obtain ⟨k1,pj⟩:∃ k1,j+1=k1:=⟨_,rfl⟩;rw [pj] at NW;have wk:IntKind.i64.wrap ((j:Int)+1)=(k1:Int):=by rw [IntKind.wrap_i64];omega
 obtain ⟨ii,aQ,qZ,gH,aR⟩:=info_parts qv;have O1:ag ((w.alloc (.cells #[] 42)).ownsRow w.heap.size 42 1 (.slice (some ⟨w.heap.size,0,none⟩) 0 0) 0 (rO (cd up (l.take 0)))):=World.ownsRow_made w #[] 0 (Nat.le_refl _) (Nat.zero_le _) rfl;have G1:ag (Gw w (w.alloc (.cells #[] 42))):=(Gw.refl w).alloc _ _;clear h hl au tv pj;go_enter func80,ntmps80;go_wp2_with fail;generalize w.alloc (.cells #[] 42)=w1 at O1 G1 ⊢;go_loopg [7,8] n (fun gg s7 s8 wr=>∃ (i m ob oc:Nat),s7=.slice (some ⟨ob,0,none⟩) m oc/\s8=AI (i:Int)/\i<=n/\n-i<=gg/\m<=i/\ag ((cd up (l.take i)).length=m)/\ag (wr.ownsRow w.heap.size 42 1 (.slice (some ⟨ob,0,none⟩) m oc) m (rO (cd up (l.take i))))/\ag (Gw w wr))
 case atStart=>exact ⟨0,0,w.heap.size,0,rfl,rfl,Nat.zero_le _,by omega,Nat.le_refl _,(show ag _ from rfl),O1,G1⟩
 case round =>
  clear O1 G1;obtain ⟨i,m,ob,oc,rfl,rfl,a1,a2,a3,ML,O,G⟩:=hrel;obtain ⟨wS,bj⟩:∃ wx,wx=wr:=⟨_,rfl⟩;subst bj;by_cases ar:i<n
  ·have eZ:(i:Int)<(n:Int):=by omega
   have hi:i<l.length:=by rw [LN.o];exact ar
   obtain ⟨lb,lf,rfl,eR,cL⟩:=(HE.o.gw G.o).cells (by omega)
   obtain ⟨c0,c1,c2⟩:=cL i hi;have TK:l.take (i+1)=l.take i++[l.getD i ax]:=by rw [List.take_add_one,List.getElem?_eq_getElem hi,jP hi];rfl
   have LK:=aca up (l.take i) (l.getD i ax);rw [<-TK] at LK;have bd:=(HE.o.ok hi).1;obtain ⟨x,hx⟩:∃ x,l.getD i ax=x:=⟨_,rfl⟩;rw [hx] at c0 c1 c2 LK bd;obtain ⟨xk,xv,xg⟩:=x;have d0:wS.cell? ⟨lb,lf+i*3,none⟩=some (By xk):=c0;have d2:wS.cell? ⟨lb,lf+i*3+2,none⟩=some (.bool xg):=c2;obtain ⟨a,b,z,t,f1,f2,f3⟩:=nV (nw xk up);have NQ:ag (Calls prog 111 #[BY p,AI (k1:Int),By xk] wS fun e w'=>e=.returned (.tuple #[.agg #[By a,By b,.bool z],.bool t])/\Gw wS w'):=by
    have:=NW.o wS xk G.o
    rw [f1] at this;exact this
   have AR:ag (cd up (l.take (i+1))=cd up (l.take i)++(if (xg&&(t&&!z))=true then [xk] else [])):=by
    show _=_;rw [LK];have e:AQ up ⟨xk,xv,xg⟩=(xg&&(t&&!z)):=by
     show (xg&&gI (nw xk up))=_;rw [f3]
    rw [e]
   have BD:ag (0<=xk/\xk<18446744073709551616):=bd;have CE:ag (∀ W',Gw wS W'->W'.cell? ⟨lb,lf+i*3,none⟩=some (By xk)/\W'.cell? ⟨lb,lf+i*3+2,none⟩=some (.bool xg)/\lb<W'.heap.size):=fun W' gg=>⟨(gg.cell _ _ eR).trans d0,(gg.cell _ _ eR).trans d2,Nat.lt_of_lt_of_le eR gg.size⟩
   clear cL c0 c1 c2 TK LK hx f1 f2 f3 hi bd;go_wp2_with fail;refine Calls.mono NQ.o ?_;rintro e u1 ⟨rfl,gg⟩;obtain ⟨bx,dT⟩:∃ b,u1.heap.size=b:=⟨_,rfl⟩;have BX:ag (u1.heap.size=bx):=dT;have E1:(u1.alloc (.cells #[By a,By b,.bool z] 75)).heap[bx]?=some (.cells #[By a,By b,.bool z] 75 (0,0)):=by rw [<-dT];exact heap_alloc_new _ _
   have GU:ag (Gw wS (u1.alloc (.cells #[By a,By b,.bool z] 75))):=gg.alloc _ _;clear gg NQ dT;go_upto_region 6 with fail;rw [BX.o];generalize u1.alloc (.cells #[By a,By b,.bool z] 75)=U at E1 GU ⊢;obtain ⟨x0,x1,x2,_,_,_,bl,_⟩:=kH E1;obtain ⟨g0,g2,gl⟩:=CE.o U GU.o;have OU:ag (U.ownsRow w.heap.size 42 1 (.slice (some ⟨ob,0,none⟩) m oc) m (rO (cd up (l.take i)))):=Oo O.o GU.o;have xm:ag (Gw w U):=G.o.trans GU.o;have wz:=xm.o.size;clear E1 O CE GU d0 d2;by_cases yes:xg=true/\t=true/\z=false
   ·obtain ⟨rfl,rfl,rfl⟩:=yes
    go_wp2_with (at_builtin;refine wpList_append_own _ rfl _ _ 83 rfl w.heap.size 42 ii (By 0) 1 8 underlying83 aQ qZ gH aR rfl (by decide) _ m _ rfl (OU.o.alloc _) ⟨U.heap.size,0,none⟩ 1 1 [By xk] rfl rfl (uN U xk) (fun u hu=>by simp at hu;subst hu;rfl) (by simp only [maxLen];omega) (by omega) (by simp;omega) ?_)
    intro v6 w6 r1 r2 r3;obtain ⟨b6,c6,rfl,hb6,_,_⟩:=dh r1 (by simpa using r3)
    have G6:ag (Gw w w6):=(xm.o.alloc _ _).grown r2 (fun q hq=>(World.ownsRow.lt OU.o q hq).1)
    have LE:cd up (l.take (i+1))=cd up (l.take i)++[xk]:=AR.o;have O6:ag (w6.ownsRow w.heap.size 42 1 (.slice (some ⟨b6,0,none⟩) (m+1) c6) (m+1) (rO (cd up (l.take (i+1))))):=by
     show World.ownsRow _ _ _ _ _ _ _;rw [LE];unfold rO at r1 ⊢;rw [List.map_append];exact r1
    have M6:ag ((cd up (l.take (i+1))).length=m+1):=by show _=_;rw [LE,List.length_append,ML.o];rfl
    clear r1 r2 r3 hb6 LE OU AR ML;go_wp2_with fail;go_roundg (n-(i+1))
    case measure=>omega
    case rel=>exact ⟨i+1,m+1,b6,c6,rfl,by go_num,by omega,Nat.le_refl _,by omega,M6,O6,G6⟩
   ·have no:(xg&&(t&&!z))=false:=by
     cases xg<;>cases t<;>cases z<;>simp_all
    have LE:cd up (l.take (i+1))=cd up (l.take i):=by rw [AR.o,if_neg (by rw [no];decide),List.append_nil]
    have O6:ag (U.ownsRow w.heap.size 42 1 (.slice (some ⟨ob,0,none⟩) m oc) m (rO (cd up (l.take (i+1))))):=by rw [LE];exact OU
    have M6:ag ((cd up (l.take (i+1))).length=m):=by rw [LE];exact ML
    clear LE OU AR ML yes;cases xg with
    | false =>
     clear no;go_wp2_with fail;go_roundg (n-(i+1))
     case measure=>omega
     case rel=>exact ⟨i+1,m,ob,oc,rfl,by go_num,by omega,Nat.le_refl _,by omega,M6,O6,xm⟩
    | true =>
     cases t with
     | false =>
      clear no;go_wp2_with fail;go_roundg (n-(i+1))
      case measure=>omega
      case rel=>exact ⟨i+1,m,ob,oc,rfl,by go_num,by omega,Nat.le_refl _,by omega,M6,O6,xm⟩
     | true =>
      cases z with
      | false=>cases no
      | true =>
       clear no;go_wp2_with fail;go_roundg (n-(i+1))
       case measure=>omega
       case rel=>exact ⟨i+1,m,ob,oc,rfl,by go_num,by omega,Nat.le_refl _,by omega,M6,O6,xm⟩
  ·have ei:i=n:=by omega
   subst ei;have TT:l.take i=l:=List.take_of_length_le (by rw [LN.o];exact Nat.le_refl _)
   rw [TT] at ML O;have ak:ag ((cd up l).length=m/\KS wS (some ⟨ob,0,none⟩) m (fun i=>(cd up l).getD i 0)):=by
    refine ⟨ML.o,yU O.o (Nat.le_refl _) (fun k hk=>?_) (fun k hk=>?_)⟩
    ·have nE:k<(cd up l).length:=by rw [ML.o];exact hk
     unfold rO;simp [List.getD,nE]
    ·have nE:k<(cd up l).length:=by rw [ML.o];exact hk
     have e2:(cd up l).getD k 0=(cd up l)[k]:=by simp [List.getD,nE]
     show 0<=(cd up l).getD k 0/\(cd up l).getD k 0<18446744073709551616;rw [e2];have hm:=List.getElem_mem nE;unfold cd at hm;obtain ⟨e',he',ek'⟩:=List.mem_map.1 hm;have:=(HE.o.all e' (List.mem_filter.1 he').1).1;rw [ek'] at this;exact this
   clear ML O TT;go_wp2_with fail;go_ret;exact ⟨⟨ob,m,oc,rfl,ak.o.1,ak.o.2⟩,G.o⟩
variable {n:Nat}
theorem bI.openS {S:Nat->Prop} {k v:Nat->Int} {g:Nat->Bool} {L:List (List Sg)} (h:bI w p S eps k v g n L):∃ eo ec lo lc,w.heap[p]?=some (.cells #[.slice eo n ec,AI eps,.slice lo L.length lc] 94 (0,0))/\ES w eo n k v g/\S p/\(n<=ec/\(eo=none->n=0/\ec=0))/\∀ a,eo=some a->0<n->S a.block:=by
 obtain ⟨u,base,ko,kc,lo,lc,h1,h2,h3,h4,h5,h6,h7,h8,h9⟩:=h.lies;have pu:p<u.heap.size:=(Array.getElem?_eq_some_iff.1 h4).1;refine ⟨ko,kc,lo,lc,(h3 p h5 pu).trans h4,h6.kept h7 h2 h3,(h1 p).2 ⟨h5,pu⟩,h9,fun a e z=>?_⟩
 obtain ⟨b,off,e',hb,_⟩:=h6.cells z;have:=h7 a e;rw [e] at e';cases e';exact (h1 b).2 ⟨this,hb⟩
section
variable {w:World} {p b:Nat} {rs:List (Option Rn)} {eps buf B W:Int}
variable {i:Nat}
theorem cS.put (h:cS w p b rs eps buf B W) (hi:i<40) (o:Option Rn) (ho:∀ r,o=some r->RA bI w r/\¬ r.S p/\¬ r.S b):cS (w.setCell ⟨b,i,none⟩ (ptr o)) p b (rs.set i o) eps buf B W:=by
 have gx:Gx (fun q=>q=b) w (w.setCell ⟨b,i,none⟩ (ptr o)):=(Gx.refl (fun q=>q=b) w).set (.inl rfl) i _
 have mv:∀ r,RA bI w r/\¬ r.S p/\¬ r.S b->RA bI (w.setCell ⟨b,i,none⟩ (ptr o)) r/\¬ r.S p/\¬ r.S b:=fun r ⟨q1,q2,q3⟩=>⟨q1.gx bI.kp gx (fun q hq=>by rw [hq];exact q3),q2,q3⟩
 obtain ⟨y,x⟩:=h.row;refine ⟨h.blk.elim fun c x=>⟨c,x.1,(gx.block p (aC x.2) (fun e=>h.ne e.symm)).trans x.2⟩,⟨y,?_⟩,by rw [List.length_set];exact h.len,fun r hr=>?_,h.ne,h.e0,h.e1,h.b0,h.b1⟩
 ·rw [pF x,List.setIfInBounds_toArray,List.set_append_left _ _ (by rw [List.length_map,h.len];exact hi),<-List.map_set]
 ·rcases List.mem_or_eq_of_mem_set hr with q | q
  ·exact mv r (h.runs r q)
  ·exact mv r (ho r q.symm)
end
theorem QT (l:List ah):∀ i,i<=l.length->lv (eg l) i=((l.take i).filter (fun e=>!e.g)).length
 | 0,_=>by simp [lv]
 | i+1,h=>by
  have ih:=QT l i (by omega)
  have hi:i<l.length:=by omega
  have e:l.take (i+1)=l.take i++[l.getD i ax]:=by
   rw [List.take_add_one,List.getElem?_eq_getElem hi,List.getD_eq_getElem?_getD,List.getElem?_eq_getElem hi];rfl
  rw [e,List.filter_append,List.length_append,List.filter_cons,List.filter_nil];have s:lv (eg l) (i+1)=lv (eg l) i+(if (l.getD i ax).g then 0 else 1):=rfl
  rw [s,ih];cases (l.getD i ax).g<;>simp
theorem acd (l:List ah):lv (eg l) l.length=(l.filter (fun e=>!e.g)).length:=by
 have:=QT l l.length (Nat.le_refl _)
 rwa [List.take_length] at this
theorem QU (up:List (Option Rn)):∀ l:List ah,(cd up l).length+(l.filter (fun e=>!e.g)).length<=l.length/\((cd up l).length+(l.filter (fun e=>!e.g)).length=l.length↔l.all (bB (aI up))=true)
 | []=>by simp [cd]
 | e::r=>by
  obtain ⟨a,b⟩:=QU up r;unfold cd at a b ⊢;rw [List.length_map] at a b ⊢;rw [List.filter_cons,List.filter_cons,List.all_cons,List.length_cons];have e1:AQ up e=(e.g&&aI up e.k):=rfl;have e2:bB (aI up) e=(!e.g||aI up e.k):=rfl
  rw [e1,e2];cases e.g with
  | false =>
   simp only [Bool.false_and,Bool.not_false,Bool.true_or,Bool.true_and,if_true,Bool.false_eq_true,if_false,List.length_cons];exact ⟨by omega,by rw [<-b];omega⟩
  | true =>
   cases aI up e.k with
   | true =>
    simp only [Bool.true_and,Bool.not_true,Bool.or_true,if_true,Bool.false_eq_true,if_false,List.length_cons];exact ⟨by omega,by rw [<-b];omega⟩
   | false =>
    simp only [Bool.true_and,Bool.not_true,Bool.or_self,Bool.false_and,Bool.false_eq_true,if_false,iff_false];exact ⟨by omega,by omega⟩
variable {i:Nat}
theorem Gp {l:List (Option Rn)} (hi:i<=l.length) (uq:i<=40):aH (l.take i)=l.take i++List.replicate (40-i) none:=by
 unfold aH;rw [List.take_of_length_le (by rw [List.length_take];omega),List.length_take,Nat.min_eq_left hi]
theorem ace {l:List (Option Rn)} (hi:i<l.length) (uq:i<40):(aH (l.take i)).set i (l.getD i none)=aH (l.take (i+1)):=by
 rw [Gp (Nat.le_of_lt hi) (Nat.le_of_lt uq),Gp hi uq,wh hi];have ll:(l.take i).length=i:=by rw [List.length_take];omega
 rw [List.set_append_right _ _ (by omega),ll,Nat.sub_self,show 40-i=40-(i+1)+1 by omega,List.replicate_succ,List.set_cons_zero,List.append_assoc]
 rfl
theorem acf {l:List (Option Rn)} (uq:40<=i):aH (l.take (i+1))=aH (l.take i):=by
 unfold aH;rw [List.take_take,List.take_take,List.length_take,List.length_take,show min 40 (i+1)=min 40 i by omega]
 by_cases q:l.length<=40
 ·rw [show min (i+1) l.length=min i l.length by omega]
 ·rw [show 40-min (i+1) l.length=40-min i l.length by omega]
variable {eps buf:Int} {r:Rn}
theorem acg {j:Nat} {up:List (Option Rn)} {b1 b2 b3 b4:Bool} (h1:(r.eps != eps)=b1) (h2:(((r.l.length:Nat):Int) == 0)=b2) (h3:decide (ct buf (j:Int)<(r.l.length:Int))=b3) (h4:(((cd up r.l).length:Int) != ((r.l.length:Int)-(lv (eg r.l) r.l.length:Int)))=b4):iX eps buf j up (some r)=!(b1||(b2||(b3||b4))):=by
 subst h1 h2 h3 h4;obtain ⟨a,b⟩:=QU up r.l;rw [<-acd] at a b;show (decide (0<r.l.length)&&decide ((r.l.length:Int)<=ct buf (j:Int))&&(r.eps == eps)&&r.l.all (bB (aI up)))=_;rw [Bool.eq_iff_iff];simp only [Bool.and_eq_true,decide_eq_true_eq,beq_iff_eq,Bool.not_eq_true',Bool.or_eq_false_iff,bne_eq_false_iff_eq,decide_eq_false_iff_not,beq_eq_false_iff_ne];rw [<-b];constructor
 ·rintro ⟨⟨⟨q1,q2⟩,q3⟩,q4⟩
  exact ⟨q3,by omega,by omega,by omega⟩
 ·rintro ⟨q3,q1,q2,q4⟩
  exact ⟨⟨⟨by omega,by omega⟩,q3⟩,by omega⟩
theorem ach (eps buf:Int) (ao:Option Addr) (c:Nat) (l:List (Option Rn)) (hl:l.length<=2000000) (w:World) (h:PR bI w ao l) :
  Calls prog 41 #[AI eps,AI buf,.slice ao l.length c] w fun e w'=>lJ (fun w' p rs=>∃ b,cS w' p b rs eps buf 0 0/\w.heap.size<=b) w w' e eps buf l/\Gw w w':=by
 have HP:ag _:=h;obtain ⟨n,hn⟩:∃ n,l.length=n:=⟨_,rfl⟩;have LN:ag _:=hn;have NW:ag _:=QR eps buf w;rw [hn] at hl ⊢;clear h hn;go_enter func41,ntmps41;go_wp2_with fail;refine Calls.mono NW.o ?_;rintro e w1 ⟨⟨no,rfl⟩ | ⟨ok,p,rb,rfl,hp,QV,hd⟩,g1⟩
 ·have ak:ag (lJ (fun w' p rs=>∃ b,cS w' p b rs eps buf 0 0/\w.heap.size<=b) w w1 (.returned (.tuple #[.pointer none,AI 1])) eps buf l):=⟨1,.inl ⟨rfl,.inl no⟩,.inl ⟨by decide,rfl⟩⟩
  have G1:ag _:=g1;clear g1 no NW;go_wp2_with fail;go_ret2;exact ⟨ak.o,G1.o⟩
 have wX:ag _:=ok;have PQ:ag (w.heap.size<=p/\w.heap.size<=rb):=⟨hp,QV⟩;have QW:ag (cS w1 p rb (aH (l.take 0)) eps buf 0 0):=by
  rw [Gp (Nat.zero_le _) (by omega)]
  exact hd
 have G1:ag _:=g1;clear g1 hd hp QV ok NW;go_wp2_with fail;go_loopg [10] n (fun gg iB wr=>∃ i:Nat,iB=AI (i:Int)/\i<=n/\n-i<=gg/\ag (cS wr p rb (aH (l.take i)) eps buf 0 0)/\ag (Gw w wr)/\ag (¬ ∃ r,some r∈(l.take i).drop 40))
 case atStart=>exact ⟨0,rfl,Nat.zero_le _,by omega,QW,G1,(show ag _ from fun ⟨r,hr⟩=>by simp at hr)⟩
 case round =>
  clear QW G1;obtain ⟨i,rfl,a1,a2,HD,G,NX⟩:=hrel;obtain ⟨wS,bj⟩:∃ wx,wx=wr:=⟨_,rfl⟩;subst bj;by_cases ar:i<n
  ·have eZ:(i:Int)<(n:Int):=by omega
   have hi:i<l.length:=by rw [LN.o];exact ar
   obtain ⟨lb,lo,rfl,eR,cL⟩:=(HP.o.gw bI.kp G.o).cells (by omega)
   have ci:=cL i hi;have TK:=wh hi;obtain ⟨cc,_,c2⟩:=HD.o.c2;have pl:=HD.o.plt;have bl:=HD.o.blt;clear cL;by_cases Gq:i<40
   ·have aci:(i:Int)<40:=by omega
    have acj:decide ((40:Int)<=(i:Int))=false:=by simp;omega
    have cr:=HD.o.cell Gq;have fr:wS.frozen? ⟨rb,i,none⟩=false:=HD.o.fz i;have PU:ag (cS (wS.setCell ⟨rb,i,none⟩ (ptr (l.getD i none))) p rb (aH (l.take (i+1))) eps buf 0 0):=by
     rw [<-ace hi Gq];refine HD.o.put Gq _ fun r hr=>?_
     have r0:=HP.o.runs r (jo hi hr);exact ⟨r0.gw bI.kp G.o,fun x=>by have:=bI.lt r0.h p x;have:=PQ.o.1;omega,fun x=>by have:=bI.lt r0.h rb x;have:=PQ.o.2;omega⟩
    have GU:ag (Gw w (wS.setCell ⟨rb,i,none⟩ (ptr (l.getD i none)))):=G.o.setCell PQ.o.2 _;have xr:ag (¬ ∃ r,some r∈(l.take (i+1)).drop 40):=fun ⟨r,hr⟩=>by
     rw [List.drop_of_length_le (by rw [List.length_take];omega)] at hr
     cases hr
    have clt:lb≠rb:=by
     obtain ⟨x,y,e,hb,_⟩:=HP.o.cells (by omega)
     injection e with e;injection e with e1 e2;have:=PQ.o.2;omega
    rcases iW l i with e | ⟨r,e⟩
    ·rw [e] at ci PU GU
     have dq:wS.cell? ⟨lb,lo+i,none⟩=some (.pointer none):=ci;have xu:ag (cS (wS.setCell ⟨rb,i,none⟩ (.pointer none)) p rb (aH (l.take (i+1))) eps buf 0 0):=PU;have xw:ag (Gw w (wS.setCell ⟨rb,i,none⟩ (.pointer none))):=GU;generalize ptr ((aH (l.take i)).getD i none)=pv at cr;clear ci e TK NX HD G PU GU hi;go_wp2_with fail;go_region
     all_goals go_wp2_with fail
     all_goals go_roundg (n-(i+1))
     all_goals first
      | (case measure=>omega)
      | (case rel=>exact ⟨i+1,by go_num,by omega,Nat.le_refl _,(show ag _ from xu.o.gw ((Gw.refl _).drewN _)),(show ag _ from xw.o.drewN _),xr⟩)
      | (case rel=>exact ⟨i+1,by go_num,by omega,Nat.le_refl _,(show ag _ from xu.o.gw ((Gw.refl _).drew)),(show ag _ from xw.o.drew),xr⟩)
    ·rw [e] at ci PU GU
     have dq:wS.cell? ⟨lb,lo+i,none⟩=some (BY (r.p)):=ci;have xu:ag (cS (wS.setCell ⟨rb,i,none⟩ (BY (r.p))) p rb (aH (l.take (i+1))) eps buf 0 0):=PU;have xw:ag (Gw w (wS.setCell ⟨rb,i,none⟩ (BY (r.p)))):=GU;generalize r.p=rp at dq xu xw;generalize ptr ((aH (l.take i)).getD i none)=pv at cr;clear ci e TK NX HD G PU GU hi;go_wp2_with fail;go_region
     all_goals go_wp2_with fail
     all_goals go_roundg (n-(i+1))
     all_goals first
      | (case measure=>omega)
      | (case rel=>exact ⟨i+1,by go_num,by omega,Nat.le_refl _,(show ag _ from xu.o.gw ((Gw.refl _).drew)),(show ag _ from xw.o.drew),xr⟩)
   ·have aci:¬ (i:Int)<40:=by omega
    have acj:decide ((40:Int)<=(i:Int))=true:=by simp;omega
    have PU:ag (cS wS p rb (aH (l.take (i+1))) eps buf 0 0):=by
     rw [acf (by omega)]
     exact HD.o
    rcases iW l i with e | ⟨r,e⟩
    ·rw [e] at ci
     have dq:wS.cell? ⟨lb,lo+i,none⟩=some (.pointer none):=ci;have xr:ag (¬ ∃ r,some r∈(l.take (i+1)).drop 40):=fun ⟨r,hr⟩=>by
      rw [TK,e,List.drop_append_of_le_length (by rw [List.length_take];omega)] at hr
      rcases List.mem_append.1 hr with q | q
      ·exact NX.o ⟨r,q⟩
      ·simp at q
     clear ci e TK NX HD hi;go_wp2_with fail;go_roundg (n-(i+1))
     case measure=>omega
     case rel=>exact ⟨i+1,by go_num,by omega,Nat.le_refl _,PU,G,xr⟩
    ·rw [e] at ci
     have dq:wS.cell? ⟨lb,lo+i,none⟩=some (BY (r.p)):=ci;have ak:ag (lJ (fun w' p rs=>∃ b,cS w' p b rs eps buf 0 0/\w.heap.size<=b) w wS (.returned (.tuple #[.pointer none,AI 1])) eps buf l):=⟨1,.inl ⟨rfl,.inr ⟨r,by
      rw [List.mem_iff_getElem?];exact ⟨i-40,by rw [List.getElem?_drop,show 40+(i-40)=i by omega,List.getElem?_eq_getElem hi,<-fs hi,e]⟩⟩⟩,.inl ⟨by decide,rfl⟩⟩
     generalize r.p=rp at dq;clear ci e TK NX HD hi PU;go_wp2_with fail;go_ret2;exact ⟨ak.o,G.o⟩
  ·have ei:i=n:=by omega
   subst ei;have TT:l.take i=l:=List.take_of_length_le (by rw [LN.o];exact Nat.le_refl _)
   rw [TT] at HD NX;have W0:ag (∀ W,Gw wS W->cS W p rb (aH l) eps buf 0 0):=fun W g=>HD.o.gw g
   have GS:ag _:=G;clear TT HD G HP;go_wp2_with fail;go_loopg [11] 40 (fun gg gV wr=>∃ j:Nat,gV=AI (j:Int)/\j<=40/\40-j<=gg/\ag (Gw wS wr)/\ag (fitAll eps buf (aH l) j))
   case atStart=>exact ⟨0,rfl,Nat.zero_le _,by omega,(show ag _ from Gw.refl wS),(show ag _ from fun j hj=>by omega)⟩
   case round =>
    obtain ⟨j,rfl,b1,b2,G,N⟩:=hrel;obtain ⟨wT,xx⟩:∃ wx,wx=wr:=⟨_,rfl⟩;subst xx;by_cases pO:j<40
    ·have ack:(j:Int)<40:=by omega
     have HJ:=W0.o wT G.o;obtain ⟨cc,_,c2⟩:=HJ.c2;have pl:=HJ.plt;have bl:=HJ.blt;have cj:=HJ.cell pO;rcases iW (aH l) j with e | ⟨r,e⟩
     ·rw [e] at cj
      have rL:wT.cell? ⟨rb,j,none⟩=some (.pointer none):=cj;have N':ag (fitAll eps buf (aH l) (j+1)):=fun k hk=>by
       by_cases x:k=j
       ·subst x;rw [e];rfl
       ·exact N.o k (by omega)
      clear cj e N HJ;go_wp2_with fail;go_roundg (40-(j+1))
      case measure=>omega
      case rel=>exact ⟨j+1,by go_num,by omega,Nat.le_refl _,G,N'⟩
     ·rw [e] at cj
      have RR:=(HJ.runs r (jo (by rw [HJ.len];exact pO) e)).1
      obtain ⟨eo,ec,lo',lc',hb,ur,_⟩:=RR.h.openS;obtain ⟨f0,f1,f2⟩:=zV hb;have rl:=(Array.getElem?_eq_some_iff.1 hb).1;have rL:wT.cell? ⟨rb,j,none⟩=some (BY (r.p)):=cj;have few:=RR.few;have ak:ag (∀ W,iX eps buf j ((aH l).drop (j+1)) (some r)=false->lJ (fun w' p rs=>∃ b,cS w' p b rs eps buf 0 0/\w.heap.size<=b) w W (.returned (.tuple #[.pointer none,AI 150])) eps buf l):=fun W fb=>⟨150,.inr (.inl ⟨rfl,⟨wX.o,NX.o⟩,fun q=>by have:=q j pO;rw [e,fb] at this;cases this⟩),.inl ⟨by decide,rfl⟩⟩
      have rP:ag (iX eps buf j ((aH l).drop (j+1)) (some r)=true->fitAll eps buf (aH l) (j+1)):=fun fb k hk=>by
       by_cases x:k=j
       ·subst x;rw [e];exact fb
       ·exact N.o k (by omega)
      have FD:ag (∀ b1 b2 b3 b4,(r.eps != eps)=b1->(((r.l.length:Nat):Int) == 0)=b2->decide (ct buf (j:Int)<(r.l.length:Int))=b3->(((cd ((aH l).drop (j+1)) r.l).length:Int) != ((r.l.length:Int)-(lv (eg r.l) r.l.length:Int)))=b4->iX eps buf j ((aH l).drop (j+1)) (some r)=!(b1||(b2||(b3||b4)))):=fun b1 b2 b3 b4 h1 h2 h3 h4=>acg h1 h2 h3 h4
      have AS:ag (∀ g:GX wT,Calls prog 78 #[.slice eo r.l.length ec] g.1 fun e w'=>e=.returned (AI (lv (eg r.l) r.l.length:Nat))/\Gw g.1 w'):=fun g=>aaL eo r.l.length ec (ek r.l) (ev r.l) (eg r.l) (by omega) g.1 (ur.gw g.gw)
      have QX:lv (eg r.l) r.l.length<=r.l.length:=WJ _ _;have pP:ag (∀ W,Gw wT W->Calls prog 80 #[BY p,.slice eo r.l.length ec,AI (j:Int)] W fun e w'=>(∃ ob m oc,e=.returned (.slice (some ⟨ob,0,none⟩) m oc)/\(cd ((aH l).drop (j+1)) r.l).length=m)/\Gw W w'):=fun W gg=>(acb (HJ.gw gg) eo ec r.l (ur.gw gg) few j pO).mono fun e w' ⟨⟨a,b,c,h1,h2,_⟩,g⟩=>⟨⟨a,b,c,h1,h2⟩,g⟩
      have QY:(cd ((aH l).drop (j+1)) r.l).length<=r.l.length:=ab9 _ _;have xz:ag (∀ W,Gw wT W->W.cell? ⟨r.p,0,none⟩=some (.slice eo r.l.length ec)/\W.cell? ⟨r.p,1,none⟩=some (AI r.eps)/\r.p<W.heap.size):=fun W gg=>⟨(gg.cell _ _ rl).trans f0,(gg.cell _ _ rl).trans f1,Nat.lt_of_lt_of_le rl gg.size⟩
      generalize (cd ((aH l).drop (j+1)) r.l).length=lk at FD pP QY;generalize lv (eg r.l) r.l.length=ln at FD AS QX;generalize iX eps buf j ((aH l).drop (j+1)) (some r)=fb at ak rP FD;generalize r.l.length=rn at f0 few AS pP QX QY xz FD;generalize r.eps=re at f1 xz FD;generalize r.p=rp at f0 f1 rl rL xz;have MO:ag (∀ W,Calls prog 79 #[AI buf,AI (j:Int)] W fun e w'=>e=.returned (AI (ct buf (j:Int)))/\w'=W):=fun W=>abO buf (j:Int) W
      generalize ct buf (j:Int)=mv at FD MO;have wg:IntKind.i64.wrap ((rn:Int)-(ln:Int))=(rn:Int)-(ln:Int):=by rw [IntKind.wrap_i64];omega
      clear cj e N HJ RR hb ur f2;go_upto_region 16 with fail;have x0:=GX.cell f0 rl;have ne:=GX.some wT;refine jc (by kernel_rfl) (by kernel_rfl) ?_
      repeat (go_big_quiet_step (fail))
      go_big_quiet_want;go_big_quiet_op
      go_big_quiet_call (exact eW (AS.o _))
      repeat (go_big_quiet_step (fail))
      refine wpQuiet_nil ?_;rintro _ ⟨gu,rfl⟩;obtain ⟨wU,Gr⟩:∃ wU,gu.1=wU:=⟨_,rfl⟩;have TU:ag (Gw wT wU):=by rw [<-Gr];exact gu.gw
      have GU:ag _:=G.o.trans TU.o;obtain ⟨y0,y1,yl⟩:=xz.o wU TU.o;rw [Gr];clear x0 ne AS c2 pl bl rL f0 f1 rl Gr xz G;go_upto_region 17 with fail;have x0:=GX.cell y0 yl;have x1:=GX.cell y1 yl;have ne:=GX.some wU;have MG:ag (∀ g:GX wU,Calls prog 79 #[AI buf,AI (j:Int)] g.1 fun e w'=>e=.returned (AI mv)/\Gw g.1 w'):=fun g=>(MO.o g.1).mono fun e w' ⟨a,b⟩=>⟨a,by rw [b];exact Gw.refl _⟩
      by_cases q1:re=eps
      ·have iY:(re != eps)=false:=by simpa using q1
       by_cases q2:rn=0
       ·have nB:((rn:Int) == 0)=true:=by simpa using q2
        have rQ:ag (fb=false):=FD.o _ _ _ _ iY nB rfl rfl;clear q1 q2 FD rP pP;refine jc (by kernel_rfl) (by kernel_rfl) ?_
        repeat (go_big_quiet_step (fail))
        refine wpQuiet_nil ?_;rintro _ ⟨gv,rfl⟩;have G2:ag _:=GU.o.trans gv.gw;go_wp2_with fail;go_ret2;exact ⟨ak.o _ rQ.o,GS.o.trans G2.o⟩
       ·have nB:((rn:Int) == 0)=false:=by simp;omega
        have q2n:¬ (rn:Int)=0:=by omega
        by_cases q3:mv<(rn:Int)
        ·have AU:decide (mv<(rn:Int))=true:=by simpa using q3
         have rQ:ag (fb=false):=FD.o _ _ _ _ iY nB AU rfl;clear q1 q2 FD rP pP;refine jc (by kernel_rfl) (by kernel_rfl) ?_
         repeat (go_big_quiet_step (fail))
         go_big_quiet_want;go_big_quiet_op
         go_big_quiet_call (exact eW (MG.o _))
         repeat (go_big_quiet_step (fail))
         refine wpQuiet_nil ?_;rintro _ ⟨gv,rfl⟩;have G2:ag _:=GU.o.trans gv.gw;go_wp2_with fail;go_ret2;exact ⟨ak.o _ rQ.o,GS.o.trans G2.o⟩
        ·have AU:decide (mv<(rn:Int))=false:=by simpa using q3
         have HW:ag (∀ w',Gw wU w'->Gw wU w'/\w'.cell? ⟨rp,0,none⟩=some (.slice eo rn ec)/\w'.cell? ⟨rp,1,none⟩=some (AI re)/\rp<w'.heap.size):=fun w' gg=>⟨gg,(gg.cell _ _ yl).trans y0,(gg.cell _ _ yl).trans y1,Nat.lt_of_lt_of_le yl gg.size⟩
         have I4:ag _:=Gw.refl wU;clear x0 x1 ne MG q1 q2 q3;go_region_held3 (fun w'=>Gw wU w'/\w'.cell? ⟨rp,0,none⟩=some (.slice eo rn ec)/\w'.cell? ⟨rp,1,none⟩=some (AI re)/\rp<w'.heap.size)
          (((refine HW.o _ ?_;repeat (first | exact And.left (by assumption) | exact ag.o (by assumption) | refine Gw.drew ?_));done))
          ((
           first
           | (go_at_call 79;refine (MO.o _).mono ?_;rintro ex wA ⟨rfl,Fv⟩;subst Fv)
           | (go_at_call 80;refine (pP.o _ (TU.o.trans (by repeat (first | exact Gw.refl _ | exact And.left (by assumption) | exact ag.o (by assumption) | refine Gw.drew ?_ | refine Gw.drewN ?_ _)))).mono ?_;rintro ex wB ⟨⟨kb,km,kc,rfl,tI⟩,gB⟩;have FB:ag (Gw wU wB):=(Gw.trans (by repeat (first | exact Gw.refl _ | exact And.left (by assumption) | exact ag.o (by assumption) | refine Gw.drew ?_ | refine Gw.drewN ?_ _)) gB);have KM:ag (lk=km):=tI;clear gB tI)))
         all_goals
          have G2:ag _:=GU.o.trans FB.o;by_cases q4:(km:Int)=(rn:Int)-(ln:Int)
          ·have Gt:((km:Int) != (rn:Int)-(ln:Int))=false:=by simpa using q4
           have N':ag _:=rP.o (FD.o false false false false iY nB AU (by rw [KM.o];exact Gt))
           clear q4 FD rP pP ak;go_wp2_with fail;go_roundg (40-(j+1))
           case measure=>omega
           case rel=>exact ⟨j+1,by go_num,by omega,Nat.le_refl _,G2,N'⟩
          ·have Gt:((km:Int) != (rn:Int)-(ln:Int))=true:=by simpa using q4
           have rQ:ag _:=FD.o false false false true iY nB AU (by rw [KM.o];exact Gt)
           clear q4 FD rP pP;go_wp2_with fail;go_ret2;exact ⟨ak.o _ rQ.o,GS.o.trans G2.o⟩
      ·have iY:(re != eps)=true:=by simpa using q1
       have rQ:ag (fb=false):=FD.o _ _ _ _ iY rfl rfl rfl;clear q1 FD rP pP;refine jc (by kernel_rfl) (by kernel_rfl) ?_
       repeat (go_big_quiet_step (fail))
       refine wpQuiet_nil ?_;rintro _ ⟨gv,rfl⟩;have G2:ag _:=GU.o.trans gv.gw;go_wp2_with fail;go_ret2;exact ⟨ak.o _ rQ.o,GS.o.trans G2.o⟩
    ·have ej:j=40:=by omega
     subst ej;have ak:ag (lJ (fun w' p rs=>∃ b,cS w' p b rs eps buf 0 0/\w.heap.size<=b) w wT (.returned (.tuple #[BY p,AI 0])) eps buf l):=⟨0,.inr (.inr ⟨rfl,⟨wX.o,NX.o⟩,N.o⟩),.inr ⟨rfl,p,rfl,PQ.o.1,rb,W0.o wT G.o,PQ.o.2⟩⟩
     clear N;go_wp2_with fail;go_ret2;exact ⟨ak.o,GS.o.trans G.o⟩
end Go.Proofs.YtcboobmfnmgldaaGreat
