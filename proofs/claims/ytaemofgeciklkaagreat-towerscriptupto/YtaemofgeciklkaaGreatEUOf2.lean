import Derived.Lib.MinMax
import Derived.Test.YtaemofgeciklkaaGreatEUClone
set_option linter.unusedVariables false
set_option maxHeartbeats 8000000
set_option maxRecDepth 20000
open Go.Proofs.Tryz
namespace Go.Proofs.YtaemofgeciklkaaGreat
open Go.RowKit
def cd (l:List (Option Rn)):List (Option Rn):=l.take 40++List.replicate (40-l.length) none
theorem CY (l:List (Option Rn)):(cd l).length=40:=by unfold cd;simp;omega
theorem adC {l:List (Option Rn)} {r:Rn} (h:some r∈cd l):some r∈l:=by
 unfold cd at h;rcases qaq.1 h with q | q
 ·exact List.mem_of_mem_take q
 ·simp at q
def fitAll (eps buf:Int) (rs:List (Option Rn)) (n:Nat):Prop:=∀ j,j<n->tR eps buf j (rs.drop (j+1)) (rs.getD j none)=true
def CZ (eps buf:Int) (l:List (Option Rn)) (E:Int):Prop :=
 (E=1/\(¬ fJ eps buf\/∃ r,some r∈l.drop 40))\/(E=150/\(fJ eps buf/\¬ ∃ r,some r∈l.drop 40)/\¬ fitAll eps buf (cd l) 40)\/(E=0/\(fJ eps buf/\¬ ∃ r,some r∈l.drop 40)/\fitAll eps buf (cd l) 40)
def wo (HC:World->Nat->List (Option Rn)->Prop) (w w':World) (e:Ending) (eps buf:Int) (l:List (Option Rn)):Prop :=
 ∃ E,CZ eps buf l E/\((E≠0/\e=π #[.pointer none,By E])\/(E=0/\∃ p,e=π #[IS p,By 0]/\w.heap.size<=p/\HC w' p (cd l)))
theorem adD {HR:bH} (H:bj HR) {w w1:World} {p:Nat} {eps buf:Int} (g:Gw w w1) (hp:w.heap.size<=p) (h:aP HR w1 p (List.replicate 40 none) eps buf 0 0) (ao:Option Addr) (c:Nat) (l:List (Option Rn)) (hl:PR HR w ao l) :
  ∃ W1 m,(∀ ty,(Builtin.copy_ #[74,74] ty #[ψ p 2 40 40,.slice ao l.length c]).run prog w1=.ok (goInt m) W1)/\aP HR W1 p (cd l) eps buf 0 0/\Gw w W1:=by
 obtain ⟨ii,aK,_,cF,_⟩:=info_parts IL;have hs:(prog.info? 108).map (·.size)=some 1:=by rw [aK];exact congrArg some cF
 have l1:=hl.gw H.kp g;rcases Nat.eq_zero_or_pos l.length with z | z
 ·have e:l=[]:=qbh.1 z
  subst e;exact ⟨w1,0,fun ty=>run_copy_none w1 74 74 ty 108 _ _ _ _ _ _ underlying74 hs ε,h,g⟩
 ·obtain ⟨b,off,rfl,hb,hc⟩:=l1.cells z
  refine ⟨w1.setCells p 2 ((l.take 40).map ptr),((l.take 40).map ptr).length,fun ty=>run_copy_cells w1 74 74 ty 108 p 2 40 40 ⟨b,off,none⟩ l.length c ((l.take 40).map ptr) underlying74 hs ?_ ?_ ?_ ?_ (CU _),?_,?_⟩
  ·rw [qaS,qav];exact Nat.min_comm _ _
  ·intro j u hu
   have hj:j<(l.take 40).length:=by
    have:=(qaT.1 hu).1
    simpa using this
   have xV:j<l.length:=(by rw [qav] at hj;omega);rw [Addr.add_lit,hc j xV,fI xV];rw [List.getElem?_map,qah hj,List.getElem_take] at hu;exact hu
  ·intro j hj
   have xV:j<40:=(by rw [qaS,qav] at hj;omega);rw [h.cell xV];rfl
  ·intro j _
   exact bC h.blk
  ·have gx:Gx (fun q=>q=p) w1 (w1.setCells p 2 ((l.take 40).map ptr)):=yS _ _ _
   have hb:=IU (l.take 40) 0 (List.replicate 40 none) w1 ζ h.blk;have e:(List.replicate 40 (none:Option Rn)).take 0++l.take 40++(List.replicate 40 none).drop (0+(l.take 40).length)=cd l:=(by unfold cd;rw [List.take_zero,List.nil_append,List.drop_replicate,qav,qai,show 40-min 40 l.length=40-l.length by omega]);rw [e] at hb;refine ⟨hb,CY l,fun r hr=>?_,h.e0,h.e1,h.b0,h.b1⟩
   have r0:=hl.runs r (adC hr);have np:¬ r.S p:=fun x=>by have:=H.lt r0.h p x;omega
   exact ⟨(r0.gw H.kp g).gx H.kp gx (fun q hq=>by rw [hq];exact np),np⟩
  ·exact Gx.gw g (yS _ _ _) (fun q hq=>by rw [hq];exact hp)
theorem adE {HR:bH} (H:bj HR) (eps buf:Int) (ao:Option Addr) (c:Nat) (l:List (Option Rn)) (hn:l.length<=2000000) (hc:l.length<=c) (hz:ao=none->l.length=0/\c=0) (w:World) (h:PR HR w ao l) :
  Calls prog 43 #[By eps,By buf,.slice ao l.length c] w fun e w'=>wo (fun w' p rs=>aP HR w' p rs eps buf 0 0) w w' e eps buf l/\Gw w w':=by
 have HP:ag _:=h;have HH:ag _:=H;have NW:ag (Calls prog 73 #[By eps,By buf] w fun e w'=>((¬ fJ eps buf/\e=π #[.pointer none,By 1])\/(fJ eps buf/\∃ p,e=π #[IS p,By 0]/\w.heap.size<=p/\aP HR w' p (List.replicate 40 none) eps buf 0 0))/\Gw w w'):=adf eps buf w
 obtain ⟨n,ax⟩:=qbr l.length;have LN:ag _:=ax;have HZ:ag (ao=none->n=0/\c=0):=by rw [<-ax];exact hz
 rw [ax] at hn hc ⊢;have CT:ag (∀ (W:World) (bo:Option Addr) (cc m:Nat),Gw w W->m=n-40->(0<m->∃ b off,ao=some (φ b off)/\bo=some (φ b (off+40)))->Calls prog 74 #[.slice bo m cc,.func (.func 75) #[] #[]] W fun e w'=>(∃ x:Bool,e=χ (.bool x)/\(x=true↔∃ r,some r∈l.drop 40))/\w'=W):=fun W bo cc m gg hm hb=>by
  have pr:PR HR W bo (l.drop 40):=by
   refine ⟨fun h0=>?_,fun r hr=>((HP.o.gw H.kp gg).runs r (qbn hr))⟩
   rw [qax,ax] at h0;obtain ⟨b,off,e1,e2⟩:=hb ω;obtain ⟨b',vx,e3,ar,oJ⟩:=(HP.o.gw H.kp gg).cells ω;rw [e1] at e3;cases e3;refine ⟨b,off+40,e2,ar,fun i hi=>?_⟩
   rw [qax] at hi;rw [show off+40+i=off+(40+i) by omega,oJ (40+i) ω,fI ω,fI (by rw [qax];omega),List.getElem_drop]
  have:=adz bo cc (l.drop 40) (by rw [qax];omega) W pr
  rw [show (l.drop 40).length=m by rw [qax,ax,hm]] at this
  exact this
 clear h H ax hz;go_enter func43,ntmps43;go_wp2_with fail;refine Calls.mono NW.o ?_;rintro e w1 ⟨x,g1⟩;have G1:ag _:=g1;rcases x with ⟨tT,rfl⟩ | ⟨tT,p,rfl,hp,oM⟩
 ·have av:ag (wo (fun w' p rs=>aP HR w' p rs eps buf 0 0) w w1 (π #[.pointer none,By 1]) eps buf l):=⟨1,.inl ⟨rfl,.inl tT⟩,.inl ⟨γ,rfl⟩⟩
  clear tT g1 NW CT;go_wp2_with fail;go_ret2;exact ⟨av.o,G1.o⟩
 ·have Sh:ag (fJ eps buf):=tT
  have HC:ag (aP HR w1 p (List.replicate 40 none) eps buf 0 0/\w.heap.size<=p):=⟨oM,hp⟩;have pl:=oM.lt;clear tT hp oM g1 NW;obtain ⟨M,hM⟩:=qbr (min n 40);have MM:ag _:=hM;have mn:min (n:Int) 40=(M:Int):=ω;have mn1:(M:Int)<=(n:Int):=ω;have mn2:(M:Int)<=(c:Int):=ω;clear hM;by_cases cM:c=M;have HB:ag (0<n-M->∃ b off,ao=some (φ b off)/\ao=some (φ b (off+40))):=fun z=>ω
  subst cM;go_wp2_with fail;refine Calls.mono (CT.o w1 _ _ _ G1.o (by have:=MM.o;omega) (fun z=>by first | exact HB.o z | omega)) ?_
  rotate_left
  have HB:ag (0<n-M->∃ b off,ao=some (φ b off)/\Option.map (fun x=>x.add M) ao=some (φ b (off+40))):=fun z=>by
   obtain ⟨b,off,e,_⟩:=HP.o.cells (by rw [LN.o];omega)
   refine ⟨b,off,e,?_⟩;have e40:M=40:=(by have:=MM.o;omega);rw [e,e40];simp [Addr.add_lit]
  go_wp2_with fail;refine Calls.mono (CT.o w1 _ _ _ G1.o (by have:=MM.o;omega) HB.o) ?_
  rotate_left
  all_goals
   rintro e w2 ⟨⟨x,rfl,hx⟩,hw⟩;have eJ:w1=w2:=hw.symm;subst eJ;have HX:ag _:=hx;clear hx hw CT HB;cases x with
   | true =>
    have av:ag (wo (fun w' p rs=>aP HR w' p rs eps buf 0 0) w w1 (π #[.pointer none,By 1]) eps buf l):=⟨1,.inl ⟨rfl,.inr (HX.o.1 rfl)⟩,.inl ⟨γ,rfl⟩⟩
    clear HX;go_wp2_with fail;go_ret2;exact ⟨av.o,G1.o⟩
   | false =>
    have NX:ag (¬ ∃ r,some r∈l.drop 40):=fun q=>by have:=HX.o.2 q;cases this
    obtain ⟨W1,m,dA,oM,gW⟩:=adD HH.o G1.o HC.o.2 HC.o.1 ao c l HP.o;rw [LN.o] at dA;have jm:ag _:=oM;have iL:ag _:=gW;have PW:ag _:=HC.o.2;have hpW:=oM.lt;clear oM gW HC HX;go_wp2_with fail;go_loopg [33] 40 (fun gg s33 wr=>∃ i:Nat,s33=By (i:Int)/\i<=40/\40-i<=gg/\ag (Gw W1 wr)/\ag (fitAll eps buf (cd l) i))
    case atStart=>exact ⟨0,rfl,Γ _,ω,(show ag _ from Gw.refl W1),(show ag _ from fun j hj=>ω)⟩
    case round =>
     obtain ⟨i,rfl,a1,a2,G,N⟩:=hrel;obtain ⟨wS,aS⟩:=qbs wr;subst aS;by_cases ar:i<40
     ·have dH:(i:Int)<40:=(by omega);have FT:ag _:=adB HH.o (jm.o.gw HH.o.kp G.o) i ar;obtain ⟨fb,Ja⟩:=qbr (tR eps buf i ((cd l).drop (i+1)) ((cd l).getD i none));have FB:ag _:=Ja;rw [Ja] at FT;clear Ja dA;go_wp2_with fail;refine Calls.mono FT.o ?_;rintro e u1 ⟨rfl,gg⟩;have G2:ag _:=G.o.trans gg;clear gg FT;cases fb with
      | true =>
       have N':ag (fitAll eps buf (cd l) (i+1)):=fun j hj=>by
        by_cases x:j=i
        ·subst x;exact FB.o
        ·exact N.o j ω
       clear N FB;go_wp2_with fail;go_roundg (40-(i+1))
       case measure=>omega
       case rel=>exact ⟨i+1,by go_num,ω,Yk _,G2,N'⟩
      | false =>
       have av:ag (wo (fun w' p rs=>aP HR w' p rs eps buf 0 0) w u1 (π #[.pointer none,By 150]) eps buf l):=⟨150,.inr (.inl ⟨rfl,⟨Sh.o,NX.o⟩,fun q=>by have:=q i ar;rw [FB.o] at this;cases this⟩),.inl ⟨γ,rfl⟩⟩
       clear N FB;go_wp2_with fail;go_ret2;exact ⟨av.o,iL.o.trans G2.o⟩
     ·have ei:i=40:=(by omega);subst ei;have av:ag (wo (fun w' p rs=>aP HR w' p rs eps buf 0 0) w wS (π #[IS p,By 0]) eps buf l):=⟨0,.inr (.inr ⟨rfl,⟨Sh.o,NX.o⟩,N.o⟩),.inr ⟨rfl,p,rfl,PW.o,jm.o.gw HH.o.kp G.o⟩⟩
      clear N dA;go_wp2_with fail;go_ret2;exact ⟨av.o,iL.o.trans G.o⟩
