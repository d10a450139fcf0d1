/- Package classes: Of. -/
import Derived.Lib.MinMax
import Derived.Test.YtemijdhemdhclaaGreatNUClone
set_option linter.unusedVariables false
set_option maxHeartbeats 8000000
set_option maxRecDepth 20000
open Go.Proofs.Tryz
namespace Go.Proofs.YtemijdhemdhclaaGreat
open Go.RowKit
def upR (l:List (Option Rn)):List (Option Rn):=l.take 40++List.replicate (40-l.length) none
theorem upR_len (l:List (Option Rn)):(upR l).length=40:=by unfold upR;simp;omega
theorem upR_mem {l:List (Option Rn)} {r:Rn} (h:some r∈upR l):some r∈l:=by
 unfold upR at h;rcases List.mem_append.1 h with q | q
 ·exact List.mem_of_mem_take q
 ·simp at q
def fitAll (eps buf:Int) (rs:List (Option Rn)) (n:Nat):Prop:=∀ j,j<n->fitsB eps buf j (rs.drop (j+1)) (rs.getD j none)=true
def OfR15 (eps buf:Int) (l:List (Option Rn)) (E:Int):Prop :=
 (E=1/\(¬ NewOk eps buf\/∃ r,some r∈l.drop 40))\/(E=150/\(NewOk eps buf/\¬ ∃ r,some r∈l.drop 40)/\¬ fitAll eps buf (upR l) 40)\/(E=0/\(NewOk eps buf/\¬ ∃ r,some r∈l.drop 40)/\fitAll eps buf (upR l) 40)
def OfOut15 (HC:World->Nat->List (Option Rn)->Prop) (w w':World) (e:Ending) (eps buf:Int) (l:List (Option Rn)):Prop :=
 ∃ E,OfR15 eps buf l E/\((E≠0/\e=.returned (.tuple #[.pointer none,.int .i64 E]))\/(E=0/\∃ p,e=.returned (.tuple #[.pointer (some ⟨p,0,none⟩),.int .i64 0])/\w.heap.size<=p/\HC w' p (upR l)))
theorem copied15 {HR:HRt} (H:RunC HR) {w w1:World} {p:Nat} {eps buf:Int} (g:Gw w w1) (hp:w.heap.size<=p) (h:HCl HR w1 p (List.replicate 40 none) eps buf 0 0) (ao:Option Addr) (c:Nat) (l:List (Option Rn)) (hl:PR HR w ao l) :
  ∃ W1 m,(∀ ty,(Builtin.copy_ #[61,61] ty #[.slice (some ⟨p,2,none⟩) 40 40,.slice ao l.length c]).run prog w1=.ok (goInt m) W1)/\HCl HR W1 p (upR l) eps buf 0 0/\Gw w W1:=by
 obtain ⟨ii,hii,_,hsz,_⟩:=info_parts info_r15;have hs:(prog.info? 93).map (·.size)=some 1:=by rw [hii];exact congrArg some hsz
 have l1:=hl.gw H.kp g;rcases Nat.eq_zero_or_pos l.length with z | z
 ·have e:l=[]:=List.length_eq_zero_iff.1 z
  subst e;exact ⟨w1,0,fun ty=>run_copy_none w1 61 61 ty 93 _ _ _ _ _ _ underlying61 hs (by simp),h,g⟩
 ·obtain ⟨b,off,rfl,hb,hc⟩:=l1.cells z
  refine ⟨w1.setCells p 2 ((l.take 40).map ptr),((l.take 40).map ptr).length,fun ty=>run_copy_cells w1 61 61 ty 93 p 2 40 40 ⟨b,off,none⟩ l.length c ((l.take 40).map ptr) underlying61 hs ?_ ?_ ?_ ?_ (ptrs_one _),?_,?_⟩
  ·rw [List.length_map,List.length_take];exact Nat.min_comm _ _
  ·intro j u hu
   have hj:j<(l.take 40).length:=by
    have:=(List.getElem?_eq_some_iff.1 hu).1
    simpa using this
   have hj2:j<l.length:=by rw [List.length_take] at hj;omega
   rw [Addr.add_lit,hc j hj2,getD_rs hj2];rw [List.getElem?_map,List.getElem?_eq_getElem hj,List.getElem_take] at hu;exact hu
  ·intro j hj
   have hj2:j<40:=by rw [List.length_map,List.length_take] at hj;omega
   rw [h.cell hj2];rfl
  ·intro j _
   exact blkf h.blk
  ·have gx:Gx (fun q=>q=p) w1 (w1.setCells p 2 ((l.take 40).map ptr)):=gx_setCells _ _ _
   have hb:=setCells_cls (l.take 40) 0 (List.replicate 40 none) w1 (by simp;omega) h.blk
   have e:(List.replicate 40 (none:Option Rn)).take 0++l.take 40++(List.replicate 40 none).drop (0+(l.take 40).length)=upR l:=by
    unfold upR;rw [List.take_zero,List.nil_append,List.drop_replicate,List.length_take,Nat.zero_add,show 40-min 40 l.length=40-l.length by omega]
   rw [e] at hb;refine ⟨hb,upR_len l,fun r hr=>?_,h.e0,h.e1,h.b0,h.b1⟩
   have r0:=hl.runs r (upR_mem hr);have np:¬ r.S p:=fun x=>by have:=H.lt r0.h p x;omega
   exact ⟨(r0.gw H.kp g).gx H.kp gx (fun q hq=>by rw [hq];exact np),np⟩
  ·exact Gx.gw g (gx_setCells _ _ _) (fun q hq=>by rw [hq];exact hp)
theorem of15 {HR:HRt} (H:RunC HR) (eps buf:Int) (ao:Option Addr) (c:Nat) (l:List (Option Rn)) (hn:l.length<=2000000) (hc:l.length<=c) (hz:ao=none->l.length=0/\c=0) (w:World) (h:PR HR w ao l) :
  Calls prog 36 #[.int .i64 eps,.int .i64 buf,.slice ao l.length c] w fun e w'=>OfOut15 (fun w' p rs=>HCl HR w' p rs eps buf 0 0) w w' e eps buf l/\Gw w w':=by
 have HP:Aside _:=h;have HH:Aside _:=H;have NW:Hid (Calls prog 53 #[.int .i64 eps,.int .i64 buf] w fun e w'=>((¬ NewOk eps buf/\e=.returned (.tuple #[.pointer none,.int .i64 1]))\/(NewOk eps buf/\∃ p,e=.returned (.tuple #[.pointer (some ⟨p,0,none⟩),.int .i64 0])/\w.heap.size<=p/\HCl HR w' p (List.replicate 40 none) eps buf 0 0))/\Gw w w'):=new15 eps buf w
 obtain ⟨n,hln⟩:∃ n,l.length=n:=⟨_,rfl⟩;have LN:Aside _:=hln;have HZ:Aside (ao=none->n=0/\c=0):=by rw [<-hln];exact hz
 rw [hln] at hn hc ⊢;have CT:Hid (∀ (W:World) (bo:Option Addr) (cc m:Nat),Gw w W->m=n-40->(0<m->∃ b off,ao=some ⟨b,off,none⟩/\bo=some ⟨b,off+40,none⟩)->Calls prog 54 #[.slice bo m cc,.func (.func 55) #[] #[]] W fun e w'=>(∃ x:Bool,e=.returned (.bool x)/\(x=true↔∃ r,some r∈l.drop 40))/\w'=W):=fun W bo cc m gg hm hb=>by
  have pr:PR HR W bo (l.drop 40):=by
   refine ⟨fun h0=>?_,fun r hr=>((HP.out.gw H.kp gg).runs r (List.mem_of_mem_drop hr))⟩
   rw [List.length_drop,hln] at h0;obtain ⟨b,off,e1,e2⟩:=hb (by omega)
   obtain ⟨b',off',e3,hlt,hcc⟩:=(HP.out.gw H.kp gg).cells (by omega)
   rw [e1] at e3;cases e3;refine ⟨b,off+40,e2,hlt,fun i hi=>?_⟩
   rw [List.length_drop] at hi;rw [show off+40+i=off+(40+i) by omega,hcc (40+i) (by omega),getD_rs (by omega),getD_rs (by rw [List.length_drop];omega),List.getElem_drop]
  have:=contains15 bo cc (l.drop 40) (by rw [List.length_drop];omega) W pr
  rw [show (l.drop 40).length=m by rw [List.length_drop,hln,hm]] at this
  exact this
 clear h H hln hz;go_enter func36,ntmps36;go_wp2_with fail;refine Calls.mono NW.out ?_;rintro e w1 ⟨x,g1⟩;have G1:Aside _:=g1;rcases x with ⟨nok,rfl⟩ | ⟨nok,p,rfl,hp,hcl⟩
 ·have RES:Aside (OfOut15 (fun w' p rs=>HCl HR w' p rs eps buf 0 0) w w1 (.returned (.tuple #[.pointer none,.int .i64 1])) eps buf l):=⟨1,.inl ⟨rfl,.inl nok⟩,.inl ⟨by decide,rfl⟩⟩
  clear nok g1 NW CT;go_wp2_with fail;go_ret2;exact ⟨RES.out,G1.out⟩
 ·have NOK:Aside (NewOk eps buf):=nok
  have HC:Aside (HCl HR w1 p (List.replicate 40 none) eps buf 0 0/\w.heap.size<=p):=⟨hcl,hp⟩;have pl:=hcl.lt;clear nok hp hcl g1 NW;obtain ⟨M,hM⟩:∃ M,min n 40=M:=⟨_,rfl⟩;have MM:Aside _:=hM;have mn:min (n:Int) 40=(M:Int):=by omega
  have mn1:(M:Int)<=(n:Int):=by omega
  have mn2:(M:Int)<=(c:Int):=by omega
  clear hM;by_cases cM:c=M;have HB:Hid (0<n-M->∃ b off,ao=some ⟨b,off,none⟩/\ao=some ⟨b,off+40,none⟩):=fun z=>by omega
  subst cM;go_wp2_with fail;refine Calls.mono (CT.out w1 _ _ _ G1.out (by have:=MM.out;omega) (fun z=>by first | exact HB.out z | omega)) ?_
  rotate_left
  have HB:Hid (0<n-M->∃ b off,ao=some ⟨b,off,none⟩/\Option.map (fun x=>x.add M) ao=some ⟨b,off+40,none⟩):=fun z=>by
   obtain ⟨b,off,e,_⟩:=HP.out.cells (by rw [LN.out];omega)
   refine ⟨b,off,e,?_⟩;have e40:M=40:=by have:=MM.out;omega
   rw [e,e40];simp [Addr.add_lit]
  go_wp2_with fail;refine Calls.mono (CT.out w1 _ _ _ G1.out (by have:=MM.out;omega) HB.out) ?_
  rotate_left
  all_goals
   rintro e w2 ⟨⟨x,rfl,hx⟩,hw⟩;have hw':w1=w2:=hw.symm;subst hw';have HX:Hid _:=hx;clear hx hw CT HB;cases x with
   | true =>
    have RES:Aside (OfOut15 (fun w' p rs=>HCl HR w' p rs eps buf 0 0) w w1 (.returned (.tuple #[.pointer none,.int .i64 1])) eps buf l):=⟨1,.inl ⟨rfl,.inr (HX.out.1 rfl)⟩,.inl ⟨by decide,rfl⟩⟩
    clear HX;go_wp2_with fail;go_ret2;exact ⟨RES.out,G1.out⟩
   | false =>
    have NX:Aside (¬ ∃ r,some r∈l.drop 40):=fun q=>by have:=HX.out.2 q;cases this
    obtain ⟨W1,m,hcp,hcl,gW⟩:=copied15 HH.out G1.out HC.out.2 HC.out.1 ao c l HP.out;rw [LN.out] at hcp;have HC1:Aside _:=hcl;have GW1:Aside _:=gW;have PW:Aside _:=HC.out.2;have hpW:=hcl.lt;clear hcl gW HC HX;go_wp2_with fail;go_loopg [33] 40 (fun gg s33 wr=>∃ i:Nat,s33=.int .i64 (i:Int)/\i<=40/\40-i<=gg/\Aside (Gw W1 wr)/\Aside (fitAll eps buf (upR l) i))
    case atStart=>exact ⟨0,rfl,Nat.zero_le _,by omega,(show Aside _ from Gw.refl W1),(show Aside _ from fun j hj=>by omega)⟩
    case round =>
     obtain ⟨i,rfl,a1,a2,G,N⟩:=hrel;obtain ⟨wS,hwS⟩:∃ wx,wx=wr:=⟨_,rfl⟩;subst hwS;by_cases hlt:i<40
     ·have hlt':(i:Int)<40:=by omega
      have FT:Hid _:=fits15 HH.out (HC1.out.gw HH.out.kp G.out) i hlt;obtain ⟨fb,hfb⟩:∃ fb,fitsB eps buf i ((upR l).drop (i+1)) ((upR l).getD i none)=fb:=⟨_,rfl⟩;have FB:Aside _:=hfb;rw [hfb] at FT;clear hfb hcp;go_wp2_with fail;refine Calls.mono FT.out ?_;rintro e u1 ⟨rfl,gg⟩;have G2:Aside _:=G.out.trans gg;clear gg FT;cases fb with
      | true =>
       have N':Aside (fitAll eps buf (upR l) (i+1)):=fun j hj=>by
        by_cases x:j=i
        ·subst x;exact FB.out
        ·exact N.out j (by omega)
       clear N FB;go_wp2_with fail;go_roundg (40-(i+1))
       case measure=>omega
       case rel=>exact ⟨i+1,by go_num,by omega,Nat.le_refl _,G2,N'⟩
      | false =>
       have RES:Aside (OfOut15 (fun w' p rs=>HCl HR w' p rs eps buf 0 0) w u1 (.returned (.tuple #[.pointer none,.int .i64 150])) eps buf l):=⟨150,.inr (.inl ⟨rfl,⟨NOK.out,NX.out⟩,fun q=>by have:=q i hlt;rw [FB.out] at this;cases this⟩),.inl ⟨by decide,rfl⟩⟩
       clear N FB;go_wp2_with fail;go_ret2;exact ⟨RES.out,GW1.out.trans G2.out⟩
     ·have ei:i=40:=by omega
      subst ei;have RES:Aside (OfOut15 (fun w' p rs=>HCl HR w' p rs eps buf 0 0) w wS (.returned (.tuple #[.pointer (some ⟨p,0,none⟩),.int .i64 0])) eps buf l):=⟨0,.inr (.inr ⟨rfl,⟨NOK.out,NX.out⟩,N.out⟩),.inr ⟨rfl,p,rfl,PW.out,HC1.out.gw HH.out.kp G.out⟩⟩
      clear N hcp;go_wp2_with fail;go_ret2;exact ⟨RES.out,GW1.out.trans G.out⟩
end Go.Proofs.YtemijdhemdhclaaGreat
