/- Promoted methods, found through the embedded pointer. -/
import Derived.Test.YtcboobmfnmgldaaGreatBZTell
import Derived.Test.YtcboobmfnmgldaaGreatBPY2
set_option linter.unusedVariables false
set_option maxHeartbeats 8000000
set_option maxRecDepth 10000
open Go.Proofs.Tryz
namespace Go.Proofs.YtcboobmfnmgldaaGreat
open Go.RowKit
theorem Cn (pp:Nat) (p:Nat) (W:World) (c:W.cell? ⟨p,0,none⟩=some (BY pp)):(loadVar 70 ⟨p,0,none⟩).run prog W=.ok (BY pp) W:=by
  simp [go_sem,c]
theorem afp:(prog.info? 39).map (fun i=>(i.methods.find? (·.name == "Key")).map (fun m=>(m.path.toList.map (fun s=>(s.struct,s.index,s.deref)),m.func)))=some (some ([(72,0,true)],some (237,true))):=by kernel_rfl
theorem afq (p pp:Nat) (W:World) (c:W.cell? ⟨p,0,none⟩=some (BY pp)):∀ k,(method (k+1) 39 (BY p) "Key").run prog W=.ok (237,BY pp) W:=by
  intro k;obtain ⟨i,hi,h2⟩:=Option.map_eq_some_iff.1 afp;obtain ⟨m,hm,h3⟩:=Option.map_eq_some_iff.1 h2;simp only [Prod.mk.injEq] at h3;obtain ⟨h4,h5⟩:=h3;have hp:m.path.toList=[⟨72,0,true⟩]:=by
    generalize m.path.toList=l at h4
    match l,h4 with
    | [⟨a,b,d⟩],h4=>simp at h4;obtain ⟨rfl,rfl,rfl⟩:=h4;rfl
  have hl:=Cn pp p W c;have z:∀ W,(sizeOf 70).run prog W=.ok 1 W:=fun W=>by kernel_rfl
  unfold method;simp only [Sem.run_bind,typeInfo,run_program,Result.andThen_ok,hi,Sem.run_pure,hm,hp,h5,follow,run_underlying underlying72];simp [Place.get,asAddr,fieldPlace,z,receiverAt,run_underlying underlying70,Addr.add_lit,hl]
theorem afr:(prog.info? 39).map (fun i=>(i.methods.find? (·.name == "Eps")).map (fun m=>(m.path.toList.map (fun s=>(s.struct,s.index,s.deref)),m.func)))=some (some ([(72,0,true)],some (104,true))):=by kernel_rfl
theorem afs (p pp:Nat) (W:World) (c:W.cell? ⟨p,0,none⟩=some (BY pp)):∀ k,(method (k+1) 39 (BY p) "Eps").run prog W=.ok (104,BY pp) W:=by
  intro k;obtain ⟨i,hi,h2⟩:=Option.map_eq_some_iff.1 afr;obtain ⟨m,hm,h3⟩:=Option.map_eq_some_iff.1 h2;simp only [Prod.mk.injEq] at h3;obtain ⟨h4,h5⟩:=h3;have hp:m.path.toList=[⟨72,0,true⟩]:=by
    generalize m.path.toList=l at h4
    match l,h4 with
    | [⟨a,b,d⟩],h4=>simp at h4;obtain ⟨rfl,rfl,rfl⟩:=h4;rfl
  have hl:=Cn pp p W c;have z:∀ W,(sizeOf 70).run prog W=.ok 1 W:=fun W=>by kernel_rfl
  unfold method;simp only [Sem.run_bind,typeInfo,run_program,Result.andThen_ok,hi,Sem.run_pure,hm,hp,h5,follow,run_underlying underlying72];simp [Place.get,asAddr,fieldPlace,z,receiverAt,run_underlying underlying70,Addr.add_lit,hl]
theorem aft:(prog.info? 39).map (fun i=>(i.methods.find? (·.name == "Height")).map (fun m=>(m.path.toList.map (fun s=>(s.struct,s.index,s.deref)),m.func)))=some (some ([(72,0,true)],some (236,true))):=by kernel_rfl
theorem afu (p pp:Nat) (W:World) (c:W.cell? ⟨p,0,none⟩=some (BY pp)):∀ k,(method (k+1) 39 (BY p) "Height").run prog W=.ok (236,BY pp) W:=by
  intro k;obtain ⟨i,hi,h2⟩:=Option.map_eq_some_iff.1 aft;obtain ⟨m,hm,h3⟩:=Option.map_eq_some_iff.1 h2;simp only [Prod.mk.injEq] at h3;obtain ⟨h4,h5⟩:=h3;have hp:m.path.toList=[⟨72,0,true⟩]:=by
    generalize m.path.toList=l at h4
    match l,h4 with
    | [⟨a,b,d⟩],h4=>simp at h4;obtain ⟨rfl,rfl,rfl⟩:=h4;rfl
  have hl:=Cn pp p W c;have z:∀ W,(sizeOf 70).run prog W=.ok 1 W:=fun W=>by kernel_rfl
  unfold method;simp only [Sem.run_bind,typeInfo,run_program,Result.andThen_ok,hi,Sem.run_pure,hm,hp,h5,follow,run_underlying underlying72];simp [Place.get,asAddr,fieldPlace,z,receiverAt,run_underlying underlying70,Addr.add_lit,hl]
theorem afv:(prog.info? 39).map (fun i=>(i.methods.find? (·.name == "Segment")).map (fun m=>(m.path.toList.map (fun s=>(s.struct,s.index,s.deref)),m.func)))=some (some ([(72,0,true)],some (238,true))):=by kernel_rfl
theorem afw (p pp:Nat) (W:World) (c:W.cell? ⟨p,0,none⟩=some (BY pp)):∀ k,(method (k+1) 39 (BY p) "Segment").run prog W=.ok (238,BY pp) W:=by
  intro k;obtain ⟨i,hi,h2⟩:=Option.map_eq_some_iff.1 afv;obtain ⟨m,hm,h3⟩:=Option.map_eq_some_iff.1 h2;simp only [Prod.mk.injEq] at h3;obtain ⟨h4,h5⟩:=h3;have hp:m.path.toList=[⟨72,0,true⟩]:=by
    generalize m.path.toList=l at h4
    match l,h4 with
    | [⟨a,b,d⟩],h4=>simp at h4;obtain ⟨rfl,rfl,rfl⟩:=h4;rfl
  have hl:=Cn pp p W c;have z:∀ W,(sizeOf 70).run prog W=.ok 1 W:=fun W=>by kernel_rfl
  unfold method;simp only [Sem.run_bind,typeInfo,run_program,Result.andThen_ok,hi,Sem.run_pure,hm,hp,h5,follow,run_underlying underlying72];simp [Place.get,asAddr,fieldPlace,z,receiverAt,run_underlying underlying70,Addr.add_lit,hl]
variable {p pp n:Nat} {w0 w:World} {HS:World->(Nat->Prop)->List (Int×Int)->List (Int×Int)->Prop} {eps:Int} {f:Nat->Int} {L:List (List Sg)} {S:Nat->Prop} {A B:List (Int×Int)}
theorem afx (D:qa 104 236 237 238 (BY pp) w0 HS eps f n L) (loc:∀ {w:World} {S:Nat->Prop} {A B:List (Int×Int)},HS w S A B->w.cell? ⟨p,0,none⟩=some (BY pp)/\p<w.heap.size) (i:Nat) (hi:i<L.length) (hl:L.length<=2000000) (fD cH te r:Nat) (sl gu rk q:Int) (q0:0<=q) (q1:q<18446744073709551616) (lr:fD<=r) (rh:r<=cH) (ht:cH<=te) (tn:te<=bL n L i) (Kj:te<=4294967296) (VQ:∀ t,t<r->bF f L i t<q) (VT:∀ t,r<=t->t<bL n L i->q<=bF f L i t) (h:HS w S A B) (la:A.length+(cH-fD)<=1999999999) :
    Calls prog 182 #[BY p,M9 ⟨(i:Int),sl,gu,(fD:Int),(cH:Int),rk⟩,AI (te:Int),By q] w fun e w'=>(∃ S' A',e=.returned (.tuple #[AI (r:Int),.bool (decide (r<te/\bF f L i r=q))])/\HS w' S' (A++A') B/\(∀ q,S' q->S q\/w.heap.size<=q)/\yd i fD cH te A')/\Gs S w w':=by
  have HH:ag (HS (w.alloc (.cells #[AI (i:Int),AI sl,AI gu,AI (fD:Int),AI (cH:Int),AI rk] 247)) S A B):=D.grow h ((Gw.refl w).alloc _ _);have SW:ag _:=D.lt h;have BK:ag ((w.alloc (.cells #[AI (i:Int),AI sl,AI gu,AI (fD:Int),AI (cH:Int),AI rk] 247)).heap[w.heap.size]?=some (.cells #[AI (i:Int),AI sl,AI gu,AI (fD:Int),AI (cH:Int),AI rk] 247 (0,0))):=heap_alloc_new w _;have G0:ag (Gs S w (w.alloc (.cells #[AI (i:Int),AI sl,AI gu,AI (fD:Int),AI (cH:Int),AI rk] 247))):=((Gw.refl w).alloc _ _).gs S;have z1:((w.alloc (.cells #[AI (i:Int),AI sl,AI gu,AI (fD:Int),AI (cH:Int),AI rk] 247)).heap.size=w.heap.size+1):=by simp
  have Z1:ag _:=z1;clear z1;have mK:∀ W:World,W.cell? ⟨p,0,none⟩=some (BY pp)->(method 421 39 (BY p) "Key").run prog W=.ok (237,BY pp) W:=fun W c=>afq p pp W c _
  have DD:ag _:=D;have sQ:ag (∀ {w:World} {S:Nat->Prop} {A B:List (Int×Int)},HS w S A B->w.cell? ⟨p,0,none⟩=some (BY pp)/\p<w.heap.size):=loc;have BEL:ag _:=VQ;have ABO:ag _:=VT;have TN:ag (te<=bL n L i/\i<L.length/\L.length<=2000000):=⟨tn,hi,hl⟩;clear h D VQ VT tn hi loc;obtain ⟨st,eB⟩:∃ st:Bool,decide (r<te/\bF f L i r=q)=st:=⟨_,rfl⟩;have ST:ag _:=eB;rw [eB];clear eB;go_enter func182,ntmps182;go_wp2_with fail;generalize w.alloc (.cells #[AI (i:Int),AI sl,AI gu,AI (fD:Int),AI (cH:Int),AI rk] 247)=w1 at HH BK G0 Z1 ⊢;obtain ⟨vb,sR⟩:∃ vb,w.heap.size=vb:=⟨_,rfl⟩;have VB:ag _:=sR;rw [sR] at BK SW Z1 ⊢;clear sR;have VV:ag (Na w1 vb 0 ⟨(i:Int),sl,gu,(fD:Int),(cH:Int),rk⟩):=Ip BK.o;have k3:w1.cell? ⟨vb,3,none⟩=some (AI (fD:Int)):=VV.o.c3;have k4:w1.cell? ⟨vb,4,none⟩=some (AI (cH:Int)):=VV.o.c4;have kb:vb<w1.heap.size:=(Array.getElem?_eq_some_iff.1 BK.o).1;go_quiet (fail);have H1:ag _:=DD.o.grow HH.o ((Gw.refl w1).drewN nq);have G1:ag _:=((Gw.refl w1).drewN nq).gs S;have DF:ag (false=decide (cH<cH/\bF f L i cH=q)):=(decide_eq_false (fun x=>Nat.lt_irrefl _ x.1)).symm
  clear HH k3 k4;go_wp2_with fail;go_loopg [9,10,11] (cH-fD) (fun gg s9 iB gV wr=>∃ (l h:Nat) (t:Bool) (S':Nat->Prop) (A':List (Int×Int)),s9=.bool t/\iB=AI (l:Int)/\gV=AI (h:Int)/\fD<=l/\l<=r/\r<=h/\h<=cH/\h-l<=gg/\A'.length+(h-l)<=cH-fD/\ag (t=decide (h<cH/\bF f L i h=q))/\ag (HS wr S' (A++A') B)/\ag (∀ q,S' q->S q\/vb+1<=q)/\ag (qb i fD cH l h A')/\ag (Gs S w1 wr))
  case atStart=>exact ⟨fD,cH,false,S,[],rfl,rfl,rfl,Nat.le_refl _,lr,rh,Nat.le_refl _,Nat.le_refl _,by simp,DF,(by rw [List.append_nil];exact H1),(show ag _ from fun q hq=>.inl hq),(show ag _ from ⟨by simp,fun a ha=>by simp at ha⟩),G1⟩
  case round =>
    clear H1 G1 DF;obtain ⟨l,h,t,S',A',rfl,rfl,rfl,a1,a2,a3,a4,a5,a6,TT,HH,SS,SK,GG⟩:=hrel;have vk:ag _:=GG.o.block vb kb (fun e=>by have:=SW.o vb e;omega)
    have k0:wr.cell? ⟨vb,0,none⟩=some (AI (i:Int)):=(World.cell?_of_block (a:=⟨vb,0,none⟩) vk.o).trans VV.o.c0;have k4:wr.cell? ⟨vb,4,none⟩=some (AI (cH:Int)):=(World.cell?_of_block (a:=⟨vb,4,none⟩) vk.o).trans VV.o.c4;have wo:vb<wr.heap.size:=Nat.lt_of_lt_of_le kb GG.o.size;obtain ⟨jb,na⟩:=sQ.o HH.o;have mk:=mK wr jb;by_cases ar:l<h
    · obtain ⟨m,hm⟩:∃ m:Nat,(h-l)/2+l=m:=⟨_,rfl⟩
      have m1:l<=m:=by omega
      have m2:m<h:=by omega
      have d1:IntKind.i64.wrap ((h:Int)-(l:Int))=((h-l:Nat):Int):=by rw [IntKind.wrap_i64];omega
      have d4:(l:Int)+((h-l:Nat):Int)/2=(m:Int):=by omega
      have mN:ag (m<bL n L i):=by have:=TN.o.1;exact Nat.lt_of_lt_of_le (by omega) this
      clear hm;go_wp2_with fail;refine (DD.o.key HH.o (by simp;omega) i m (Nat.le_of_lt TN.o.2.1) mN.o).mono ?_
      rintro e w2 ⟨⟨S2,rfl,h2,s2⟩,g2⟩;have H2:ag (HS w2 S2 (A++(A'++[((i:Int),(m:Int))])) B):=by rw [<-List.append_assoc];exact h2
      have S3:ag (∀ q,S2 q->S q\/vb+1<=q):=fun q hq=>by
        rcases s2 q hq with e | e
        · exact SS.o q e
        · exact .inr (by have:=GG.o.size;have:=Z1.o;omega)
      have G2:ag _:=kg GG.o g2 fun q hq=>by
        rcases SS.o q hq with e | e
        · exact .inl e
        · exact .inr (by rw [Z1.o];exact e)
      obtain ⟨y,hy⟩:∃ y,bF f L i m=y:=⟨_,rfl⟩;have Y:ag _:=hy;rw [hy];clear hy h2 s2 g2 HH SS GG k0 k4 wo vk jb na mk;by_cases c:y<q
      · have mr:m+1<=r:=by
          rcases Nat.lt_or_ge m r with e | e
          · exact e
          · have:=ABO.o m e mN.o
            rw [Y.o] at this;omega
        have JP:ag _:=SK.o.add m1 m2 a1 a4 (.inl ⟨rfl,rfl⟩);clear Y SK d1 d4;go_wp2_with fail;go_roundg (h-(m+1))
        case measure=>omega
        case rel=>exact ⟨m+1,h,t,S2,A'++[((i:Int),(m:Int))],rfl,by go_num,rfl,by omega,mr,a3,a4,Nat.le_refl _,by simp;omega,TT,H2,S3,JP,G2⟩
      · have mr:r<=m:=by
          rcases Nat.lt_or_ge m r with e | e
          · have:=BEL.o m e
            rw [Y.o] at this;omega
          · exact e
        have JP:ag _:=SK.o.add m1 m2 a1 a4 (.inr ⟨rfl,rfl⟩);obtain ⟨z,hz⟩:∃ z:Bool,(y == q)=z:=⟨_,rfl⟩;have TT2:ag (z=decide (m<cH/\bF f L i m=q)):=by
          show z=_;rw [<-hz,Y.o];have:m<cH:=by omega
          by_cases e:y=q
          · rw [decide_eq_true ⟨this,e⟩];simpa using e
          · rw [decide_eq_false (fun x=>e x.2)];simpa using e
        clear Y SK d1 d4;go_wp2_with fail;go_roundg (m-l)
        case measure=>omega
        case rel=>exact ⟨l,m,z,S2,A'++[((i:Int),(m:Int))],rfl,rfl,rfl,a1,a2,mr,by omega,Nat.le_refl _,by simp;omega,TT2,H2,S3,JP,G2⟩
    · obtain rfl:l=r:=by omega
      obtain rfl:h=l:=by omega
      have Co:ag (∀ q,S' q->S q\/w.heap.size<=q):=fun q hq=>by
        rcases SS.o q hq with e | e
        · exact .inl e
        · exact .inr (by rw [VB.o];omega)
      by_cases c1:h=cH
      · by_cases c2:h<te
        · have m0:((h:Int) == (cH:Int))=true:=by rw [c1];simp
          have m1:decide ((h:Int)<(te:Int))=true:=by simpa using c2
          have hN:ag (h<bL n L i):=by have:=TN.o.1;exact Nat.lt_of_lt_of_le c2 this
          have AL:ag ((A++A').length<=2000000000):=by show _<=_;rw [List.length_append];omega
          have HI:ag _:=c1;clear c1;go_wp2_with fail;refine (DD.o.key HH.o AL.o i h (Nat.le_of_lt TN.o.2.1) hN.o).mono ?_;rintro e w2 ⟨⟨S2,rfl,h2,s2⟩,g2⟩;have H2:ag (HS w2 S2 (A++(A'++[((i:Int),(h:Int))])) B):=by rw [<-List.append_assoc];exact h2
          have S3:ag (∀ q,S2 q->S q\/w.heap.size<=q):=fun q hq=>by
            rcases s2 q hq with e | e
            · exact Co.o q e
            · exact .inr (by have:=GG.o.size;have:=G0.o.size;omega)
          have G2:ag _:=kg (kg G0.o GG.o (fun q hq=>.inl hq)) g2 Co.o
          obtain ⟨y,hy⟩:∃ y,bF f L i h=y:=⟨_,rfl⟩;have zz:(y == q)=st:=by
            have s:=ST.o;rw [hy] at s;rw [<-s];by_cases e:y=q
            · rw [decide_eq_true ⟨c2,e⟩];simpa using e
            · rw [decide_eq_false (fun x=>e x.2)];simpa using e
          rw [hy];have yO:ag (yd i fD cH te (A'++[((i:Int),(h:Int))])):=by
            have e:=HI.o;have:=SK.o.last (te:=te) (by omega) (by omega) (by omega)
            rw [e];exact this
          clear hy h2 s2 g2 HH SS GG k0 k4 wo vk jb na mk;go_wp2_with fail;go_ret2;exact ⟨⟨S2,_,rfl,H2.o,S3.o,yO.o⟩,G2.o⟩
        · have m0:((h:Int) == (cH:Int))=true:=by rw [c1];simp
          have m1:decide ((h:Int)<(te:Int))=false:=by simpa using c2
          have e1:t=false:=by rw [TT.o];exact decide_eq_false (fun x=>by omega)
          have e2:st=false:=by rw [<-ST.o];exact decide_eq_false (fun x=>c2 x.1)
          subst e1 e2;have HI:ag _:=c1;have yO:ag _:=SK.o.done ht (by omega)
          have G2:ag _:=kg G0.o GG.o (fun q hq=>.inl hq)
          clear c1;go_wp2_with fail;go_ret2;exact ⟨⟨S',A',rfl,HH.o,Co.o,yO.o⟩,G2.o⟩
      · have m0:((h:Int) == (cH:Int))=false:=by simp;omega
        have e1:t=st:=by
          rw [TT.o,<-ST.o];have x1:h<cH:=by omega
          have x2:h<te:=by omega
          by_cases e:bF f L i h=q
          · rw [decide_eq_true ⟨x1,e⟩,decide_eq_true ⟨x2,e⟩]
          · rw [decide_eq_false (fun x=>e x.2),decide_eq_false (fun x=>e x.2)]
        subst e1;have yO:ag _:=SK.o.done ht (by omega)
        have G2:ag _:=kg G0.o GG.o (fun q hq=>.inl hq)
        go_wp2_with fail;go_ret2
        exact ⟨⟨S',A',rfl,HH.o,Co.o,yO.o⟩,G2.o⟩
end Go.Proofs.YtcboobmfnmgldaaGreat
namespace Go.Proofs.YtcboobmfnmgldaaGreat
open Go.RowKit
attribute [local go_sem] iy
variable {p pp n:Nat} {w0 w:World} {HS:World->(Nat->Prop)->List (Int×Int)->List (Int×Int)->Prop} {eps:Int} {f:Nat->Int} {L:List (List Sg)} {S:Nat->Prop} {A B:List (Int×Int)}
theorem afy (D:qa 104 236 237 238 (BY pp) w0 HS eps f n L) (loc:∀ {w:World} {S:Nat->Prop} {A B:List (Int×Int)},HS w S A B->w.cell? ⟨p,0,none⟩=some (BY pp)/\p<w.heap.size) (M:gQ) (R:mA eps f n L) (p0 p1:Value) {TT:World->(Nat->Prop)->List iC->Bool->Prop} (C:Tt 160 (fun a b=>#[a,b,p0,p1]) TT) (q:Int) (q0:0<=q) (q1:q<18446744073709551616) {X:Nat->Prop} (h:HS w S A B) (t:TT w X [] false) (dj:∀ q,X q->w0.heap.size<=q/\¬ S q) (la:A.length<=1000000000) (lb:B.length<=1000000000) :
    Calls prog 159 #[BY p,By q,.func (.func 160) #[] #[p0,p1]] w fun e w'=>e=.returned (.tuple #[])/\(∃ S' X' A' B',HS w' S' (A++A') (B++B')/\zR eps q f n L A' B'/\TT w' X' (D6 eps q f n L) (oy q f n L 0)/\(∀ q,S' q->S q\/w.heap.size<=q)/\(∀ q,X' q->(X q\/w.heap.size<=q)/\¬ S' q))/\Gs (fun q=>S q\/X q) w w':=by
  have mH:∀ W:World,W.cell? ⟨p,0,none⟩=some (BY pp)->(method 421 39 (BY p) "Height").run prog W=.ok (236,BY pp) W:=fun W c=>afu p pp W c _
  have mS:∀ W:World,W.cell? ⟨p,0,none⟩=some (BY pp)->(method 421 39 (BY p) "Segment").run prog W=.ok (238,BY pp) W:=fun W c=>afw p pp W c _
  have mE:∀ W:World,W.cell? ⟨p,0,none⟩=some (BY pp)->(method 421 39 (BY p) "Eps").run prog W=.ok (104,BY pp) W:=fun W c=>afs p pp W c _
  have DD:ag _:=D;have sQ:ag (∀ {w:World} {S:Nat->Prop} {A B:List (Int×Int)},HS w S A B->w.cell? ⟨p,0,none⟩=some (BY pp)/\p<w.heap.size):=loc;have CC:ag _:=C;have MM:ag gQ:=M;have RR:ag (mA eps f n L):=R;have HH:ag _:=h;have TH:ag _:=t;have DJ:ag _:=dj;have VU:ag (A.length<=1000000000/\B.length<=1000000000):=⟨la,lb⟩;obtain ⟨ln,au⟩:∃ ln,L.length=ln:=⟨_,rfl⟩;have LN:ag _:=au;have l1:ln<=2000000:=by have:=R.sh.1;omega
  clear D C M R h t dj la lb au loc;obtain ⟨jb,na⟩:=sQ.o HH.o;have mh:=mH w jb;go_enter func159,ntmps159;go_wp2_with fail;refine (DD.o.height HH.o).mono ?_;rintro e w1 ⟨rfl,hw⟩;have dR:w=w1:=hw.symm;subst dR;rw [LN.o];clear hw jb na mh;go_wp2_with fail;have W0:ag _:=(DD.o.gw HH.o).size;go_loopg [6,7] ln (fun gg s6 s7 wr=>∃ (j sl:Nat) (S' X':Nat->Prop) (A' B':List (Int×Int)),s6=AI (sl:Int)/\s7=AI ((j:Int)-1)/\j<=ln/\j<=gg/\ag (0<j->sl=iS q L (j-1))/\ag (HS wr S' (A++A') (B++B'))/\ag (mV eps q f n L j A' B')/\ag (TT wr X' (lS eps q f n L j) (oy q f n L j))/\ag (∀ q,S' q->S q\/w.heap.size<=q)/\ag (∀ q,X' q->(X q\/w.heap.size<=q)/\¬ S' q)/\ag (Gs (fun q=>S q\/X q) w wr))
  case atStart =>
    refine ⟨ln,0,S,X,[],[],rfl,by go_num,Nat.le_refl _,Nat.le_refl _,fun h0=>?_,?_,?_,?_,(show ag _ from fun q hq=>.inl hq),(show ag _ from fun q hq=>⟨.inl hq,(DJ.o q hq).2⟩),(show ag _ from (Gw.refl w).gs _)⟩
    · have:=RR.o.lv.slot_top (q:=q) (by rw [LN.o];exact h0)
      rw [LN.o] at this;exact this.symm
    · rw [List.append_nil,List.append_nil];exact HH
    · have:=mV.none eps q f n L
      rw [LN.o] at this;exact this
    · have e1:=adw eps q f n L
      have e2:oy q f n L L.length=false:=if_pos rfl;rw [LN.o] at e1 e2;rw [e1,e2];exact TH
  case round =>
    clear HH TH;obtain ⟨j,sl,S',X',A',B',rfl,rfl,a1,a2,SL,HH,AK,TH,SS,XX,GG⟩:=hrel;rcases j with _ | i
    · have e:(((0:Nat):Int)-1)=-1:=by omega
      rw [e];clear e;go_wp2_with fail;go_end0;exact ⟨rfl,⟨S',X',A',B',HH.o,AK.o.all,TH.o,SS.o,XX.o⟩,GG.o⟩
    · have e:(((i+1:Nat):Int)-1)=(i:Int):=by omega
      rw [e];clear e;have hi:ag (i<L.length):=by show _<_;rw [LN.o];omega
      have sle:sl=iS q L i:=SL.o (by omega)
      have slt:ag (sl<(L.getD i []).length):=by rw [sle];exact RR.o.lv.slot hi.o
      obtain ⟨s,hs⟩:∃ s,dE q L i=s:=⟨_,rfl⟩;have SG:ag _:=hs;have VW:ag ((L.getD i []).getD sl aK=s):=by rw [sle];exact hs
      have VX:ag _:=sle;have bl:ag ((B++B').length<=2000000000):=by show _<=_;have b1:=AK.o.bl;have:=VU.o.2;rw [LN.o] at b1;rw [List.length_append];omega
      clear hs sle SL;obtain ⟨k,sp,ic,fr,te⟩:=s;obtain ⟨jb,na⟩:=sQ.o HH.o;have ms:=mS wr jb;go_wp2_with fail;clear jb na ms;refine (DD.o.seg HH.o bl.o i sl hi.o slt.o).mono ?_;rintro e w2 ⟨⟨S2,rfl,h2,s2⟩,g2⟩;have H2:ag (HS w2 S2 (A++A') (B++(B'++[((i:Int)+1,(sl:Int))]))):=by rw [<-List.append_assoc];exact h2
      have S3:ag (∀ q,S2 q->S q\/w.heap.size<=q):=fun q hq=>by
        rcases s2 q hq with e | e
        · exact SS.o q e
        · exact .inr (Nat.le_trans GG.o.size e)
      have T2:ag _:=CC.o.keep TH.o fun q hq=>g2.block q (CC.o.lt TH.o q hq) (XX.o q hq).2
      have X2:ag (∀ q,X' q->(X q\/w.heap.size<=q)/\¬ S2 q):=fun q hq=>⟨(XX.o q hq).1,fun e=>by
        rcases s2 q e with e | e
        · exact (XX.o q hq).2 e
        · have:=CC.o.lt TH.o q hq;omega⟩
      have G2:ag _:=kg GG.o g2 fun q hq=>by
        rcases SS.o q hq with e | e
        · exact .inl (.inl e)
        · exact .inr e
      rw [VW.o];have OK:ag (Sg.ok ⟨k,sp,ic,fr,te⟩):=by have:=DD.o.sok i hi.o sl slt.o;rw [VW.o] at this;exact this
      have s0:ag (0<=fr/\fr<te/\te<=4294967296/\te<=bL n L i/\fr<=iT q L i/\iT q L i<=te):=by
        have:=RR.o.lv.bounds (q:=q) q1 hi.o
        rw [SG.o] at this;exact ⟨this.1,this.2.1,this.2.2.1,this.2.2.2.1,this.2.2.2.2.1,this.2.2.2.2.2.1⟩
      have GA:ag (cP k sp ic fr te q=iT q L i):=by show _=_;unfold iT;rw [SG.o]
      clear h2 s2 g2 HH TH SS XX GG;go_wp2_with fail;have B3:ag ((w2.alloc (.cells #[By k,.float .f64 sp,.float .f64 ic,AI fr,AI te] 145)).heap[w2.heap.size]?=some (.cells #[By k,.float .f64 sp,.float .f64 ic,AI fr,AI te] 145 (0,0))):=heap_alloc_new w2 _;have G3:ag (Gw w2 (w2.alloc (.cells #[By k,.float .f64 sp,.float .f64 ic,AI fr,AI te] 145))):=(Gw.refl w2).alloc _ _;generalize w2.alloc (.cells #[By k,.float .f64 sp,.float .f64 ic,AI fr,AI te] 145)=w3 at B3 G3 ⊢;obtain ⟨gb,zS⟩:∃ gb,w2.heap.size=gb:=⟨_,rfl⟩;have GB:ag _:=zS;rw [zS] at B3 ⊢;clear zS;refine (MM.o.guess k sp ic fr te q OK.o q0 q1 w3).mono ?_;rintro e w4 ⟨rfl,g4⟩;rw [GA.o];obtain ⟨G,hG⟩:∃ G,iT q L i=G:=⟨_,rfl⟩;have GG:ag _:=hG;rw [hG];obtain ⟨z1,z2,z3,z4,z5,z6⟩:=s0.o;rw [hG] at z5 z6;obtain ⟨tn,IC⟩:∃ tn:Nat,te=(tn:Int):=⟨te.toNat,by omega⟩
      subst IC;have Z4:ag (tn<=bL n L i):=by show _<=_;omega
      have e2:=RR.o.e0;have e3:=RR.o.e1;have B4:ag (w4.heap[gb]?=some (.cells #[By k,.float .f64 sp,.float .f64 ic,AI fr,AI (tn:Int)] 145 (0,0))):=(g4.below.block gb (Array.getElem?_eq_some_iff.1 B3.o).1).trans B3.o;have G4:ag _:=G3.o.trans g4;obtain ⟨lo,VY⟩:∃ lo:Nat,max (G-eps-1) fr=(lo:Int):=⟨(max (G-eps-1) fr).toNat,by omega⟩
      obtain ⟨hj,VZ⟩:∃ hj:Nat,min (G+eps+1) (tn:Int)=(hj:Int):=⟨(min (G+eps+1) (tn:Int)).toNat,by omega⟩
      have LO:ag ((fg eps q f n L i).lo=(lo:Int)):=by
        show max (dE q L i).fr (iT q L i-eps-1)=_;rw [SG.o,GG.o,Int.max_comm];exact VY
      have HJ:ag ((fg eps q f n L i).hi=(hj:Int)):=by
        show min (dE q L i).te (iT q L i+eps+1)=_;rw [SG.o,GG.o,Int.min_comm];exact VZ
      have WI:ag (hj-lo<=130):=by show _<=_;omega
      clear B3 G3 g4 hG z4 s0;have V4:=(Array.getElem?_eq_some_iff.1 B4.o).1;have u1:IntKind.i64.wrap (G-eps)=G-eps:=by rw [IntKind.wrap_i64];omega
      have u2:IntKind.i64.wrap (G-eps-1)=G-eps-1:=by rw [IntKind.wrap_i64];omega
      have u3:IntKind.i64.wrap (G+eps)=G+eps:=by rw [IntKind.wrap_i64];omega
      have u4:IntKind.i64.wrap (G+eps+1)=G+eps+1:=by rw [IntKind.wrap_i64];omega
      go_wp2_with fail;have V5:ag ((w4.alloc (.cells #[AI (i:Int),AI (sl:Int),AI G,AI 0,AI 0,AI 0] 247)).heap[w4.heap.size]?=some (.cells #[AI (i:Int),AI (sl:Int),AI G,AI 0,AI 0,AI 0] 247 (0,0))):=heap_alloc_new w4 _
      have G5:ag (Gw w4 (w4.alloc (.cells #[AI (i:Int),AI (sl:Int),AI G,AI 0,AI 0,AI 0] 247))):=(Gw.refl w4).alloc _ _;generalize w4.alloc (.cells #[AI (i:Int),AI (sl:Int),AI G,AI 0,AI 0,AI 0] 247)=w5 at V5 G5 ⊢;obtain ⟨vb,sR⟩:∃ vb,w4.heap.size=vb:=⟨_,rfl⟩;have VB:ag _:=sR;rw [sR] at V5 V4 ⊢;clear sR;have H5:ag _:=DD.o.grow H2.o (G4.o.trans G5.o).drew;have E5:=DD.o.eps H5.o;obtain ⟨jb,na⟩:=sQ.o H5.o;have me:=mE _ jb;have B5:ag _:=(G5.o.below.block gb (by rw [VB.o];exact V4)).trans B4.o
      have c2:w5.drew.cell? ⟨vb,2,none⟩=some (AI G):=mW V5.o rfl;have c3:w5.drew.cell? ⟨vb,3,none⟩=some (AI 0):=mW V5.o rfl;have x3:w5.drew.cell? ⟨gb,3,none⟩=some (AI fr):=mW B5.o rfl;have f3:w5.drew.frozen? ⟨vb,3,none⟩=false:=Bm V5.o;refine wp_region_still_tail 11 (by kernel_rfl) (by kernel_rfl) ?_
      change wpStill _ _ (World.drew w5) (fun a'=>wpList _ _ _ _ a' (World.drew w5)) _ _
      simp only [List.take_succ_cons,List.take_zero,List.drop_succ_cons,List.drop_zero]
      still_step
      still_step
      still_step
      still_step
      still_call E5
      still_step
      still_step
      still_step
      still_step
      still_step
      still_step
      refine wpStill_nil ?_;go_wp2_with fail;have gv:ag (w2.heap.size<=vb):=by show _<=_;rw [<-VB.o];exact G4.o.size
      have V6:ag ((w5.setCell ⟨vb,3,none⟩ (AI (lo:Int))).drew.heap[vb]?=some (.cells #[AI (i:Int),AI (sl:Int),AI G,AI (lo:Int),AI 0,AI 0] 247 (0,0))):=ye V5.o 3 _;have G6:ag (Gw w2 (w5.setCell ⟨vb,3,none⟩ (AI (lo:Int))).drew):=((G4.o.trans G5.o).setCell gv.o _).drew;have B6:ag ((w5.setCell ⟨vb,3,none⟩ (AI (lo:Int))).drew.heap[gb]?=some (.cells #[By k,.float .f64 sp,.float .f64 ic,AI fr,AI (tn:Int)] 145 (0,0))):=(Go.Deep.blk_setCell_other _ _ _ _ (by show gb≠vb;omega)).trans B5.o
      generalize (w5.setCell ⟨vb,3,none⟩ (AI (lo:Int))).drew=w6 at V6 G6 B6 ⊢;clear c2 c3 x3 f3 E5 H5 jb na me V5 G5 B5 B4 G4 u1 u2 VY;have H6:ag _:=DD.o.grow H2.o G6.o.drew;have E6:=DD.o.eps H6.o;obtain ⟨jb,na⟩:=sQ.o H6.o;have me:=mE _ jb;have c2:w6.drew.cell? ⟨vb,2,none⟩=some (AI G):=mW V6.o rfl;have c4:w6.drew.cell? ⟨vb,4,none⟩=some (AI 0):=mW V6.o rfl;have x4:w6.drew.cell? ⟨gb,4,none⟩=some (AI (tn:Int)):=mW B6.o rfl;have f4:w6.drew.frozen? ⟨vb,4,none⟩=false:=Bm V6.o;refine wp_region_still_tail 11 (by kernel_rfl) (by kernel_rfl) ?_
      change wpStill _ _ (World.drew w6) (fun a'=>wpList _ _ _ _ a' (World.drew w6)) _ _
      simp only [List.take_succ_cons,List.take_zero,List.drop_succ_cons,List.drop_zero]
      still_step
      still_step
      still_step
      still_step
      still_call E6
      still_step
      still_step
      still_step
      still_step
      still_step
      still_step
      refine wpStill_nil ?_;obtain ⟨w7,Cp⟩:∃ w7,w6.setCell ⟨vb,4,none⟩ (AI (hj:Int))=w7:=⟨_,rfl⟩;have V7:ag (w7.heap[vb]?=some (.cells #[AI (i:Int),AI (sl:Int),AI G,AI (lo:Int),AI (hj:Int),AI 0] 247 (0,0))):=by rw [<-Cp];exact ye V6.o 4 _
      have G7:ag (Gw w2 w7.drew):=by rw [<-Cp];exact (G6.o.setCell gv.o _).drew
      have B7:ag (w7.heap[gb]?=some (.cells #[By k,.float .f64 sp,.float .f64 ic,AI fr,AI (tn:Int)] 145 (0,0))):=by rw [<-Cp];exact (Go.Deep.blk_setCell_other _ _ _ _ (by show gb≠vb;omega)).trans B6.o
      have v7:=Ip (v:=⟨(i:Int),(sl:Int),G,(lo:Int),(hj:Int),0⟩) V7.o;have k0:w7.cell? ⟨vb,0,none⟩=some (AI (i:Int)):=v7.c0;have k1:w7.cell? ⟨vb,1,none⟩=some (AI (sl:Int)):=v7.c1;have k2:w7.cell? ⟨vb,2,none⟩=some (AI G):=v7.c2;have k3:w7.cell? ⟨vb,3,none⟩=some (AI (lo:Int)):=v7.c3;have k4:w7.cell? ⟨vb,4,none⟩=some (AI (hj:Int)):=v7.c4;have k5:w7.cell? ⟨vb,5,none⟩=some (AI 0):=v7.c5;have y4:w7.cell? ⟨gb,4,none⟩=some (AI (tn:Int)):=mW B7.o rfl;have Wa:=(Array.getElem?_eq_some_iff.1 V7.o).1;have HT:ag (hj<=tn):=by show _<=_;omega
      have WN:ag (lo<=aA (bF f L i) q (bL n L i)/\aA (bF f L i) q (bL n L i)<=hj):=by
        obtain ⟨x1,x2⟩:=RR.o.lv.window (q:=q) q1 hi.o;rw [LO.o] at x1;rw [HJ.o] at x2;have y1:(lo:Int)<=(aA (bF f L i) q (bL n L i):Int):=x1;have y2:(aA (bF f L i) q (bL n L i):Int)<=(hj:Int):=x2;exact ⟨by omega,by omega⟩
      have BL:ag ((∀ t,t<aA (bF f L i) q (bL n L i)->bF f L i t<q)/\∀ t,aA (bF f L i) q (bL n L i)<=t->t<bL n L i->q<=bF f L i t):=RR.o.lv.below hi.o;have VR:ag _:=RR.o.lv.vis q1 hi.o;have VI:ag (fg eps q f n L i=⟨(i:Int),(sl:Int),G,(lo:Int),(hj:Int),((aA (bF f L i) q (bL n L i):Nat):Int)⟩):=by
        show fg eps q f n L i=_;have e1:(fg eps q f n L i).lo=(lo:Int):=LO.o;have e2:(fg eps q f n L i).hi=(hj:Int):=HJ.o;have e3:(fg eps q f n L i).gu=G:=GG.o;have e4:(fg eps q f n L i).sl=(sl:Int):=by show ((iS q L i:Nat):Int)=_;rw [VX.o]
        rw [<-e1,<-e2,<-e3,<-e4];rfl
      obtain ⟨r,hr⟩:∃ r,aA (bF f L i) q (bL n L i)=r:=⟨_,rfl⟩;have RK:ag _:=hr;rw [hr] at WN BL VI;have r1:r<=tn:=Nat.le_trans WN.o.2 HT.o;have H7:ag _:=DD.o.grow H2.o G7.o;have AL:ag ((A++A').length+(hj-lo)<=1999999999):=by
        show _<=_;have b1:=AK.o.al;have:=VU.o.1;have:=WI.o;rw [LN.o] at b1;rw [List.length_append];omega
      clear v7 VZ hr E6 H6 jb na me V6 G6 B6;go_wp2_with fail;refine (afx DD.o sQ.o i hi.o RR.o.sh.1 lo hj tn r (sl:Int) G 0 q q0 q1 WN.o.1 WN.o.2 HT.o Z4.o (by omega) BL.o.1 BL.o.2 H7.o AL.o).mono ?_
      rintro e w8 ⟨⟨S8,A8,rfl,h8,s8,k8⟩,g8⟩;have Wb:ag _:=DD.o.lt H2.o;have yP:ag _:=CC.o.lt T2.o;have n8:ag (∀ q,w2.heap.size<=q->q<w7.heap.size->w8.heap[q]?=w7.heap[q]?):=fun q h1 h2=>g8.block q h2 (fun e=>by have:=Wb.o q e;omega)
      have V8:ag _:=(n8.o vb gv.o Wa).trans V7.o;have JQ:ag _:=GB.o.symm;have B8:ag _:=(n8.o gb (Nat.le_of_eq JQ.o.symm) (by omega)).trans B7.o
      have JR:ag (∀ q,S8 q->q<w8.heap.size/\q≠vb/\q≠gb):=fun q hq=>⟨DD.o.lt h8 q hq,by
        rcases s8 q hq with e | e
        · have:=Wb.o q e;have:=gv.o;have:=JQ.o;omega
        · have e':w7.heap.size<=q:=e
          omega⟩
      have S8W:ag (∀ q,S8 q->S q\/w.heap.size<=q):=fun q hq=>by
        rcases s8 q hq with e | e
        · exact S3.o q e
        · exact .inr (Nat.le_trans G2.o.size (Nat.le_trans G7.o.size e))
      have X8:ag (∀ q,X' q->¬ S8 q):=fun q hq e=>by
        rcases s8 q e with e | e
        · exact (X2.o q hq).2 e
        · have:=yP.o q hq;have:=G7.o.size;omega
      have T8:ag _:=CC.o.keep T2.o fun q hq=>(g8.block q (Nat.lt_of_lt_of_le (yP.o q hq) G7.o.size) (fun e=>(X2.o q hq).2 e)).trans (G7.o.below.block q (yP.o q hq))
      have G8:ag (Gs (fun q=>S q\/X q) w w8):=kg (kg G2.o (G7.o.gs (fun _=>False)) (fun q hq=>hq.elim)) g8 fun q hq=>by
        rcases S3.o q hq with e | e
        · exact .inl (.inl e)
        · exact .inr e
      have Wc:ag _:=Nat.le_trans G2.o.size gv.o;obtain ⟨w9,yQ⟩:∃ w9,w8.setCell ⟨vb,5,none⟩ (AI (r:Int))=w9:=⟨_,rfl⟩;have V9:ag (w9.heap[vb]?=some (.cells #[AI (i:Int),AI (sl:Int),AI G,AI (lo:Int),AI (hj:Int),AI (r:Int)] 247 (0,0))):=by rw [<-yQ];exact ye V8.o 5 _
      have N9:ag (∀ q,q≠vb->w9.heap[q]?=w8.heap[q]?):=fun q hq=>by rw [<-yQ];exact Go.Deep.blk_setCell_other _ _ _ _ hq
      have Z9:ag (w9.heap.size=w8.heap.size):=by rw [<-yQ];exact World.size_setCell _ _ _
      have JS:ag (Gs (fun q=>q=vb) w8 w9):=by rw [<-yQ];exact Gs.set (S:=fun q=>q=vb) ((Gw.refl w8).gs _) rfl 5 _
      have H9:ag (HS w9 S8 (A++(A'++A8)) (B++(B'++[((i:Int)+1,(sl:Int))]))):=by
        rw [<-List.append_assoc];exact DD.o.step h8 JS.o fun q e=>⟨by rw [e];exact Nat.le_trans W0.o Wc.o,fun e'=>(JR.o q e').2.1 e⟩
      have T9:ag _:=CC.o.keep T8.o fun q hq=>N9.o q (by have:=yP.o q hq;have:=gv.o;omega)
      have G9:ag _:=kg G8.o JS.o fun q e=>.inr (by rw [e];exact Wc.o)
      have B9:ag _:=(N9.o gb (by omega)).trans B8.o
      have SKR:ag _:=k8;obtain ⟨st,eB⟩:∃ st:Bool,decide (r<tn/\bF f L i r=q)=st:=⟨_,rfl⟩;have ST:ag _:=eB;rw [eB];have v9:=Ip (v:=⟨(i:Int),(sl:Int),G,(lo:Int),(hj:Int),(r:Int)⟩) V9.o;have d5:w8.cell? ⟨vb,5,none⟩=some (AI 0):=mW V8.o rfl;have d6:w8.frozen? ⟨vb,5,none⟩=false:=Bm V8.o;have vb8:=(Array.getElem?_eq_some_iff.1 V8.o).1;have vb9:=(Array.getElem?_eq_some_iff.1 V9.o).1;have m0:w9.cell? ⟨vb,0,none⟩=some (AI (i:Int)):=v9.c0;have m1:w9.cell? ⟨vb,1,none⟩=some (AI (sl:Int)):=v9.c1;have m2:w9.cell? ⟨vb,2,none⟩=some (AI G):=v9.c2;have m3:w9.cell? ⟨vb,3,none⟩=some (AI (lo:Int)):=v9.c3;have m4:w9.cell? ⟨vb,4,none⟩=some (AI (hj:Int)):=v9.c4;have m5:w9.cell? ⟨vb,5,none⟩=some (AI (r:Int)):=v9.c5;clear h8 s8 k8 g8 n8 eB v9 Cp k0 k1 k2 k3 k4 k5 y4 c2 c4 x4 f4 u3 u4 V7 B7 G7 H7 V8 B8 T8 G8 JS AL H2 T2 G2;go_wp2_with fail;have PL:ag ((lS eps q f n L (i+1)).length<=2000000):=by show _<=_;rw [adx,LN.o];omega
      refine (CC.o.call T9.o PL.o ⟨(i:Int),(sl:Int),G,(lo:Int),(hj:Int),(r:Int)⟩ st).mono ?_;rintro e qm ⟨rfl,⟨JT,t10,iB⟩,g10⟩;have H10:ag (HS qm S8 (A++(A'++A8)) (B++(B'++[((i:Int)+1,(sl:Int))]))):=DD.o.step H9.o g10 fun q hq=>⟨by
        rcases (X2.o q hq).1 with e | e
        · exact (DJ.o q e).1
        · exact Nat.le_trans W0.o e,X8.o q hq⟩
      have T10:ag (TT qm JT (lS eps q f n L i) (oy q f n L i)):=by
        have e1:oy q f n L i=st:=by
          unfold oy;rw [if_neg (by have:=hi.o;omega),<-ST.o]
          unfold Tu;rw [RK.o];have th:=VR.o.there;rw [SG.o,RK.o] at th;have t1:(r<tn/\bF f L i r=q)↔(r<bL n L i/\bF f L i r=q):=⟨fun x=>th.1 ⟨by show (r:Int)<(tn:Int);omega,x.2⟩,fun x=>by have y:=th.2 x;have y1:(r:Int)<(tn:Int):=y.1;exact ⟨by omega,x.2⟩⟩
          by_cases e:r<tn/\bF f L i r=q
          · rw [decide_eq_true e,decide_eq_true (t1.1 e)]
          · rw [decide_eq_false e,decide_eq_false (fun x=>e (t1.2 x))]
        rw [e1,Tv eps q f n L hi.o,VI.o];exact t10
      have afz:ag (∀ q,JT q->(X q\/w.heap.size<=q)/\¬ S8 q):=fun q hq=>by
        rcases iB q hq with e | e
        · exact ⟨(X2.o q e).1,X8.o q e⟩
        · exact ⟨.inr (Nat.le_trans G9.o.size e),fun e'=>by have:=(JR.o q e').1;have:=Z9.o;omega⟩
      have G10:ag _:=kg G9.o g10 fun q hq=>by
        rcases (X2.o q hq).1 with e | e
        · exact .inl (.inr e)
        · exact .inr e
      have gb9:=(Array.getElem?_eq_some_iff.1 B9.o).1;have B10:ag _:=(g10.block gb gb9 (fun e=>by have:=yP.o gb e;have:=JQ.o;omega)).trans B9.o
      have x3:qm.cell? ⟨gb,3,none⟩=some (AI fr):=mW B10.o rfl;have AKN:ag (mV eps q f n L i (A'++A8) (B'++[((i:Int)+1,(sl:Int))])):=by
        have:=AK.o.next hi.o SKR.o LO.o HJ.o (by rw [SG.o]) (by have:=WI.o;omega)
        rw [<-VX.o] at this;exact this
      obtain ⟨nx,Cq⟩:∃ nx:Nat,(if st=true then (r:Int) else max ((r:Int)-1) fr)=(nx:Int):=⟨(if st=true then (r:Int) else max ((r:Int)-1) fr).toNat,by split<;>omega⟩
      have NXS:ag (0<i->nx=iS q L (i-1)):=fun i0=>by
        have e1:iS q L (i-1)=rs (bF f L i) (bL n L i) q:=by
          have:=aau (q:=q) (f:=f) (n:=n) (L:=L) (i-1)
          rw [show i-1+1=i by omega] at this
          exact this
        have th:=VR.o.there;have Wd:=VR.o.next;rw [SG.o,RK.o] at th Wd;rw [e1];have s:=ST.o;by_cases e:r<tn/\bF f L i r=q
        · rw [decide_eq_true e] at s
          rw [if_pos s.symm] at Cq;have y:=th.1 ⟨by show (r:Int)<(tn:Int);omega,e.2⟩
          unfold rs;rw [RK.o,if_pos y];omega
        · rw [decide_eq_false e] at s
          rw [if_neg (by rw [<-s];simp)] at Cq
          have y:=Wd (fun x=>e ⟨by have x1:(r:Int)<(tn:Int):=x.1;omega,x.2⟩)
          have y':max ((r:Int)-1) fr=((rs (bF f L i) (bL n L i) q:Nat):Int):=y;omega
      clear t10 iB g10 yQ d5 d6 vb8 m0 m1 m2 m3 m4 m5 V9 B9 T9 G9 H9 N9 JR X8 Wa;go_wp2_with fail;refine (ady (r:Int) fr st (by omega) (by omega) qm).mono ?_
      rintro e w11 ⟨rfl,We⟩;have afA:qm=w11:=We.symm;subst afA;rw [Cq];clear We Cq;go_wp2_with fail;go_roundg i
      case measure=>omega
      case rel=>exact ⟨i,nx,S8,JT,A'++A8,B'++[((i:Int)+1,(sl:Int))],rfl,by go_num,by omega,Nat.le_refl _,NXS,H10,AKN,T10,S8W,afz,G10⟩
end Go.Proofs.YtcboobmfnmgldaaGreat
namespace Go.Proofs.YtcboobmfnmgldaaGreat
open Go.RowKit
attribute [local go_sem] iy
theorem afB (br bt:Nat) (ne:br≠bt):Tt 160 (fun a b=>#[a,b,BY br,BY bt]) (Iq br bt) where
  lt h q hq:=by
    rcases (h.x q).1 hq with rfl | rfl
    · exact h.r.lt
    · exact h.t.lt
  keep h k:=⟨(k br ((h.x br).2 (.inl rfl))).trans h.r,(k bt ((h.x bt).2 (.inr rfl))).trans h.t,h.x⟩
  call {w X l st} h hl v s:=by
    obtain ⟨v0,v1,v2,v3,v4,v5⟩:=v;have HH:ag _:=h;have c1:=h.r.cell;have c2:=h.t.cell;have f1:=h.r.fz;have f2:=h.t.fz;have l1:=h.r.lt;have l2:=h.t.lt;have b1:br≠w.heap.size:=by omega
    have b2:bt≠w.heap.size:=by omega
    clear h;go_enter func160,ntmps160;go_wp2_with fail;go_end0;refine ⟨rfl,⟨X,⟨?_,?_,HH.o.x⟩,fun q hq=>.inl hq⟩,?_⟩
    · rw [Tx]
      refine (heap_alloc_old _ _ (by simpa using l1)).trans ?_
      refine (Go.Deep.blk_setCell_other _ _ _ _ ne).trans ?_;exact ye HH.o.r 0 _
    · refine (heap_alloc_old _ _ (by simpa using l2)).trans ?_
      exact ye ((Go.Deep.blk_setCell_other _ _ _ _ (fun e=>ne e.symm)).trans HH.o.t) 0 _
    · have g:=(((Gw.refl w).gs X).set ((HH.o.x br).2 (.inl rfl)) 0 (AI v5)).set ((HH.o.x bt).2 (.inr rfl)) 0 (.bool s)
      exact kg g (((Gw.refl _).alloc _ _).gs (fun _=>False)) (fun q hq=>hq.elim)
variable {p pp n:Nat} {w0 w:World} {HS:World->(Nat->Prop)->List (Int×Int)->List (Int×Int)->Prop} {eps:Int} {f:Nat->Int} {L:List (List Sg)} {S:Nat->Prop} {A B:List (Int×Int)}
theorem afC (D:qa 104 236 237 238 (BY pp) w0 HS eps f n L) (loc:∀ {w:World} {S:Nat->Prop} {A B:List (Int×Int)},HS w S A B->w.cell? ⟨p,0,none⟩=some (BY pp)/\p<w.heap.size) (M:gQ) (R:mA eps f n L) (q:Int) (q0:0<=q) (q1:q<18446744073709551616) (h:HS w S A B) (la:A.length<=1000000000) (lb:B.length<=1000000000) :
    Calls prog 139 #[BY p,By q] w fun e w'=>(∃ S' A' B',e=.returned (vD f n q)/\HS w' S' (A++A') (B++B')/\zR eps q f n L A' B'/\∀ q,S' q->S q\/w.heap.size<=q)/\Gs S w w':=by
  obtain ⟨br,ug⟩:∃ br,w.heap.size=br:=⟨_,rfl⟩;have BR:ag _:=ug;have G2:ag (Gw w ((w.alloc (.cells #[AI 0] 3)).alloc (.cells #[.bool false] 4))):=((Gw.refl w).alloc _ _).alloc _ _;have z1:(w.alloc (.cells #[AI 0] 3)).heap.size=br+1:=by rw [<-ug];simp
  have T2:ag (Iq br (br+1) ((w.alloc (.cells #[AI 0] 3)).alloc (.cells #[.bool false] 4)) (fun q=>q=br\/q=br+1) [] false):=by
    refine ⟨?_,?_,fun q=>Iff.rfl⟩
    · have:=heap_alloc_new w (.cells #[AI 0] 3)
      rw [ug] at this;exact (heap_alloc_old _ _ (by omega)).trans this
    · have:=heap_alloc_new (w.alloc (.cells #[AI 0] 3)) (.cells #[.bool false] 4)
      rw [z1] at this;exact this
  have z2:((w.alloc (.cells #[AI 0] 3)).alloc (.cells #[.bool false] 4)).heap.size=br+2:=by rw [<-ug];simp
  have Z2:ag _:=Nat.le_of_eq z2.symm;have H2:ag _:=D.grow h G2.o;have SB:ag (∀ q,S q->q<br):=fun q hq=>by have:=D.lt h q hq;omega
  have W0:ag (w0.heap.size<=br):=by have:=(D.gw h).size;show _<=_;omega
  have RR:ag _:=R;have DN:ag _:=fun (W:World) (hW:HS W S A B) (tW:Iq br (br+1) W (fun q=>q=br\/q=br+1) [] false) (dj:∀ q,(q=br\/q=br+1)->w0.heap.size<=q/\¬ S q)=>afy D loc M R (BY br) (BY (br+1)) (afB br (br+1) (by omega)) q q0 q1 hW tW dj la lb
  have DD:ag _:=D;clear h D M R la lb z1 z2;go_enter func139,ntmps139;have dj:ag (∀ q,(q=br\/q=br+1)->w0.heap.size<=q/\¬ S q):=fun q hq=>by
    have:=W0.o
    exact ⟨by omega,fun e=>by have:=SB.o q e;omega⟩
  go_wp2_with fail;refine (DN.o _ H2.o T2.o dj.o).mono ?_
  clear DN T2 H2;rintro e w3 ⟨rfl,⟨S3,X3,A3,B3,h3,k3,t3,s3,x3⟩,g3⟩;have c1:=t3.r.cell;have c2:=t3.t.cell;have l1:=t3.r.lt;have l2:=t3.t.lt;have ak:ag (∀ W,Gw w3 W->∃ S' A' B',HS W S' (A++A') (B++B')/\zR eps q f n L A' B'/\∀ q,S' q->S q\/w.heap.size<=q):=fun W gW=>⟨S3,A3,B3,DD.o.grow h3 gW,k3,fun q hq=>by
    rcases s3 q hq with e | e
    · exact .inl e
    · exact .inr (by have:=Z2.o;rw [BR.o];omega)⟩
  have G3:ag _:=kg (G2.o.gs S) g3 fun q hq=>by
    rcases hq with e | e
    · exact .inl e
    · exact .inr (by rw [BR.o];omega)
  obtain ⟨e1,e2⟩:=adz (q:=q) RR.o;rw [e1] at c1;rw [e2] at c2;have FV:ag (vD f n q=.tuple #[AI (aA f q n:Nat),.bool (decide (aA f q n<n/\f (aA f q n)=q))]):=rfl;generalize decide (aA f q n<n/\f (aA f q n)=q)=tt at c2 FV;generalize aA f q n=nn at c1 FV;clear h3 k3 t3 s3 x3 g3 e1 e2 dj;go_wp2_with fail
  first
    | (
       go_quiet (fail);go_wp2_with fail
       go_ret2
       obtain ⟨S',A',B',r1,r2,r3⟩:=ak.o _ ((Gw.refl w3).drewN _);exact ⟨⟨S',A',B',congrArg Ending.returned FV.o.symm,r1,r2,r3⟩,kg G3.o (((Gw.refl w3).drewN _).gs (fun _=>False)) (fun q hq=>hq.elim)⟩)
    | (
       go_ret2
       obtain ⟨S',A',B',r1,r2,r3⟩:=ak.o w3 (Gw.refl w3);exact ⟨⟨S',A',B',congrArg Ending.returned FV.o.symm,r1,r2,r3⟩,G3.o⟩)
end Go.Proofs.YtcboobmfnmgldaaGreat
namespace Go.Proofs.YtcboobmfnmgldaaGreat
open Go.RowKit
variable {w:World} {p pp:Nat}
theorem afD (c:w.cell? ⟨p,0,none⟩=some (BY pp)) (pl:p<w.heap.size):∀ {W:World} {S:Nat->Prop} {A B:List (Int×Int)},Ty w W S A B->W.cell? ⟨p,0,none⟩=some (BY pp)/\p<W.heap.size :=
  fun x=>⟨(x.1.cell _ _ pl).trans c,Nat.lt_of_lt_of_le pl x.1.size⟩
variable {S:Nat->Prop} {eps:Int} {f:Nat->Int} {n:Nat} {L:List (List Sg)}
theorem afE (M:gQ) (c:w.cell? ⟨p,0,none⟩=some (BY pp)) (pl:p<w.heap.size) (h:eQ w pp S eps f n L) (R:mA eps f n L) (q:Int) (q0:0<=q) (q1:q<18446744073709551616) :
    Calls prog 139 #[BY p,By q] w fun ex w'=>ex=.returned (vD f n q)/\Gw w w':=by
  refine (afC (adB h) (afD c pl) M R q q0 q1 (S:=fun _=>False) (A:=[]) (B:=[]) ⟨Gw.refl w,fun _ e=>e⟩ (by simp) (by simp)).mono ?_
  rintro ex w2 ⟨⟨S2,A2,B2,rfl,x,_⟩,_⟩;exact ⟨rfl,x.1⟩
structure gG (w:World) (p:Nat) (S:Nat->Prop) (eps:Int) (k v:Nat->Int) (g:Nat->Bool) (n:Nat) (L:List (List Sg)):Prop where
  lies:∃ (u:World) (base pp:Nat) (Sp:Nat->Prop) (eo:Option Addr) (ec:Nat),(∀ q,S q↔base<=q/\q<u.heap.size)/\u.heap.size<=w.heap.size/\(∀ q,base<=q->q<u.heap.size->w.heap[q]?=u.heap[q]?)/\u.heap[p]?=some (.cells #[BY pp,.slice eo n ec] 72 (0,0))/\base<=p/\eQ u pp Sp eps k n L/\(∀ q,Sp q->base<=q)/\ES u eo n k v g/\(∀ a,eo=some a->base<=a.block)
  rdy:mA eps k n L
section
variable {w:World} {p:Nat} {S:Nat->Prop} {eps:Int} {k v:Nat->Int} {g:Nat->Bool} {n:Nat} {L:List (List Sg)}
theorem gG.lt (h:gG w p S eps k v g n L):∀ q,S q->q<w.heap.size:=by
  obtain ⟨u,base,pp,Sp,eo,ec,h1,h2,_⟩:=h.lies;intro q hq;have:=(h1 q).1 hq;omega
theorem gG.keep {w':World} (h:gG w p S eps k v g n L) (kk:∀ q,S q->w'.heap[q]?=w.heap[q]?):gG w' p S eps k v g n L:=by
  obtain ⟨u,base,pp,Sp,eo,ec,h1,h2,h3,h4,h5,h6⟩:=h.lies;have pu:p<u.heap.size:=(Array.getElem?_eq_some_iff.1 h4).1;refine ⟨⟨u,base,pp,Sp,eo,ec,h1,?_,fun q a b=>(kk q ((h1 q).2 ⟨a,b⟩)).trans (h3 q a b),h4,h5,h6⟩,h.rdy⟩
  have e:=kk (u.heap.size-1) ((h1 _).2 ⟨by omega,by omega⟩)
  rw [Array.getElem?_eq_getElem (show u.heap.size-1<w.heap.size by omega)] at e
  have:=(Array.getElem?_eq_some_iff.1 e).1
  omega
theorem gG.own (h:gG w p S eps k v g n L):S p:=by
  obtain ⟨u,base,pp,Sp,eo,ec,h1,h2,h3,h4,h5,_⟩:=h.lies;exact (h1 p).2 ⟨h5,(Array.getElem?_eq_some_iff.1 h4).1⟩
theorem gG.opened (h:gG w p S eps k v g n L):∃ pp Sp eo ec,w.heap[p]?=some (.cells #[BY pp,.slice eo n ec] 72 (0,0))/\eQ w pp Sp eps k n L/\(∀ q,Sp q->S q)/\ES w eo n k v g:=by
  obtain ⟨u,base,pp,Sp,eo,ec,h1,h2,h3,h4,h5,h6,h7,h8,h9⟩:=h.lies;have pu:p<u.heap.size:=(Array.getElem?_eq_some_iff.1 h4).1;exact ⟨pp,Sp,eo,ec,(h3 p h5 pu).trans h4,h6.keep fun q hq=>h3 q (h7 q hq) (h6.lt q hq),fun q hq=>(h1 q).2 ⟨h7 q hq,h6.lt q hq⟩,h8.kept h9 h2 h3⟩
end
variable {w:World} {p:Nat}
theorem yR {a b:Value} {t:TypeId} (h:w.heap[p]?=some (.cells #[a,b] t (0,0))):w.cell? ⟨p,0,none⟩=some a/\w.cell? ⟨p,1,none⟩=some b:=by
  refine ⟨?_,?_⟩<;>simp [World.cell?,h]
variable {eps:Int} {f:Nat->Int} {n:Nat} {L:List (List Sg)}
theorem cQ.takenW (e1:2<=eps) (e2:eps<=64) (n1:n<=2000000) (bd:∀ t,t<n->0<=f t/\f t<18446744073709551616) (u:Up f n) (h:cQ eps f n L):ji eps f n L 0:=by
  refine .inr (.inr (.inr ⟨⟨e1,e2⟩,u,⟨?_,?_⟩,(h.chk n1 bd u).symm⟩))
  · have a:=h.low e1 n1 bd u
    have b:=LR (e:=eps.toNat) (by omega) 4294967296 n (by omega)
    unfold mo;rw [if_pos ⟨e1,e2,by decide⟩]
    show (L.length:Int)<=((gR eps.toNat 4294967296:Nat):Int);omega
  · rw [List.length_eq_zero_iff];exact h.none
variable {k v:Nat->Int} {g:Nat->Bool}
theorem Wf {ao:Option Addr} {cp:Nat} (h:ES w ao n k v g) (hn:n<=2000000) :
    Calls prog 58 #[.slice ao n cp] w fun e w'=>(∃ bo c,e=.returned (.slice bo n c)/\ER w' w.heap.size (.slice bo n c) k v g n)/\Gw w w':=by
  cases ao with
  | none =>
    have n0:n=0:=by
      rcases Nat.eq_zero_or_pos n with e | e
      · exact e
      · obtain ⟨b,off,e',_⟩:=h.cells e;cases e'
    subst n0;clear h;have hq:∀ W:World,(binOp .eql 24 (.slice none 0 cp) (.slice none 0 0)).run prog W=.ok (.bool true) W:=fun _=>by kernel_rfl
    go_enter func58,ntmps58;go_wp2_with fail;go_ret;exact ⟨⟨none,0,rfl,World.ownsRow_nil _ _ _ _⟩,Gw.refl w⟩
  | some ad =>
    have O0:ag ((w.alloc (.cells #[] 75)).ownsRow w.heap.size 75 3 (.slice (some ⟨w.heap.size,0,none⟩) 0 0) 0 []):=World.ownsRow_made w #[] 0 (Nat.le_refl _) (Nat.zero_le _) rfl;have NW:ag (∀ x,(some ad:Option Addr)=some x->∀ j u,(kE k v g n)[j]?=some u->(w.alloc (.cells #[] 75)).cell? (x.add j)=some u):=Nz (h.gw ((Gw.refl w).alloc _ _));obtain ⟨ii,aQ,hz,hs,aR⟩:=info_parts nK;clear h;have hq:∀ W:World,(binOp .eql 24 (.slice (some ad) n cp) (.slice none 0 0)).run prog W=.ok (.bool false) W:=fun _=>by kernel_rfl
    go_enter func58,ntmps58;go_wp2_with (at_builtin;refine uL _ rfl _ _ 24 rfl w.heap.size 75 ii (.agg #[By 0,By 0,.bool false]) 3 24 underlying24 aQ hz hs aR rfl (by decide) _ 0 [] rfl O0.o (some ad) n cp (kE k v g n) rfl (fun q=>by cases q) (Eo k v g n) NW.o (Ny k v g n) (by simp only [maxLen];omega) (by omega) (by simp) ?_)
    intro v' w7 q1 q2 q3;have G7:ag (Gw w w7):=((Gw.refl w).alloc _ _).grown q2 (fun k hk=>by cases hk;exact Nat.le_refl _)
    have R5:ER w7 w.heap.size v' k v g n:=by show World.ownsRow _ _ _ _ _ _ _;simpa using q1
    obtain ⟨bo,bc,rfl,_,_⟩:=Er R5;have ak:ag _:=R5;clear q1 q2 q3 aQ hz hs aR R5;go_wp2_with fail;go_ret;exact ⟨⟨bo,bc,rfl,ak.o⟩,G7.o⟩
theorem Wg (eps:Int) (ao:Option Addr) (n cp:Nat) (k v:Nat->Int) (g:Nat->Bool) (hn:n<=2000000) (dc:n<=cp) (w:World) (h:ES w ao n k v g) :
    Calls prog 28 #[.slice ao n cp,AI eps] w fun ex w'=>(∃ r,ex=.returned (AI r)/\kF eps k v g n r)/\Gw w w':=by
  have CK:ag _:=D8 ao n cp k v g (by omega) dc w h
  clear h;by_cases b:2<=eps/\eps<=64
  · have t1:decide (eps<2)=false:=by simp;omega
    have t2:decide (64<eps)=false:=by simp;omega
    have BN:ag _:=b;clear b;go_enter func28,ntmps28;go_wp2_with fail;refine Calls.mono CK.o ?_;rintro e w1 ⟨⟨r,rfl,cr⟩,g1⟩;have CR:ag _:=cr;have G1:ag _:=g1;clear CK cr g1;go_wp2_with fail;go_ret;exact ⟨⟨r,rfl,.inr ⟨BN.o,CR.o⟩⟩,G1.o⟩
  · have BN:ag (¬ (2<=eps/\eps<=64)):=b
    by_cases c:eps<2
    · have t1:decide (eps<2)=true:=by simpa using c
      clear b c;go_enter func28,ntmps28;go_wp2_with fail;go_ret;exact ⟨⟨1,rfl,.inl ⟨BN.o,rfl⟩⟩,Gw.refl w⟩
    · have t1:decide (eps<2)=false:=by simpa using c
      have t2:decide (64<eps)=true:=by simp;omega
      clear b c;go_enter func28,ntmps28;go_wp2_with fail;go_ret;exact ⟨⟨1,rfl,.inl ⟨BN.o,rfl⟩⟩,Gw.refl w⟩
theorem afF (M:gQ) (eps:Int) (ao:Option Addr) (n cp:Nat) (k v:Nat->Int) (g:Nat->Bool) (lo:Option Addr) (lc:Nat) (L:List (List Sg)) (e0:-9223372036854775808<=eps) (e1:eps<9223372036854775808) (hn:n<=2000000) (dc:n<=cp) (hS:mq L) (cL:L.length<=lc) (w:World) (h:ES w ao n k v g) (hv:VS w lo L) :
    Calls prog 31 #[.slice ao n cp,AI eps,.slice lo L.length lc] w fun ex w'=>Es gG w w' ex eps k v g n L/\Gw w w':=by
  have CK:ag _:=Wg eps ao n cp k v g hn dc w h;have HE:ag _:=h;have HV:ag _:=hv;have SH:ag _:=hS;have KB:ag (∀ t,t<n->0<=k t/\k t<18446744073709551616):=fun t ht=>(h.bd t ht).1
  have P9:ag (∀ (ko:Option Addr) (W:World),KS W ko n k->VS W lo L->Calls prog 57 #[.slice ko n n,AI eps,.slice lo L.length lc] W fun ex w'=>Nb eQ W w' ex eps k n L/\Gw W w'):=fun ko W hk hw=>of9 M eps ko n n k lo lc L e0 e1 hn (Nat.le_refl _) hS cL W hk hw
  obtain ⟨ln,au⟩:∃ ln,L.length=ln:=⟨_,rfl⟩;rw [au] at P9 cL ⊢;clear h hv hS au M;go_enter func31,ntmps31;go_wp2_with fail;refine Calls.mono CK.o ?_;rintro e w1 ⟨⟨r,rfl,cr⟩,g1⟩;have CR:ag _:=cr;have G1:ag _:=g1;clear CK cr g1;by_cases r0:r=0
  · subst r0
    go_wp2_with fail;refine Calls.mono (Ni ao n cp k v g (by omega) w1 (HE.o.gw G1.o)) ?_
    rintro e w2 ⟨⟨kb,rfl,jk,sS⟩,g2⟩;have G2:ag _:=G1.o.trans g2;have K2:ag (KS w2 (some ⟨kb,0,none⟩) n k):=⟨fun _=>⟨kb,0,rfl,sS.lt,fun i hi=>by rw [Nat.zero_add];exact sS.cell hi⟩,KB.o⟩
    clear sS g2 jk G1;go_wp2_with fail;refine Calls.mono (P9.o _ w2 K2.o (HV.o.gw G2.o)) ?_;rintro e w3 ⟨⟨E,cE,x⟩,g3⟩;have G3:ag _:=G2.o.trans g3;have CE:ag _:=cE;have Z2:ag _:=G2.o.size;clear cE g3 K2 G2;rcases x with ⟨x0,rfl⟩ | ⟨rfl,pp,Sp,rfl,hS,hp⟩
    · have x0':(E != 0)=true:=by simpa using x0
      have X0:ag _:=x0;clear x0;go_wp2_with fail;go_ret2;exact ⟨⟨E,⟨0,CR.o,.inr ⟨rfl,CE.o⟩⟩,.inl ⟨X0.o,rfl⟩⟩,G3.o⟩
    · have HP:ag (eQ w3 pp Sp eps k n L/\∀ q,Sp q->w2.heap.size<=q):=⟨hp,hS⟩
      clear hp hS;go_wp2_with fail;refine Calls.mono (Wf (HE.o.gw G3.o) hn) ?_;rintro e w4 ⟨⟨bo,bc,rfl,er⟩,g4⟩;obtain ⟨FH,bc',e',_,bu⟩:=Er er;cases e';have E4:ag (ES w4 bo n k v g/\∀ a,bo=some a->w3.heap.size<=a.block/\a.block<w4.heap.size):=⟨Ep er HE.o.bd,bu⟩;have Cr:ag _:=g4;clear er g4 bu;have ak:ag (Es gG w (w4.alloc (.cells #[BY pp,.slice bo n bc] 72)) (.returned (.tuple #[BY (w4.heap.size),AI 0])) eps k v g n L):=by
        have zz:=Cr.o.size;have z3:=G3.o.size;have z2:=Z2.o;have gA:Gw w4 (w4.alloc (.cells #[BY pp,.slice bo n bc] 72)):=(Gw.refl w4).alloc _ _;have g3A:=Cr.o.trans gA;refine ⟨0,⟨0,CR.o,.inr ⟨rfl,CE.o⟩⟩,.inr ⟨rfl,w4.heap.size,fun q=>w.heap.size<=q/\q<w4.heap.size+1,rfl,fun q hq=>hq.1,⟨⟨_,w.heap.size,pp,Sp,bo,bc,fun q=>by simp,Nat.le_refl _,fun _ _ _=>rfl,heap_alloc_new w4 _,by omega,HP.o.1.keep fun q hq=>g3A.below.block q (HP.o.1.lt q hq),fun q hq=>Nat.le_trans z2 (HP.o.2 q hq),E4.o.1.gw gA,fun a ea=>by have:=(E4.o.2 a ea).1;omega⟩,mA.of CE.o hn SH.o KB.o⟩⟩⟩
      have G4:ag _:=G3.o.trans Cr.o;clear E4 Cr HP CE CR;go_wp2_with fail;go_ret2;exact ⟨ak.o,G4.o.alloc _ _⟩
  · have vN:(r != 0)=true:=by simpa using r0
    have R0:ag _:=r0;clear r0;go_wp2_with fail;go_ret2;exact ⟨⟨r,⟨r,CR.o,.inl ⟨R0.o,rfl⟩⟩,.inl ⟨R0.o,rfl⟩⟩,G1.o⟩
theorem afG (BO:DT) (OF:∀ (eps:Int) (ao:Option Addr) (n cp:Nat) (k v:Nat->Int) (g:Nat->Bool) (lo:Option Addr) (lc:Nat) (L:List (List Sg)),-9223372036854775808<=eps->eps<9223372036854775808->n<=2000000->n<=cp->mq L->L.length<=lc->∀ w:World,ES w ao n k v g->VS w lo L->Calls prog 31 #[.slice ao n cp,AI eps,.slice lo L.length lc] w fun ex w'=>Es gG w w' ex eps k v g n L/\Gw w w') (eps:Int) (ao:Option Addr) (n cp:Nat) (k v:Nat->Int) (g:Nat->Bool) (e0:-9223372036854775808<=eps) (e1:eps<9223372036854775808) (hn:n<=2000000) (dc:n<=cp) (w:World) (h:ES w ao n k v g) :
    Calls prog 16 #[.slice ao n cp,AI eps] w fun ex w'=>nP gG w w' ex eps k v g n/\Gw w w':=by
  have CK:ag _:=Wg eps ao n cp k v g hn dc w h;have HE:ag _:=h;have KB:ag (∀ t,t<n->0<=k t/\k t<18446744073709551616):=fun t ht=>(h.bd t ht).1
  clear h;go_enter func16,ntmps16;go_wp2_with fail;refine Calls.mono CK.o ?_;rintro e w1 ⟨⟨r,rfl,cr⟩,g1⟩;have CR:ag _:=cr;have G1:ag _:=g1;clear CK cr g1;by_cases r0:r=0
  · subst r0
    go_wp2_with fail;refine Calls.mono (Ni ao n cp k v g (by omega) w1 (HE.o.gw G1.o)) ?_
    rintro e w2 ⟨⟨kb,rfl,jk,sS⟩,g2⟩;have G2:ag _:=G1.o.trans g2;have K2:ag (KS w2 (some ⟨kb,0,none⟩) n k):=⟨fun _=>⟨kb,0,rfl,sS.lt,fun i hi=>by rw [Nat.zero_add];exact sS.cell hi⟩,KB.o⟩
    clear sS g2 jk G1;go_wp2_with fail;refine Calls.mono (BO eps _ n n k e0 e1 hn (Nat.le_refl _) w2 K2.o) ?_;rintro e w3 ⟨⟨lo,lc,L,err,az,rfl,be,cL,ow,Wh⟩,g3⟩;obtain ⟨⟨a1,a2⟩,up⟩:=kF.up CR.o;have tP:cQ eps k n L/\err=0:=by
      rcases be with ⟨x,_⟩ | ⟨_,x,_⟩ | ⟨_,_,x,y⟩
      · exact absurd ⟨a1,a2⟩ x
      · exact absurd up x
      · exact ⟨x,y⟩
    obtain ⟨br,rfl⟩:=tP;have G3:ag _:=G2.o.trans g3;have JU:ag _:=OF eps ao n cp k v g lo lc L e0 e1 hn dc (br.fine a1 hn KB.o up) cL w3 (HE.o.gw G3.o) (ow.vsf Wh).vs;have BR:ag (cQ eps k n L/\ji eps k n L 0):=⟨br,br.takenW a1 a2 hn KB.o up⟩;obtain ⟨ln,au⟩:∃ ln,L.length=ln:=⟨_,rfl⟩;rw [au] at JU ⊢;clear br be ow Wh cL g3 G2 K2 au up a1 a2;go_wp2_with fail;refine Calls.mono JU.o ?_;rintro e w4 ⟨⟨E,⟨r,ne,oe⟩,x⟩,g4⟩;have G4:ag _:=G3.o.trans g4;have er:=ne.one CR.o;subst er;rcases oe with ⟨oe,_⟩ | ⟨_,oe⟩
    · exact absurd rfl oe
    have eE:=oe.one BR.o.2;subst eE;rcases x with ⟨x,_⟩ | ⟨_,p,S,rfl,hS,hr⟩
    · exact absurd rfl x
    have ak:ag (nP gG w w4 (.returned (.tuple #[BY p,AI 0])) eps k v g n):=⟨0,CR.o,.inr ⟨rfl,p,S,L,rfl,fun q hq=>Nat.le_trans G3.o.size (hS q hq),BR.o.1,hr⟩⟩
    clear g4 ne oe hS hr BR G3 JU CR;go_wp2_with fail;go_ret2;exact ⟨ak.o,G4.o⟩
  · have vN:(r != 0)=true:=by simpa using r0
    have R0:ag _:=r0;clear r0;go_wp2_with fail;go_ret2;exact ⟨⟨r,CR.o,.inl ⟨R0.o,rfl⟩⟩,G1.o⟩
end Go.Proofs.YtcboobmfnmgldaaGreat
namespace Go.Proofs.YtcboobmfnmgldaaGreat
open Go.RowKit
attribute [local go_sem] iy
def Cs (b:Nat) (u:World) (x y:Int) (z:Bool):Prop:=(((u.setCell ⟨b,0,none⟩ (By x)).setCell ⟨b,1,none⟩ (By y)).setCell ⟨b,2,none⟩ (.bool z)).cell? ⟨b,0,none⟩=some (By x)/\(((u.setCell ⟨b,0,none⟩ (By x)).setCell ⟨b,1,none⟩ (By y)).setCell ⟨b,2,none⟩ (.bool z)).cell? ⟨b,1,none⟩=some (By y)/\(((u.setCell ⟨b,0,none⟩ (By x)).setCell ⟨b,1,none⟩ (By y)).setCell ⟨b,2,none⟩ (.bool z)).cell? ⟨b,2,none⟩=some (.bool z)
theorem Wj {b:Nat} {u:World} {x0 y0 z0:Value} {t:TypeId} (h:u.heap[b]?=some (.cells #[x0,y0,z0] t (0,0))) (x y:Int) (z:Bool):Cs b u x y z:=by
  unfold Cs;refine ⟨?_,?_,?_⟩<;>simp [World.cell?,World.setCell,Array.getElem?_modify,h]
variable {w:World} {p n:Nat} {S:Nat->Prop} {eps:Int} {k v:Nat->Int} {g:Nat->Bool} {L:List (List Sg)}
theorem afH (h:gG w p S eps k v g n L):Calls prog 8 #[BY p] w fun e w'=>e=.returned (AI (n:Int))/\Gw w w':=by
  obtain ⟨pp,Sp,eo,ec,h1,hp,hs,he⟩:=h.opened;obtain ⟨c0,c1⟩:=yR h1;clear h h1 hp hs he;go_enter func8,ntmps8;go_wp2_with fail;go_ret;exact ⟨rfl,Gw.refl w⟩
theorem afI (h:gG w p S eps k v g n L) (i:Int) :
    Calls prog 129 #[BY p,AI i] w fun e w'=>e=.returned (.tuple #[(qV k v g n i).1,AI (qV k v g n i).2])/\Gw w w':=by
  obtain ⟨pp,Sp,eo,ec,h1,hp,hs,hk⟩:=h.opened;obtain ⟨c0,c1⟩:=yR h1;have pl:p<w.heap.size:=(Array.getElem?_eq_some_iff.1 h1).1;have hn:=h.rdy.n1;clear h h1 hp hs;unfold qV;by_cases a:i<0
  · have t1:decide (i<0)=true:=by simpa using a
    rw [if_neg (by omega)]
    clear hk a;go_enter func129,ntmps129;go_wp2_with fail;exact bodyPost_ret (v:=.tuple #[.agg #[By 0,By 0,.bool false],AI 1]) (by simp [results,results129,go_sem]) rfl ⟨rfl,(Gw.refl w).alloc _ _⟩
  · have t1:decide (i<0)=false:=by simpa using a
    by_cases b:(n:Int)<=i
    · have t2:decide ((n:Int)<=i)=true:=by simpa using b
      rw [if_neg (by omega)]
      clear hk a;go_enter func129,ntmps129;go_wp2_with fail;exact bodyPost_ret (v:=.tuple #[.agg #[By 0,By 0,.bool false],AI 1]) (by simp [results,results129,go_sem]) rfl ⟨rfl,(Gw.refl w).alloc _ _⟩
    · have t2:decide ((n:Int)<=i)=false:=by simpa using b
      rw [if_pos (by omega)]
      obtain ⟨j,rfl⟩:∃ j:Nat,i=(j:Int):=⟨i.toNat,by omega⟩
      obtain ⟨kb,ko,rfl,jk,dY⟩:=hk.cells (by omega)
      obtain ⟨d1,d2,d3⟩:=dY j (by omega)
      have jl:j<n:=by omega
      have tN:(j:Int)<(n:Int):=by omega
      show Calls _ _ _ _ fun e w'=>e=.returned (.tuple #[.agg #[By (k j),By (v j),.bool (g j)],AI 0])/\Gw w w'
      generalize k j=kj at d1 ⊢;generalize v j=vj at d2 ⊢;generalize g j=gj at d3 ⊢;clear hk dY a b;go_enter func129,ntmps129;go_wp2_with fail;exact bodyPost_ret (v:=.tuple #[.agg #[By kj,By vj,.bool gj],AI 0]) (by simp [results,results129,go_sem]) rfl ⟨rfl,(Gw.refl w).alloc _ _⟩
theorem afJ (h:gG w p S eps k v g n L):Calls prog 69 #[BY p] w fun e w'=>(∃ bo c,e=.returned (.slice bo n c)/\ER w' w.heap.size (.slice bo n c) k v g n)/\Gw w w':=by
  obtain ⟨pp,Sp,eo,ec,h1,hp,hs,he⟩:=h.opened;obtain ⟨c0,c1⟩:=yR h1;have CE:ag (Calls prog 58 #[.slice eo n ec] w fun e w'=>(∃ bo c,e=.returned (.slice bo n c)/\ER w' w.heap.size (.slice bo n c) k v g n)/\Gw w w'):=Wf he h.rdy.n1
  clear h h1 hp hs he;go_enter func69,ntmps69;go_wp2_with fail;refine Calls.mono CE.o ?_;rintro e w2 ⟨⟨bo,c,rfl,er⟩,g2⟩;have ER2:ag _:=er;have G2:ag _:=g2;clear er g2 CE c0 c1;go_wp2_with fail;go_ret;exact ⟨⟨bo,c,rfl,ER2.o⟩,G2.o⟩
theorem afK (M:gQ) (h:gG w p S eps k v g n L) (q:Int) (q0:0<=q) (q1:q<18446744073709551616) :
    Calls prog 118 #[BY p,By q] w fun e w'=>e=.returned (.tuple #[(jm k v g n q).1,.bool (jm k v g n q).2])/\Gw w w':=by
  obtain ⟨pp,Sp,eo,ec,h1,hp,hs,he⟩:=h.opened;obtain ⟨c0,c1⟩:=yR h1;have pl:p<w.heap.size:=(Array.getElem?_eq_some_iff.1 h1).1;have hn:=h.rdy.n1;have FF:ag (∀ W,Gw w W->Calls prog 139 #[BY p,By q] W fun ex w'=>ex=.returned (vD k n q)/\Gw W w'):=fun W gg=>afE M ((gg.cell _ _ pl).trans c0) (Nat.lt_of_lt_of_le pl gg.size) (hp.keep fun q hq=>gg.below.block q (hp.lt q hq)) h.rdy q q0 q1
  unfold vD at FF;have HE:ag _:=he;have C1:ag (w.cell? ⟨p,1,none⟩=some (.slice eo n ec)/\p<w.heap.size):=⟨c1,pl⟩;have lc:=nD k q n;unfold jm;clear h h1 hp hs he c0 c1 M pl;generalize aA k q n=c at FF lc ⊢;by_cases b:c<n/\k c=q
  · rw [if_pos b]
    rw [decide_eq_true b] at FF;have hc:=b.1;clear b;obtain ⟨kj,JV⟩:∃ x,k c=x:=⟨_,rfl⟩;obtain ⟨vj,JW⟩:∃ x,v c=x:=⟨_,rfl⟩;obtain ⟨gj,JX⟩:∃ x,g c=x:=⟨_,rfl⟩;have KJ:ag (k c=kj/\v c=vj/\g c=gj):=⟨JV,JW,JX⟩;show Calls _ _ _ _ fun e w'=>e=.returned (.tuple #[.agg #[By (k c),By (v c),.bool (g c)],.bool true])/\Gw w w'
    rw [JV,JW,JX];clear JV JW JX;go_enter func118,ntmps118;go_wp2_with fail;refine Calls.mono (FF.o _ ((Gw.refl w).alloc _ _)) ?_;rintro e u1 ⟨rfl,gg⟩;have G1:Gw w u1:=((Gw.refl w).alloc _ _).trans gg;have c1:u1.cell? ⟨p,1,none⟩=some (.slice eo n ec):=(G1.cell _ _ C1.o.2).trans C1.o.1;have pl:p<u1.heap.size:=Nat.lt_of_lt_of_le C1.o.2 G1.size;obtain ⟨kb,ko,rfl,jk,dY⟩:=(HE.o.gw G1).cells (by omega)
    obtain ⟨d1,d2,d3⟩:=dY c hc;have GG:ag _:=G1;have NB:ag (u1.heap[w.heap.size]?=some (.cells #[By 0,By 0,.bool false] 75 (0,0))):=(gg.below.block _ (by simp)).trans (heap_alloc_new _ _)
    have kC:(c:Int)<(n:Int):=by omega
    rw [KJ.o.1] at d1;rw [KJ.o.2.1] at d2;rw [KJ.o.2.2] at d3;clear dY gg G1 FF KJ;obtain ⟨bq,aE⟩:∃ b,w.heap.size=b:=⟨_,rfl⟩;have BQ:ag _:=aE;rw [aE] at NB;have m0:u1.cell? ⟨bq,0,none⟩=some (By 0):=by simp [World.cell?,NB.o]
    have m1:u1.cell? ⟨bq,1,none⟩=some (By 0):=by simp [World.cell?,NB.o]
    have m2:u1.cell? ⟨bq,2,none⟩=some (.bool false):=by simp [World.cell?,NB.o]
    have z0:u1.frozen? ⟨bq,0,none⟩=false:=by simp [World.frozen?,NB.o]
    have z1:u1.frozen? ⟨bq,1,none⟩=false:=by simp [World.frozen?,NB.o]
    have z2:u1.frozen? ⟨bq,2,none⟩=false:=by simp [World.frozen?,NB.o]
    have bl:bq<u1.heap.size:=(Array.getElem?_eq_some_iff.1 NB.o).1;have TT:Cs bq u1 kj vj gj:=Wj NB.o _ _ _;go_wp2_with fail;exact bodyPost_ret (v:=.tuple #[.agg #[By kj,By vj,.bool gj],.bool true]) (by simp [results,results118,go_sem,TT.1,TT.2.1,TT.2.2]) rfl ⟨rfl,((GG.o.setCell (Nat.le_of_eq BQ.o) _).setCell (Nat.le_of_eq BQ.o) _).setCell (Nat.le_of_eq BQ.o) _⟩
  · rw [if_neg b]
    rw [decide_eq_false b] at FF;clear b;go_enter func118,ntmps118;go_wp2_with fail;refine Calls.mono (FF.o _ ((Gw.refl w).alloc _ _)) ?_;rintro e u1 ⟨rfl,gg⟩;have GG:ag (Gw w u1):=((Gw.refl w).alloc _ _).trans gg;have NB:ag (u1.heap[w.heap.size]?=some (.cells #[By 0,By 0,.bool false] 75 (0,0))):=(gg.below.block _ (by simp)).trans (heap_alloc_new _ _)
    clear gg FF;obtain ⟨bq,aE⟩:∃ b,w.heap.size=b:=⟨_,rfl⟩;have BQ:ag _:=aE;rw [aE] at NB;have m0:u1.cell? ⟨bq,0,none⟩=some (By 0):=by simp [World.cell?,NB.o]
    have m1:u1.cell? ⟨bq,1,none⟩=some (By 0):=by simp [World.cell?,NB.o]
    have m2:u1.cell? ⟨bq,2,none⟩=some (.bool false):=by simp [World.cell?,NB.o]
    have z0:u1.frozen? ⟨bq,0,none⟩=false:=by simp [World.frozen?,NB.o]
    have z1:u1.frozen? ⟨bq,1,none⟩=false:=by simp [World.frozen?,NB.o]
    have z2:u1.frozen? ⟨bq,2,none⟩=false:=by simp [World.frozen?,NB.o]
    have bl:bq<u1.heap.size:=(Array.getElem?_eq_some_iff.1 NB.o).1;have TT:Cs bq u1 0 0 false:=Wj NB.o _ _ _;go_wp2_with fail;exact bodyPost_ret (v:=.tuple #[.agg #[By 0,By 0,.bool false],.bool false]) (by simp [results,results118,go_sem,TT.1,TT.2.1,TT.2.2]) rfl ⟨rfl,((GG.o.setCell (Nat.le_of_eq BQ.o) _).setCell (Nat.le_of_eq BQ.o) _).setCell (Nat.le_of_eq BQ.o) _⟩
end Go.Proofs.YtcboobmfnmgldaaGreat
namespace Go.Proofs.YtcboobmfnmgldaaGreat
open Go.RowKit
theorem afL:bJ gG where
  keep h k:=h.keep k
  lt h:=h.lt
  own h:=h.own
  ready h:=h.rdy
  pile h:=by
    obtain ⟨pp,Sp,eo,ec,h1,hp,hs,_⟩:=h.opened;exact ⟨pp,Sp,(yR h1).1,hp,hs⟩
  new eps ao n cp k v g e0 e1 hn dc hz w h:=afG afk (fun eps ao n cp k v g lo lc L e0 e1 hn dc hS cL w h hv=>afF JC eps ao n cp k v g lo lc L e0 e1 hn dc hS cL w h hv) eps ao n cp k v g e0 e1 hn dc w h
  len h:=afH h
  at_ h i i0 i1:=afI h i
  list h:=afJ h
  get h q q0 q1:=afK JC h q q0 q1
end Go.Proofs.YtcboobmfnmgldaaGreat
