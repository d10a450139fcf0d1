/- Promoted methods, found through the embedded pointer. -/
import Derived.Test.YtklkpldicbkjeaaGreatVPZd
import Derived.Test.YtklkpldicbkjeaaGreatVZOf
set_option linter.unusedVariables false
set_option maxHeartbeats 8000000
set_option maxRecDepth 10000
open Go.Proofs.Tryz
namespace Go.Proofs.YtklkpldicbkjeaaGreat
open Go.RowKit
theorem BC (pp:Nat) (p:Nat) (W:World) (c:W.cell? ⟨p,0,none⟩=some (.pointer (some ⟨pp,0,none⟩))):(loadVar 99 ⟨p,0,none⟩).run prog W=.ok (.pointer (some ⟨pp,0,none⟩)) W:=by
  simp [go_sem,c]
theorem ae9:(prog.info? 57).map (fun i=>(i.methods.find? (·.name == "Key")).map (fun m=>(m.path.toList.map (fun s=>(s.struct,s.index,s.deref)),m.func)))=some (some ([(101,0,true)],some (218,true))):=by kernel_rfl
theorem ae' (p pp:Nat) (W:World) (c:W.cell? ⟨p,0,none⟩=some (.pointer (some ⟨pp,0,none⟩))):∀ k,(method (k+1) 57 (.pointer (some ⟨p,0,none⟩)) "Key").run prog W=.ok (218,.pointer (some ⟨pp,0,none⟩)) W:=by
  intro k;obtain ⟨i,hi,h2⟩:=Option.map_eq_some_iff.1 ae9;obtain ⟨m,hm,h3⟩:=Option.map_eq_some_iff.1 h2;simp only [Prod.mk.injEq] at h3;obtain ⟨h4,h5⟩:=h3;have hp:m.path.toList=[⟨101,0,true⟩]:=by
    generalize m.path.toList=l at h4
    match l,h4 with
    | [⟨a,b,d⟩],h4=>simp at h4;obtain ⟨rfl,rfl,rfl⟩:=h4;rfl
  have hl:=BC pp p W c;have z:∀ W,(sizeOf 99).run prog W=.ok 1 W:=fun W=>by kernel_rfl
  unfold method;simp only [Sem.run_bind,typeInfo,run_program,Result.andThen_ok,hi,Sem.run_pure,hm,hp,h5,follow,run_underlying underlying101];simp [Place.get,asAddr,fieldPlace,z,receiverAt,run_underlying underlying99,Addr.add_lit,hl]
theorem afa:(prog.info? 57).map (fun i=>(i.methods.find? (·.name == "Eps")).map (fun m=>(m.path.toList.map (fun s=>(s.struct,s.index,s.deref)),m.func)))=some (some ([(101,0,true)],some (49,true))):=by kernel_rfl
theorem afb (p pp:Nat) (W:World) (c:W.cell? ⟨p,0,none⟩=some (.pointer (some ⟨pp,0,none⟩))):∀ k,(method (k+1) 57 (.pointer (some ⟨p,0,none⟩)) "Eps").run prog W=.ok (49,.pointer (some ⟨pp,0,none⟩)) W:=by
  intro k;obtain ⟨i,hi,h2⟩:=Option.map_eq_some_iff.1 afa;obtain ⟨m,hm,h3⟩:=Option.map_eq_some_iff.1 h2;simp only [Prod.mk.injEq] at h3;obtain ⟨h4,h5⟩:=h3;have hp:m.path.toList=[⟨101,0,true⟩]:=by
    generalize m.path.toList=l at h4
    match l,h4 with
    | [⟨a,b,d⟩],h4=>simp at h4;obtain ⟨rfl,rfl,rfl⟩:=h4;rfl
  have hl:=BC pp p W c;have z:∀ W,(sizeOf 99).run prog W=.ok 1 W:=fun W=>by kernel_rfl
  unfold method;simp only [Sem.run_bind,typeInfo,run_program,Result.andThen_ok,hi,Sem.run_pure,hm,hp,h5,follow,run_underlying underlying101];simp [Place.get,asAddr,fieldPlace,z,receiverAt,run_underlying underlying99,Addr.add_lit,hl]
theorem afc:(prog.info? 57).map (fun i=>(i.methods.find? (·.name == "Height")).map (fun m=>(m.path.toList.map (fun s=>(s.struct,s.index,s.deref)),m.func)))=some (some ([(101,0,true)],some (76,true))):=by kernel_rfl
theorem afd (p pp:Nat) (W:World) (c:W.cell? ⟨p,0,none⟩=some (.pointer (some ⟨pp,0,none⟩))):∀ k,(method (k+1) 57 (.pointer (some ⟨p,0,none⟩)) "Height").run prog W=.ok (76,.pointer (some ⟨pp,0,none⟩)) W:=by
  intro k;obtain ⟨i,hi,h2⟩:=Option.map_eq_some_iff.1 afc;obtain ⟨m,hm,h3⟩:=Option.map_eq_some_iff.1 h2;simp only [Prod.mk.injEq] at h3;obtain ⟨h4,h5⟩:=h3;have hp:m.path.toList=[⟨101,0,true⟩]:=by
    generalize m.path.toList=l at h4
    match l,h4 with
    | [⟨a,b,d⟩],h4=>simp at h4;obtain ⟨rfl,rfl,rfl⟩:=h4;rfl
  have hl:=BC pp p W c;have z:∀ W,(sizeOf 99).run prog W=.ok 1 W:=fun W=>by kernel_rfl
  unfold method;simp only [Sem.run_bind,typeInfo,run_program,Result.andThen_ok,hi,Sem.run_pure,hm,hp,h5,follow,run_underlying underlying101];simp [Place.get,asAddr,fieldPlace,z,receiverAt,run_underlying underlying99,Addr.add_lit,hl]
theorem afe:(prog.info? 57).map (fun i=>(i.methods.find? (·.name == "Segment")).map (fun m=>(m.path.toList.map (fun s=>(s.struct,s.index,s.deref)),m.func)))=some (some ([(101,0,true)],some (95,true))):=by kernel_rfl
theorem aff (p pp:Nat) (W:World) (c:W.cell? ⟨p,0,none⟩=some (.pointer (some ⟨pp,0,none⟩))):∀ k,(method (k+1) 57 (.pointer (some ⟨p,0,none⟩)) "Segment").run prog W=.ok (95,.pointer (some ⟨pp,0,none⟩)) W:=by
  intro k;obtain ⟨i,hi,h2⟩:=Option.map_eq_some_iff.1 afe;obtain ⟨m,hm,h3⟩:=Option.map_eq_some_iff.1 h2;simp only [Prod.mk.injEq] at h3;obtain ⟨h4,h5⟩:=h3;have hp:m.path.toList=[⟨101,0,true⟩]:=by
    generalize m.path.toList=l at h4
    match l,h4 with
    | [⟨a,b,d⟩],h4=>simp at h4;obtain ⟨rfl,rfl,rfl⟩:=h4;rfl
  have hl:=BC pp p W c;have z:∀ W,(sizeOf 99).run prog W=.ok 1 W:=fun W=>by kernel_rfl
  unfold method;simp only [Sem.run_bind,typeInfo,run_program,Result.andThen_ok,hi,Sem.run_pure,hm,hp,h5,follow,run_underlying underlying101];simp [Place.get,asAddr,fieldPlace,z,receiverAt,run_underlying underlying99,Addr.add_lit,hl]
theorem afg {p pp:Nat} {w0:World} {HS:World->(Nat->Prop)->List (Int×Int)->List (Int×Int)->Prop} {eps:Int} {f:Nat->Int} {n:Nat} {L:List (List Sg)} (D:pQ 49 76 218 95 (.pointer (some ⟨pp,0,none⟩)) w0 HS eps f n L) (loc:∀ {w:World} {S:Nat->Prop} {A B:List (Int×Int)},HS w S A B->w.cell? ⟨p,0,none⟩=some (.pointer (some ⟨pp,0,none⟩))/\p<w.heap.size) (i:Nat) (hi:i<L.length) (hl:L.length<=2000000) (eZ cG te r:Nat) (sl gu rk q:Int) (q0:0<=q) (q1:q<18446744073709551616) (lr:eZ<=r) (rh:r<=cG) (ht:cG<=te) (tn:te<=bD n L i) (te1:te<=4294967296) (Wg:∀ t,t<r->bj f L i t<q) (Wh:∀ t,r<=t->t<bD n L i->q<=bj f L i t) {w:World} {S:Nat->Prop} {A B:List (Int×Int)} (h:HS w S A B) (la:A.length+(cG-eZ)<=1999999999) :
    Calls prog 132 #[.pointer (some ⟨p,0,none⟩),Mu ⟨(i:Int),sl,gu,(eZ:Int),(cG:Int),rk⟩,.int .i64 (te:Int),.int .u64 q] w fun e w'=>(∃ S' A',e=.returned (.tuple #[.int .i64 (r:Int),.bool (decide (r<te/\bj f L i r=q))])/\HS w' S' (A++A') B/\(∀ q,S' q->S q\/w.heap.size<=q)/\xH i eZ cG te A')/\Gs S w w':=by
  have HH:ag (HS (w.alloc (.cells #[.int .i64 (i:Int),.int .i64 sl,.int .i64 gu,.int .i64 (eZ:Int),.int .i64 (cG:Int),.int .i64 rk] 180)) S A B):=D.grow h ((Gw.refl w).alloc _ _);have SW:ag _:=D.lt h;have BK:ag ((w.alloc (.cells #[.int .i64 (i:Int),.int .i64 sl,.int .i64 gu,.int .i64 (eZ:Int),.int .i64 (cG:Int),.int .i64 rk] 180)).heap[w.heap.size]?=some (.cells #[.int .i64 (i:Int),.int .i64 sl,.int .i64 gu,.int .i64 (eZ:Int),.int .i64 (cG:Int),.int .i64 rk] 180 (0,0))):=heap_alloc_new w _;have G0:ag (Gs S w (w.alloc (.cells #[.int .i64 (i:Int),.int .i64 sl,.int .i64 gu,.int .i64 (eZ:Int),.int .i64 (cG:Int),.int .i64 rk] 180))):=((Gw.refl w).alloc _ _).gs S;have z1:((w.alloc (.cells #[.int .i64 (i:Int),.int .i64 sl,.int .i64 gu,.int .i64 (eZ:Int),.int .i64 (cG:Int),.int .i64 rk] 180)).heap.size=w.heap.size+1):=by simp
  have Z1:ag _:=z1;clear z1;have mK:∀ W:World,W.cell? ⟨p,0,none⟩=some (.pointer (some ⟨pp,0,none⟩))->(method 394 57 (.pointer (some ⟨p,0,none⟩)) "Key").run prog W=.ok (218,.pointer (some ⟨pp,0,none⟩)) W:=fun W c=>ae' p pp W c _
  have DD:ag _:=D;have sC:ag (∀ {w:World} {S:Nat->Prop} {A B:List (Int×Int)},HS w S A B->w.cell? ⟨p,0,none⟩=some (.pointer (some ⟨pp,0,none⟩))/\p<w.heap.size):=loc;have BEL:ag _:=Wg;have ABO:ag _:=Wh;have TN:ag (te<=bD n L i/\i<L.length/\L.length<=2000000):=⟨tn,hi,hl⟩;clear h D Wg Wh tn hi loc;obtain ⟨st,eQ⟩:∃ st:Bool,decide (r<te/\bj f L i r=q)=st:=⟨_,rfl⟩;have ST:ag _:=eQ;rw [eQ];clear eQ;go_enter func132,ntmps132;go_wp2_with fail;generalize w.alloc (.cells #[.int .i64 (i:Int),.int .i64 sl,.int .i64 gu,.int .i64 (eZ:Int),.int .i64 (cG:Int),.int .i64 rk] 180)=w1 at HH BK G0 Z1 ⊢;obtain ⟨vb,sD⟩:∃ vb,w.heap.size=vb:=⟨_,rfl⟩;have VB:ag _:=sD;rw [sD] at BK SW Z1 ⊢;clear sD;have VV:ag (Mv w1 vb 0 ⟨(i:Int),sl,gu,(eZ:Int),(cG:Int),rk⟩):=Ie BK.o;have k3:w1.cell? ⟨vb,3,none⟩=some (.int .i64 (eZ:Int)):=VV.o.c3;have k4:w1.cell? ⟨vb,4,none⟩=some (.int .i64 (cG:Int)):=VV.o.c4;have kb:vb<w1.heap.size:=(Array.getElem?_eq_some_iff.1 BK.o).1;go_quiet (fail);have H1:ag _:=DD.o.grow HH.o ((Gw.refl w1).drewN nq);have G1:ag _:=((Gw.refl w1).drewN nq).gs S;have DF:ag (false=decide (cG<cG/\bj f L i cG=q)):=(decide_eq_false (fun x=>Nat.lt_irrefl _ x.1)).symm
  clear HH k3 k4;go_wp2_with fail;go_loopg [9,10,11] (cG-eZ) (fun gg s9 iV nP wr=>∃ (l h:Nat) (t:Bool) (S':Nat->Prop) (A':List (Int×Int)),s9=.bool t/\iV=.int .i64 (l:Int)/\nP=.int .i64 (h:Int)/\eZ<=l/\l<=r/\r<=h/\h<=cG/\h-l<=gg/\A'.length+(h-l)<=cG-eZ/\ag (t=decide (h<cG/\bj f L i h=q))/\ag (HS wr S' (A++A') B)/\ag (∀ q,S' q->S q\/vb+1<=q)/\ag (pR i eZ cG l h A')/\ag (Gs S w1 wr))
  case atStart=>exact ⟨eZ,cG,false,S,[],rfl,rfl,rfl,Nat.le_refl _,lr,rh,Nat.le_refl _,Nat.le_refl _,by simp,DF,(by rw [List.append_nil];exact H1),(show ag _ from fun q hq=>.inl hq),(show ag _ from ⟨by simp,fun a ha=>by simp at ha⟩),G1⟩
  case round =>
    clear H1 G1 DF;obtain ⟨l,h,t,S',A',rfl,rfl,rfl,a1,a2,a3,a4,a5,a6,TT,HH,SS,SK,GG⟩:=hrel;have vk:ag _:=GG.o.block vb kb (fun e=>by have:=SW.o vb e;omega)
    have k0:wr.cell? ⟨vb,0,none⟩=some (.int .i64 (i:Int)):=(World.cell?_of_block (a:=⟨vb,0,none⟩) vk.o).trans VV.o.c0;have k4:wr.cell? ⟨vb,4,none⟩=some (.int .i64 (cG:Int)):=(World.cell?_of_block (a:=⟨vb,4,none⟩) vk.o).trans VV.o.c4;have tK:vb<wr.heap.size:=Nat.lt_of_lt_of_le kb GG.o.size;obtain ⟨iO,nh⟩:=sC.o HH.o;have mk:=mK wr iO;by_cases ak:l<h
    · obtain ⟨m,hm⟩:∃ m:Nat,(h-l)/2+l=m:=⟨_,rfl⟩
      have m1:l<=m:=by omega
      have m2:m<h:=by omega
      have d1:IntKind.i64.wrap ((h:Int)-(l:Int))=((h-l:Nat):Int):=by rw [IntKind.wrap_i64];omega
      have d4:(l:Int)+((h-l:Nat):Int)/2=(m:Int):=by omega
      have mN:ag (m<bD n L i):=by have:=TN.o.1;exact Nat.lt_of_lt_of_le (by omega) this
      clear hm;go_wp2_with fail;refine (DD.o.key HH.o (by simp;omega) i m (Nat.le_of_lt TN.o.2.1) mN.o).mono ?_
      rintro e w2 ⟨⟨S2,rfl,h2,s2⟩,g2⟩;have H2:ag (HS w2 S2 (A++(A'++[((i:Int),(m:Int))])) B):=by rw [<-List.append_assoc];exact h2
      have S3:ag (∀ q,S2 q->S q\/vb+1<=q):=fun q hq=>by
        rcases s2 q hq with e | e
        · exact SS.o q e
        · exact .inr (by have:=GG.o.size;have:=Z1.o;omega)
      have G2:ag _:=jW GG.o g2 fun q hq=>by
        rcases SS.o q hq with e | e
        · exact .inl e
        · exact .inr (by rw [Z1.o];exact e)
      obtain ⟨y,hy⟩:∃ y,bj f L i m=y:=⟨_,rfl⟩;have Y:ag _:=hy;rw [hy];clear hy h2 s2 g2 HH SS GG k0 k4 tK vk iO nh mk;by_cases c:y<q
      · have mr:m+1<=r:=by
          rcases Nat.lt_or_ge m r with e | e
          · exact e
          · have:=ABO.o m e mN.o
            rw [Y.o] at this;omega
        have JM:ag _:=SK.o.add m1 m2 a1 a4 (.inl ⟨rfl,rfl⟩);clear Y SK d1 d4;go_wp2_with fail;go_roundg (h-(m+1))
        case measure=>omega
        case rel=>exact ⟨m+1,h,t,S2,A'++[((i:Int),(m:Int))],rfl,by go_num,rfl,by omega,mr,a3,a4,Nat.le_refl _,by simp;omega,TT,H2,S3,JM,G2⟩
      · have mr:r<=m:=by
          rcases Nat.lt_or_ge m r with e | e
          · have:=BEL.o m e
            rw [Y.o] at this;omega
          · exact e
        have JM:ag _:=SK.o.add m1 m2 a1 a4 (.inr ⟨rfl,rfl⟩);obtain ⟨z,hz⟩:∃ z:Bool,(y == q)=z:=⟨_,rfl⟩;have At:ag (z=decide (m<cG/\bj f L i m=q)):=by
          show z=_;rw [<-hz,Y.o];have:m<cG:=by omega
          by_cases e:y=q
          · rw [decide_eq_true ⟨this,e⟩];simpa using e
          · rw [decide_eq_false (fun x=>e x.2)];simpa using e
        clear Y SK d1 d4;go_wp2_with fail;go_roundg (m-l)
        case measure=>omega
        case rel=>exact ⟨l,m,z,S2,A'++[((i:Int),(m:Int))],rfl,rfl,rfl,a1,a2,mr,by omega,Nat.le_refl _,by simp;omega,At,H2,S3,JM,G2⟩
    · obtain rfl:l=r:=by omega
      obtain rfl:h=l:=by omega
      have BG:ag (∀ q,S' q->S q\/w.heap.size<=q):=fun q hq=>by
        rcases SS.o q hq with e | e
        · exact .inl e
        · exact .inr (by rw [VB.o];omega)
      by_cases c1:h=cG
      · by_cases c2:h<te
        · have m0:((h:Int) == (cG:Int))=true:=by rw [c1];simp
          have m1:decide ((h:Int)<(te:Int))=true:=by simpa using c2
          have hN:ag (h<bD n L i):=by have:=TN.o.1;exact Nat.lt_of_lt_of_le c2 this
          have AL:ag ((A++A').length<=2000000000):=by show _<=_;rw [List.length_append];omega
          have HI:ag _:=c1;clear c1;go_wp2_with fail;refine (DD.o.key HH.o AL.o i h (Nat.le_of_lt TN.o.2.1) hN.o).mono ?_;rintro e w2 ⟨⟨S2,rfl,h2,s2⟩,g2⟩;have H2:ag (HS w2 S2 (A++(A'++[((i:Int),(h:Int))])) B):=by rw [<-List.append_assoc];exact h2
          have S3:ag (∀ q,S2 q->S q\/w.heap.size<=q):=fun q hq=>by
            rcases s2 q hq with e | e
            · exact BG.o q e
            · exact .inr (by have:=GG.o.size;have:=G0.o.size;omega)
          have G2:ag _:=jW (jW G0.o GG.o (fun q hq=>.inl hq)) g2 BG.o
          obtain ⟨y,hy⟩:∃ y,bj f L i h=y:=⟨_,rfl⟩;have zz:(y == q)=st:=by
            have s:=ST.o;rw [hy] at s;rw [<-s];by_cases e:y=q
            · rw [decide_eq_true ⟨c2,e⟩];simpa using e
            · rw [decide_eq_false (fun x=>e x.2)];simpa using e
          rw [hy];have yp:ag (xH i eZ cG te (A'++[((i:Int),(h:Int))])):=by
            have e:=HI.o;have:=SK.o.last (te:=te) (by omega) (by omega) (by omega)
            rw [e];exact this
          clear hy h2 s2 g2 HH SS GG k0 k4 tK vk iO nh mk;go_wp2_with fail;go_ret2;exact ⟨⟨S2,_,rfl,H2.o,S3.o,yp.o⟩,G2.o⟩
        · have m0:((h:Int) == (cG:Int))=true:=by rw [c1];simp
          have m1:decide ((h:Int)<(te:Int))=false:=by simpa using c2
          have e1:t=false:=by rw [TT.o];exact decide_eq_false (fun x=>by omega)
          have e2:st=false:=by rw [<-ST.o];exact decide_eq_false (fun x=>c2 x.1)
          subst e1 e2;have HI:ag _:=c1;have yp:ag _:=SK.o.done ht (by omega)
          have G2:ag _:=jW G0.o GG.o (fun q hq=>.inl hq)
          clear c1;go_wp2_with fail;go_ret2;exact ⟨⟨S',A',rfl,HH.o,BG.o,yp.o⟩,G2.o⟩
      · have m0:((h:Int) == (cG:Int))=false:=by simp;omega
        have e1:t=st:=by
          rw [TT.o,<-ST.o];have x1:h<cG:=by omega
          have x2:h<te:=by omega
          by_cases e:bj f L i h=q
          · rw [decide_eq_true ⟨x1,e⟩,decide_eq_true ⟨x2,e⟩]
          · rw [decide_eq_false (fun x=>e x.2),decide_eq_false (fun x=>e x.2)]
        subst e1;have yp:ag _:=SK.o.done ht (by omega)
        have G2:ag _:=jW G0.o GG.o (fun q hq=>.inl hq)
        go_wp2_with fail;go_ret2
        exact ⟨⟨S',A',rfl,HH.o,BG.o,yp.o⟩,G2.o⟩
end Go.Proofs.YtklkpldicbkjeaaGreat
namespace Go.Proofs.YtklkpldicbkjeaaGreat
open Go.RowKit
attribute [local go_sem] fZ
theorem afh {p pp:Nat} {w0:World} {HS:World->(Nat->Prop)->List (Int×Int)->List (Int×Int)->Prop} {eps:Int} {f:Nat->Int} {n:Nat} {L:List (List Sg)} (D:pQ 49 76 218 95 (.pointer (some ⟨pp,0,none⟩)) w0 HS eps f n L) (loc:∀ {w:World} {S:Nat->Prop} {A B:List (Int×Int)},HS w S A B->w.cell? ⟨p,0,none⟩=some (.pointer (some ⟨pp,0,none⟩))/\p<w.heap.size) (M:gh) (R:mw eps f n L) (p0 p1:Value) {TT:World->(Nat->Prop)->List fR->Bool->Prop} (C:Tw 112 (fun a b=>#[a,b,p0,p1]) TT) (q:Int) (q0:0<=q) (q1:q<18446744073709551616) {w:World} {S X:Nat->Prop} {A B:List (Int×Int)} (h:HS w S A B) (t:TT w X [] false) (dj:∀ q,X q->w0.heap.size<=q/\¬ S q) (la:A.length<=1000000000) (lb:B.length<=1000000000) :
    Calls prog 111 #[.pointer (some ⟨p,0,none⟩),.int .u64 q,.func (.func 112) #[] #[p0,p1]] w fun e w'=>e=.returned (.tuple #[])/\(∃ S' X' A' B',HS w' S' (A++A') (B++B')/\zp eps q f n L A' B'/\TT w' X' (Dh eps q f n L) (om q f n L 0)/\(∀ q,S' q->S q\/w.heap.size<=q)/\(∀ q,X' q->(X q\/w.heap.size<=q)/\¬ S' q))/\Gs (fun q=>S q\/X q) w w':=by
  have mH:∀ W:World,W.cell? ⟨p,0,none⟩=some (.pointer (some ⟨pp,0,none⟩))->(method 394 57 (.pointer (some ⟨p,0,none⟩)) "Height").run prog W=.ok (76,.pointer (some ⟨pp,0,none⟩)) W:=fun W c=>afd p pp W c _
  have mS:∀ W:World,W.cell? ⟨p,0,none⟩=some (.pointer (some ⟨pp,0,none⟩))->(method 394 57 (.pointer (some ⟨p,0,none⟩)) "Segment").run prog W=.ok (95,.pointer (some ⟨pp,0,none⟩)) W:=fun W c=>aff p pp W c _
  have mE:∀ W:World,W.cell? ⟨p,0,none⟩=some (.pointer (some ⟨pp,0,none⟩))->(method 394 57 (.pointer (some ⟨p,0,none⟩)) "Eps").run prog W=.ok (49,.pointer (some ⟨pp,0,none⟩)) W:=fun W c=>afb p pp W c _
  have DD:ag _:=D;have sC:ag (∀ {w:World} {S:Nat->Prop} {A B:List (Int×Int)},HS w S A B->w.cell? ⟨p,0,none⟩=some (.pointer (some ⟨pp,0,none⟩))/\p<w.heap.size):=loc;have CC:ag _:=C;have MM:ag gh:=M;have RR:ag (mw eps f n L):=R;have HH:ag _:=h;have TH:ag _:=t;have DJ:ag _:=dj;have Wj:ag (A.length<=1000000000/\B.length<=1000000000):=⟨la,lb⟩;obtain ⟨ln,aA⟩:∃ ln,L.length=ln:=⟨_,rfl⟩;have LN:ag _:=aA;have l1:ln<=2000000:=by have:=R.sh.1;omega
  clear D C M R h t dj la lb aA loc;obtain ⟨iO,nh⟩:=sC.o HH.o;have mh:=mH w iO;go_enter func111,ntmps111;go_wp2_with fail;refine (DD.o.height HH.o).mono ?_;rintro e w1 ⟨rfl,hw⟩;have cR:w=w1:=hw.symm;subst cR;rw [LN.o];clear hw iO nh mh;go_wp2_with fail;have W0:ag _:=(DD.o.gw HH.o).size;go_loopg [6,7] ln (fun gg s6 s7 wr=>∃ (j sl:Nat) (S' X':Nat->Prop) (A' B':List (Int×Int)),s6=.int .i64 (sl:Int)/\s7=.int .i64 ((j:Int)-1)/\j<=ln/\j<=gg/\ag (0<j->sl=iF q L (j-1))/\ag (HS wr S' (A++A') (B++B'))/\ag (mV eps q f n L j A' B')/\ag (TT wr X' (lP eps q f n L j) (om q f n L j))/\ag (∀ q,S' q->S q\/w.heap.size<=q)/\ag (∀ q,X' q->(X q\/w.heap.size<=q)/\¬ S' q)/\ag (Gs (fun q=>S q\/X q) w wr))
  case atStart =>
    refine ⟨ln,0,S,X,[],[],rfl,by go_num,Nat.le_refl _,Nat.le_refl _,fun h0=>?_,?_,?_,?_,(show ag _ from fun q hq=>.inl hq),(show ag _ from fun q hq=>⟨.inl hq,(DJ.o q hq).2⟩),(show ag _ from (Gw.refl w).gs _)⟩
    · have:=RR.o.lv.slot_top (q:=q) (by rw [LN.o];exact h0)
      rw [LN.o] at this;exact this.symm
    · rw [List.append_nil,List.append_nil];exact HH
    · have:=mV.none eps q f n L
      rw [LN.o] at this;exact this
    · have e1:=acT eps q f n L
      have e2:om q f n L L.length=false:=if_pos rfl;rw [LN.o] at e1 e2;rw [e1,e2];exact TH
  case round =>
    clear HH TH;obtain ⟨j,sl,S',X',A',B',rfl,rfl,a1,a2,SL,HH,AK,TH,SS,XX,GG⟩:=hrel;rcases j with _ | i
    · have e:(((0:Nat):Int)-1)=-1:=by omega
      rw [e];clear e;go_wp2_with fail;go_end0;exact ⟨rfl,⟨S',X',A',B',HH.o,AK.o.all,TH.o,SS.o,XX.o⟩,GG.o⟩
    · have e:(((i+1:Nat):Int)-1)=(i:Int):=by omega
      rw [e];clear e;have hi:ag (i<L.length):=by show _<_;rw [LN.o];omega
      have sle:sl=iF q L i:=SL.o (by omega)
      have slt:ag (sl<(L.getD i []).length):=by rw [sle];exact RR.o.lv.slot hi.o
      obtain ⟨s,hs⟩:∃ s,dy q L i=s:=⟨_,rfl⟩;have SG:ag _:=hs;have Wk:ag ((L.getD i []).getD sl az=s):=by rw [sle];exact hs
      have Wl:ag _:=sle;have bl:ag ((B++B').length<=2000000000):=by show _<=_;have b1:=AK.o.bl;have:=Wj.o.2;rw [LN.o] at b1;rw [List.length_append];omega
      clear hs sle SL;obtain ⟨k,sp,ic,fr,te⟩:=s;obtain ⟨iO,nh⟩:=sC.o HH.o;have ms:=mS wr iO;go_wp2_with fail;clear iO nh ms;refine (DD.o.seg HH.o bl.o i sl hi.o slt.o).mono ?_;rintro e w2 ⟨⟨S2,rfl,h2,s2⟩,g2⟩;have H2:ag (HS w2 S2 (A++A') (B++(B'++[((i:Int)+1,(sl:Int))]))):=by rw [<-List.append_assoc];exact h2
      have S3:ag (∀ q,S2 q->S q\/w.heap.size<=q):=fun q hq=>by
        rcases s2 q hq with e | e
        · exact SS.o q e
        · exact .inr (Nat.le_trans GG.o.size e)
      have T2:ag _:=CC.o.keep TH.o fun q hq=>g2.block q (CC.o.lt TH.o q hq) (XX.o q hq).2
      have X2:ag (∀ q,X' q->(X q\/w.heap.size<=q)/\¬ S2 q):=fun q hq=>⟨(XX.o q hq).1,fun e=>by
        rcases s2 q e with e | e
        · exact (XX.o q hq).2 e
        · have:=CC.o.lt TH.o q hq;omega⟩
      have G2:ag _:=jW GG.o g2 fun q hq=>by
        rcases SS.o q hq with e | e
        · exact .inl (.inl e)
        · exact .inr e
      rw [Wk.o];have OK:ag (Sg.ok ⟨k,sp,ic,fr,te⟩):=by have:=DD.o.sok i hi.o sl slt.o;rw [Wk.o] at this;exact this
      have s0:ag (0<=fr/\fr<te/\te<=4294967296/\te<=bD n L i/\fr<=iG q L i/\iG q L i<=te):=by
        have:=RR.o.lv.bounds (q:=q) q1 hi.o
        rw [SG.o] at this;exact ⟨this.1,this.2.1,this.2.2.1,this.2.2.2.1,this.2.2.2.2.1,this.2.2.2.2.2.1⟩
      have GA:ag (cP k sp ic fr te q=iG q L i):=by show _=_;unfold iG;rw [SG.o]
      clear h2 s2 g2 HH TH SS XX GG;go_wp2_with fail;have B3:ag ((w2.alloc (.cells #[.int .u64 k,.float .f64 sp,.float .f64 ic,.int .i64 fr,.int .i64 te] 129)).heap[w2.heap.size]?=some (.cells #[.int .u64 k,.float .f64 sp,.float .f64 ic,.int .i64 fr,.int .i64 te] 129 (0,0))):=heap_alloc_new w2 _;have G3:ag (Gw w2 (w2.alloc (.cells #[.int .u64 k,.float .f64 sp,.float .f64 ic,.int .i64 fr,.int .i64 te] 129))):=(Gw.refl w2).alloc _ _;generalize w2.alloc (.cells #[.int .u64 k,.float .f64 sp,.float .f64 ic,.int .i64 fr,.int .i64 te] 129)=w3 at B3 G3 ⊢;obtain ⟨gb,zA⟩:∃ gb,w2.heap.size=gb:=⟨_,rfl⟩;have GB:ag _:=zA;rw [zA] at B3 ⊢;clear zA;refine (MM.o.guess k sp ic fr te q OK.o q0 q1 w3).mono ?_;rintro e w4 ⟨rfl,g4⟩;rw [GA.o];obtain ⟨G,hG⟩:∃ G,iG q L i=G:=⟨_,rfl⟩;have GG:ag _:=hG;rw [hG];obtain ⟨z1,z2,z3,z4,z5,z6⟩:=s0.o;rw [hG] at z5 z6;obtain ⟨tn,Ix⟩:∃ tn:Nat,te=(tn:Int):=⟨te.toNat,by omega⟩
      subst Ix;have Z4:ag (tn<=bD n L i):=by show _<=_;omega
      have e2:=RR.o.e0;have e3:=RR.o.e1;have B4:ag (w4.heap[gb]?=some (.cells #[.int .u64 k,.float .f64 sp,.float .f64 ic,.int .i64 fr,.int .i64 (tn:Int)] 129 (0,0))):=(g4.below.block gb (Array.getElem?_eq_some_iff.1 B3.o).1).trans B3.o;have G4:ag _:=G3.o.trans g4;obtain ⟨lo,Wm⟩:∃ lo:Nat,max (G-eps-1) fr=(lo:Int):=⟨(max (G-eps-1) fr).toNat,by omega⟩
      obtain ⟨hj,Wn⟩:∃ hj:Nat,min (G+eps+1) (tn:Int)=(hj:Int):=⟨(min (G+eps+1) (tn:Int)).toNat,by omega⟩
      have LO:ag ((eR eps q f n L i).lo=(lo:Int)):=by
        show max (dy q L i).fr (iG q L i-eps-1)=_;rw [SG.o,GG.o,Int.max_comm];exact Wm
      have HJ:ag ((eR eps q f n L i).hi=(hj:Int)):=by
        show min (dy q L i).te (iG q L i+eps+1)=_;rw [SG.o,GG.o,Int.min_comm];exact Wn
      have WI:ag (hj-lo<=130):=by show _<=_;omega
      clear B3 G3 g4 hG z4 s0;have Wo:=(Array.getElem?_eq_some_iff.1 B4.o).1;have u1:IntKind.i64.wrap (G-eps)=G-eps:=by rw [IntKind.wrap_i64];omega
      have u2:IntKind.i64.wrap (G-eps-1)=G-eps-1:=by rw [IntKind.wrap_i64];omega
      have u3:IntKind.i64.wrap (G+eps)=G+eps:=by rw [IntKind.wrap_i64];omega
      have u4:IntKind.i64.wrap (G+eps+1)=G+eps+1:=by rw [IntKind.wrap_i64];omega
      go_wp2_with fail;have V5:ag ((w4.alloc (.cells #[.int .i64 (i:Int),.int .i64 (sl:Int),.int .i64 G,.int .i64 0,.int .i64 0,.int .i64 0] 180)).heap[w4.heap.size]?=some (.cells #[.int .i64 (i:Int),.int .i64 (sl:Int),.int .i64 G,.int .i64 0,.int .i64 0,.int .i64 0] 180 (0,0))):=heap_alloc_new w4 _
      have G5:ag (Gw w4 (w4.alloc (.cells #[.int .i64 (i:Int),.int .i64 (sl:Int),.int .i64 G,.int .i64 0,.int .i64 0,.int .i64 0] 180))):=(Gw.refl w4).alloc _ _;generalize w4.alloc (.cells #[.int .i64 (i:Int),.int .i64 (sl:Int),.int .i64 G,.int .i64 0,.int .i64 0,.int .i64 0] 180)=w5 at V5 G5 ⊢;obtain ⟨vb,sD⟩:∃ vb,w4.heap.size=vb:=⟨_,rfl⟩;have VB:ag _:=sD;rw [sD] at V5 Wo ⊢;clear sD;have H5:ag _:=DD.o.grow H2.o (G4.o.trans G5.o).drew;have E5:=DD.o.eps H5.o;obtain ⟨iO,nh⟩:=sC.o H5.o;have me:=mE _ iO;have B5:ag _:=(G5.o.below.block gb (by rw [VB.o];exact Wo)).trans B4.o
      have c2:w5.drew.cell? ⟨vb,2,none⟩=some (.int .i64 G):=mW V5.o rfl;have c3:w5.drew.cell? ⟨vb,3,none⟩=some (.int .i64 0):=mW V5.o rfl;have x3:w5.drew.cell? ⟨gb,3,none⟩=some (.int .i64 fr):=mW B5.o rfl;have f3:w5.drew.frozen? ⟨vb,3,none⟩=false:=AP V5.o;refine wp_region_still_tail 11 (by kernel_rfl) (by kernel_rfl) ?_
      change wpStill _ _ (World.drew w5) (fun a'=>wpList _ _ _ _ a' (World.drew w5)) _ _
      simp only [List.take_succ_cons,List.take_zero,List.drop_succ_cons,List.drop_zero]
      still_step
      still_step
      still_step
      still_step
      still_call E5
      still_step
      still_step
      still_step
      still_step
      still_step
      still_step
      refine wpStill_nil ?_;go_wp2_with fail;have gv:ag (w2.heap.size<=vb):=by show _<=_;rw [<-VB.o];exact G4.o.size
      have V6:ag ((w5.setCell ⟨vb,3,none⟩ (.int .i64 (lo:Int))).drew.heap[vb]?=some (.cells #[.int .i64 (i:Int),.int .i64 (sl:Int),.int .i64 G,.int .i64 (lo:Int),.int .i64 0,.int .i64 0] 180 (0,0))):=xI V5.o 3 _;have G6:ag (Gw w2 (w5.setCell ⟨vb,3,none⟩ (.int .i64 (lo:Int))).drew):=((G4.o.trans G5.o).setCell gv.o _).drew;have B6:ag ((w5.setCell ⟨vb,3,none⟩ (.int .i64 (lo:Int))).drew.heap[gb]?=some (.cells #[.int .u64 k,.float .f64 sp,.float .f64 ic,.int .i64 fr,.int .i64 (tn:Int)] 129 (0,0))):=(Go.Deep.blk_setCell_other _ _ _ _ (by show gb≠vb;omega)).trans B5.o
      generalize (w5.setCell ⟨vb,3,none⟩ (.int .i64 (lo:Int))).drew=w6 at V6 G6 B6 ⊢;clear c2 c3 x3 f3 E5 H5 iO nh me V5 G5 B5 B4 G4 u1 u2 Wm;have H6:ag _:=DD.o.grow H2.o G6.o.drew;have E6:=DD.o.eps H6.o;obtain ⟨iO,nh⟩:=sC.o H6.o;have me:=mE _ iO;have c2:w6.drew.cell? ⟨vb,2,none⟩=some (.int .i64 G):=mW V6.o rfl;have c4:w6.drew.cell? ⟨vb,4,none⟩=some (.int .i64 0):=mW V6.o rfl;have x4:w6.drew.cell? ⟨gb,4,none⟩=some (.int .i64 (tn:Int)):=mW B6.o rfl;have f4:w6.drew.frozen? ⟨vb,4,none⟩=false:=AP V6.o;refine wp_region_still_tail 11 (by kernel_rfl) (by kernel_rfl) ?_
      change wpStill _ _ (World.drew w6) (fun a'=>wpList _ _ _ _ a' (World.drew w6)) _ _
      simp only [List.take_succ_cons,List.take_zero,List.drop_succ_cons,List.drop_zero]
      still_step
      still_step
      still_step
      still_step
      still_call E6
      still_step
      still_step
      still_step
      still_step
      still_step
      still_step
      refine wpStill_nil ?_;obtain ⟨w7,BH⟩:∃ w7,w6.setCell ⟨vb,4,none⟩ (.int .i64 (hj:Int))=w7:=⟨_,rfl⟩;have V7:ag (w7.heap[vb]?=some (.cells #[.int .i64 (i:Int),.int .i64 (sl:Int),.int .i64 G,.int .i64 (lo:Int),.int .i64 (hj:Int),.int .i64 0] 180 (0,0))):=by rw [<-BH];exact xI V6.o 4 _
      have G7:ag (Gw w2 w7.drew):=by rw [<-BH];exact (G6.o.setCell gv.o _).drew
      have B7:ag (w7.heap[gb]?=some (.cells #[.int .u64 k,.float .f64 sp,.float .f64 ic,.int .i64 fr,.int .i64 (tn:Int)] 129 (0,0))):=by rw [<-BH];exact (Go.Deep.blk_setCell_other _ _ _ _ (by show gb≠vb;omega)).trans B6.o
      have v7:=Ie (v:=⟨(i:Int),(sl:Int),G,(lo:Int),(hj:Int),0⟩) V7.o;have k0:w7.cell? ⟨vb,0,none⟩=some (.int .i64 (i:Int)):=v7.c0;have k1:w7.cell? ⟨vb,1,none⟩=some (.int .i64 (sl:Int)):=v7.c1;have k2:w7.cell? ⟨vb,2,none⟩=some (.int .i64 G):=v7.c2;have k3:w7.cell? ⟨vb,3,none⟩=some (.int .i64 (lo:Int)):=v7.c3;have k4:w7.cell? ⟨vb,4,none⟩=some (.int .i64 (hj:Int)):=v7.c4;have k5:w7.cell? ⟨vb,5,none⟩=some (.int .i64 0):=v7.c5;have y4:w7.cell? ⟨gb,4,none⟩=some (.int .i64 (tn:Int)):=mW B7.o rfl;have Wp:=(Array.getElem?_eq_some_iff.1 V7.o).1;have HT:ag (hj<=tn):=by show _<=_;omega
      have WN:ag (lo<=ax (bj f L i) q (bD n L i)/\ax (bj f L i) q (bD n L i)<=hj):=by
        obtain ⟨x1,x2⟩:=RR.o.lv.window (q:=q) q1 hi.o;rw [LO.o] at x1;rw [HJ.o] at x2;have y1:(lo:Int)<=(ax (bj f L i) q (bD n L i):Int):=x1;have y2:(ax (bj f L i) q (bD n L i):Int)<=(hj:Int):=x2;exact ⟨by omega,by omega⟩
      have BL:ag ((∀ t,t<ax (bj f L i) q (bD n L i)->bj f L i t<q)/\∀ t,ax (bj f L i) q (bD n L i)<=t->t<bD n L i->q<=bj f L i t):=RR.o.lv.below hi.o;have VR:ag _:=RR.o.lv.vis q1 hi.o;have VI:ag (eR eps q f n L i=⟨(i:Int),(sl:Int),G,(lo:Int),(hj:Int),((ax (bj f L i) q (bD n L i):Nat):Int)⟩):=by
        show eR eps q f n L i=_;have e1:(eR eps q f n L i).lo=(lo:Int):=LO.o;have e2:(eR eps q f n L i).hi=(hj:Int):=HJ.o;have e3:(eR eps q f n L i).gu=G:=GG.o;have e4:(eR eps q f n L i).sl=(sl:Int):=by show ((iF q L i:Nat):Int)=_;rw [Wl.o]
        rw [<-e1,<-e2,<-e3,<-e4];rfl
      obtain ⟨r,hr⟩:∃ r,ax (bj f L i) q (bD n L i)=r:=⟨_,rfl⟩;have RK:ag _:=hr;rw [hr] at WN BL VI;have r1:r<=tn:=Nat.le_trans WN.o.2 HT.o;have H7:ag _:=DD.o.grow H2.o G7.o;have AL:ag ((A++A').length+(hj-lo)<=1999999999):=by
        show _<=_;have b1:=AK.o.al;have:=Wj.o.1;have:=WI.o;rw [LN.o] at b1;rw [List.length_append];omega
      clear v7 Wn hr E6 H6 iO nh me V6 G6 B6;go_wp2_with fail;refine (afg DD.o sC.o i hi.o RR.o.sh.1 lo hj tn r (sl:Int) G 0 q q0 q1 WN.o.1 WN.o.2 HT.o Z4.o (by omega) BL.o.1 BL.o.2 H7.o AL.o).mono ?_
      rintro e w8 ⟨⟨S8,A8,rfl,h8,s8,k8⟩,g8⟩;have Wr:ag _:=DD.o.lt H2.o;have yr:ag _:=CC.o.lt T2.o;have n8:ag (∀ q,w2.heap.size<=q->q<w7.heap.size->w8.heap[q]?=w7.heap[q]?):=fun q h1 h2=>g8.block q h2 (fun e=>by have:=Wr.o q e;omega)
      have V8:ag _:=(n8.o vb gv.o Wp).trans V7.o;have JN:ag _:=GB.o.symm;have B8:ag _:=(n8.o gb (Nat.le_of_eq JN.o.symm) (by omega)).trans B7.o
      have JO:ag (∀ q,S8 q->q<w8.heap.size/\q≠vb/\q≠gb):=fun q hq=>⟨DD.o.lt h8 q hq,by
        rcases s8 q hq with e | e
        · have:=Wr.o q e;have:=gv.o;have:=JN.o;omega
        · have e':w7.heap.size<=q:=e
          omega⟩
      have S8W:ag (∀ q,S8 q->S q\/w.heap.size<=q):=fun q hq=>by
        rcases s8 q hq with e | e
        · exact S3.o q e
        · exact .inr (Nat.le_trans G2.o.size (Nat.le_trans G7.o.size e))
      have X8:ag (∀ q,X' q->¬ S8 q):=fun q hq e=>by
        rcases s8 q e with e | e
        · exact (X2.o q hq).2 e
        · have:=yr.o q hq;have:=G7.o.size;omega
      have T8:ag _:=CC.o.keep T2.o fun q hq=>(g8.block q (Nat.lt_of_lt_of_le (yr.o q hq) G7.o.size) (fun e=>(X2.o q hq).2 e)).trans (G7.o.below.block q (yr.o q hq))
      have G8:ag (Gs (fun q=>S q\/X q) w w8):=jW (jW G2.o (G7.o.gs (fun _=>False)) (fun q hq=>hq.elim)) g8 fun q hq=>by
        rcases S3.o q hq with e | e
        · exact .inl (.inl e)
        · exact .inr e
      have Ws:ag _:=Nat.le_trans G2.o.size gv.o;obtain ⟨w9,yt⟩:∃ w9,w8.setCell ⟨vb,5,none⟩ (.int .i64 (r:Int))=w9:=⟨_,rfl⟩;have V9:ag (w9.heap[vb]?=some (.cells #[.int .i64 (i:Int),.int .i64 (sl:Int),.int .i64 G,.int .i64 (lo:Int),.int .i64 (hj:Int),.int .i64 (r:Int)] 180 (0,0))):=by rw [<-yt];exact xI V8.o 5 _
      have N9:ag (∀ q,q≠vb->w9.heap[q]?=w8.heap[q]?):=fun q hq=>by rw [<-yt];exact Go.Deep.blk_setCell_other _ _ _ _ hq
      have Z9:ag (w9.heap.size=w8.heap.size):=by rw [<-yt];exact World.size_setCell _ _ _
      have JP:ag (Gs (fun q=>q=vb) w8 w9):=by rw [<-yt];exact Gs.set (S:=fun q=>q=vb) ((Gw.refl w8).gs _) rfl 5 _
      have H9:ag (HS w9 S8 (A++(A'++A8)) (B++(B'++[((i:Int)+1,(sl:Int))]))):=by
        rw [<-List.append_assoc];exact DD.o.step h8 JP.o fun q e=>⟨by rw [e];exact Nat.le_trans W0.o Ws.o,fun e'=>(JO.o q e').2.1 e⟩
      have T9:ag _:=CC.o.keep T8.o fun q hq=>N9.o q (by have:=yr.o q hq;have:=gv.o;omega)
      have G9:ag _:=jW G8.o JP.o fun q e=>.inr (by rw [e];exact Ws.o)
      have B9:ag _:=(N9.o gb (by omega)).trans B8.o
      have SKR:ag _:=k8;obtain ⟨st,eQ⟩:∃ st:Bool,decide (r<tn/\bj f L i r=q)=st:=⟨_,rfl⟩;have ST:ag _:=eQ;rw [eQ];have v9:=Ie (v:=⟨(i:Int),(sl:Int),G,(lo:Int),(hj:Int),(r:Int)⟩) V9.o;have d5:w8.cell? ⟨vb,5,none⟩=some (.int .i64 0):=mW V8.o rfl;have d6:w8.frozen? ⟨vb,5,none⟩=false:=AP V8.o;have vb8:=(Array.getElem?_eq_some_iff.1 V8.o).1;have vb9:=(Array.getElem?_eq_some_iff.1 V9.o).1;have m0:w9.cell? ⟨vb,0,none⟩=some (.int .i64 (i:Int)):=v9.c0;have m1:w9.cell? ⟨vb,1,none⟩=some (.int .i64 (sl:Int)):=v9.c1;have m2:w9.cell? ⟨vb,2,none⟩=some (.int .i64 G):=v9.c2;have m3:w9.cell? ⟨vb,3,none⟩=some (.int .i64 (lo:Int)):=v9.c3;have m4:w9.cell? ⟨vb,4,none⟩=some (.int .i64 (hj:Int)):=v9.c4;have m5:w9.cell? ⟨vb,5,none⟩=some (.int .i64 (r:Int)):=v9.c5;clear h8 s8 k8 g8 n8 eQ v9 BH k0 k1 k2 k3 k4 k5 y4 c2 c4 x4 f4 u3 u4 V7 B7 G7 H7 V8 B8 T8 G8 JP AL H2 T2 G2;go_wp2_with fail;have PL:ag ((lP eps q f n L (i+1)).length<=2000000):=by show _<=_;rw [acU,LN.o];omega
      refine (CC.o.call T9.o PL.o ⟨(i:Int),(sl:Int),G,(lo:Int),(hj:Int),(r:Int)⟩ st).mono ?_;rintro e kJ ⟨rfl,⟨ud,t10,iV⟩,g10⟩;have H10:ag (HS kJ S8 (A++(A'++A8)) (B++(B'++[((i:Int)+1,(sl:Int))]))):=DD.o.step H9.o g10 fun q hq=>⟨by
        rcases (X2.o q hq).1 with e | e
        · exact (DJ.o q e).1
        · exact Nat.le_trans W0.o e,X8.o q hq⟩
      have T10:ag (TT kJ ud (lP eps q f n L i) (om q f n L i)):=by
        have e1:om q f n L i=st:=by
          unfold om;rw [if_neg (by have:=hi.o;omega),<-ST.o]
          unfold Tx;rw [RK.o];have th:=VR.o.there;rw [SG.o,RK.o] at th;have t1:(r<tn/\bj f L i r=q)↔(r<bD n L i/\bj f L i r=q):=⟨fun x=>th.1 ⟨by show (r:Int)<(tn:Int);omega,x.2⟩,fun x=>by have y:=th.2 x;have y1:(r:Int)<(tn:Int):=y.1;exact ⟨by omega,x.2⟩⟩
          by_cases e:r<tn/\bj f L i r=q
          · rw [decide_eq_true e,decide_eq_true (t1.1 e)]
          · rw [decide_eq_false e,decide_eq_false (fun x=>e (t1.2 x))]
        rw [e1,Ty eps q f n L hi.o,VI.o];exact t10
      have afi:ag (∀ q,ud q->(X q\/w.heap.size<=q)/\¬ S8 q):=fun q hq=>by
        rcases iV q hq with e | e
        · exact ⟨(X2.o q e).1,X8.o q e⟩
        · exact ⟨.inr (Nat.le_trans G9.o.size e),fun e'=>by have:=(JO.o q e').1;have:=Z9.o;omega⟩
      have G10:ag _:=jW G9.o g10 fun q hq=>by
        rcases (X2.o q hq).1 with e | e
        · exact .inl (.inr e)
        · exact .inr e
      have gb9:=(Array.getElem?_eq_some_iff.1 B9.o).1;have B10:ag _:=(g10.block gb gb9 (fun e=>by have:=yr.o gb e;have:=JN.o;omega)).trans B9.o
      have x3:kJ.cell? ⟨gb,3,none⟩=some (.int .i64 fr):=mW B10.o rfl;have AKN:ag (mV eps q f n L i (A'++A8) (B'++[((i:Int)+1,(sl:Int))])):=by
        have:=AK.o.next hi.o SKR.o LO.o HJ.o (by rw [SG.o]) (by have:=WI.o;omega)
        rw [<-Wl.o] at this;exact this
      obtain ⟨nx,BJ⟩:∃ nx:Nat,(if st=true then (r:Int) else max ((r:Int)-1) fr)=(nx:Int):=⟨(if st=true then (r:Int) else max ((r:Int)-1) fr).toNat,by split<;>omega⟩
      have NXS:ag (0<i->nx=iF q L (i-1)):=fun i0=>by
        have e1:iF q L (i-1)=rs (bj f L i) (bD n L i) q:=by
          have:=aad (q:=q) (f:=f) (n:=n) (L:=L) (i-1)
          rw [show i-1+1=i by omega] at this
          exact this
        have th:=VR.o.there;have Wt:=VR.o.next;rw [SG.o,RK.o] at th Wt;rw [e1];have s:=ST.o;by_cases e:r<tn/\bj f L i r=q
        · rw [decide_eq_true e] at s
          rw [if_pos s.symm] at BJ;have y:=th.1 ⟨by show (r:Int)<(tn:Int);omega,e.2⟩
          unfold rs;rw [RK.o,if_pos y];omega
        · rw [decide_eq_false e] at s
          rw [if_neg (by rw [<-s];simp)] at BJ
          have y:=Wt (fun x=>e ⟨by have x1:(r:Int)<(tn:Int):=x.1;omega,x.2⟩)
          have y':max ((r:Int)-1) fr=((rs (bj f L i) (bD n L i) q:Nat):Int):=y;omega
      clear t10 iV g10 yt d5 d6 vb8 m0 m1 m2 m3 m4 m5 V9 B9 T9 G9 H9 N9 JO X8 Wp;go_wp2_with fail;refine (acV (r:Int) fr st (by omega) (by omega) kJ).mono ?_
      rintro e w11 ⟨rfl,Wu⟩;have afj:kJ=w11:=Wu.symm;subst afj;rw [BJ];clear Wu BJ;go_wp2_with fail;go_roundg i
      case measure=>omega
      case rel=>exact ⟨i,nx,S8,ud,A'++A8,B'++[((i:Int)+1,(sl:Int))],rfl,by go_num,by omega,Nat.le_refl _,NXS,H10,AKN,T10,S8W,afi,G10⟩
end Go.Proofs.YtklkpldicbkjeaaGreat
namespace Go.Proofs.YtklkpldicbkjeaaGreat
open Go.RowKit
attribute [local go_sem] fZ
theorem afk (br bt:Nat) (ne:br≠bt):Tw 112 (fun a b=>#[a,b,.pointer (some ⟨br,0,none⟩),.pointer (some ⟨bt,0,none⟩)]) (Ig br bt) where
  lt h q hq:=by
    rcases (h.x q).1 hq with rfl | rfl
    · exact h.r.lt
    · exact h.t.lt
  keep h k:=⟨(k br ((h.x br).2 (.inl rfl))).trans h.r,(k bt ((h.x bt).2 (.inr rfl))).trans h.t,h.x⟩
  call {w X l st} h hl v s:=by
    obtain ⟨v0,v1,v2,v3,v4,v5⟩:=v;have HH:ag _:=h;have c1:=h.r.cell;have c2:=h.t.cell;have f1:=h.r.fz;have f2:=h.t.fz;have l1:=h.r.lt;have l2:=h.t.lt;have b1:br≠w.heap.size:=by omega
    have b2:bt≠w.heap.size:=by omega
    clear h;go_enter func112,ntmps112;go_wp2_with fail;go_end0;refine ⟨rfl,⟨X,⟨?_,?_,HH.o.x⟩,fun q hq=>.inl hq⟩,?_⟩
    · rw [Tz]
      refine (heap_alloc_old _ _ (by simpa using l1)).trans ?_
      refine (Go.Deep.blk_setCell_other _ _ _ _ ne).trans ?_;exact xI HH.o.r 0 _
    · refine (heap_alloc_old _ _ (by simpa using l2)).trans ?_
      exact xI ((Go.Deep.blk_setCell_other _ _ _ _ (fun e=>ne e.symm)).trans HH.o.t) 0 _
    · have g:=(((Gw.refl w).gs X).set ((HH.o.x br).2 (.inl rfl)) 0 (.int .i64 v5)).set ((HH.o.x bt).2 (.inr rfl)) 0 (.bool s)
      exact jW g (((Gw.refl _).alloc _ _).gs (fun _=>False)) (fun q hq=>hq.elim)
theorem afl {p pp:Nat} {w0:World} {HS:World->(Nat->Prop)->List (Int×Int)->List (Int×Int)->Prop} {eps:Int} {f:Nat->Int} {n:Nat} {L:List (List Sg)} (D:pQ 49 76 218 95 (.pointer (some ⟨pp,0,none⟩)) w0 HS eps f n L) (loc:∀ {w:World} {S:Nat->Prop} {A B:List (Int×Int)},HS w S A B->w.cell? ⟨p,0,none⟩=some (.pointer (some ⟨pp,0,none⟩))/\p<w.heap.size) (M:gh) (R:mw eps f n L) (q:Int) (q0:0<=q) (q1:q<18446744073709551616) {w:World} {S:Nat->Prop} {A B:List (Int×Int)} (h:HS w S A B) (la:A.length<=1000000000) (lb:B.length<=1000000000) :
    Calls prog 92 #[.pointer (some ⟨p,0,none⟩),.int .u64 q] w fun e w'=>(∃ S' A' B',e=.returned (vp f n q)/\HS w' S' (A++A') (B++B')/\zp eps q f n L A' B'/\∀ q,S' q->S q\/w.heap.size<=q)/\Gs S w w':=by
  obtain ⟨br,tT⟩:∃ br,w.heap.size=br:=⟨_,rfl⟩;have BR:ag _:=tT;have G2:ag (Gw w ((w.alloc (.cells #[.int .i64 0] 3)).alloc (.cells #[.bool false] 4))):=((Gw.refl w).alloc _ _).alloc _ _;have z1:(w.alloc (.cells #[.int .i64 0] 3)).heap.size=br+1:=by rw [<-tT];simp
  have T2:ag (Ig br (br+1) ((w.alloc (.cells #[.int .i64 0] 3)).alloc (.cells #[.bool false] 4)) (fun q=>q=br\/q=br+1) [] false):=by
    refine ⟨?_,?_,fun q=>Iff.rfl⟩
    · have:=heap_alloc_new w (.cells #[.int .i64 0] 3)
      rw [tT] at this;exact (heap_alloc_old _ _ (by omega)).trans this
    · have:=heap_alloc_new (w.alloc (.cells #[.int .i64 0] 3)) (.cells #[.bool false] 4)
      rw [z1] at this;exact this
  have z2:((w.alloc (.cells #[.int .i64 0] 3)).alloc (.cells #[.bool false] 4)).heap.size=br+2:=by rw [<-tT];simp
  have Z2:ag _:=Nat.le_of_eq z2.symm;have H2:ag _:=D.grow h G2.o;have SB:ag (∀ q,S q->q<br):=fun q hq=>by have:=D.lt h q hq;omega
  have W0:ag (w0.heap.size<=br):=by have:=(D.gw h).size;show _<=_;omega
  have RR:ag _:=R;have DN:ag _:=fun (W:World) (hW:HS W S A B) (tW:Ig br (br+1) W (fun q=>q=br\/q=br+1) [] false) (dj:∀ q,(q=br\/q=br+1)->w0.heap.size<=q/\¬ S q)=>afh D loc M R (.pointer (some ⟨br,0,none⟩)) (.pointer (some ⟨br+1,0,none⟩)) (afk br (br+1) (by omega)) q q0 q1 hW tW dj la lb
  have DD:ag _:=D;clear h D M R la lb z1 z2;go_enter func92,ntmps92;have dj:ag (∀ q,(q=br\/q=br+1)->w0.heap.size<=q/\¬ S q):=fun q hq=>by
    have:=W0.o
    exact ⟨by omega,fun e=>by have:=SB.o q e;omega⟩
  go_wp2_with fail;refine (DN.o _ H2.o T2.o dj.o).mono ?_
  clear DN T2 H2;rintro e w3 ⟨rfl,⟨S3,X3,A3,B3,h3,k3,t3,s3,x3⟩,g3⟩;have c1:=t3.r.cell;have c2:=t3.t.cell;have l1:=t3.r.lt;have l2:=t3.t.lt;have aK:ag (∀ W,Gw w3 W->∃ S' A' B',HS W S' (A++A') (B++B')/\zp eps q f n L A' B'/\∀ q,S' q->S q\/w.heap.size<=q):=fun W gW=>⟨S3,A3,B3,DD.o.grow h3 gW,k3,fun q hq=>by
    rcases s3 q hq with e | e
    · exact .inl e
    · exact .inr (by have:=Z2.o;rw [BR.o];omega)⟩
  have G3:ag _:=jW (G2.o.gs S) g3 fun q hq=>by
    rcases hq with e | e
    · exact .inl e
    · exact .inr (by rw [BR.o];omega)
  obtain ⟨e1,e2⟩:=acW (q:=q) RR.o;rw [e1] at c1;rw [e2] at c2;have FV:ag (vp f n q=.tuple #[.int .i64 (ax f q n:Nat),.bool (decide (ax f q n<n/\f (ax f q n)=q))]):=rfl;generalize decide (ax f q n<n/\f (ax f q n)=q)=tt at c2 FV;generalize ax f q n=nn at c1 FV;clear h3 k3 t3 s3 x3 g3 e1 e2 dj;go_wp2_with fail
  first
    | (
       go_quiet (fail);go_wp2_with fail
       go_ret2
       obtain ⟨S',A',B',r1,r2,r3⟩:=aK.o _ ((Gw.refl w3).drewN _);exact ⟨⟨S',A',B',congrArg Ending.returned FV.o.symm,r1,r2,r3⟩,jW G3.o (((Gw.refl w3).drewN _).gs (fun _=>False)) (fun q hq=>hq.elim)⟩)
    | (
       go_ret2
       obtain ⟨S',A',B',r1,r2,r3⟩:=aK.o w3 (Gw.refl w3);exact ⟨⟨S',A',B',congrArg Ending.returned FV.o.symm,r1,r2,r3⟩,G3.o⟩)
end Go.Proofs.YtklkpldicbkjeaaGreat
namespace Go.Proofs.YtklkpldicbkjeaaGreat
open Go.RowKit
theorem afm {w:World} {p pp:Nat} (c:w.cell? ⟨p,0,none⟩=some (.pointer (some ⟨pp,0,none⟩))) (pl:p<w.heap.size):∀ {W:World} {S:Nat->Prop} {A B:List (Int×Int)},TJ w W S A B->W.cell? ⟨p,0,none⟩=some (.pointer (some ⟨pp,0,none⟩))/\p<W.heap.size :=
  fun x=>⟨(x.1.cell _ _ pl).trans c,Nat.lt_of_lt_of_le pl x.1.size⟩
theorem afn (M:gh) {w:World} {p pp:Nat} {S:Nat->Prop} {eps:Int} {f:Nat->Int} {n:Nat} {L:List (List Sg)} (c:w.cell? ⟨p,0,none⟩=some (.pointer (some ⟨pp,0,none⟩))) (pl:p<w.heap.size) (h:eJ w pp S eps f n L) (R:mw eps f n L) (q:Int) (q0:0<=q) (q1:q<18446744073709551616) :
    Calls prog 92 #[.pointer (some ⟨p,0,none⟩),.int .u64 q] w fun ex w'=>ex=.returned (vp f n q)/\Gw w w':=by
  refine (afl (acX h) (afm c pl) M R q q0 q1 (S:=fun _=>False) (A:=[]) (B:=[]) ⟨Gw.refl w,fun _ e=>e⟩ (by simp) (by simp)).mono ?_
  rintro ex w2 ⟨⟨S2,A2,B2,rfl,x,_⟩,_⟩;exact ⟨rfl,x.1⟩
def eB {α:Type} (l:List α) (d:α) (i:Nat):List α:=l.take i++List.replicate (l.length-i) d
theorem BM {α:Type} (l:List α) (d:α) (i:Nat) (h:i<=l.length):(eB l d i).length=l.length:=by simp [eB];omega
theorem Wv {α:Type} (l:List α) (d:α):eB l d 0=List.replicate l.length d:=by simp [eB]
theorem Ww {α:Type} (l:List α) (d:α):eB l d l.length=l:=by simp [eB]
theorem Wx {α:Type} (l:List α) (d d':α) {i:Nat} (h:i<l.length):(eB l d i).set i (l.getD i d')=eB l d (i+1):=by
  unfold eB;rw [List.set_append_right _ _ (by simp;omega),show l.length-i=(l.length-(i+1))+1 by omega,List.replicate_succ]
  have e:i-(l.take i).length=0:=by simp;omega
  have e3:l.take (i+1)=l.take i++[l.getD i d']:=by
    rw [List.take_add_one,List.getElem?_eq_getElem h,List.getD_eq_getElem?_getD,List.getElem?_eq_getElem h];rfl
  rw [e,List.set_cons_zero,e3,List.append_assoc];rfl
theorem afo (n:Nat) (hn:n<=4000000) (w:World) :
    (Instr.makeSlice 126 (.int .i64 (n:Int)) (.int .i64 (n:Int))).run prog w=.ok (.slice (some ⟨w.heap.size,0,none⟩) n n) (w.alloc (.cells (madeCells #[.int .u64 0,.float .f64 0,.float .f64 0,.int .i64 0,.int .i64 0] (n*5)) 129)):=by
  obtain ⟨i,hi,hz,hs,hb⟩:=info_parts yX;have hr:=run_make (P:=prog) w 126 129 i _ underlying126 hi hz .i64 .i64 (n:Int) (n:Int) (by omega) (Int.le_refl _) (by rw [hb];omega) (by omega)
  rw [hr,hs];have e1:(n:Int).toNat=n:=by omega
  rw [e1];rfl
theorem afp (n:Nat):(madeCells #[.int .u64 0,.float .f64 0,.float .f64 0,.int .i64 0,.int .i64 0] (n*5)).toList=(List.replicate n az).flatMap cI:=by
  apply List.ext_getElem?
  intro j;by_cases h:j<n*5
  · have F:=yW (List.replicate n az) (j/5) (by simp;omega) (j%5) (by omega)
    rw [show j/5*5+j%5=j by omega] at F
    rw [F,List.getD_eq_getElem?_getD,List.getElem?_replicate,if_pos (by omega)]
    have r5:j%5<5:=by omega
    simp only [madeCells,Array.getElem?_toList];rw [Array.getElem?_map,Array.getElem?_range,if_pos h];simp only [Option.map_some];show some (#[Value.int .u64 0,.float .f64 0,.float .f64 0,.int .i64 0,.int .i64 0][j%5]!)=_;generalize j%5=r at *
    match r,r5 with
    | 0,_=>rfl
    | 1,_=>rfl
    | 2,_=>rfl
    | 3,_=>rfl
    | 4,_=>rfl
  · rw [List.getElem?_eq_none (by simp [size_madeCells];omega),List.getElem?_eq_none (by rw [sY];simp;omega)]
theorem afq (w:World) (n:Nat) (hn:n<=4000000):SR (w.alloc (.cells (madeCells #[.int .u64 0,.float .f64 0,.float .f64 0,.int .i64 0,.int .i64 0] (n*5)) 129)) w.heap.size (.slice (some ⟨w.heap.size,0,none⟩) n n) (List.replicate n az):=by
  show World.ownsRow _ _ _ _ _ _ _;rw [List.length_replicate];refine ⟨by rw [sY];simp,.inr ⟨w.heap.size,n,_,rfl,Nat.le_refl _,heap_alloc_new w _,Nat.le_refl _,by simp only [maxLen];omega,size_madeCells _ _,?_⟩⟩
  rw [<-afp,List.take_of_length_le (by simp [size_madeCells])]
theorem afr (n:Nat) (hn:n<=4000000) (w:World) :
    (Instr.makeSlice 85 (.int .i64 (n:Int)) (.int .i64 (n:Int))).run prog w=.ok (.slice (some ⟨w.heap.size,0,none⟩) n n) (w.alloc (.cells (madeCells #[.slice none 0 0] n) 126)):=by
  obtain ⟨i,hi,hz,hs,hb⟩:=info_parts yY;have hr:=run_make (P:=prog) w 85 126 i _ underlying85 hi hz .i64 .i64 (n:Int) (n:Int) (by omega) (Int.le_refl _) (by rw [hb];omega) (by omega)
  rw [hr,hs];have e1:(n:Int).toNat=n:=by omega
  rw [e1,Nat.mul_one];rfl
theorem afs (n:Nat):(madeCells #[.slice none 0 0] n).toList=List.replicate n fP:=by
  apply List.ext_getElem?
  intro j;by_cases h:j<n
  · simp only [madeCells,Array.getElem?_toList]
    rw [Array.getElem?_map,Array.getElem?_range,if_pos h,List.getElem?_replicate,if_pos h];show some (#[Value.slice none 0 0][j%1]!)=_;rw [show j%1=0 by omega]
    rfl
  · rw [List.getElem?_eq_none (by simp [size_madeCells];omega),List.getElem?_eq_none (by simp;omega)]
theorem aft (w:World) (n:Nat) (hn:n<=4000000):cF (w.alloc (.cells (madeCells #[.slice none 0 0] n) 126)) w.heap.size (.slice (some ⟨w.heap.size,0,none⟩) n n) (List.replicate n []) (List.replicate n fP):=by
  have e1:∀ i,i<n->(List.replicate n fP).getD i fP=fP:=fun i hi=>by rw [List.getD_eq_getElem?_getD,List.getElem?_replicate,if_pos hi];rfl
  have e2:∀ i,i<n->(List.replicate n ([]:List Sg)).getD i []=[]:=fun i hi=>by rw [List.getD_eq_getElem?_getD,List.getElem?_replicate,if_pos hi];rfl
  refine ⟨?_,fun i hi=>?_,fun i hi q hq=>?_⟩
  · rw [List.length_replicate]
    refine ⟨by simp,.inr ⟨w.heap.size,n,_,rfl,Nat.le_refl _,heap_alloc_new w _,Nat.le_refl _,by simp only [maxLen];omega,by rw [size_madeCells];omega,?_⟩⟩
    rw [<-afs,List.take_of_length_le (by simp [size_madeCells])]
  · rw [List.length_replicate] at hi
    rw [e1 i hi,e2 i hi];exact World.ownsRow_nil _ _ _ _
  · rw [List.length_replicate] at hi
    rw [e1 i hi] at hq;cases hq
theorem afu {w:World} {base ph:Nat} {v:Value} {l:List Sg} (h:SR w base v l) (hb:ph<=base):SR w ph v l:=by
  refine ⟨h.1,?_⟩;rcases h.2 with q | ⟨b,cap,cur,e1,e2,e3⟩
  · exact .inl q
  · exact .inr ⟨b,cap,cur,e1,Nat.le_trans hb e2,e3⟩
theorem cF.put {w w1:World} {B g cap i:Nat} {L:List (List Sg)} {aj:List Value} {vl:Value} {lv:List Sg} (h0:cF w B (.slice (some ⟨g,0,none⟩) L.length cap) L aj) (gg:Gw w w1) (hs:SR w1 w.heap.size vl lv) (hB:B<=w.heap.size) (hi:i<L.length):cF (w1.setCell ⟨g,i,none⟩ vl) B (.slice (some ⟨g,0,none⟩) (L.set i lv).length cap) (L.set i lv) (aj.set i vl):=by
  have vn:=h0.len;have h:=h0.gw gg;have gl:g<w.heap.size:=(h0.outer.lt g rfl).2;have lq:∀ q,vl.ownBlock=some q->w.heap.size<=q:=fun q hq=>(kh hs q hq).1
  have oq:∀ j,j<L.length->∀ q,(aj.getD j fP).ownBlock=some q->q<w.heap.size:=fun j hj q hq=>(kh (h0.rows j hj) q hq).2
  have Wy:∀ q,q≠g->(w1.setCell ⟨g,i,none⟩ vl).heap[q]?=w1.heap[q]?:=fun q hq=>Go.Deep.blk_setCell_other _ _ _ _ hq
  have gs:∀ j,j≠i->(aj.set i vl).getD j fP=aj.getD j fP/\(L.set i lv).getD j []=L.getD j []:=fun j hj=>by
    constructor
    · simp [List.getD,List.getElem?_set_ne (Ne.symm hj)]
    · simp [List.getD,List.getElem?_set_ne (Ne.symm hj)]
  have ge:(aj.set i vl).getD i fP=vl/\(L.set i lv).getD i []=lv:=by
    constructor
    · simp [List.getD,List.getElem?_set_self (show i<aj.length by omega)]
    · simp [List.getD,List.getElem?_set_self hi]
  refine ⟨?_,fun j hj=>?_,fun j hj q hq=>?_⟩
  · rw [List.length_set]
    exact (h.outer.stored i vl).1
  · rw [List.length_set] at hj
    by_cases e:j=i
    · subst e
      rw [ge.1,ge.2];exact afu (tg hs fun q hq=>Wy q (by have:=lq q hq;omega)) hB
    · rw [(gs j e).1,(gs j e).2]
      exact tg (h.rows j hj) fun q hq=>Wy q (fun x=>(h0.apart j hj q hq).1 (by rw [x];rfl))
  · rw [List.length_set] at hj ⊢
    by_cases e:j=i
    · subst e
      rw [ge.1] at hq;have q1:=lq q hq;refine ⟨fun x=>?_,fun m hm sE=>?_⟩
      · have:g=q:=by simpa [Value.ownBlock] using x
        omega
      · by_cases e2:m=j
        · exact e2
        · rw [(gs m e2).1] at sE
          have:=oq m hm q sE
          omega
    · rw [(gs j e).1] at hq
      have q1:=oq j hj q hq;have ap:=h0.apart j hj q hq;refine ⟨fun x=>ap.1 (by
                                have:g=q:=by simpa [Value.ownBlock] using x
                                rw [this];rfl),fun m hm sE=>?_⟩
      by_cases e2:m=i
      · subst e2
        rw [ge.1] at sE;have:=lq q sE;omega
      · rw [(gs m e2).1] at sE
        exact ap.2 m hm sE
structure eC (w:World) (p:Nat) (S:Nat->Prop) (eps:Int) (k v:Nat->Int) (g:Nat->Bool) (n:Nat) (L:List (List Sg)):Prop where
  lies:∃ (u:World) (base pp:Nat) (Sp:Nat->Prop) (eo:Option Addr) (ec:Nat),(∀ q,S q↔base<=q/\q<u.heap.size)/\u.heap.size<=w.heap.size/\(∀ q,base<=q->q<u.heap.size->w.heap[q]?=u.heap[q]?)/\u.heap[p]?=some (.cells #[.pointer (some ⟨pp,0,none⟩),.slice eo n ec] 101 (0,0))/\base<=p/\eJ u pp Sp eps k n L/\(∀ q,Sp q->base<=q)/\ES u eo n k v g/\(∀ a,eo=some a->base<=a.block)
  rdy:mw eps k n L
section
variable {w:World} {p:Nat} {S:Nat->Prop} {eps:Int} {k v:Nat->Int} {g:Nat->Bool} {n:Nat} {L:List (List Sg)}
theorem eC.lt (h:eC w p S eps k v g n L):∀ q,S q->q<w.heap.size:=by
  obtain ⟨u,base,pp,Sp,eo,ec,h1,h2,_⟩:=h.lies;intro q hq;have:=(h1 q).1 hq;omega
theorem eC.keep {w':World} (h:eC w p S eps k v g n L) (kk:∀ q,S q->w'.heap[q]?=w.heap[q]?):eC w' p S eps k v g n L:=by
  obtain ⟨u,base,pp,Sp,eo,ec,h1,h2,h3,h4,h5,h6⟩:=h.lies;have pu:p<u.heap.size:=(Array.getElem?_eq_some_iff.1 h4).1;refine ⟨⟨u,base,pp,Sp,eo,ec,h1,?_,fun q a b=>(kk q ((h1 q).2 ⟨a,b⟩)).trans (h3 q a b),h4,h5,h6⟩,h.rdy⟩
  have e:=kk (u.heap.size-1) ((h1 _).2 ⟨by omega,by omega⟩)
  rw [Array.getElem?_eq_getElem (show u.heap.size-1<w.heap.size by omega)] at e
  have:=(Array.getElem?_eq_some_iff.1 e).1
  omega
theorem eC.gw {w':World} (h:eC w p S eps k v g n L) (gg:Gw w w'):eC w' p S eps k v g n L:=h.keep fun q hq=>gg.below.block q (h.lt q hq)
theorem eC.own (h:eC w p S eps k v g n L):S p:=by
  obtain ⟨u,base,pp,Sp,eo,ec,h1,h2,h3,h4,h5,_⟩:=h.lies;exact (h1 p).2 ⟨h5,(Array.getElem?_eq_some_iff.1 h4).1⟩
theorem eC.opened (h:eC w p S eps k v g n L):∃ pp Sp eo ec,w.heap[p]?=some (.cells #[.pointer (some ⟨pp,0,none⟩),.slice eo n ec] 101 (0,0))/\eJ w pp Sp eps k n L/\(∀ q,Sp q->S q)/\ES w eo n k v g:=by
  obtain ⟨u,base,pp,Sp,eo,ec,h1,h2,h3,h4,h5,h6,h7,h8,h9⟩:=h.lies;have pu:p<u.heap.size:=(Array.getElem?_eq_some_iff.1 h4).1;exact ⟨pp,Sp,eo,ec,(h3 p h5 pu).trans h4,h6.keep fun q hq=>h3 q (h7 q hq) (h6.lt q hq),fun q hq=>(h1 q).2 ⟨h7 q hq,h6.lt q hq⟩,h8.kept h9 h2 h3⟩
end
theorem sF {w:World} {p:Nat} {a b:Value} {t:TypeId} (h:w.heap[p]?=some (.cells #[a,b] t (0,0))):w.cell? ⟨p,0,none⟩=some a/\w.cell? ⟨p,1,none⟩=some b:=by
  refine ⟨?_,?_⟩<;>simp [World.cell?,h]
theorem cU.takenW {eps:Int} {f:Nat->Int} {n:Nat} {L:List (List Sg)} (e1:2<=eps) (e2:eps<=64) (n1:n<=2000000) (bd:∀ t,t<n->0<=f t/\f t<18446744073709551616) (u:Up f n) (h:cU eps f n L):iU eps f n L 0:=by
  refine .inr (.inr (.inr ⟨⟨e1,e2⟩,u,⟨?_,?_⟩,(h.chk n1 bd u).symm⟩))
  · have a:=h.low e1 n1 bd u
    have b:=Lh (e:=eps.toNat) (by omega) 4294967296 n (by omega)
    unfold ma;rw [if_pos ⟨e1,e2,by decide⟩]
    show (L.length:Int)<=((gC eps.toNat 4294967296:Nat):Int);omega
  · rw [List.length_eq_zero_iff];exact h.none
theorem Wz {w:World} {ao:Option Addr} {n cp:Nat} {k v:Nat->Int} {g:Nat->Bool} (h:ES w ao n k v g) (hn:n<=2000000) :
    Calls prog 74 #[.slice ao n cp] w fun e w'=>(∃ bo c,e=.returned (.slice bo n c)/\ER w' w.heap.size (.slice bo n c) k v g n)/\Gw w w':=by
  cases ao with
  | none =>
    have n0:n=0:=by
      rcases Nat.eq_zero_or_pos n with e | e
      · exact e
      · obtain ⟨b,off,e',_⟩:=h.cells e;cases e'
    subst n0;clear h;have hq:∀ W:World,(binOp .eql 35 (.slice none 0 cp) (.slice none 0 0)).run prog W=.ok (.bool true) W:=fun _=>by kernel_rfl
    go_enter func74,ntmps74;go_wp2_with fail;go_ret;exact ⟨⟨none,0,rfl,World.ownsRow_nil _ _ _ _⟩,Gw.refl w⟩
  | some ad =>
    have O0:ag ((w.alloc (.cells #[] 40)).ownsRow w.heap.size 40 3 (.slice (some ⟨w.heap.size,0,none⟩) 0 0) 0 []):=World.ownsRow_made w #[] 0 (Nat.le_refl _) (Nat.zero_le _) rfl;have NW:ag (∀ x,(some ad:Option Addr)=some x->∀ j u,(kt k v g n)[j]?=some u->(w.alloc (.cells #[] 40)).cell? (x.add j)=some u):=MW (h.gw ((Gw.refl w).alloc _ _));obtain ⟨ii,aM,hz,hs,aL⟩:=info_parts qN;clear h;have hq:∀ W:World,(binOp .eql 35 (.slice (some ad) n cp) (.slice none 0 0)).run prog W=.ok (.bool false) W:=fun _=>by kernel_rfl
    go_enter func74,ntmps74;go_wp2_with (at_builtin;refine sJ _ rfl _ _ 35 rfl w.heap.size 40 ii (.agg #[.int .u64 0,.int .u64 0,.bool false]) 3 24 underlying35 aM hz hs aL rfl (by decide) _ 0 [] rfl O0.o (some ad) n cp (kt k v g n) rfl (fun q=>by cases q) (Dv k v g n) NW.o (MU k v g n) (by simp only [maxLen];omega) (by omega) (by simp) ?_)
    intro v' w7 q1 q2 q3;have G7:ag (Gw w w7):=((Gw.refl w).alloc _ _).grown q2 (fun k hk=>by cases hk;exact Nat.le_refl _)
    have R5:ER w7 w.heap.size v' k v g n:=by show World.ownsRow _ _ _ _ _ _ _;simpa using q1
    obtain ⟨bo,bc,rfl,_,_⟩:=Dx R5;have aK:ag _:=R5;clear q1 q2 q3 aM hz hs aL R5;go_wp2_with fail;go_ret;exact ⟨⟨bo,bc,rfl,aK.o⟩,G7.o⟩
theorem WA (eps:Int) (ao:Option Addr) (n cp:Nat) (k v:Nat->Int) (g:Nat->Bool) (hn:n<=2000000) (cZ:n<=cp) (w:World) (h:ES w ao n k v g) :
    Calls prog 53 #[.slice ao n cp,.int .i64 eps] w fun ex w'=>(∃ r,ex=.returned (.int .i64 r)/\lu eps k v g n r)/\Gw w w':=by
  have CK:ag _:=My ao n cp k v g (by omega) cZ w h
  clear h;by_cases b:2<=eps/\eps<=64
  · have t1:decide (eps<2)=false:=by simp;omega
    have t2:decide (64<eps)=false:=by simp;omega
    have BN:ag _:=b;clear b;go_enter func53,ntmps53;go_wp2_with fail;refine Calls.mono CK.o ?_;rintro e w1 ⟨⟨r,rfl,cr⟩,g1⟩;have CR:ag _:=cr;have G1:ag _:=g1;clear CK cr g1;go_wp2_with fail;go_ret;exact ⟨⟨r,rfl,.inr ⟨BN.o,CR.o⟩⟩,G1.o⟩
  · have BN:ag (¬ (2<=eps/\eps<=64)):=b
    by_cases c:eps<2
    · have t1:decide (eps<2)=true:=by simpa using c
      clear b c;go_enter func53,ntmps53;go_wp2_with fail;go_ret;exact ⟨⟨1,rfl,.inl ⟨BN.o,rfl⟩⟩,Gw.refl w⟩
    · have t1:decide (eps<2)=false:=by simpa using c
      have t2:decide (64<eps)=true:=by simp;omega
      clear b c;go_enter func53,ntmps53;go_wp2_with fail;go_ret;exact ⟨⟨1,rfl,.inl ⟨BN.o,rfl⟩⟩,Gw.refl w⟩
theorem afv (M:gh) (eps:Int) (ao:Option Addr) (n cp:Nat) (k v:Nat->Int) (g:Nat->Bool) (lo:Option Addr) (lc:Nat) (L:List (List Sg)) (e0:-9223372036854775808<=eps) (e1:eps<9223372036854775808) (hn:n<=2000000) (cZ:n<=cp) (hS:kT L) (bP:L.length<=lc) (w:World) (h:ES w ao n k v g) (hv:VS w lo L) :
    Calls prog 56 #[.slice ao n cp,.int .i64 eps,.slice lo L.length lc] w fun ex w'=>Dy eC w w' ex eps k v g n L/\Gw w w':=by
  have CK:ag _:=WA eps ao n cp k v g hn cZ w h;have HE:ag _:=h;have HV:ag _:=hv;have SH:ag _:=hS;have KB:ag (∀ t,t<n->0<=k t/\k t<18446744073709551616):=fun t ht=>(h.bd t ht).1
  have P9:ag (∀ (ko:Option Addr) (W:World),KS W ko n k->VS W lo L->Calls prog 84 #[.slice ko n n,.int .i64 eps,.slice lo L.length lc] W fun ex w'=>Mw eJ W w' ex eps k n L/\Gw W w'):=fun ko W hk hw=>of9 M eps ko n n k lo lc L e0 e1 hn (Nat.le_refl _) hS bP W hk hw
  obtain ⟨ln,aA⟩:∃ ln,L.length=ln:=⟨_,rfl⟩;rw [aA] at P9 bP ⊢;clear h hv hS aA M;go_enter func56,ntmps56;go_wp2_with fail;refine Calls.mono CK.o ?_;rintro e w1 ⟨⟨r,rfl,cr⟩,g1⟩;have CR:ag _:=cr;have G1:ag _:=g1;clear CK cr g1;by_cases r0:r=0
  · subst r0
    go_wp2_with fail;refine Calls.mono (Mz ao n cp k v g (by omega) w1 (HE.o.gw G1.o)) ?_
    rintro e w2 ⟨⟨kb,rfl,fT,mR⟩,g2⟩;have G2:ag _:=G1.o.trans g2;have K2:ag (KS w2 (some ⟨kb,0,none⟩) n k):=⟨fun _=>⟨kb,0,rfl,mR.lt,fun i hi=>by rw [Nat.zero_add];exact mR.cell hi⟩,KB.o⟩
    clear mR g2 fT G1;go_wp2_with fail;refine Calls.mono (P9.o _ w2 K2.o (HV.o.gw G2.o)) ?_;rintro e w3 ⟨⟨E,cE,x⟩,g3⟩;have G3:ag _:=G2.o.trans g3;have CE:ag _:=cE;have Z2:ag _:=G2.o.size;clear cE g3 K2 G2;rcases x with ⟨x0,rfl⟩ | ⟨rfl,pp,Sp,rfl,hS,hp⟩
    · have x0':(E != 0)=true:=by simpa using x0
      have X0:ag _:=x0;clear x0;go_wp2_with fail;go_ret2;exact ⟨⟨E,⟨0,CR.o,.inr ⟨rfl,CE.o⟩⟩,.inl ⟨X0.o,rfl⟩⟩,G3.o⟩
    · have HP:ag (eJ w3 pp Sp eps k n L/\∀ q,Sp q->w2.heap.size<=q):=⟨hp,hS⟩
      clear hp hS;go_wp2_with fail;refine Calls.mono (Wz (HE.o.gw G3.o) hn) ?_;rintro e w4 ⟨⟨bo,bc,rfl,er⟩,g4⟩;obtain ⟨Ag,bc',e',_,aX⟩:=Dx er;cases e';have E4:ag (ES w4 bo n k v g/\∀ a,bo=some a->w3.heap.size<=a.block/\a.block<w4.heap.size):=⟨Dw er HE.o.bd,aX⟩;have BP:ag _:=g4;clear er g4 aX;have aK:ag (Dy eC w (w4.alloc (.cells #[.pointer (some ⟨pp,0,none⟩),.slice bo n bc] 101)) (.returned (.tuple #[.pointer (some ⟨w4.heap.size,0,none⟩),.int .i64 0])) eps k v g n L):=by
        have zz:=BP.o.size;have z3:=G3.o.size;have z2:=Z2.o;have gA:Gw w4 (w4.alloc (.cells #[.pointer (some ⟨pp,0,none⟩),.slice bo n bc] 101)):=(Gw.refl w4).alloc _ _;have g3A:=BP.o.trans gA;refine ⟨0,⟨0,CR.o,.inr ⟨rfl,CE.o⟩⟩,.inr ⟨rfl,w4.heap.size,fun q=>w.heap.size<=q/\q<w4.heap.size+1,rfl,fun q hq=>hq.1,⟨⟨_,w.heap.size,pp,Sp,bo,bc,fun q=>by simp,Nat.le_refl _,fun _ _ _=>rfl,heap_alloc_new w4 _,by omega,HP.o.1.keep fun q hq=>g3A.below.block q (HP.o.1.lt q hq),fun q hq=>Nat.le_trans z2 (HP.o.2 q hq),E4.o.1.gw gA,fun a ea=>by have:=(E4.o.2 a ea).1;omega⟩,mw.of CE.o hn SH.o KB.o⟩⟩⟩
      have G4:ag _:=G3.o.trans BP.o;clear E4 BP HP CE CR;go_wp2_with fail;go_ret2;exact ⟨aK.o,G4.o.alloc _ _⟩
  · have vE:(r != 0)=true:=by simpa using r0
    have R0:ag _:=r0;clear r0;go_wp2_with fail;go_ret2;exact ⟨⟨r,⟨r,CR.o,.inl ⟨R0.o,rfl⟩⟩,.inl ⟨R0.o,rfl⟩⟩,G1.o⟩
theorem afw (BO:CZ) (OF:∀ (eps:Int) (ao:Option Addr) (n cp:Nat) (k v:Nat->Int) (g:Nat->Bool) (lo:Option Addr) (lc:Nat) (L:List (List Sg)),-9223372036854775808<=eps->eps<9223372036854775808->n<=2000000->n<=cp->kT L->L.length<=lc->∀ w:World,ES w ao n k v g->VS w lo L->Calls prog 56 #[.slice ao n cp,.int .i64 eps,.slice lo L.length lc] w fun ex w'=>Dy eC w w' ex eps k v g n L/\Gw w w') (eps:Int) (ao:Option Addr) (n cp:Nat) (k v:Nat->Int) (g:Nat->Bool) (e0:-9223372036854775808<=eps) (e1:eps<9223372036854775808) (hn:n<=2000000) (cZ:n<=cp) (w:World) (h:ES w ao n k v g) :
    Calls prog 20 #[.slice ao n cp,.int .i64 eps] w fun ex w'=>tG eC w w' ex eps k v g n/\Gw w w':=by
  have CK:ag _:=WA eps ao n cp k v g hn cZ w h;have HE:ag _:=h;have KB:ag (∀ t,t<n->0<=k t/\k t<18446744073709551616):=fun t ht=>(h.bd t ht).1
  clear h;go_enter func20,ntmps20;go_wp2_with fail;refine Calls.mono CK.o ?_;rintro e w1 ⟨⟨r,rfl,cr⟩,g1⟩;have CR:ag _:=cr;have G1:ag _:=g1;clear CK cr g1;by_cases r0:r=0
  · subst r0
    go_wp2_with fail;refine Calls.mono (Mz ao n cp k v g (by omega) w1 (HE.o.gw G1.o)) ?_
    rintro e w2 ⟨⟨kb,rfl,fT,mR⟩,g2⟩;have G2:ag _:=G1.o.trans g2;have K2:ag (KS w2 (some ⟨kb,0,none⟩) n k):=⟨fun _=>⟨kb,0,rfl,mR.lt,fun i hi=>by rw [Nat.zero_add];exact mR.cell hi⟩,KB.o⟩
    clear mR g2 fT G1;go_wp2_with fail;refine Calls.mono (BO eps _ n n k e0 e1 hn (Nat.le_refl _) w2 K2.o) ?_;rintro e w3 ⟨⟨lo,lc,L,err,aj,rfl,be,bP,ow,Ao⟩,g3⟩;obtain ⟨⟨a1,a2⟩,up⟩:=lu.up CR.o;have tH:cU eps k n L/\err=0:=by
      rcases be with ⟨x,_⟩ | ⟨_,x,_⟩ | ⟨_,_,x,y⟩
      · exact absurd ⟨a1,a2⟩ x
      · exact absurd up x
      · exact ⟨x,y⟩
    obtain ⟨br,rfl⟩:=tH;have G3:ag _:=G2.o.trans g3;have JQ:ag _:=OF eps ao n cp k v g lo lc L e0 e1 hn cZ (br.fine a1 hn KB.o up) bP w3 (HE.o.gw G3.o) (ow.vsf Ao).vs;have BR:ag (cU eps k n L/\iU eps k n L 0):=⟨br,br.takenW a1 a2 hn KB.o up⟩;obtain ⟨ln,aA⟩:∃ ln,L.length=ln:=⟨_,rfl⟩;rw [aA] at JQ ⊢;clear br be ow Ao bP g3 G2 K2 aA up a1 a2;go_wp2_with fail;refine Calls.mono JQ.o ?_;rintro e w4 ⟨⟨E,⟨r,ne,oe⟩,x⟩,g4⟩;have G4:ag _:=G3.o.trans g4;have er:=ne.one CR.o;subst er;rcases oe with ⟨oe,_⟩ | ⟨_,oe⟩
    · exact absurd rfl oe
    have eE:=oe.one BR.o.2;subst eE;rcases x with ⟨x,_⟩ | ⟨_,p,S,rfl,hS,hr⟩
    · exact absurd rfl x
    have aK:ag (tG eC w w4 (.returned (.tuple #[.pointer (some ⟨p,0,none⟩),.int .i64 0])) eps k v g n):=⟨0,CR.o,.inr ⟨rfl,p,S,L,rfl,fun q hq=>Nat.le_trans G3.o.size (hS q hq),BR.o.1,hr⟩⟩
    clear g4 ne oe hS hr BR G3 JQ CR;go_wp2_with fail;go_ret2;exact ⟨aK.o,G4.o⟩
  · have vE:(r != 0)=true:=by simpa using r0
    have R0:ag _:=r0;clear r0;go_wp2_with fail;go_ret2;exact ⟨⟨r,CR.o,.inl ⟨R0.o,rfl⟩⟩,G1.o⟩
end Go.Proofs.YtklkpldicbkjeaaGreat
namespace Go.Proofs.YtklkpldicbkjeaaGreat
open Go.RowKit
attribute [local go_sem] fZ
def BS (b:Nat) (u:World) (x y:Int) (z:Bool):Prop:=(((u.setCell ⟨b,0,none⟩ (.int .u64 x)).setCell ⟨b,1,none⟩ (.int .u64 y)).setCell ⟨b,2,none⟩ (.bool z)).cell? ⟨b,0,none⟩=some (.int .u64 x)/\(((u.setCell ⟨b,0,none⟩ (.int .u64 x)).setCell ⟨b,1,none⟩ (.int .u64 y)).setCell ⟨b,2,none⟩ (.bool z)).cell? ⟨b,1,none⟩=some (.int .u64 y)/\(((u.setCell ⟨b,0,none⟩ (.int .u64 x)).setCell ⟨b,1,none⟩ (.int .u64 y)).setCell ⟨b,2,none⟩ (.bool z)).cell? ⟨b,2,none⟩=some (.bool z)
theorem WB {b:Nat} {u:World} {x0 y0 z0:Value} {t:TypeId} (h:u.heap[b]?=some (.cells #[x0,y0,z0] t (0,0))) (x y:Int) (z:Bool):BS b u x y z:=by
  unfold BS;refine ⟨?_,?_,?_⟩<;>simp [World.cell?,World.setCell,Array.getElem?_modify,h]
theorem afx {w:World} {p:Nat} {S:Nat->Prop} {eps:Int} {k v:Nat->Int} {g:Nat->Bool} {n:Nat} {L:List (List Sg)} (h:eC w p S eps k v g n L):Calls prog 59 #[.pointer (some ⟨p,0,none⟩)] w fun e w'=>e=.returned (.int .i64 (n:Int))/\Gw w w':=by
  obtain ⟨pp,Sp,eo,ec,h1,hp,hs,he⟩:=h.opened;obtain ⟨c0,c1⟩:=sF h1;clear h h1 hp hs he;go_enter func59,ntmps59;go_wp2_with fail;go_ret;exact ⟨rfl,Gw.refl w⟩
theorem afy {w:World} {p:Nat} {S:Nat->Prop} {eps:Int} {k v:Nat->Int} {g:Nat->Bool} {n:Nat} {L:List (List Sg)} (h:eC w p S eps k v g n L) (i:Int) :
    Calls prog 93 #[.pointer (some ⟨p,0,none⟩),.int .i64 i] w fun e w'=>e=.returned (.tuple #[(qO k v g n i).1,.int .i64 (qO k v g n i).2])/\Gw w w':=by
  obtain ⟨pp,Sp,eo,ec,h1,hp,hs,hk⟩:=h.opened;obtain ⟨c0,c1⟩:=sF h1;have pl:p<w.heap.size:=(Array.getElem?_eq_some_iff.1 h1).1;have hn:=h.rdy.n1;clear h h1 hp hs;unfold qO;by_cases a:i<0
  · have t1:decide (i<0)=true:=by simpa using a
    rw [if_neg (by omega)]
    clear hk a;go_enter func93,ntmps93;go_wp2_with fail;exact bodyPost_ret (v:=.tuple #[.agg #[.int .u64 0,.int .u64 0,.bool false],.int .i64 1]) (by simp [results,results93,go_sem]) rfl ⟨rfl,(Gw.refl w).alloc _ _⟩
  · have t1:decide (i<0)=false:=by simpa using a
    by_cases b:(n:Int)<=i
    · have t2:decide ((n:Int)<=i)=true:=by simpa using b
      rw [if_neg (by omega)]
      clear hk a;go_enter func93,ntmps93;go_wp2_with fail;exact bodyPost_ret (v:=.tuple #[.agg #[.int .u64 0,.int .u64 0,.bool false],.int .i64 1]) (by simp [results,results93,go_sem]) rfl ⟨rfl,(Gw.refl w).alloc _ _⟩
    · have t2:decide ((n:Int)<=i)=false:=by simpa using b
      rw [if_pos (by omega)]
      obtain ⟨j,rfl⟩:∃ j:Nat,i=(j:Int):=⟨i.toNat,by omega⟩
      obtain ⟨kb,ko,rfl,fT,cQ⟩:=hk.cells (by omega)
      obtain ⟨d1,d2,d3⟩:=cQ j (by omega)
      have jl:j<n:=by omega
      have tD:(j:Int)<(n:Int):=by omega
      show Calls _ _ _ _ fun e w'=>e=.returned (.tuple #[.agg #[.int .u64 (k j),.int .u64 (v j),.bool (g j)],.int .i64 0])/\Gw w w'
      generalize k j=kj at d1 ⊢;generalize v j=vj at d2 ⊢;generalize g j=gj at d3 ⊢;clear hk cQ a b;go_enter func93,ntmps93;go_wp2_with fail;exact bodyPost_ret (v:=.tuple #[.agg #[.int .u64 kj,.int .u64 vj,.bool gj],.int .i64 0]) (by simp [results,results93,go_sem]) rfl ⟨rfl,(Gw.refl w).alloc _ _⟩
theorem afz {w:World} {p:Nat} {S:Nat->Prop} {eps:Int} {k v:Nat->Int} {g:Nat->Bool} {n:Nat} {L:List (List Sg)} (h:eC w p S eps k v g n L):Calls prog 50 #[.pointer (some ⟨p,0,none⟩)] w fun e w'=>(∃ bo c,e=.returned (.slice bo n c)/\ER w' w.heap.size (.slice bo n c) k v g n)/\Gw w w':=by
  obtain ⟨pp,Sp,eo,ec,h1,hp,hs,he⟩:=h.opened;obtain ⟨c0,c1⟩:=sF h1;have CE:ag (Calls prog 74 #[.slice eo n ec] w fun e w'=>(∃ bo c,e=.returned (.slice bo n c)/\ER w' w.heap.size (.slice bo n c) k v g n)/\Gw w w'):=Wz he h.rdy.n1
  clear h h1 hp hs he;go_enter func50,ntmps50;go_wp2_with fail;refine Calls.mono CE.o ?_;rintro e w2 ⟨⟨bo,c,rfl,er⟩,g2⟩;have ER2:ag _:=er;have G2:ag _:=g2;clear er g2 CE c0 c1;go_wp2_with fail;go_ret;exact ⟨⟨bo,c,rfl,ER2.o⟩,G2.o⟩
theorem afA {w:World} {p:Nat} {S:Nat->Prop} {eps:Int} {k v:Nat->Int} {g:Nat->Bool} {n:Nat} {L:List (List Sg)} (h:eC w p S eps k v g n L) (lv:Nat) (nf:lv<L.length) :
    Calls prog 77 #[.pointer (some ⟨p,0,none⟩),.int .i64 ((lv:Int)+1)] w fun e w'=>(∃ bo c,e=.returned (.slice bo (L.getD lv []).length c)/\SR w' w.heap.size (.slice bo (L.getD lv []).length c) (L.getD lv []))/\Gw w w':=by
  obtain ⟨pp,Sp,eo,ec,h1,hp,hs,he⟩:=h.opened;obtain ⟨c0,_⟩:=sF h1;have pl:p<w.heap.size:=(Array.getElem?_eq_some_iff.1 h1).1;have JR:=h.rdy.sh;have l1:=JR.1;obtain ⟨row,yu⟩:∃ r,L.getD lv []=r:=⟨_,rfl⟩;have rl:row.length<=2000000:=by rw [<-yu];exact JR.2 lv nf
  have CP:ag (w.cell? ⟨p,0,none⟩=some (.pointer (some ⟨pp,0,none⟩))/\p<w.heap.size):=⟨c0,pl⟩;have KP:ag (∀ W,Gw w W->eJ W pp Sp eps k n L):=fun W gg=>hp.keep fun q hq=>gg.below.block q (hp.lt q hq)
  have ez:eS n L ((lv:Int)+1)=row.length:=by
    unfold eS bD;rw [if_pos (by omega),if_neg (by omega),<-yu]
    congr 2
  have ZR:ag (Calls prog 94 #[.pointer (some ⟨pp,0,none⟩),.int .i64 ((lv:Int)+1)] w fun e w'=>e=.returned (.int .i64 (row.length:Int))/\w'=w):=by
    have:=M8 hp ((lv:Int)+1) (by omega) (by omega)
    rw [ez] at this;exact this
  have SG:ag (∀ (W:World) (t:Nat),Gw w W->t<row.length->∃ sk bR bS bF bC,row.getD t az=⟨sk,bR,bS,bF,bC⟩/\Calls prog 95 #[.pointer (some ⟨pp,0,none⟩),.int .i64 ((lv:Int)+1),.int .i64 (t:Int)] W fun e w'=>e=.returned (.agg #[.int .u64 sk,.float .f64 bR,.float .f64 bS,.int .i64 bF,.int .i64 bC])/\Gw W w'):=fun W t gg ht=>by
    have:=DB (KP.o W gg) ((lv:Int)+1) (t:Int) (by omega) (by omega) (by omega) (by omega)
    have e:iW L ((lv:Int)+1) (t:Int)=row.getD t az:=by
      unfold iW;rw [show ((lv:Int)+1).toNat-1=lv by omega,yu,if_pos ⟨⟨by omega,by omega⟩,by omega,by omega⟩]
      simp
    rw [e] at this;exact ⟨_,_,_,_,_,rfl,this⟩
  rw [yu];obtain ⟨m,hm⟩:∃ m,row.length=m:=⟨_,rfl⟩;have RM:ag _:=hm;rw [hm] at ZR SG rl ⊢;have tB:=afo m (by omega)
  have S0:ag (∀ W:World,SR (W.alloc (.cells (madeCells #[.int .u64 0,.float .f64 0,.float .f64 0,.int .i64 0,.int .i64 0] (m*5)) 129)) W.heap.size (.slice (some ⟨W.heap.size,0,none⟩) m m) (List.replicate m az)):=fun W=>afq W m (by omega)
  clear h h1 hp hs he yu ez hm JR;go_enter func77,ntmps77;go_wp2_with fail;refine Calls.mono ZR.o ?_;rintro e w1 ⟨rfl,e1⟩;have e2:=e1.symm;subst e2;clear ZR c0 e1;have B0:ag (SR (w.alloc (.cells (madeCells #[.int .u64 0,.float .f64 0,.float .f64 0,.int .i64 0,.int .i64 0] (m*5)) 129)) w.heap.size (.slice (some ⟨w.heap.size,0,none⟩) m m) (eB row az 0)):=by
    have:=S0.o w
    rw [<-RM.o,<-Wv] at this;rw [<-RM.o];exact this
  have G0:ag (Gw w (w.alloc (.cells (madeCells #[.int .u64 0,.float .f64 0,.float .f64 0,.int .i64 0,.int .i64 0] (m*5)) 129))):=(Gw.refl w).alloc _ _;obtain ⟨b,hb⟩:∃ b,w.heap.size=b:=⟨_,rfl⟩;have BB:ag (w.heap.size=b):=hb;go_wp2_with fail;rw [hb] at B0
  try rw [hb]
  clear hb S0;generalize w.alloc (.cells (madeCells #[.int .u64 0,.float .f64 0,.float .f64 0,.int .i64 0,.int .i64 0] (m*5)) 129)=wA at B0 G0 ⊢;go_loopg [16] m (fun gg EK wr=>∃ i:Nat,EK=.int .i64 (i:Int)/\i<=m/\m-i<=gg/\ag (SR wr b (.slice (some ⟨b,0,none⟩) m m) (eB row az i))/\ag (Gw w wr))
  case atStart=>exact ⟨0,rfl,Nat.zero_le _,by omega,B0,G0⟩
  case round =>
    clear B0 G0;obtain ⟨i,rfl,a1,a2,SS,GG⟩:=hrel;obtain ⟨wS,aZ⟩:∃ wx,wx=wr:=⟨_,rfl⟩;subst aZ;by_cases ak:i<m
    · obtain ⟨sk,bR,bS,bF,bC,es,CS⟩:=SG.o wS i GG.o ak
      have c0:wS.cell? ⟨p,0,none⟩=some (.pointer (some ⟨pp,0,none⟩)):=(GG.o.cell _ _ CP.o.2).trans CP.o.1;have pl':p<wS.heap.size:=Nat.lt_of_lt_of_le CP.o.2 GG.o.size;have WC:ag _:=es;have dG:(i:Int)<(m:Int):=by omega
      clear es;go_wp2_with fail;clear c0 pl';refine Calls.mono CS ?_;rintro e u1 ⟨rfl,gg⟩;have S1:ag _:=yZ SS.o gg;have FL:ag ((eB row az i).length=m):=by rw [BM _ _ _ (by rw [RM.o];omega)];exact RM.o
      have ow:u1.ownsRow b 129 5 (.slice (some ⟨b,0,none⟩) m m) m ((eB row az i).flatMap cI):=by
        have:u1.ownsRow b 129 5 (.slice (some ⟨b,0,none⟩) m m) (eB row az i).length ((eB row az i).flatMap cI):=S1.o
        rw [FL.o] at this;exact this
      have fz:∀ o,u1.frozen? ⟨b,o,none⟩=false:=fun o=>by
        rcases ow.2 with ⟨e,_⟩ | ⟨g',cap,cur,e,cY,hh,_⟩
        · cases e
        · cases e
          simp [World.frozen?,hh]
      have cl:∀ j,j<5->(u1.cell? ⟨b,i*5+j,none⟩).isSome=true:=fun j hj=>by
        have:=ow.cellAt (i*5+j) (by omega)
        rw [this,yW _ i (by rw [FL.o];exact ak) j hj]
        match j,hj with
        | 0,_=>rfl
        | 1,_=>rfl
        | 2,_=>rfl
        | 3,_=>rfl
        | 4,_=>rfl
      obtain ⟨y0,f0⟩:=Option.isSome_iff_exists.1 (cl 0 (by decide))
      obtain ⟨y1,f1⟩:=Option.isSome_iff_exists.1 (cl 1 (by decide))
      obtain ⟨y2,f2⟩:=Option.isSome_iff_exists.1 (cl 2 (by decide))
      obtain ⟨y3,f3⟩:=Option.isSome_iff_exists.1 (cl 3 (by decide))
      obtain ⟨y4,f4⟩:=Option.isSome_iff_exists.1 (cl 4 (by decide))
      have z0:=fz (i*5+0);have z1:=fz (i*5+1);have z2:=fz (i*5+2);have z3:=fz (i*5+3);have z4:=fz (i*5+4);rw [Nat.add_zero] at f0 z0;have bl:b<u1.heap.size:=(ow.lt b rfl).2;clear ow fz cl;have S2:ag (SR (qG u1 b (i*5) ⟨sk,bR,bS,bF,bC⟩) b (.slice (some ⟨b,0,none⟩) m m) (eB row az (i+1))):=by
        have h1:SR u1 b (.slice (some ⟨b,0,none⟩) (eB row az i).length m) (eB row az i):=by rw [FL.o];exact S1.o
        have h2:=Lr h1 (k:=i) (by rw [FL.o];exact ak) ⟨sk,bR,bS,bF,bC⟩
        have h3:=Wx row az az (i:=i) (by rw [RM.o];exact ak)
        rw [WC.o] at h3;rw [h3,BM _ _ _ (by rw [RM.o];omega),RM.o] at h2
        exact h2
      have G2:ag (Gw w (qG u1 b (i*5) ⟨sk,bR,bS,bF,bC⟩)):=CY (GG.o.trans gg) (Nat.le_of_eq BB.o);clear gg S1 FL WC;go_wp2_with fail;go_roundg (m-(i+1))
      case measure=>omega
      case rel=>exact ⟨i+1,by go_num,by omega,Nat.le_refl _,S2,G2⟩
    · have ei:i=m:=by omega
      subst ei;go_wp2_with fail;go_ret;have e:=Ww row az;rw [RM.o] at e;exact ⟨⟨some ⟨b,0,none⟩,_,rfl,by rw [BB.o];have:=SS.o;rw [e] at this;exact this⟩,GG.o⟩
theorem afB {w:World} {p:Nat} {S:Nat->Prop} {eps:Int} {k v:Nat->Int} {g:Nat->Bool} {n:Nat} {L:List (List Sg)} (h:eC w p S eps k v g n L) :
    Calls prog 52 #[.pointer (some ⟨p,0,none⟩)] w fun e w'=>(∃ lo lc aj,e=.returned (.slice lo L.length lc)/\cF w' w.heap.size (.slice lo L.length lc) L aj/\uT L/\L.length<=lc)/\Gw w w':=by
  obtain ⟨pp,Sp,eo,ec,h1,hp,hs,he⟩:=h.opened;obtain ⟨c0,_⟩:=sF h1;have pl:p<w.heap.size:=(Array.getElem?_eq_some_iff.1 h1).1;have l1:=h.rdy.sh.1;have LOK:ag (uT L):=by
    obtain ⟨ko,kc,lo,lc,_,_,hv⟩:=hp.opened;exact TC hv
  obtain ⟨m,hm⟩:∃ m,L.length=m:=⟨_,rfl⟩;have RM:ag _:=hm;have HT:ag (Calls prog 76 #[.pointer (some ⟨pp,0,none⟩)] w fun e w'=>e=.returned (.int .i64 (m:Int))/\w'=w):=by
    have:=M4 hp
    rw [hm] at this;exact this
  have SG:ag (∀ (W:World) (i:Nat),Gw w W->i<m->Calls prog 77 #[.pointer (some ⟨p,0,none⟩),.int .i64 ((i:Int)+1)] W fun e w'=>(∃ bo c sn,e=.returned (.slice bo sn c)/\SR w' W.heap.size (.slice bo sn c) (L.getD i []))/\Gw W w'):=fun W i gg hi=>(afA (h.gw gg) i (by rw [RM.o];exact hi)).mono fun e w' ⟨⟨bo,c,a,s⟩,b⟩=>⟨⟨bo,c,_,a,s⟩,b⟩
  rw [hm] at l1 ⊢;have tB:=afr m (by omega)
  have B0:ag (cF (w.alloc (.cells (madeCells #[.slice none 0 0] m) 126)) w.heap.size (.slice (some ⟨w.heap.size,0,none⟩) m m) (eB L [] 0) (List.replicate m fP)):=by
    have:=aft w m (by omega)
    rw [Wv,RM.o];exact this
  have G0:ag (Gw w (w.alloc (.cells (madeCells #[.slice none 0 0] m) 126))):=(Gw.refl w).alloc _ _;obtain ⟨b,hb⟩:∃ b,w.heap.size=b:=⟨_,rfl⟩;have BB:ag _:=hb;clear h h1 hp hs he hm;go_enter func52,ntmps52;go_wp2_with fail;refine Calls.mono HT.o ?_;rintro e w1 ⟨rfl,e1⟩;have e2:=e1.symm;subst e2;clear HT c0 e1;go_wp2_with fail;rw [hb] at B0
  try rw [hb]
  clear hb;generalize w.alloc (.cells (madeCells #[.slice none 0 0] m) 126)=wA at B0 G0 ⊢;go_loopg [13] m (fun gg rG wr=>∃ (i:Nat) (aj:List Value),rG=.int .i64 (i:Int)/\i<=m/\m-i<=gg/\ag (cF wr b (.slice (some ⟨b,0,none⟩) m m) (eB L [] i) aj)/\ag (Gw w wr))
  case atStart=>exact ⟨0,_,rfl,Nat.zero_le _,by omega,B0,G0⟩
  case round =>
    clear B0 G0;obtain ⟨i,aj,rfl,a1,a2,OV,GG⟩:=hrel;obtain ⟨wS,aZ⟩:∃ wx,wx=wr:=⟨_,rfl⟩;subst aZ;by_cases ak:i<m
    · have dG:(i:Int)<(m:Int):=by omega
      have wi:IntKind.i64.wrap ((i:Int)+1)=(i:Int)+1:=by rw [IntKind.wrap_i64];omega
      have FL:ag ((eB L [] i).length=m):=by show _=_;rw [BM _ _ _ (by rw [RM.o];omega)];exact RM.o
      go_wp2_with fail;refine Calls.mono (SG.o _ i GG.o ak) ?_
      rintro e u1 ⟨⟨bo,c,sn,rfl,sr⟩,gg⟩;have ow:u1.ownsRow b 126 1 (.slice (some ⟨b,0,none⟩) m m) m aj:=by
        have:=(OV.o.gw gg).outer
        rw [FL.o] at this;exact this
      have fz:u1.frozen? ⟨b,i,none⟩=false:=by
        rcases ow.2 with ⟨e,_⟩ | ⟨g',cap,cur,e,cY,hh,_⟩
        · cases e
        · cases e
          simp [World.frozen?,hh]
      have cl:∃ y,u1.cell? ⟨b,i,none⟩=some y:=by
        have vl:=OV.o.len;rw [FL.o] at vl;have:=ow.cellAt i (by omega)
        rw [List.getElem?_eq_getElem (by omega)] at this
        exact ⟨_,this⟩
      obtain ⟨y,cy⟩:=cl;have bl:b<u1.heap.size:=(ow.lt b rfl).2;have O2:ag (cF (u1.setCell ⟨b,i,none⟩ (.slice bo sn c)) b (.slice (some ⟨b,0,none⟩) m m) (eB L [] (i+1)) (aj.set i (.slice bo sn c))):=by
        have h1:cF wS b (.slice (some ⟨b,0,none⟩) (eB L [] i).length m) (eB L [] i) aj:=by rw [FL.o];exact OV.o
        have h2:=h1.put (i:=i) gg sr (by rw [<-BB.o];exact GG.o.size) (by rw [FL.o];exact ak)
        have h3:=Wx L [] [] (i:=i) (by rw [RM.o];exact ak)
        rw [h3,BM _ _ _ (by rw [RM.o];omega),RM.o] at h2
        exact h2
      have G2:ag (Gw w (u1.setCell ⟨b,i,none⟩ (.slice bo sn c))):=(GG.o.trans gg).setCell (Nat.le_of_eq BB.o) _;clear gg sr ow FL;go_wp2_with fail;go_roundg (m-(i+1))
      case measure=>omega
      case rel=>exact ⟨i+1,_,by go_num,by omega,Nat.le_refl _,O2,G2⟩
    · have ei:i=m:=by omega
      subst ei;go_wp2_with fail;go_ret;have e:=Ww L [];rw [RM.o] at e;exact ⟨⟨some ⟨b,0,none⟩,_,aj,rfl,by rw [BB.o];have:=OV.o;rw [e] at this;exact this,LOK.o,Nat.le_refl _⟩,GG.o⟩
theorem afC (M:gh) {w:World} {p:Nat} {S:Nat->Prop} {eps:Int} {k v:Nat->Int} {g:Nat->Bool} {n:Nat} {L:List (List Sg)} (h:eC w p S eps k v g n L) (q:Int) (q0:0<=q) (q1:q<18446744073709551616) :
    Calls prog 70 #[.pointer (some ⟨p,0,none⟩),.int .u64 q] w fun e w'=>e=.returned (.tuple #[(iX k v g n q).1,.bool (iX k v g n q).2])/\Gw w w':=by
  obtain ⟨pp,Sp,eo,ec,h1,hp,hs,he⟩:=h.opened;obtain ⟨c0,c1⟩:=sF h1;have pl:p<w.heap.size:=(Array.getElem?_eq_some_iff.1 h1).1;have hn:=h.rdy.n1;have FF:ag (∀ W,Gw w W->Calls prog 92 #[.pointer (some ⟨p,0,none⟩),.int .u64 q] W fun ex w'=>ex=.returned (vp k n q)/\Gw W w'):=fun W gg=>afn M ((gg.cell _ _ pl).trans c0) (Nat.lt_of_lt_of_le pl gg.size) (hp.keep fun q hq=>gg.below.block q (hp.lt q hq)) h.rdy q q0 q1
  unfold vp at FF;have HE:ag _:=he;have C1:ag (w.cell? ⟨p,1,none⟩=some (.slice eo n ec)/\p<w.heap.size):=⟨c1,pl⟩;have lc:=nI k q n;unfold iX;clear h h1 hp hs he c0 c1 M pl;generalize ax k q n=c at FF lc ⊢;by_cases b:c<n/\k c=q
  · rw [if_pos b]
    rw [decide_eq_true b] at FF;have hc:=b.1;clear b;obtain ⟨kj,JS⟩:∃ x,k c=x:=⟨_,rfl⟩;obtain ⟨vj,JT⟩:∃ x,v c=x:=⟨_,rfl⟩;obtain ⟨gj,JU⟩:∃ x,g c=x:=⟨_,rfl⟩;have KJ:ag (k c=kj/\v c=vj/\g c=gj):=⟨JS,JT,JU⟩;show Calls _ _ _ _ fun e w'=>e=.returned (.tuple #[.agg #[.int .u64 (k c),.int .u64 (v c),.bool (g c)],.bool true])/\Gw w w'
    rw [JS,JT,JU];clear JS JT JU;go_enter func70,ntmps70;go_wp2_with fail;refine Calls.mono (FF.o _ ((Gw.refl w).alloc _ _)) ?_;rintro e u1 ⟨rfl,gg⟩;have G1:Gw w u1:=((Gw.refl w).alloc _ _).trans gg;have c1:u1.cell? ⟨p,1,none⟩=some (.slice eo n ec):=(G1.cell _ _ C1.o.2).trans C1.o.1;have pl:p<u1.heap.size:=Nat.lt_of_lt_of_le C1.o.2 G1.size;obtain ⟨kb,ko,rfl,fT,cQ⟩:=(HE.o.gw G1).cells (by omega)
    obtain ⟨d1,d2,d3⟩:=cQ c hc;have GG:ag _:=G1;have NB:ag (u1.heap[w.heap.size]?=some (.cells #[.int .u64 0,.int .u64 0,.bool false] 40 (0,0))):=(gg.below.block _ (by simp)).trans (heap_alloc_new _ _)
    have gY:(c:Int)<(n:Int):=by omega
    rw [KJ.o.1] at d1;rw [KJ.o.2.1] at d2;rw [KJ.o.2.2] at d3;clear cQ gg G1 FF KJ;obtain ⟨bq,bQ⟩:∃ b,w.heap.size=b:=⟨_,rfl⟩;have BQ:ag _:=bQ;rw [bQ] at NB;have m0:u1.cell? ⟨bq,0,none⟩=some (.int .u64 0):=by simp [World.cell?,NB.o]
    have m1:u1.cell? ⟨bq,1,none⟩=some (.int .u64 0):=by simp [World.cell?,NB.o]
    have m2:u1.cell? ⟨bq,2,none⟩=some (.bool false):=by simp [World.cell?,NB.o]
    have z0:u1.frozen? ⟨bq,0,none⟩=false:=by simp [World.frozen?,NB.o]
    have z1:u1.frozen? ⟨bq,1,none⟩=false:=by simp [World.frozen?,NB.o]
    have z2:u1.frozen? ⟨bq,2,none⟩=false:=by simp [World.frozen?,NB.o]
    have bl:bq<u1.heap.size:=(Array.getElem?_eq_some_iff.1 NB.o).1;have TT:BS bq u1 kj vj gj:=WB NB.o _ _ _;go_wp2_with fail;exact bodyPost_ret (v:=.tuple #[.agg #[.int .u64 kj,.int .u64 vj,.bool gj],.bool true]) (by simp [results,results70,go_sem,TT.1,TT.2.1,TT.2.2]) rfl ⟨rfl,((GG.o.setCell (Nat.le_of_eq BQ.o) _).setCell (Nat.le_of_eq BQ.o) _).setCell (Nat.le_of_eq BQ.o) _⟩
  · rw [if_neg b]
    rw [decide_eq_false b] at FF;clear b;go_enter func70,ntmps70;go_wp2_with fail;refine Calls.mono (FF.o _ ((Gw.refl w).alloc _ _)) ?_;rintro e u1 ⟨rfl,gg⟩;have GG:ag (Gw w u1):=((Gw.refl w).alloc _ _).trans gg;have NB:ag (u1.heap[w.heap.size]?=some (.cells #[.int .u64 0,.int .u64 0,.bool false] 40 (0,0))):=(gg.below.block _ (by simp)).trans (heap_alloc_new _ _)
    clear gg FF;obtain ⟨bq,bQ⟩:∃ b,w.heap.size=b:=⟨_,rfl⟩;have BQ:ag _:=bQ;rw [bQ] at NB;have m0:u1.cell? ⟨bq,0,none⟩=some (.int .u64 0):=by simp [World.cell?,NB.o]
    have m1:u1.cell? ⟨bq,1,none⟩=some (.int .u64 0):=by simp [World.cell?,NB.o]
    have m2:u1.cell? ⟨bq,2,none⟩=some (.bool false):=by simp [World.cell?,NB.o]
    have z0:u1.frozen? ⟨bq,0,none⟩=false:=by simp [World.frozen?,NB.o]
    have z1:u1.frozen? ⟨bq,1,none⟩=false:=by simp [World.frozen?,NB.o]
    have z2:u1.frozen? ⟨bq,2,none⟩=false:=by simp [World.frozen?,NB.o]
    have bl:bq<u1.heap.size:=(Array.getElem?_eq_some_iff.1 NB.o).1;have TT:BS bq u1 0 0 false:=WB NB.o _ _ _;go_wp2_with fail;exact bodyPost_ret (v:=.tuple #[.agg #[.int .u64 0,.int .u64 0,.bool false],.bool false]) (by simp [results,results70,go_sem,TT.1,TT.2.1,TT.2.2]) rfl ⟨rfl,((GG.o.setCell (Nat.le_of_eq BQ.o) _).setCell (Nat.le_of_eq BQ.o) _).setCell (Nat.le_of_eq BQ.o) _⟩
end Go.Proofs.YtklkpldicbkjeaaGreat
namespace Go.Proofs.YtklkpldicbkjeaaGreat
open Go.RowKit
theorem afD:cV eC where
  keep h k:=h.keep k
  lt h:=h.lt
  own h:=h.own
  ready h:=h.rdy
  pile h:=by
    obtain ⟨pp,Sp,eo,ec,h1,hp,hs,_⟩:=h.opened;exact ⟨pp,Sp,(sF h1).1,hp,hs⟩
  new eps ao n cp k v g e0 e1 hn cZ hz w h:=afw ae4 (fun eps ao n cp k v g lo lc L e0 e1 hn cZ hS bP w h hv=>afv Jz eps ao n cp k v g lo lc L e0 e1 hn cZ hS bP w h hv) eps ao n cp k v g e0 e1 hn cZ w h
  len h:=afx h
  at_ h i i0 i1:=afy h i
  list h:=afz h
  levels h:=afB h
  get h q q0 q1:=afC Jz h q q0 q1
end Go.Proofs.YtklkpldicbkjeaaGreat
