/- Promoted methods, found through the embedded pointer. -/
import Derived.Test.YtemijdhemdhclaaGreatNZTell
import Derived.Test.YtemijdhemdhclaaGreatNPY2
set_option linter.unusedVariables false
set_option maxHeartbeats 8000000
set_option maxRecDepth 10000
open Go.Proofs.Tryz
namespace Go.Proofs.YtemijdhemdhclaaGreat
open Go.RowKit
theorem mk_load (pp:Nat) (p:Nat) (W:World) (c:W.cell? ⟨p,0,none⟩=some (.pointer (some ⟨pp,0,none⟩))):(loadVar 120 ⟨p,0,none⟩).run prog W=.ok (.pointer (some ⟨pp,0,none⟩)) W:=by
  simp [go_sem,c]
theorem mk_row_Key:(prog.info? 93).map (fun i=>(i.methods.find? (·.name == "Key")).map (fun m=>(m.path.toList.map (fun s=>(s.struct,s.index,s.deref)),m.func)))=some (some ([(122,0,true)],some (207,true))):=by kernel_rfl
theorem mk_Key (p pp:Nat) (W:World) (c:W.cell? ⟨p,0,none⟩=some (.pointer (some ⟨pp,0,none⟩))):∀ k,(method (k+1) 93 (.pointer (some ⟨p,0,none⟩)) "Key").run prog W=.ok (207,.pointer (some ⟨pp,0,none⟩)) W:=by
  intro k;obtain ⟨i,hi,h2⟩:=Option.map_eq_some_iff.1 mk_row_Key;obtain ⟨m,hm,h3⟩:=Option.map_eq_some_iff.1 h2;simp only [Prod.mk.injEq] at h3;obtain ⟨h4,h5⟩:=h3;have hp:m.path.toList=[⟨122,0,true⟩]:=by
    generalize m.path.toList=l at h4
    match l,h4 with
    | [⟨a,b,d⟩],h4=>simp at h4;obtain ⟨rfl,rfl,rfl⟩:=h4;rfl
  have hl:=mk_load pp p W c;have z:∀ W,(sizeOf 120).run prog W=.ok 1 W:=fun W=>by kernel_rfl
  unfold method;simp only [Sem.run_bind,typeInfo,run_program,Result.andThen_ok,hi,Sem.run_pure,hm,hp,h5,follow,run_underlying underlying122];simp [Place.get,asAddr,fieldPlace,z,receiverAt,run_underlying underlying120,Addr.add_lit,hl]
theorem mk_row_Eps:(prog.info? 93).map (fun i=>(i.methods.find? (·.name == "Eps")).map (fun m=>(m.path.toList.map (fun s=>(s.struct,s.index,s.deref)),m.func)))=some (some ([(122,0,true)],some (76,true))):=by kernel_rfl
theorem mk_Eps (p pp:Nat) (W:World) (c:W.cell? ⟨p,0,none⟩=some (.pointer (some ⟨pp,0,none⟩))):∀ k,(method (k+1) 93 (.pointer (some ⟨p,0,none⟩)) "Eps").run prog W=.ok (76,.pointer (some ⟨pp,0,none⟩)) W:=by
  intro k;obtain ⟨i,hi,h2⟩:=Option.map_eq_some_iff.1 mk_row_Eps;obtain ⟨m,hm,h3⟩:=Option.map_eq_some_iff.1 h2;simp only [Prod.mk.injEq] at h3;obtain ⟨h4,h5⟩:=h3;have hp:m.path.toList=[⟨122,0,true⟩]:=by
    generalize m.path.toList=l at h4
    match l,h4 with
    | [⟨a,b,d⟩],h4=>simp at h4;obtain ⟨rfl,rfl,rfl⟩:=h4;rfl
  have hl:=mk_load pp p W c;have z:∀ W,(sizeOf 120).run prog W=.ok 1 W:=fun W=>by kernel_rfl
  unfold method;simp only [Sem.run_bind,typeInfo,run_program,Result.andThen_ok,hi,Sem.run_pure,hm,hp,h5,follow,run_underlying underlying122];simp [Place.get,asAddr,fieldPlace,z,receiverAt,run_underlying underlying120,Addr.add_lit,hl]
theorem mk_row_Height:(prog.info? 93).map (fun i=>(i.methods.find? (·.name == "Height")).map (fun m=>(m.path.toList.map (fun s=>(s.struct,s.index,s.deref)),m.func)))=some (some ([(122,0,true)],some (206,true))):=by kernel_rfl
theorem mk_Height (p pp:Nat) (W:World) (c:W.cell? ⟨p,0,none⟩=some (.pointer (some ⟨pp,0,none⟩))):∀ k,(method (k+1) 93 (.pointer (some ⟨p,0,none⟩)) "Height").run prog W=.ok (206,.pointer (some ⟨pp,0,none⟩)) W:=by
  intro k;obtain ⟨i,hi,h2⟩:=Option.map_eq_some_iff.1 mk_row_Height;obtain ⟨m,hm,h3⟩:=Option.map_eq_some_iff.1 h2;simp only [Prod.mk.injEq] at h3;obtain ⟨h4,h5⟩:=h3;have hp:m.path.toList=[⟨122,0,true⟩]:=by
    generalize m.path.toList=l at h4
    match l,h4 with
    | [⟨a,b,d⟩],h4=>simp at h4;obtain ⟨rfl,rfl,rfl⟩:=h4;rfl
  have hl:=mk_load pp p W c;have z:∀ W,(sizeOf 120).run prog W=.ok 1 W:=fun W=>by kernel_rfl
  unfold method;simp only [Sem.run_bind,typeInfo,run_program,Result.andThen_ok,hi,Sem.run_pure,hm,hp,h5,follow,run_underlying underlying122];simp [Place.get,asAddr,fieldPlace,z,receiverAt,run_underlying underlying120,Addr.add_lit,hl]
theorem mk_row_Segment:(prog.info? 93).map (fun i=>(i.methods.find? (·.name == "Segment")).map (fun m=>(m.path.toList.map (fun s=>(s.struct,s.index,s.deref)),m.func)))=some (some ([(122,0,true)],some (208,true))):=by kernel_rfl
theorem mk_Segment (p pp:Nat) (W:World) (c:W.cell? ⟨p,0,none⟩=some (.pointer (some ⟨pp,0,none⟩))):∀ k,(method (k+1) 93 (.pointer (some ⟨p,0,none⟩)) "Segment").run prog W=.ok (208,.pointer (some ⟨pp,0,none⟩)) W:=by
  intro k;obtain ⟨i,hi,h2⟩:=Option.map_eq_some_iff.1 mk_row_Segment;obtain ⟨m,hm,h3⟩:=Option.map_eq_some_iff.1 h2;simp only [Prod.mk.injEq] at h3;obtain ⟨h4,h5⟩:=h3;have hp:m.path.toList=[⟨122,0,true⟩]:=by
    generalize m.path.toList=l at h4
    match l,h4 with
    | [⟨a,b,d⟩],h4=>simp at h4;obtain ⟨rfl,rfl,rfl⟩:=h4;rfl
  have hl:=mk_load pp p W c;have z:∀ W,(sizeOf 120).run prog W=.ok 1 W:=fun W=>by kernel_rfl
  unfold method;simp only [Sem.run_bind,typeInfo,run_program,Result.andThen_ok,hi,Sem.run_pure,hm,hp,h5,follow,run_underlying underlying122];simp [Place.get,asAddr,fieldPlace,z,receiverAt,run_underlying underlying120,Addr.add_lit,hl]
theorem seek_run {p pp:Nat} {w0:World} {HS:World->(Nat->Prop)->List (Int×Int)->List (Int×Int)->Prop} {eps:Int} {f:Nat->Int} {n:Nat} {L:List (List Sg)} (D:DSC 76 206 207 208 (.pointer (some ⟨pp,0,none⟩)) w0 HS eps f n L) (loc:∀ {w:World} {S:Nat->Prop} {A B:List (Int×Int)},HS w S A B->w.cell? ⟨p,0,none⟩=some (.pointer (some ⟨pp,0,none⟩))/\p<w.heap.size) (i:Nat) (hi:i<L.length) (hl:L.length<=2000000) (lo0 hi0 te r:Nat) (sl gu rk q:Int) (q0:0<=q) (q1:q<18446744073709551616) (lr:lo0<=r) (rh:r<=hi0) (ht:hi0<=te) (tn:te<=rowN n L i) (te1:te<=4294967296) (bel:∀ t,t<r->rowF f L i t<q) (abo:∀ t,r<=t->t<rowN n L i->q<=rowF f L i t) {w:World} {S:Nat->Prop} {A B:List (Int×Int)} (h:HS w S A B) (la:A.length+(hi0-lo0)<=1999999999) :
    Calls prog 109 #[.pointer (some ⟨p,0,none⟩),visV ⟨(i:Int),sl,gu,(lo0:Int),(hi0:Int),rk⟩,.int .i64 (te:Int),.int .u64 q] w fun e w'=>(∃ S' A',e=.returned (.tuple #[.int .i64 (r:Int),.bool (decide (r<te/\rowF f L i r=q))])/\HS w' S' (A++A') B/\(∀ q,S' q->S q\/w.heap.size<=q)/\SeekR i lo0 hi0 te A')/\Gs S w w':=by
  have HH:Aside (HS (w.alloc (.cells #[.int .i64 (i:Int),.int .i64 sl,.int .i64 gu,.int .i64 (lo0:Int),.int .i64 (hi0:Int),.int .i64 rk] 151)) S A B):=D.grow h ((Gw.refl w).alloc _ _);have SW:Aside _:=D.lt h;have BK:Aside ((w.alloc (.cells #[.int .i64 (i:Int),.int .i64 sl,.int .i64 gu,.int .i64 (lo0:Int),.int .i64 (hi0:Int),.int .i64 rk] 151)).heap[w.heap.size]?=some (.cells #[.int .i64 (i:Int),.int .i64 sl,.int .i64 gu,.int .i64 (lo0:Int),.int .i64 (hi0:Int),.int .i64 rk] 151 (0,0))):=heap_alloc_new w _;have G0:Aside (Gs S w (w.alloc (.cells #[.int .i64 (i:Int),.int .i64 sl,.int .i64 gu,.int .i64 (lo0:Int),.int .i64 (hi0:Int),.int .i64 rk] 151))):=((Gw.refl w).alloc _ _).gs S;have z1:((w.alloc (.cells #[.int .i64 (i:Int),.int .i64 sl,.int .i64 gu,.int .i64 (lo0:Int),.int .i64 (hi0:Int),.int .i64 rk] 151)).heap.size=w.heap.size+1):=by simp
  have Z1:Aside _:=z1;clear z1;have mK:∀ W:World,W.cell? ⟨p,0,none⟩=some (.pointer (some ⟨pp,0,none⟩))->(method 389 93 (.pointer (some ⟨p,0,none⟩)) "Key").run prog W=.ok (207,.pointer (some ⟨pp,0,none⟩)) W:=fun W c=>mk_Key p pp W c _
  have DD:Aside _:=D;have LOC:Hid (∀ {w:World} {S:Nat->Prop} {A B:List (Int×Int)},HS w S A B->w.cell? ⟨p,0,none⟩=some (.pointer (some ⟨pp,0,none⟩))/\p<w.heap.size):=loc;have BEL:Aside _:=bel;have ABO:Aside _:=abo;have TN:Aside (te<=rowN n L i/\i<L.length/\L.length<=2000000):=⟨tn,hi,hl⟩;clear h D bel abo tn hi loc;obtain ⟨st,hst⟩:∃ st:Bool,decide (r<te/\rowF f L i r=q)=st:=⟨_,rfl⟩;have ST:Aside _:=hst;rw [hst];clear hst;go_enter func109,ntmps109;go_wp2_with fail;generalize w.alloc (.cells #[.int .i64 (i:Int),.int .i64 sl,.int .i64 gu,.int .i64 (lo0:Int),.int .i64 (hi0:Int),.int .i64 rk] 151)=w1 at HH BK G0 Z1 ⊢;obtain ⟨vb,hvb⟩:∃ vb,w.heap.size=vb:=⟨_,rfl⟩;have VB:Aside _:=hvb;rw [hvb] at BK SW Z1 ⊢;clear hvb;have VV:Aside (VisAt w1 vb 0 ⟨(i:Int),sl,gu,(lo0:Int),(hi0:Int),rk⟩):=vis_cells BK.out;have k3:w1.cell? ⟨vb,3,none⟩=some (.int .i64 (lo0:Int)):=VV.out.c3;have k4:w1.cell? ⟨vb,4,none⟩=some (.int .i64 (hi0:Int)):=VV.out.c4;have kb:vb<w1.heap.size:=(Array.getElem?_eq_some_iff.1 BK.out).1;go_quiet (fail);have H1:Aside _:=DD.out.grow HH.out ((Gw.refl w1).drewN nq);have G1:Aside _:=((Gw.refl w1).drewN nq).gs S;have DF:Aside (false=decide (hi0<hi0/\rowF f L i hi0=q)):=(decide_eq_false (fun x=>Nat.lt_irrefl _ x.1)).symm
  clear HH k3 k4;go_wp2_with fail;go_loopg [9,10,11] (hi0-lo0) (fun gg s9 s10 s11 wr=>∃ (l h:Nat) (t:Bool) (S':Nat->Prop) (A':List (Int×Int)),s9=.bool t/\s10=.int .i64 (l:Int)/\s11=.int .i64 (h:Int)/\lo0<=l/\l<=r/\r<=h/\h<=hi0/\h-l<=gg/\A'.length+(h-l)<=hi0-lo0/\Aside (t=decide (h<hi0/\rowF f L i h=q))/\Aside (HS wr S' (A++A') B)/\Aside (∀ q,S' q->S q\/vb+1<=q)/\Aside (SeekI i lo0 hi0 l h A')/\Aside (Gs S w1 wr))
  case atStart=>exact ⟨lo0,hi0,false,S,[],rfl,rfl,rfl,Nat.le_refl _,lr,rh,Nat.le_refl _,Nat.le_refl _,by simp,DF,(by rw [List.append_nil];exact H1),(show Aside _ from fun q hq=>.inl hq),(show Aside _ from ⟨by simp,fun a ha=>by simp at ha⟩),G1⟩
  case round =>
    clear H1 G1 DF;obtain ⟨l,h,t,S',A',rfl,rfl,rfl,a1,a2,a3,a4,a5,a6,TT,HH,SS,SK,GG⟩:=hrel;have vk:Aside _:=GG.out.block vb kb (fun e=>by have:=SW.out vb e;omega)
    have k0:wr.cell? ⟨vb,0,none⟩=some (.int .i64 (i:Int)):=(World.cell?_of_block (a:=⟨vb,0,none⟩) vk.out).trans VV.out.c0;have k4:wr.cell? ⟨vb,4,none⟩=some (.int .i64 (hi0:Int)):=(World.cell?_of_block (a:=⟨vb,4,none⟩) vk.out).trans VV.out.c4;have kb':vb<wr.heap.size:=Nat.lt_of_lt_of_le kb GG.out.size;obtain ⟨lc1,lc2⟩:=LOC.out HH.out;have mk:=mK wr lc1;by_cases hlt:l<h
    · obtain ⟨m,hm⟩:∃ m:Nat,(h-l)/2+l=m:=⟨_,rfl⟩
      have m1:l<=m:=by omega
      have m2:m<h:=by omega
      have d1:IntKind.i64.wrap ((h:Int)-(l:Int))=((h-l:Nat):Int):=by rw [IntKind.wrap_i64];omega
      have d4:(l:Int)+((h-l:Nat):Int)/2=(m:Int):=by omega
      have mN:Aside (m<rowN n L i):=by have:=TN.out.1;exact Nat.lt_of_lt_of_le (by omega) this
      clear hm;go_wp2_with fail;refine (DD.out.key HH.out (by simp;omega) i m (Nat.le_of_lt TN.out.2.1) mN.out).mono ?_
      rintro e w2 ⟨⟨S2,rfl,h2,s2⟩,g2⟩;have H2:Aside (HS w2 S2 (A++(A'++[((i:Int),(m:Int))])) B):=by rw [<-List.append_assoc];exact h2
      have S3:Aside (∀ q,S2 q->S q\/vb+1<=q):=fun q hq=>by
        rcases s2 q hq with e | e
        · exact SS.out q e
        · exact .inr (by have:=GG.out.size;have:=Z1.out;omega)
      have G2:Aside _:=gs_trans9 GG.out g2 fun q hq=>by
        rcases SS.out q hq with e | e
        · exact .inl e
        · exact .inr (by rw [Z1.out];exact e)
      obtain ⟨y,hy⟩:∃ y,rowF f L i m=y:=⟨_,rfl⟩;have Y:Aside _:=hy;rw [hy];clear hy h2 s2 g2 HH SS GG k0 k4 kb' vk lc1 lc2 mk;by_cases c:y<q
      · have mr:m+1<=r:=by
          rcases Nat.lt_or_ge m r with e | e
          · exact e
          · have:=ABO.out m e mN.out
            rw [Y.out] at this;omega
        have SK2:Aside _:=SK.out.add m1 m2 a1 a4 (.inl ⟨rfl,rfl⟩);clear Y SK d1 d4;go_wp2_with fail;go_roundg (h-(m+1))
        case measure=>omega
        case rel=>exact ⟨m+1,h,t,S2,A'++[((i:Int),(m:Int))],rfl,by go_num,rfl,by omega,mr,a3,a4,Nat.le_refl _,by simp;omega,TT,H2,S3,SK2,G2⟩
      · have mr:r<=m:=by
          rcases Nat.lt_or_ge m r with e | e
          · have:=BEL.out m e
            rw [Y.out] at this;omega
          · exact e
        have SK2:Aside _:=SK.out.add m1 m2 a1 a4 (.inr ⟨rfl,rfl⟩);obtain ⟨z,hz⟩:∃ z:Bool,(y == q)=z:=⟨_,rfl⟩;have TT2:Aside (z=decide (m<hi0/\rowF f L i m=q)):=by
          show z=_;rw [<-hz,Y.out];have:m<hi0:=by omega
          by_cases e:y=q
          · rw [decide_eq_true ⟨this,e⟩];simpa using e
          · rw [decide_eq_false (fun x=>e x.2)];simpa using e
        clear Y SK d1 d4;go_wp2_with fail;go_roundg (m-l)
        case measure=>omega
        case rel=>exact ⟨l,m,z,S2,A'++[((i:Int),(m:Int))],rfl,rfl,rfl,a1,a2,mr,by omega,Nat.le_refl _,by simp;omega,TT2,H2,S3,SK2,G2⟩
    · obtain rfl:l=r:=by omega
      obtain rfl:h=l:=by omega
      have SW2:Aside (∀ q,S' q->S q\/w.heap.size<=q):=fun q hq=>by
        rcases SS.out q hq with e | e
        · exact .inl e
        · exact .inr (by rw [VB.out];omega)
      by_cases c1:h=hi0
      · by_cases c2:h<te
        · have m0:((h:Int) == (hi0:Int))=true:=by rw [c1];simp
          have m1:decide ((h:Int)<(te:Int))=true:=by simpa using c2
          have hN:Aside (h<rowN n L i):=by have:=TN.out.1;exact Nat.lt_of_lt_of_le c2 this
          have AL:Aside ((A++A').length<=2000000000):=by show _<=_;rw [List.length_append];omega
          have HI:Aside _:=c1;clear c1;go_wp2_with fail;refine (DD.out.key HH.out AL.out i h (Nat.le_of_lt TN.out.2.1) hN.out).mono ?_;rintro e w2 ⟨⟨S2,rfl,h2,s2⟩,g2⟩;have H2:Aside (HS w2 S2 (A++(A'++[((i:Int),(h:Int))])) B):=by rw [<-List.append_assoc];exact h2
          have S3:Aside (∀ q,S2 q->S q\/w.heap.size<=q):=fun q hq=>by
            rcases s2 q hq with e | e
            · exact SW2.out q e
            · exact .inr (by have:=GG.out.size;have:=G0.out.size;omega)
          have G2:Aside _:=gs_trans9 (gs_trans9 G0.out GG.out (fun q hq=>.inl hq)) g2 SW2.out
          obtain ⟨y,hy⟩:∃ y,rowF f L i h=y:=⟨_,rfl⟩;have zz:(y == q)=st:=by
            have s:=ST.out;rw [hy] at s;rw [<-s];by_cases e:y=q
            · rw [decide_eq_true ⟨c2,e⟩];simpa using e
            · rw [decide_eq_false (fun x=>e x.2)];simpa using e
          rw [hy];have SKL:Aside (SeekR i lo0 hi0 te (A'++[((i:Int),(h:Int))])):=by
            have e:=HI.out;have:=SK.out.last (te:=te) (by omega) (by omega) (by omega)
            rw [e];exact this
          clear hy h2 s2 g2 HH SS GG k0 k4 kb' vk lc1 lc2 mk;go_wp2_with fail;go_ret2;exact ⟨⟨S2,_,rfl,H2.out,S3.out,SKL.out⟩,G2.out⟩
        · have m0:((h:Int) == (hi0:Int))=true:=by rw [c1];simp
          have m1:decide ((h:Int)<(te:Int))=false:=by simpa using c2
          have e1:t=false:=by rw [TT.out];exact decide_eq_false (fun x=>by omega)
          have e2:st=false:=by rw [<-ST.out];exact decide_eq_false (fun x=>c2 x.1)
          subst e1 e2;have HI:Aside _:=c1;have SKL:Aside _:=SK.out.done ht (by omega)
          have G2:Aside _:=gs_trans9 G0.out GG.out (fun q hq=>.inl hq)
          clear c1;go_wp2_with fail;go_ret2;exact ⟨⟨S',A',rfl,HH.out,SW2.out,SKL.out⟩,G2.out⟩
      · have m0:((h:Int) == (hi0:Int))=false:=by simp;omega
        have e1:t=st:=by
          rw [TT.out,<-ST.out];have x1:h<hi0:=by omega
          have x2:h<te:=by omega
          by_cases e:rowF f L i h=q
          · rw [decide_eq_true ⟨x1,e⟩,decide_eq_true ⟨x2,e⟩]
          · rw [decide_eq_false (fun x=>e x.2),decide_eq_false (fun x=>e x.2)]
        subst e1;have SKL:Aside _:=SK.out.done ht (by omega)
        have G2:Aside _:=gs_trans9 G0.out GG.out (fun q hq=>.inl hq)
        go_wp2_with fail;go_ret2
        exact ⟨⟨S',A',rfl,HH.out,SW2.out,SKL.out⟩,G2.out⟩
end Go.Proofs.YtemijdhemdhclaaGreat
namespace Go.Proofs.YtemijdhemdhclaaGreat
open Go.RowKit
attribute [local go_sem] run_store_float
theorem down_find_run {p pp:Nat} {w0:World} {HS:World->(Nat->Prop)->List (Int×Int)->List (Int×Int)->Prop} {eps:Int} {f:Nat->Int} {n:Nat} {L:List (List Sg)} (D:DSC 76 206 207 208 (.pointer (some ⟨pp,0,none⟩)) w0 HS eps f n L) (loc:∀ {w:World} {S:Nat->Prop} {A B:List (Int×Int)},HS w S A B->w.cell? ⟨p,0,none⟩=some (.pointer (some ⟨pp,0,none⟩))/\p<w.heap.size) (M:ModelC) (R:Ready eps f n L) (p0 p1:Value) {TT:World->(Nat->Prop)->List Vis->Bool->Prop} (C:TellC 98 (fun a b=>#[a,b,p0,p1]) TT) (q:Int) (q0:0<=q) (q1:q<18446744073709551616) {w:World} {S X:Nat->Prop} {A B:List (Int×Int)} (h:HS w S A B) (t:TT w X [] false) (dj:∀ q,X q->w0.heap.size<=q/\¬ S q) (la:A.length<=1000000000) (lb:B.length<=1000000000) :
    Calls prog 97 #[.pointer (some ⟨p,0,none⟩),.int .u64 q,.func (.func 98) #[] #[p0,p1]] w fun e w'=>e=.returned (.tuple #[])/\(∃ S' X' A' B',HS w' S' (A++A') (B++B')/\AskR eps q f n L A' B'/\TT w' X' (pathL eps q f n L) (standTo q f n L 0)/\(∀ q,S' q->S q\/w.heap.size<=q)/\(∀ q,X' q->(X q\/w.heap.size<=q)/\¬ S' q))/\Gs (fun q=>S q\/X q) w w':=by
  have mH:∀ W:World,W.cell? ⟨p,0,none⟩=some (.pointer (some ⟨pp,0,none⟩))->(method 389 93 (.pointer (some ⟨p,0,none⟩)) "Height").run prog W=.ok (206,.pointer (some ⟨pp,0,none⟩)) W:=fun W c=>mk_Height p pp W c _
  have mS:∀ W:World,W.cell? ⟨p,0,none⟩=some (.pointer (some ⟨pp,0,none⟩))->(method 389 93 (.pointer (some ⟨p,0,none⟩)) "Segment").run prog W=.ok (208,.pointer (some ⟨pp,0,none⟩)) W:=fun W c=>mk_Segment p pp W c _
  have mE:∀ W:World,W.cell? ⟨p,0,none⟩=some (.pointer (some ⟨pp,0,none⟩))->(method 389 93 (.pointer (some ⟨p,0,none⟩)) "Eps").run prog W=.ok (76,.pointer (some ⟨pp,0,none⟩)) W:=fun W c=>mk_Eps p pp W c _
  have DD:Aside _:=D;have LOC:Hid (∀ {w:World} {S:Nat->Prop} {A B:List (Int×Int)},HS w S A B->w.cell? ⟨p,0,none⟩=some (.pointer (some ⟨pp,0,none⟩))/\p<w.heap.size):=loc;have CC:Aside _:=C;have MM:Aside ModelC:=M;have RR:Aside (Ready eps f n L):=R;have HH:Aside _:=h;have TH:Aside _:=t;have DJ:Aside _:=dj;have LAB:Aside (A.length<=1000000000/\B.length<=1000000000):=⟨la,lb⟩;obtain ⟨ln,hln⟩:∃ ln,L.length=ln:=⟨_,rfl⟩;have LN:Aside _:=hln;have l1:ln<=2000000:=by have:=R.sh.1;omega
  clear D C M R h t dj la lb hln loc;obtain ⟨lc1,lc2⟩:=LOC.out HH.out;have mh:=mH w lc1;go_enter func97,ntmps97;go_wp2_with fail;refine (DD.out.height HH.out).mono ?_;rintro e w1 ⟨rfl,hw⟩;have hw':w=w1:=hw.symm;subst hw';rw [LN.out];clear hw lc1 lc2 mh;go_wp2_with fail;have W0:Aside _:=(DD.out.gw HH.out).size;go_loopg [6,7] ln (fun gg s6 s7 wr=>∃ (j sl:Nat) (S' X':Nat->Prop) (A' B':List (Int×Int)),s6=.int .i64 (sl:Int)/\s7=.int .i64 ((j:Int)-1)/\j<=ln/\j<=gg/\Aside (0<j->sl=slotA q L (j-1))/\Aside (HS wr S' (A++A') (B++B'))/\Aside (AskT eps q f n L j A' B')/\Aside (TT wr X' (pathTo eps q f n L j) (standTo q f n L j))/\Aside (∀ q,S' q->S q\/w.heap.size<=q)/\Aside (∀ q,X' q->(X q\/w.heap.size<=q)/\¬ S' q)/\Aside (Gs (fun q=>S q\/X q) w wr))
  case atStart =>
    refine ⟨ln,0,S,X,[],[],rfl,by go_num,Nat.le_refl _,Nat.le_refl _,fun h0=>?_,?_,?_,?_,(show Aside _ from fun q hq=>.inl hq),(show Aside _ from fun q hq=>⟨.inl hq,(DJ.out q hq).2⟩),(show Aside _ from (Gw.refl w).gs _)⟩
    · have:=RR.out.lv.slot_top (q:=q) (by rw [LN.out];exact h0)
      rw [LN.out] at this;exact this.symm
    · rw [List.append_nil,List.append_nil];exact HH
    · have:=AskT.none eps q f n L
      rw [LN.out] at this;exact this
    · have e1:=pathTo_top eps q f n L
      have e2:standTo q f n L L.length=false:=if_pos rfl;rw [LN.out] at e1 e2;rw [e1,e2];exact TH
  case round =>
    clear HH TH;obtain ⟨j,sl,S',X',A',B',rfl,rfl,a1,a2,SL,HH,AK,TH,SS,XX,GG⟩:=hrel;rcases j with _ | i
    · have e:(((0:Nat):Int)-1)=-1:=by omega
      rw [e];clear e;go_wp2_with fail;go_end0;exact ⟨rfl,⟨S',X',A',B',HH.out,AK.out.all,TH.out,SS.out,XX.out⟩,GG.out⟩
    · have e:(((i+1:Nat):Int)-1)=(i:Int):=by omega
      rw [e];clear e;have hi:Aside (i<L.length):=by show _<_;rw [LN.out];omega
      have sle:sl=slotA q L i:=SL.out (by omega)
      have slt:Aside (sl<(L.getD i []).length):=by rw [sle];exact RR.out.lv.slot hi.out
      obtain ⟨s,hs⟩:∃ s,segA q L i=s:=⟨_,rfl⟩;have SG:Aside _:=hs;have SG':Aside ((L.getD i []).getD sl sg0=s):=by rw [sle];exact hs
      have SLE:Aside _:=sle;have bl:Aside ((B++B').length<=2000000000):=by show _<=_;have b1:=AK.out.bl;have:=LAB.out.2;rw [LN.out] at b1;rw [List.length_append];omega
      clear hs sle SL;obtain ⟨k,sp,ic,fr,te⟩:=s;obtain ⟨lc1,lc2⟩:=LOC.out HH.out;have ms:=mS wr lc1;go_wp2_with fail;clear lc1 lc2 ms;refine (DD.out.seg HH.out bl.out i sl hi.out slt.out).mono ?_;rintro e w2 ⟨⟨S2,rfl,h2,s2⟩,g2⟩;have H2:Aside (HS w2 S2 (A++A') (B++(B'++[((i:Int)+1,(sl:Int))]))):=by rw [<-List.append_assoc];exact h2
      have S3:Aside (∀ q,S2 q->S q\/w.heap.size<=q):=fun q hq=>by
        rcases s2 q hq with e | e
        · exact SS.out q e
        · exact .inr (Nat.le_trans GG.out.size e)
      have T2:Aside _:=CC.out.keep TH.out fun q hq=>g2.block q (CC.out.lt TH.out q hq) (XX.out q hq).2
      have X2:Aside (∀ q,X' q->(X q\/w.heap.size<=q)/\¬ S2 q):=fun q hq=>⟨(XX.out q hq).1,fun e=>by
        rcases s2 q e with e | e
        · exact (XX.out q hq).2 e
        · have:=CC.out.lt TH.out q hq;omega⟩
      have G2:Aside _:=gs_trans9 GG.out g2 fun q hq=>by
        rcases SS.out q hq with e | e
        · exact .inl (.inl e)
        · exact .inr e
      rw [SG'.out];have OK:Aside (Sg.ok ⟨k,sp,ic,fr,te⟩):=by have:=DD.out.sok i hi.out sl slt.out;rw [SG'.out] at this;exact this
      have s0:Aside (0<=fr/\fr<te/\te<=4294967296/\te<=rowN n L i/\fr<=guessA q L i/\guessA q L i<=te):=by
        have:=RR.out.lv.bounds (q:=q) q1 hi.out
        rw [SG.out] at this;exact ⟨this.1,this.2.1,this.2.2.1,this.2.2.2.1,this.2.2.2.2.1,this.2.2.2.2.2.1⟩
      have GA:Aside (guessV k sp ic fr te q=guessA q L i):=by show _=_;unfold guessA;rw [SG.out]
      clear h2 s2 g2 HH TH SS XX GG;go_wp2_with fail;have B3:Aside ((w2.alloc (.cells #[.int .u64 k,.float .f64 sp,.float .f64 ic,.int .i64 fr,.int .i64 te] 170)).heap[w2.heap.size]?=some (.cells #[.int .u64 k,.float .f64 sp,.float .f64 ic,.int .i64 fr,.int .i64 te] 170 (0,0))):=heap_alloc_new w2 _;have G3:Aside (Gw w2 (w2.alloc (.cells #[.int .u64 k,.float .f64 sp,.float .f64 ic,.int .i64 fr,.int .i64 te] 170))):=(Gw.refl w2).alloc _ _;generalize w2.alloc (.cells #[.int .u64 k,.float .f64 sp,.float .f64 ic,.int .i64 fr,.int .i64 te] 170)=w3 at B3 G3 ⊢;obtain ⟨gb,hgb⟩:∃ gb,w2.heap.size=gb:=⟨_,rfl⟩;have GB:Aside _:=hgb;rw [hgb] at B3 ⊢;clear hgb;refine (MM.out.guess k sp ic fr te q OK.out q0 q1 w3).mono ?_;rintro e w4 ⟨rfl,g4⟩;rw [GA.out];obtain ⟨G,hG⟩:∃ G,guessA q L i=G:=⟨_,rfl⟩;have GG:Aside _:=hG;rw [hG];obtain ⟨z1,z2,z3,z4,z5,z6⟩:=s0.out;rw [hG] at z5 z6;obtain ⟨tn,htn⟩:∃ tn:Nat,te=(tn:Int):=⟨te.toNat,by omega⟩
      subst htn;have Z4:Aside (tn<=rowN n L i):=by show _<=_;omega
      have e2:=RR.out.e0;have e3:=RR.out.e1;have B4:Aside (w4.heap[gb]?=some (.cells #[.int .u64 k,.float .f64 sp,.float .f64 ic,.int .i64 fr,.int .i64 (tn:Int)] 170 (0,0))):=(g4.below.block gb (Array.getElem?_eq_some_iff.1 B3.out).1).trans B3.out;have G4:Aside _:=G3.out.trans g4;obtain ⟨lo,hlo⟩:∃ lo:Nat,max (G-eps-1) fr=(lo:Int):=⟨(max (G-eps-1) fr).toNat,by omega⟩
      obtain ⟨hj,hhj⟩:∃ hj:Nat,min (G+eps+1) (tn:Int)=(hj:Int):=⟨(min (G+eps+1) (tn:Int)).toNat,by omega⟩
      have LO:Aside ((visAt eps q f n L i).lo=(lo:Int)):=by
        show max (segA q L i).fr (guessA q L i-eps-1)=_;rw [SG.out,GG.out,Int.max_comm];exact hlo
      have HJ:Aside ((visAt eps q f n L i).hi=(hj:Int)):=by
        show min (segA q L i).te (guessA q L i+eps+1)=_;rw [SG.out,GG.out,Int.min_comm];exact hhj
      have WI:Aside (hj-lo<=130):=by show _<=_;omega
      clear B3 G3 g4 hG z4 s0;have gbl:=(Array.getElem?_eq_some_iff.1 B4.out).1;have u1:IntKind.i64.wrap (G-eps)=G-eps:=by rw [IntKind.wrap_i64];omega
      have u2:IntKind.i64.wrap (G-eps-1)=G-eps-1:=by rw [IntKind.wrap_i64];omega
      have u3:IntKind.i64.wrap (G+eps)=G+eps:=by rw [IntKind.wrap_i64];omega
      have u4:IntKind.i64.wrap (G+eps+1)=G+eps+1:=by rw [IntKind.wrap_i64];omega
      go_wp2_with fail;have V5:Aside ((w4.alloc (.cells #[.int .i64 (i:Int),.int .i64 (sl:Int),.int .i64 G,.int .i64 0,.int .i64 0,.int .i64 0] 151)).heap[w4.heap.size]?=some (.cells #[.int .i64 (i:Int),.int .i64 (sl:Int),.int .i64 G,.int .i64 0,.int .i64 0,.int .i64 0] 151 (0,0))):=heap_alloc_new w4 _
      have G5:Aside (Gw w4 (w4.alloc (.cells #[.int .i64 (i:Int),.int .i64 (sl:Int),.int .i64 G,.int .i64 0,.int .i64 0,.int .i64 0] 151))):=(Gw.refl w4).alloc _ _;generalize w4.alloc (.cells #[.int .i64 (i:Int),.int .i64 (sl:Int),.int .i64 G,.int .i64 0,.int .i64 0,.int .i64 0] 151)=w5 at V5 G5 ⊢;obtain ⟨vb,hvb⟩:∃ vb,w4.heap.size=vb:=⟨_,rfl⟩;have VB:Aside _:=hvb;rw [hvb] at V5 gbl ⊢;clear hvb;have H5:Aside _:=DD.out.grow H2.out (G4.out.trans G5.out).drew;have E5:=DD.out.eps H5.out;obtain ⟨lc1,lc2⟩:=LOC.out H5.out;have me:=mE _ lc1;have B5:Aside _:=(G5.out.below.block gb (by rw [VB.out];exact gbl)).trans B4.out
      have c2:w5.drew.cell? ⟨vb,2,none⟩=some (.int .i64 G):=cell_blk9 V5.out rfl;have c3:w5.drew.cell? ⟨vb,3,none⟩=some (.int .i64 0):=cell_blk9 V5.out rfl;have x3:w5.drew.cell? ⟨gb,3,none⟩=some (.int .i64 fr):=cell_blk9 B5.out rfl;have f3:w5.drew.frozen? ⟨vb,3,none⟩=false:=fz_blk9 V5.out;refine wp_region_still_tail 11 (by kernel_rfl) (by kernel_rfl) ?_
      change wpStill _ _ (World.drew w5) (fun a'=>wpList _ _ _ _ a' (World.drew w5)) _ _
      simp only [List.take_succ_cons,List.take_zero,List.drop_succ_cons,List.drop_zero]
      still_step
      still_step
      still_step
      still_step
      still_call E5
      still_step
      still_step
      still_step
      still_step
      still_step
      still_step
      refine wpStill_nil ?_;go_wp2_with fail;have gv:Aside (w2.heap.size<=vb):=by show _<=_;rw [<-VB.out];exact G4.out.size
      have V6:Aside ((w5.setCell ⟨vb,3,none⟩ (.int .i64 (lo:Int))).drew.heap[vb]?=some (.cells #[.int .i64 (i:Int),.int .i64 (sl:Int),.int .i64 G,.int .i64 (lo:Int),.int .i64 0,.int .i64 0] 151 (0,0))):=set_blk9 V5.out 3 _;have G6:Aside (Gw w2 (w5.setCell ⟨vb,3,none⟩ (.int .i64 (lo:Int))).drew):=((G4.out.trans G5.out).setCell gv.out _).drew;have B6:Aside ((w5.setCell ⟨vb,3,none⟩ (.int .i64 (lo:Int))).drew.heap[gb]?=some (.cells #[.int .u64 k,.float .f64 sp,.float .f64 ic,.int .i64 fr,.int .i64 (tn:Int)] 170 (0,0))):=(Go.Deep.blk_setCell_other _ _ _ _ (by show gb≠vb;omega)).trans B5.out
      generalize (w5.setCell ⟨vb,3,none⟩ (.int .i64 (lo:Int))).drew=w6 at V6 G6 B6 ⊢;clear c2 c3 x3 f3 E5 H5 lc1 lc2 me V5 G5 B5 B4 G4 u1 u2 hlo;have H6:Aside _:=DD.out.grow H2.out G6.out.drew;have E6:=DD.out.eps H6.out;obtain ⟨lc1,lc2⟩:=LOC.out H6.out;have me:=mE _ lc1;have c2:w6.drew.cell? ⟨vb,2,none⟩=some (.int .i64 G):=cell_blk9 V6.out rfl;have c4:w6.drew.cell? ⟨vb,4,none⟩=some (.int .i64 0):=cell_blk9 V6.out rfl;have x4:w6.drew.cell? ⟨gb,4,none⟩=some (.int .i64 (tn:Int)):=cell_blk9 B6.out rfl;have f4:w6.drew.frozen? ⟨vb,4,none⟩=false:=fz_blk9 V6.out;refine wp_region_still_tail 11 (by kernel_rfl) (by kernel_rfl) ?_
      change wpStill _ _ (World.drew w6) (fun a'=>wpList _ _ _ _ a' (World.drew w6)) _ _
      simp only [List.take_succ_cons,List.take_zero,List.drop_succ_cons,List.drop_zero]
      still_step
      still_step
      still_step
      still_step
      still_call E6
      still_step
      still_step
      still_step
      still_step
      still_step
      still_step
      refine wpStill_nil ?_;obtain ⟨w7,hw7⟩:∃ w7,w6.setCell ⟨vb,4,none⟩ (.int .i64 (hj:Int))=w7:=⟨_,rfl⟩;have V7:Aside (w7.heap[vb]?=some (.cells #[.int .i64 (i:Int),.int .i64 (sl:Int),.int .i64 G,.int .i64 (lo:Int),.int .i64 (hj:Int),.int .i64 0] 151 (0,0))):=by rw [<-hw7];exact set_blk9 V6.out 4 _
      have G7:Aside (Gw w2 w7.drew):=by rw [<-hw7];exact (G6.out.setCell gv.out _).drew
      have B7:Aside (w7.heap[gb]?=some (.cells #[.int .u64 k,.float .f64 sp,.float .f64 ic,.int .i64 fr,.int .i64 (tn:Int)] 170 (0,0))):=by rw [<-hw7];exact (Go.Deep.blk_setCell_other _ _ _ _ (by show gb≠vb;omega)).trans B6.out
      have v7:=vis_cells (v:=⟨(i:Int),(sl:Int),G,(lo:Int),(hj:Int),0⟩) V7.out;have k0:w7.cell? ⟨vb,0,none⟩=some (.int .i64 (i:Int)):=v7.c0;have k1:w7.cell? ⟨vb,1,none⟩=some (.int .i64 (sl:Int)):=v7.c1;have k2:w7.cell? ⟨vb,2,none⟩=some (.int .i64 G):=v7.c2;have k3:w7.cell? ⟨vb,3,none⟩=some (.int .i64 (lo:Int)):=v7.c3;have k4:w7.cell? ⟨vb,4,none⟩=some (.int .i64 (hj:Int)):=v7.c4;have k5:w7.cell? ⟨vb,5,none⟩=some (.int .i64 0):=v7.c5;have y4:w7.cell? ⟨gb,4,none⟩=some (.int .i64 (tn:Int)):=cell_blk9 B7.out rfl;have vbl:=(Array.getElem?_eq_some_iff.1 V7.out).1;have HT:Aside (hj<=tn):=by show _<=_;omega
      have WN:Aside (lo<=cntb (rowF f L i) q (rowN n L i)/\cntb (rowF f L i) q (rowN n L i)<=hj):=by
        obtain ⟨x1,x2⟩:=RR.out.lv.window (q:=q) q1 hi.out;rw [LO.out] at x1;rw [HJ.out] at x2;have y1:(lo:Int)<=(cntb (rowF f L i) q (rowN n L i):Int):=x1;have y2:(cntb (rowF f L i) q (rowN n L i):Int)<=(hj:Int):=x2;exact ⟨by omega,by omega⟩
      have BL:Aside ((∀ t,t<cntb (rowF f L i) q (rowN n L i)->rowF f L i t<q)/\∀ t,cntb (rowF f L i) q (rowN n L i)<=t->t<rowN n L i->q<=rowF f L i t):=RR.out.lv.below hi.out;have VR:Aside _:=RR.out.lv.vis q1 hi.out;have VI:Aside (visAt eps q f n L i=⟨(i:Int),(sl:Int),G,(lo:Int),(hj:Int),((cntb (rowF f L i) q (rowN n L i):Nat):Int)⟩):=by
        show visAt eps q f n L i=_;have e1:(visAt eps q f n L i).lo=(lo:Int):=LO.out;have e2:(visAt eps q f n L i).hi=(hj:Int):=HJ.out;have e3:(visAt eps q f n L i).gu=G:=GG.out;have e4:(visAt eps q f n L i).sl=(sl:Int):=by show ((slotA q L i:Nat):Int)=_;rw [SLE.out]
        rw [<-e1,<-e2,<-e3,<-e4];rfl
      obtain ⟨r,hr⟩:∃ r,cntb (rowF f L i) q (rowN n L i)=r:=⟨_,rfl⟩;have RK:Aside _:=hr;rw [hr] at WN BL VI;have r1:r<=tn:=Nat.le_trans WN.out.2 HT.out;have H7:Aside _:=DD.out.grow H2.out G7.out;have AL:Aside ((A++A').length+(hj-lo)<=1999999999):=by
        show _<=_;have b1:=AK.out.al;have:=LAB.out.1;have:=WI.out;rw [LN.out] at b1;rw [List.length_append];omega
      clear v7 hhj hr E6 H6 lc1 lc2 me V6 G6 B6;go_wp2_with fail;refine (seek_run DD.out LOC.out i hi.out RR.out.sh.1 lo hj tn r (sl:Int) G 0 q q0 q1 WN.out.1 WN.out.2 HT.out Z4.out (by omega) BL.out.1 BL.out.2 H7.out AL.out).mono ?_
      rintro e w8 ⟨⟨S8,A8,rfl,h8,s8,k8⟩,g8⟩;have s2l:Aside _:=DD.out.lt H2.out;have x2l:Aside _:=CC.out.lt T2.out;have n8:Aside (∀ q,w2.heap.size<=q->q<w7.heap.size->w8.heap[q]?=w7.heap[q]?):=fun q h1 h2=>g8.block q h2 (fun e=>by have:=s2l.out q e;omega)
      have V8:Aside _:=(n8.out vb gv.out vbl).trans V7.out;have gb2:Aside _:=GB.out.symm;have B8:Aside _:=(n8.out gb (Nat.le_of_eq gb2.out.symm) (by omega)).trans B7.out
      have S8L:Aside (∀ q,S8 q->q<w8.heap.size/\q≠vb/\q≠gb):=fun q hq=>⟨DD.out.lt h8 q hq,by
        rcases s8 q hq with e | e
        · have:=s2l.out q e;have:=gv.out;have:=gb2.out;omega
        · have e':w7.heap.size<=q:=e
          omega⟩
      have S8W:Aside (∀ q,S8 q->S q\/w.heap.size<=q):=fun q hq=>by
        rcases s8 q hq with e | e
        · exact S3.out q e
        · exact .inr (Nat.le_trans G2.out.size (Nat.le_trans G7.out.size e))
      have X8:Aside (∀ q,X' q->¬ S8 q):=fun q hq e=>by
        rcases s8 q e with e | e
        · exact (X2.out q hq).2 e
        · have:=x2l.out q hq;have:=G7.out.size;omega
      have T8:Aside _:=CC.out.keep T2.out fun q hq=>(g8.block q (Nat.lt_of_lt_of_le (x2l.out q hq) G7.out.size) (fun e=>(X2.out q hq).2 e)).trans (G7.out.below.block q (x2l.out q hq))
      have G8:Aside (Gs (fun q=>S q\/X q) w w8):=gs_trans9 (gs_trans9 G2.out (G7.out.gs (fun _=>False)) (fun q hq=>hq.elim)) g8 fun q hq=>by
        rcases S3.out q hq with e | e
        · exact .inl (.inl e)
        · exact .inr e
      have wvb:Aside _:=Nat.le_trans G2.out.size gv.out;obtain ⟨w9,hw9⟩:∃ w9,w8.setCell ⟨vb,5,none⟩ (.int .i64 (r:Int))=w9:=⟨_,rfl⟩;have V9:Aside (w9.heap[vb]?=some (.cells #[.int .i64 (i:Int),.int .i64 (sl:Int),.int .i64 G,.int .i64 (lo:Int),.int .i64 (hj:Int),.int .i64 (r:Int)] 151 (0,0))):=by rw [<-hw9];exact set_blk9 V8.out 5 _
      have N9:Aside (∀ q,q≠vb->w9.heap[q]?=w8.heap[q]?):=fun q hq=>by rw [<-hw9];exact Go.Deep.blk_setCell_other _ _ _ _ hq
      have Z9:Aside (w9.heap.size=w8.heap.size):=by rw [<-hw9];exact World.size_setCell _ _ _
      have G9':Aside (Gs (fun q=>q=vb) w8 w9):=by rw [<-hw9];exact Gs.set (S:=fun q=>q=vb) ((Gw.refl w8).gs _) rfl 5 _
      have H9:Aside (HS w9 S8 (A++(A'++A8)) (B++(B'++[((i:Int)+1,(sl:Int))]))):=by
        rw [<-List.append_assoc];exact DD.out.step h8 G9'.out fun q e=>⟨by rw [e];exact Nat.le_trans W0.out wvb.out,fun e'=>(S8L.out q e').2.1 e⟩
      have T9:Aside _:=CC.out.keep T8.out fun q hq=>N9.out q (by have:=x2l.out q hq;have:=gv.out;omega)
      have G9:Aside _:=gs_trans9 G8.out G9'.out fun q e=>.inr (by rw [e];exact wvb.out)
      have B9:Aside _:=(N9.out gb (by omega)).trans B8.out
      have SKR:Aside _:=k8;obtain ⟨st,hst⟩:∃ st:Bool,decide (r<tn/\rowF f L i r=q)=st:=⟨_,rfl⟩;have ST:Aside _:=hst;rw [hst];have v9:=vis_cells (v:=⟨(i:Int),(sl:Int),G,(lo:Int),(hj:Int),(r:Int)⟩) V9.out;have d5:w8.cell? ⟨vb,5,none⟩=some (.int .i64 0):=cell_blk9 V8.out rfl;have d6:w8.frozen? ⟨vb,5,none⟩=false:=fz_blk9 V8.out;have vb8:=(Array.getElem?_eq_some_iff.1 V8.out).1;have vb9:=(Array.getElem?_eq_some_iff.1 V9.out).1;have m0:w9.cell? ⟨vb,0,none⟩=some (.int .i64 (i:Int)):=v9.c0;have m1:w9.cell? ⟨vb,1,none⟩=some (.int .i64 (sl:Int)):=v9.c1;have m2:w9.cell? ⟨vb,2,none⟩=some (.int .i64 G):=v9.c2;have m3:w9.cell? ⟨vb,3,none⟩=some (.int .i64 (lo:Int)):=v9.c3;have m4:w9.cell? ⟨vb,4,none⟩=some (.int .i64 (hj:Int)):=v9.c4;have m5:w9.cell? ⟨vb,5,none⟩=some (.int .i64 (r:Int)):=v9.c5;clear h8 s8 k8 g8 n8 hst v9 hw7 k0 k1 k2 k3 k4 k5 y4 c2 c4 x4 f4 u3 u4 V7 B7 G7 H7 V8 B8 T8 G8 G9' AL H2 T2 G2;go_wp2_with fail;have PL:Aside ((pathTo eps q f n L (i+1)).length<=2000000):=by show _<=_;rw [pathTo_len,LN.out];omega
      refine (CC.out.call T9.out PL.out ⟨(i:Int),(sl:Int),G,(lo:Int),(hj:Int),(r:Int)⟩ st).mono ?_;rintro e w10 ⟨rfl,⟨X10,t10,s10⟩,g10⟩;have H10:Aside (HS w10 S8 (A++(A'++A8)) (B++(B'++[((i:Int)+1,(sl:Int))]))):=DD.out.step H9.out g10 fun q hq=>⟨by
        rcases (X2.out q hq).1 with e | e
        · exact (DJ.out q e).1
        · exact Nat.le_trans W0.out e,X8.out q hq⟩
      have T10:Aside (TT w10 X10 (pathTo eps q f n L i) (standTo q f n L i)):=by
        have e1:standTo q f n L i=st:=by
          unfold standTo;rw [if_neg (by have:=hi.out;omega),<-ST.out]
          unfold standA;rw [RK.out];have th:=VR.out.there;rw [SG.out,RK.out] at th;have t1:(r<tn/\rowF f L i r=q)↔(r<rowN n L i/\rowF f L i r=q):=⟨fun x=>th.1 ⟨by show (r:Int)<(tn:Int);omega,x.2⟩,fun x=>by have y:=th.2 x;have y1:(r:Int)<(tn:Int):=y.1;exact ⟨by omega,x.2⟩⟩
          by_cases e:r<tn/\rowF f L i r=q
          · rw [decide_eq_true e,decide_eq_true (t1.1 e)]
          · rw [decide_eq_false e,decide_eq_false (fun x=>e (t1.2 x))]
        rw [e1,pathTo_next eps q f n L hi.out,VI.out];exact t10
      have X10W:Aside (∀ q,X10 q->(X q\/w.heap.size<=q)/\¬ S8 q):=fun q hq=>by
        rcases s10 q hq with e | e
        · exact ⟨(X2.out q e).1,X8.out q e⟩
        · exact ⟨.inr (Nat.le_trans G9.out.size e),fun e'=>by have:=(S8L.out q e').1;have:=Z9.out;omega⟩
      have G10:Aside _:=gs_trans9 G9.out g10 fun q hq=>by
        rcases (X2.out q hq).1 with e | e
        · exact .inl (.inr e)
        · exact .inr e
      have gb9:=(Array.getElem?_eq_some_iff.1 B9.out).1;have B10:Aside _:=(g10.block gb gb9 (fun e=>by have:=x2l.out gb e;have:=gb2.out;omega)).trans B9.out
      have x3:w10.cell? ⟨gb,3,none⟩=some (.int .i64 fr):=cell_blk9 B10.out rfl;have AKN:Aside (AskT eps q f n L i (A'++A8) (B'++[((i:Int)+1,(sl:Int))])):=by
        have:=AK.out.next hi.out SKR.out LO.out HJ.out (by rw [SG.out]) (by have:=WI.out;omega)
        rw [<-SLE.out] at this;exact this
      obtain ⟨nx,hnx⟩:∃ nx:Nat,(if st=true then (r:Int) else max ((r:Int)-1) fr)=(nx:Int):=⟨(if st=true then (r:Int) else max ((r:Int)-1) fr).toNat,by split<;>omega⟩
      have NXS:Aside (0<i->nx=slotA q L (i-1)):=fun i0=>by
        have e1:slotA q L (i-1)=rs (rowF f L i) (rowN n L i) q:=by
          have:=slot_row (q:=q) (f:=f) (n:=n) (L:=L) (i-1)
          rw [show i-1+1=i by omega] at this
          exact this
        have th:=VR.out.there;have nx':=VR.out.next;rw [SG.out,RK.out] at th nx';rw [e1];have s:=ST.out;by_cases e:r<tn/\rowF f L i r=q
        · rw [decide_eq_true e] at s
          rw [if_pos s.symm] at hnx;have y:=th.1 ⟨by show (r:Int)<(tn:Int);omega,e.2⟩
          unfold rs;rw [RK.out,if_pos y];omega
        · rw [decide_eq_false e] at s
          rw [if_neg (by rw [<-s];simp)] at hnx
          have y:=nx' (fun x=>e ⟨by have x1:(r:Int)<(tn:Int):=x.1;omega,x.2⟩)
          have y':max ((r:Int)-1) fr=((rs (rowF f L i) (rowN n L i) q:Nat):Int):=y;omega
      clear t10 s10 g10 hw9 d5 d6 vb8 m0 m1 m2 m3 m4 m5 V9 B9 T9 G9 H9 N9 S8L X8 vbl;go_wp2_with fail;refine (next_any (r:Int) fr st (by omega) (by omega) w10).mono ?_
      rintro e w11 ⟨rfl,hw11⟩;have hw11':w10=w11:=hw11.symm;subst hw11';rw [hnx];clear hw11 hnx;go_wp2_with fail;go_roundg i
      case measure=>omega
      case rel=>exact ⟨i,nx,S8,X10,A'++A8,B'++[((i:Int)+1,(sl:Int))],rfl,by go_num,by omega,Nat.le_refl _,NXS,H10,AKN,T10,S8W,X10W,G10⟩
end Go.Proofs.YtemijdhemdhclaaGreat
namespace Go.Proofs.YtemijdhemdhclaaGreat
open Go.RowKit
attribute [local go_sem] run_store_float
theorem tellf_run (br bt:Nat) (ne:br≠bt):TellC 98 (fun a b=>#[a,b,.pointer (some ⟨br,0,none⟩),.pointer (some ⟨bt,0,none⟩)]) (FTz br bt) where
  lt h q hq:=by
    rcases (h.x q).1 hq with rfl | rfl
    · exact h.r.lt
    · exact h.t.lt
  keep h k:=⟨(k br ((h.x br).2 (.inl rfl))).trans h.r,(k bt ((h.x bt).2 (.inr rfl))).trans h.t,h.x⟩
  call {w X l st} h hl v s:=by
    obtain ⟨v0,v1,v2,v3,v4,v5⟩:=v;have HH:Aside _:=h;have c1:=h.r.cell;have c2:=h.t.cell;have f1:=h.r.fz;have f2:=h.t.fz;have l1:=h.r.lt;have l2:=h.t.lt;have b1:br≠w.heap.size:=by omega
    have b2:bt≠w.heap.size:=by omega
    clear h;go_enter func98,ntmps98;go_wp2_with fail;go_end0;refine ⟨rfl,⟨X,⟨?_,?_,HH.out.x⟩,fun q hq=>.inl hq⟩,?_⟩
    · rw [lastR_snoc]
      refine (heap_alloc_old _ _ (by simpa using l1)).trans ?_
      refine (Go.Deep.blk_setCell_other _ _ _ _ ne).trans ?_;exact set_blk9 HH.out.r 0 _
    · refine (heap_alloc_old _ _ (by simpa using l2)).trans ?_
      exact set_blk9 ((Go.Deep.blk_setCell_other _ _ _ _ (fun e=>ne e.symm)).trans HH.out.t) 0 _
    · have g:=(((Gw.refl w).gs X).set ((HH.out.x br).2 (.inl rfl)) 0 (.int .i64 v5)).set ((HH.out.x bt).2 (.inr rfl)) 0 (.bool s)
      exact gs_trans9 g (((Gw.refl _).alloc _ _).gs (fun _=>False)) (fun q hq=>hq.elim)
theorem xfind_run {p pp:Nat} {w0:World} {HS:World->(Nat->Prop)->List (Int×Int)->List (Int×Int)->Prop} {eps:Int} {f:Nat->Int} {n:Nat} {L:List (List Sg)} (D:DSC 76 206 207 208 (.pointer (some ⟨pp,0,none⟩)) w0 HS eps f n L) (loc:∀ {w:World} {S:Nat->Prop} {A B:List (Int×Int)},HS w S A B->w.cell? ⟨p,0,none⟩=some (.pointer (some ⟨pp,0,none⟩))/\p<w.heap.size) (M:ModelC) (R:Ready eps f n L) (q:Int) (q0:0<=q) (q1:q<18446744073709551616) {w:World} {S:Nat->Prop} {A B:List (Int×Int)} (h:HS w S A B) (la:A.length<=1000000000) (lb:B.length<=1000000000) :
    Calls prog 89 #[.pointer (some ⟨p,0,none⟩),.int .u64 q] w fun e w'=>(∃ S' A' B',e=.returned (foundV f n q)/\HS w' S' (A++A') (B++B')/\AskR eps q f n L A' B'/\∀ q,S' q->S q\/w.heap.size<=q)/\Gs S w w':=by
  obtain ⟨br,hbr⟩:∃ br,w.heap.size=br:=⟨_,rfl⟩;have BR:Aside _:=hbr;have G2:Aside (Gw w ((w.alloc (.cells #[.int .i64 0] 3)).alloc (.cells #[.bool false] 4))):=((Gw.refl w).alloc _ _).alloc _ _;have z1:(w.alloc (.cells #[.int .i64 0] 3)).heap.size=br+1:=by rw [<-hbr];simp
  have T2:Aside (FTz br (br+1) ((w.alloc (.cells #[.int .i64 0] 3)).alloc (.cells #[.bool false] 4)) (fun q=>q=br\/q=br+1) [] false):=by
    refine ⟨?_,?_,fun q=>Iff.rfl⟩
    · have:=heap_alloc_new w (.cells #[.int .i64 0] 3)
      rw [hbr] at this;exact (heap_alloc_old _ _ (by omega)).trans this
    · have:=heap_alloc_new (w.alloc (.cells #[.int .i64 0] 3)) (.cells #[.bool false] 4)
      rw [z1] at this;exact this
  have z2:((w.alloc (.cells #[.int .i64 0] 3)).alloc (.cells #[.bool false] 4)).heap.size=br+2:=by rw [<-hbr];simp
  have Z2:Aside _:=Nat.le_of_eq z2.symm;have H2:Aside _:=D.grow h G2.out;have SB:Aside (∀ q,S q->q<br):=fun q hq=>by have:=D.lt h q hq;omega
  have W0:Aside (w0.heap.size<=br):=by have:=(D.gw h).size;show _<=_;omega
  have RR:Aside _:=R;have DN:Hid _:=fun (W:World) (hW:HS W S A B) (tW:FTz br (br+1) W (fun q=>q=br\/q=br+1) [] false) (dj:∀ q,(q=br\/q=br+1)->w0.heap.size<=q/\¬ S q)=>down_find_run D loc M R (.pointer (some ⟨br,0,none⟩)) (.pointer (some ⟨br+1,0,none⟩)) (tellf_run br (br+1) (by omega)) q q0 q1 hW tW dj la lb
  have DD:Aside _:=D;clear h D M R la lb z1 z2;go_enter func89,ntmps89;have dj:Aside (∀ q,(q=br\/q=br+1)->w0.heap.size<=q/\¬ S q):=fun q hq=>by
    have:=W0.out
    exact ⟨by omega,fun e=>by have:=SB.out q e;omega⟩
  go_wp2_with fail;refine (DN.out _ H2.out T2.out dj.out).mono ?_
  clear DN T2 H2;rintro e w3 ⟨rfl,⟨S3,X3,A3,B3,h3,k3,t3,s3,x3⟩,g3⟩;have c1:=t3.r.cell;have c2:=t3.t.cell;have l1:=t3.r.lt;have l2:=t3.t.lt;have RES:Aside (∀ W,Gw w3 W->∃ S' A' B',HS W S' (A++A') (B++B')/\AskR eps q f n L A' B'/\∀ q,S' q->S q\/w.heap.size<=q):=fun W gW=>⟨S3,A3,B3,DD.out.grow h3 gW,k3,fun q hq=>by
    rcases s3 q hq with e | e
    · exact .inl e
    · exact .inr (by have:=Z2.out;rw [BR.out];omega)⟩
  have G3:Aside _:=gs_trans9 (G2.out.gs S) g3 fun q hq=>by
    rcases hq with e | e
    · exact .inl e
    · exact .inr (by rw [BR.out];omega)
  obtain ⟨e1,e2⟩:=found_end (q:=q) RR.out;rw [e1] at c1;rw [e2] at c2;have FV:Aside (foundV f n q=.tuple #[.int .i64 (cntb f q n:Nat),.bool (decide (cntb f q n<n/\f (cntb f q n)=q))]):=rfl;generalize decide (cntb f q n<n/\f (cntb f q n)=q)=tt at c2 FV;generalize cntb f q n=nn at c1 FV;clear h3 k3 t3 s3 x3 g3 e1 e2 dj;go_wp2_with fail
  first
    | (
       go_quiet (fail);go_wp2_with fail
       go_ret2
       obtain ⟨S',A',B',r1,r2,r3⟩:=RES.out _ ((Gw.refl w3).drewN _);exact ⟨⟨S',A',B',congrArg Ending.returned FV.out.symm,r1,r2,r3⟩,gs_trans9 G3.out (((Gw.refl w3).drewN _).gs (fun _=>False)) (fun q hq=>hq.elim)⟩)
    | (
       go_ret2
       obtain ⟨S',A',B',r1,r2,r3⟩:=RES.out w3 (Gw.refl w3);exact ⟨⟨S',A',B',congrArg Ending.returned FV.out.symm,r1,r2,r3⟩,G3.out⟩)
end Go.Proofs.YtemijdhemdhclaaGreat
namespace Go.Proofs.YtemijdhemdhclaaGreat
open Go.RowKit
theorem loc11 {w:World} {p pp:Nat} (c:w.cell? ⟨p,0,none⟩=some (.pointer (some ⟨pp,0,none⟩))) (pl:p<w.heap.size):∀ {W:World} {S:Nat->Prop} {A B:List (Int×Int)},PS9 w W S A B->W.cell? ⟨p,0,none⟩=some (.pointer (some ⟨pp,0,none⟩))/\p<W.heap.size :=
  fun x=>⟨(x.1.cell _ _ pl).trans c,Nat.lt_of_lt_of_le pl x.1.size⟩
theorem rfind11 (M:ModelC) {w:World} {p pp:Nat} {S:Nat->Prop} {eps:Int} {f:Nat->Int} {n:Nat} {L:List (List Sg)} (c:w.cell? ⟨p,0,none⟩=some (.pointer (some ⟨pp,0,none⟩))) (pl:p<w.heap.size) (h:HPile w pp S eps f n L) (R:Ready eps f n L) (q:Int) (q0:0<=q) (q1:q<18446744073709551616) :
    Calls prog 89 #[.pointer (some ⟨p,0,none⟩),.int .u64 q] w fun ex w'=>ex=.returned (foundV f n q)/\Gw w w':=by
  refine (xfind_run (dsc_pile h) (loc11 c pl) M R q q0 q1 (S:=fun _=>False) (A:=[]) (B:=[]) ⟨Gw.refl w,fun _ e=>e⟩ (by simp) (by simp)).mono ?_
  rintro ex w2 ⟨⟨S2,A2,B2,rfl,x,_⟩,_⟩;exact ⟨rfl,x.1⟩
structure HRun (w:World) (p:Nat) (S:Nat->Prop) (eps:Int) (k v:Nat->Int) (g:Nat->Bool) (n:Nat) (L:List (List Sg)):Prop where
  lies:∃ (u:World) (base pp:Nat) (Sp:Nat->Prop) (eo:Option Addr) (ec:Nat),(∀ q,S q↔base<=q/\q<u.heap.size)/\u.heap.size<=w.heap.size/\(∀ q,base<=q->q<u.heap.size->w.heap[q]?=u.heap[q]?)/\u.heap[p]?=some (.cells #[.pointer (some ⟨pp,0,none⟩),.slice eo n ec] 122 (0,0))/\base<=p/\HPile u pp Sp eps k n L/\(∀ q,Sp q->base<=q)/\ES u eo n k v g/\(∀ a,eo=some a->base<=a.block)
  rdy:Ready eps k n L
section
variable {w:World} {p:Nat} {S:Nat->Prop} {eps:Int} {k v:Nat->Int} {g:Nat->Bool} {n:Nat} {L:List (List Sg)}
theorem HRun.lt (h:HRun w p S eps k v g n L):∀ q,S q->q<w.heap.size:=by
  obtain ⟨u,base,pp,Sp,eo,ec,h1,h2,_⟩:=h.lies;intro q hq;have:=(h1 q).1 hq;omega
theorem HRun.keep {w':World} (h:HRun w p S eps k v g n L) (kk:∀ q,S q->w'.heap[q]?=w.heap[q]?):HRun w' p S eps k v g n L:=by
  obtain ⟨u,base,pp,Sp,eo,ec,h1,h2,h3,h4,h5,h6⟩:=h.lies;have pu:p<u.heap.size:=(Array.getElem?_eq_some_iff.1 h4).1;refine ⟨⟨u,base,pp,Sp,eo,ec,h1,?_,fun q a b=>(kk q ((h1 q).2 ⟨a,b⟩)).trans (h3 q a b),h4,h5,h6⟩,h.rdy⟩
  have e:=kk (u.heap.size-1) ((h1 _).2 ⟨by omega,by omega⟩)
  rw [Array.getElem?_eq_getElem (show u.heap.size-1<w.heap.size by omega)] at e
  have:=(Array.getElem?_eq_some_iff.1 e).1
  omega
theorem HRun.own (h:HRun w p S eps k v g n L):S p:=by
  obtain ⟨u,base,pp,Sp,eo,ec,h1,h2,h3,h4,h5,_⟩:=h.lies;exact (h1 p).2 ⟨h5,(Array.getElem?_eq_some_iff.1 h4).1⟩
theorem HRun.opened (h:HRun w p S eps k v g n L):∃ pp Sp eo ec,w.heap[p]?=some (.cells #[.pointer (some ⟨pp,0,none⟩),.slice eo n ec] 122 (0,0))/\HPile w pp Sp eps k n L/\(∀ q,Sp q->S q)/\ES w eo n k v g:=by
  obtain ⟨u,base,pp,Sp,eo,ec,h1,h2,h3,h4,h5,h6,h7,h8,h9⟩:=h.lies;have pu:p<u.heap.size:=(Array.getElem?_eq_some_iff.1 h4).1;exact ⟨pp,Sp,eo,ec,(h3 p h5 pu).trans h4,h6.keep fun q hq=>h3 q (h7 q hq) (h6.lt q hq),fun q hq=>(h1 q).2 ⟨h7 q hq,h6.lt q hq⟩,h8.kept h9 h2 h3⟩
end
theorem rn_cells {w:World} {p:Nat} {a b:Value} {t:TypeId} (h:w.heap[p]?=some (.cells #[a,b] t (0,0))):w.cell? ⟨p,0,none⟩=some a/\w.cell? ⟨p,1,none⟩=some b:=by
  refine ⟨?_,?_⟩<;>simp [World.cell?,h]
theorem BuildR.takenW {eps:Int} {f:Nat->Int} {n:Nat} {L:List (List Sg)} (e1:2<=eps) (e2:eps<=64) (n1:n<=2000000) (bd:∀ t,t<n->0<=f t/\f t<18446744073709551616) (u:Up f n) (h:BuildR eps f n L):CheckR eps f n L 0:=by
  refine .inr (.inr (.inr ⟨⟨e1,e2⟩,u,⟨?_,?_⟩,(h.chk n1 bd u).symm⟩))
  · have a:=h.low e1 n1 bd u
    have b:=hgt_mono (e:=eps.toNat) (by omega) 4294967296 n (by omega)
    unfold mxh;rw [if_pos ⟨e1,e2,by decide⟩]
    show (L.length:Int)<=((hgt eps.toNat 4294967296:Nat):Int);omega
  · rw [List.length_eq_zero_iff];exact h.none
theorem clone_e {w:World} {ao:Option Addr} {n cp:Nat} {k v:Nat->Int} {g:Nat->Bool} (h:ES w ao n k v g) (hn:n<=2000000) :
    Calls prog 61 #[.slice ao n cp] w fun e w'=>(∃ bo c,e=.returned (.slice bo n c)/\ER w' w.heap.size (.slice bo n c) k v g n)/\Gw w w':=by
  cases ao with
  | none =>
    have n0:n=0:=by
      rcases Nat.eq_zero_or_pos n with e | e
      · exact e
      · obtain ⟨b,off,e',_⟩:=h.cells e;cases e'
    subst n0;clear h;have hq:∀ W:World,(binOp .eql 59 (.slice none 0 cp) (.slice none 0 0)).run prog W=.ok (.bool true) W:=fun _=>by kernel_rfl
    go_enter func61,ntmps61;go_wp2_with fail;go_ret;exact ⟨⟨none,0,rfl,World.ownsRow_nil _ _ _ _⟩,Gw.refl w⟩
  | some ad =>
    have O0:Hid ((w.alloc (.cells #[] 69)).ownsRow w.heap.size 69 3 (.slice (some ⟨w.heap.size,0,none⟩) 0 0) 0 []):=World.ownsRow_made w #[] 0 (Nat.le_refl _) (Nat.zero_le _) rfl;have NW:Hid (∀ x,(some ad:Option Addr)=some x->∀ j u,(ecs k v g n)[j]?=some u->(w.alloc (.cells #[] 69)).cell? (x.add j)=some u):=es_news (h.gw ((Gw.refl w).alloc _ _));obtain ⟨ii,hii,hz,hs,hby⟩:=info_parts info_e;clear h;have hq:∀ W:World,(binOp .eql 59 (.slice (some ad) n cp) (.slice none 0 0)).run prog W=.ok (.bool false) W:=fun _=>by kernel_rfl
    go_enter func61,ntmps61;go_wp2_with (at_builtin;refine wpList_append_src _ rfl _ _ 59 rfl w.heap.size 69 ii (.agg #[.int .u64 0,.int .u64 0,.bool false]) 3 24 underlying59 hii hz hs hby rfl (by decide) _ 0 [] rfl O0.out (some ad) n cp (ecs k v g n) rfl (fun q=>by cases q) (ecs_len k v g n) NW.out (ecs_one k v g n) (by simp only [maxLen];omega) (by omega) (by simp) ?_)
    intro v' w7 q1 q2 q3;have G7:Aside (Gw w w7):=((Gw.refl w).alloc _ _).grown q2 (fun k hk=>by cases hk;exact Nat.le_refl _)
    have R5:ER w7 w.heap.size v' k v g n:=by show World.ownsRow _ _ _ _ _ _ _;simpa using q1
    obtain ⟨bo,bc,rfl,_,_⟩:=er_form R5;have RES:Aside _:=R5;clear q1 q2 q3 hii hz hs hby R5;go_wp2_with fail;go_ret;exact ⟨⟨bo,bc,rfl,RES.out⟩,G7.out⟩
theorem rcheck11 (eps:Int) (ao:Option Addr) (n cp:Nat) (k v:Nat->Int) (g:Nat->Bool) (hn:n<=2000000) (hcp:n<=cp) (w:World) (h:ES w ao n k v g) :
    Calls prog 92 #[.slice ao n cp,.int .i64 eps] w fun ex w'=>(∃ r,ex=.returned (.int .i64 r)/\NewE eps k v g n r)/\Gw w w':=by
  have CK:Hid _:=check3_any ao n cp k v g (by omega) hcp w h
  clear h;by_cases b:2<=eps/\eps<=64
  · have t1:decide (eps<2)=false:=by simp;omega
    have t2:decide (64<eps)=false:=by simp;omega
    have BN:Aside _:=b;clear b;go_enter func92,ntmps92;go_wp2_with fail;refine Calls.mono CK.out ?_;rintro e w1 ⟨⟨r,rfl,cr⟩,g1⟩;have CR:Aside _:=cr;have G1:Aside _:=g1;clear CK cr g1;go_wp2_with fail;go_ret;exact ⟨⟨r,rfl,.inr ⟨BN.out,CR.out⟩⟩,G1.out⟩
  · have BN:Aside (¬ (2<=eps/\eps<=64)):=b
    by_cases c:eps<2
    · have t1:decide (eps<2)=true:=by simpa using c
      clear b c;go_enter func92,ntmps92;go_wp2_with fail;go_ret;exact ⟨⟨1,rfl,.inl ⟨BN.out,rfl⟩⟩,Gw.refl w⟩
    · have t1:decide (eps<2)=false:=by simpa using c
      have t2:decide (64<eps)=true:=by simp;omega
      clear b c;go_enter func92,ntmps92;go_wp2_with fail;go_ret;exact ⟨⟨1,rfl,.inl ⟨BN.out,rfl⟩⟩,Gw.refl w⟩
theorem rof11 (M:ModelC) (eps:Int) (ao:Option Addr) (n cp:Nat) (k v:Nat->Int) (g:Nat->Bool) (lo:Option Addr) (lc:Nat) (L:List (List Sg)) (e0:-9223372036854775808<=eps) (e1:eps<9223372036854775808) (hn:n<=2000000) (hcp:n<=cp) (hS:Short L) (hlc:L.length<=lc) (w:World) (h:ES w ao n k v g) (hv:VS w lo L) :
    Calls prog 95 #[.slice ao n cp,.int .i64 eps,.slice lo L.length lc] w fun ex w'=>OfOutR HRun w w' ex eps k v g n L/\Gw w w':=by
  have CK:Hid _:=rcheck11 eps ao n cp k v g hn hcp w h;have HE:Aside _:=h;have HV:Aside _:=hv;have SH:Aside _:=hS;have KB:Aside (∀ t,t<n->0<=k t/\k t<18446744073709551616):=fun t ht=>(h.bd t ht).1
  have P9:Hid (∀ (ko:Option Addr) (W:World),KS W ko n k->VS W lo L->Calls prog 107 #[.slice ko n n,.int .i64 eps,.slice lo L.length lc] W fun ex w'=>PileOut HPile W w' ex eps k n L/\Gw W w'):=fun ko W hk hw=>of9 M eps ko n n k lo lc L e0 e1 hn (Nat.le_refl _) hS hlc W hk hw
  obtain ⟨ln,hln⟩:∃ ln,L.length=ln:=⟨_,rfl⟩;rw [hln] at P9 hlc ⊢;clear h hv hS hln M;go_enter func95,ntmps95;go_wp2_with fail;refine Calls.mono CK.out ?_;rintro e w1 ⟨⟨r,rfl,cr⟩,g1⟩;have CR:Aside _:=cr;have G1:Aside _:=g1;clear CK cr g1;by_cases r0:r=0
  · subst r0
    go_wp2_with fail;refine Calls.mono (of3_any ao n cp k v g (by omega) w1 (HE.out.gw G1.out)) ?_
    rintro e w2 ⟨⟨kb,rfl,hkb,rw2⟩,g2⟩;have G2:Aside _:=G1.out.trans g2;have K2:Aside (KS w2 (some ⟨kb,0,none⟩) n k):=⟨fun _=>⟨kb,0,rfl,rw2.lt,fun i hi=>by rw [Nat.zero_add];exact rw2.cell hi⟩,KB.out⟩
    clear rw2 g2 hkb G1;go_wp2_with fail;refine Calls.mono (P9.out _ w2 K2.out (HV.out.gw G2.out)) ?_;rintro e w3 ⟨⟨E,cE,x⟩,g3⟩;have G3:Aside _:=G2.out.trans g3;have CE:Aside _:=cE;have Z2:Aside _:=G2.out.size;clear cE g3 K2 G2;rcases x with ⟨x0,rfl⟩ | ⟨rfl,pp,Sp,rfl,hS,hp⟩
    · have x0':(E != 0)=true:=by simpa using x0
      have X0:Aside _:=x0;clear x0;go_wp2_with fail;go_ret2;exact ⟨⟨E,⟨0,CR.out,.inr ⟨rfl,CE.out⟩⟩,.inl ⟨X0.out,rfl⟩⟩,G3.out⟩
    · have HP:Aside (HPile w3 pp Sp eps k n L/\∀ q,Sp q->w2.heap.size<=q):=⟨hp,hS⟩
      clear hp hS;go_wp2_with fail;refine Calls.mono (clone_e (HE.out.gw G3.out) hn) ?_;rintro e w4 ⟨⟨bo,bc,rfl,er⟩,g4⟩;obtain ⟨bo',bc',e',_,hbl⟩:=er_form er;cases e';have E4:Aside (ES w4 bo n k v g/\∀ a,bo=some a->w3.heap.size<=a.block/\a.block<w4.heap.size):=⟨er_es er HE.out.bd,hbl⟩;have H34:Aside _:=g4;clear er g4 hbl;have RES:Aside (OfOutR HRun w (w4.alloc (.cells #[.pointer (some ⟨pp,0,none⟩),.slice bo n bc] 122)) (.returned (.tuple #[.pointer (some ⟨w4.heap.size,0,none⟩),.int .i64 0])) eps k v g n L):=by
        have zz:=H34.out.size;have z3:=G3.out.size;have z2:=Z2.out;have gA:Gw w4 (w4.alloc (.cells #[.pointer (some ⟨pp,0,none⟩),.slice bo n bc] 122)):=(Gw.refl w4).alloc _ _;have g3A:=H34.out.trans gA;refine ⟨0,⟨0,CR.out,.inr ⟨rfl,CE.out⟩⟩,.inr ⟨rfl,w4.heap.size,fun q=>w.heap.size<=q/\q<w4.heap.size+1,rfl,fun q hq=>hq.1,⟨⟨_,w.heap.size,pp,Sp,bo,bc,fun q=>by simp,Nat.le_refl _,fun _ _ _=>rfl,heap_alloc_new w4 _,by omega,HP.out.1.keep fun q hq=>g3A.below.block q (HP.out.1.lt q hq),fun q hq=>Nat.le_trans z2 (HP.out.2 q hq),E4.out.1.gw gA,fun a ea=>by have:=(E4.out.2 a ea).1;omega⟩,Ready.of CE.out hn SH.out KB.out⟩⟩⟩
      have G4:Aside _:=G3.out.trans H34.out;clear E4 H34 HP CE CR;go_wp2_with fail;go_ret2;exact ⟨RES.out,G4.out.alloc _ _⟩
  · have r0':(r != 0)=true:=by simpa using r0
    have R0:Aside _:=r0;clear r0;go_wp2_with fail;go_ret2;exact ⟨⟨r,⟨r,CR.out,.inl ⟨R0.out,rfl⟩⟩,.inl ⟨R0.out,rfl⟩⟩,G1.out⟩
theorem rnew11 (BO:BuildOwn) (OF:∀ (eps:Int) (ao:Option Addr) (n cp:Nat) (k v:Nat->Int) (g:Nat->Bool) (lo:Option Addr) (lc:Nat) (L:List (List Sg)),-9223372036854775808<=eps->eps<9223372036854775808->n<=2000000->n<=cp->Short L->L.length<=lc->∀ w:World,ES w ao n k v g->VS w lo L->Calls prog 95 #[.slice ao n cp,.int .i64 eps,.slice lo L.length lc] w fun ex w'=>OfOutR HRun w w' ex eps k v g n L/\Gw w w') (eps:Int) (ao:Option Addr) (n cp:Nat) (k v:Nat->Int) (g:Nat->Bool) (e0:-9223372036854775808<=eps) (e1:eps<9223372036854775808) (hn:n<=2000000) (hcp:n<=cp) (w:World) (h:ES w ao n k v g) :
    Calls prog 86 #[.slice ao n cp,.int .i64 eps] w fun ex w'=>RunOut HRun w w' ex eps k v g n/\Gw w w':=by
  have CK:Hid _:=rcheck11 eps ao n cp k v g hn hcp w h;have HE:Aside _:=h;have KB:Aside (∀ t,t<n->0<=k t/\k t<18446744073709551616):=fun t ht=>(h.bd t ht).1
  clear h;go_enter func86,ntmps86;go_wp2_with fail;refine Calls.mono CK.out ?_;rintro e w1 ⟨⟨r,rfl,cr⟩,g1⟩;have CR:Aside _:=cr;have G1:Aside _:=g1;clear CK cr g1;by_cases r0:r=0
  · subst r0
    go_wp2_with fail;refine Calls.mono (of3_any ao n cp k v g (by omega) w1 (HE.out.gw G1.out)) ?_
    rintro e w2 ⟨⟨kb,rfl,hkb,rw2⟩,g2⟩;have G2:Aside _:=G1.out.trans g2;have K2:Aside (KS w2 (some ⟨kb,0,none⟩) n k):=⟨fun _=>⟨kb,0,rfl,rw2.lt,fun i hi=>by rw [Nat.zero_add];exact rw2.cell hi⟩,KB.out⟩
    clear rw2 g2 hkb G1;go_wp2_with fail;refine Calls.mono (BO eps _ n n k e0 e1 hn (Nat.le_refl _) w2 K2.out) ?_;rintro e w3 ⟨⟨lo,lc,L,err,vals,rfl,be,hlc,ow,lok⟩,g3⟩;obtain ⟨⟨a1,a2⟩,up⟩:=NewE.up CR.out;have BR8:BuildR eps k n L/\err=0:=by
      rcases be with ⟨x,_⟩ | ⟨_,x,_⟩ | ⟨_,_,x,y⟩
      · exact absurd ⟨a1,a2⟩ x
      · exact absurd up x
      · exact ⟨x,y⟩
    obtain ⟨br,rfl⟩:=BR8;have G3:Aside _:=G2.out.trans g3;have OFF:Hid _:=OF eps ao n cp k v g lo lc L e0 e1 hn hcp (br.fine a1 hn KB.out up) hlc w3 (HE.out.gw G3.out) (ow.vsf lok).vs;have BR:Aside (BuildR eps k n L/\CheckR eps k n L 0):=⟨br,br.takenW a1 a2 hn KB.out up⟩;obtain ⟨ln,hln⟩:∃ ln,L.length=ln:=⟨_,rfl⟩;rw [hln] at OFF ⊢;clear br be ow lok hlc g3 G2 K2 hln up a1 a2;go_wp2_with fail;refine Calls.mono OFF.out ?_;rintro e w4 ⟨⟨E,⟨r,ne,oe⟩,x⟩,g4⟩;have G4:Aside _:=G3.out.trans g4;have er:=ne.one CR.out;subst er;rcases oe with ⟨oe,_⟩ | ⟨_,oe⟩
    · exact absurd rfl oe
    have eE:=oe.one BR.out.2;subst eE;rcases x with ⟨x,_⟩ | ⟨_,p,S,rfl,hS,hr⟩
    · exact absurd rfl x
    have RES:Aside (RunOut HRun w w4 (.returned (.tuple #[.pointer (some ⟨p,0,none⟩),.int .i64 0])) eps k v g n):=⟨0,CR.out,.inr ⟨rfl,p,S,L,rfl,fun q hq=>Nat.le_trans G3.out.size (hS q hq),BR.out.1,hr⟩⟩
    clear g4 ne oe hS hr BR G3 OFF CR;go_wp2_with fail;go_ret2;exact ⟨RES.out,G4.out⟩
  · have r0':(r != 0)=true:=by simpa using r0
    have R0:Aside _:=r0;clear r0;go_wp2_with fail;go_ret2;exact ⟨⟨r,CR.out,.inl ⟨R0.out,rfl⟩⟩,G1.out⟩
end Go.Proofs.YtemijdhemdhclaaGreat
namespace Go.Proofs.YtemijdhemdhclaaGreat
open Go.RowKit
attribute [local go_sem] run_store_float
def Tuple3 (b:Nat) (u:World) (x y:Int) (z:Bool):Prop:=(((u.setCell ⟨b,0,none⟩ (.int .u64 x)).setCell ⟨b,1,none⟩ (.int .u64 y)).setCell ⟨b,2,none⟩ (.bool z)).cell? ⟨b,0,none⟩=some (.int .u64 x)/\(((u.setCell ⟨b,0,none⟩ (.int .u64 x)).setCell ⟨b,1,none⟩ (.int .u64 y)).setCell ⟨b,2,none⟩ (.bool z)).cell? ⟨b,1,none⟩=some (.int .u64 y)/\(((u.setCell ⟨b,0,none⟩ (.int .u64 x)).setCell ⟨b,1,none⟩ (.int .u64 y)).setCell ⟨b,2,none⟩ (.bool z)).cell? ⟨b,2,none⟩=some (.bool z)
theorem tuple3 {b:Nat} {u:World} {x0 y0 z0:Value} {t:TypeId} (h:u.heap[b]?=some (.cells #[x0,y0,z0] t (0,0))) (x y:Int) (z:Bool):Tuple3 b u x y z:=by
  unfold Tuple3;refine ⟨?_,?_,?_⟩<;>simp [World.cell?,World.setCell,Array.getElem?_modify,h]
theorem rn_len {w:World} {p:Nat} {S:Nat->Prop} {eps:Int} {k v:Nat->Int} {g:Nat->Bool} {n:Nat} {L:List (List Sg)} (h:HRun w p S eps k v g n L):Calls prog 48 #[.pointer (some ⟨p,0,none⟩)] w fun e w'=>e=.returned (.int .i64 (n:Int))/\Gw w w':=by
  obtain ⟨pp,Sp,eo,ec,h1,hp,hs,he⟩:=h.opened;obtain ⟨c0,c1⟩:=rn_cells h1;clear h h1 hp hs he;go_enter func48,ntmps48;go_wp2_with fail;go_ret;exact ⟨rfl,Gw.refl w⟩
theorem rn_at {w:World} {p:Nat} {S:Nat->Prop} {eps:Int} {k v:Nat->Int} {g:Nat->Bool} {n:Nat} {L:List (List Sg)} (h:HRun w p S eps k v g n L) (i:Int) :
    Calls prog 87 #[.pointer (some ⟨p,0,none⟩),.int .i64 i] w fun e w'=>e=.returned (.tuple #[(atV k v g n i).1,.int .i64 (atV k v g n i).2])/\Gw w w':=by
  obtain ⟨pp,Sp,eo,ec,h1,hp,hs,hk⟩:=h.opened;obtain ⟨c0,c1⟩:=rn_cells h1;have pl:p<w.heap.size:=(Array.getElem?_eq_some_iff.1 h1).1;have hn:=h.rdy.n1;clear h h1 hp hs;unfold atV;by_cases a:i<0
  · have t1:decide (i<0)=true:=by simpa using a
    rw [if_neg (by omega)]
    clear hk a;go_enter func87,ntmps87;go_wp2_with fail;exact bodyPost_ret (v:=.tuple #[.agg #[.int .u64 0,.int .u64 0,.bool false],.int .i64 1]) (by simp [results,results87,go_sem]) rfl ⟨rfl,(Gw.refl w).alloc _ _⟩
  · have t1:decide (i<0)=false:=by simpa using a
    by_cases b:(n:Int)<=i
    · have t2:decide ((n:Int)<=i)=true:=by simpa using b
      rw [if_neg (by omega)]
      clear hk a;go_enter func87,ntmps87;go_wp2_with fail;exact bodyPost_ret (v:=.tuple #[.agg #[.int .u64 0,.int .u64 0,.bool false],.int .i64 1]) (by simp [results,results87,go_sem]) rfl ⟨rfl,(Gw.refl w).alloc _ _⟩
    · have t2:decide ((n:Int)<=i)=false:=by simpa using b
      rw [if_pos (by omega)]
      obtain ⟨j,rfl⟩:∃ j:Nat,i=(j:Int):=⟨i.toNat,by omega⟩
      obtain ⟨kb,ko,rfl,hkb,hkc⟩:=hk.cells (by omega)
      obtain ⟨d1,d2,d3⟩:=hkc j (by omega)
      have jl:j<n:=by omega
      have jl':(j:Int)<(n:Int):=by omega
      show Calls _ _ _ _ fun e w'=>e=.returned (.tuple #[.agg #[.int .u64 (k j),.int .u64 (v j),.bool (g j)],.int .i64 0])/\Gw w w'
      generalize k j=kj at d1 ⊢;generalize v j=vj at d2 ⊢;generalize g j=gj at d3 ⊢;clear hk hkc a b;go_enter func87,ntmps87;go_wp2_with fail;exact bodyPost_ret (v:=.tuple #[.agg #[.int .u64 kj,.int .u64 vj,.bool gj],.int .i64 0]) (by simp [results,results87,go_sem]) rfl ⟨rfl,(Gw.refl w).alloc _ _⟩
theorem rn_list {w:World} {p:Nat} {S:Nat->Prop} {eps:Int} {k v:Nat->Int} {g:Nat->Bool} {n:Nat} {L:List (List Sg)} (h:HRun w p S eps k v g n L):Calls prog 58 #[.pointer (some ⟨p,0,none⟩)] w fun e w'=>(∃ bo c,e=.returned (.slice bo n c)/\ER w' w.heap.size (.slice bo n c) k v g n)/\Gw w w':=by
  obtain ⟨pp,Sp,eo,ec,h1,hp,hs,he⟩:=h.opened;obtain ⟨c0,c1⟩:=rn_cells h1;have CE:Hid (Calls prog 61 #[.slice eo n ec] w fun e w'=>(∃ bo c,e=.returned (.slice bo n c)/\ER w' w.heap.size (.slice bo n c) k v g n)/\Gw w w'):=clone_e he h.rdy.n1
  clear h h1 hp hs he;go_enter func58,ntmps58;go_wp2_with fail;refine Calls.mono CE.out ?_;rintro e w2 ⟨⟨bo,c,rfl,er⟩,g2⟩;have ER2:Aside _:=er;have G2:Aside _:=g2;clear er g2 CE c0 c1;go_wp2_with fail;go_ret;exact ⟨⟨bo,c,rfl,ER2.out⟩,G2.out⟩
theorem rn_get (M:ModelC) {w:World} {p:Nat} {S:Nat->Prop} {eps:Int} {k v:Nat->Int} {g:Nat->Bool} {n:Nat} {L:List (List Sg)} (h:HRun w p S eps k v g n L) (q:Int) (q0:0<=q) (q1:q<18446744073709551616) :
    Calls prog 81 #[.pointer (some ⟨p,0,none⟩),.int .u64 q] w fun e w'=>e=.returned (.tuple #[(getV k v g n q).1,.bool (getV k v g n q).2])/\Gw w w':=by
  obtain ⟨pp,Sp,eo,ec,h1,hp,hs,he⟩:=h.opened;obtain ⟨c0,c1⟩:=rn_cells h1;have pl:p<w.heap.size:=(Array.getElem?_eq_some_iff.1 h1).1;have hn:=h.rdy.n1;have FF:Hid (∀ W,Gw w W->Calls prog 89 #[.pointer (some ⟨p,0,none⟩),.int .u64 q] W fun ex w'=>ex=.returned (foundV k n q)/\Gw W w'):=fun W gg=>rfind11 M ((gg.cell _ _ pl).trans c0) (Nat.lt_of_lt_of_le pl gg.size) (hp.keep fun q hq=>gg.below.block q (hp.lt q hq)) h.rdy q q0 q1
  unfold foundV at FF;have HE:Aside _:=he;have C1:Aside (w.cell? ⟨p,1,none⟩=some (.slice eo n ec)/\p<w.heap.size):=⟨c1,pl⟩;have lc:=cntb_le k q n;unfold getV;clear h h1 hp hs he c0 c1 M pl;generalize cntb k q n=c at FF lc ⊢;by_cases b:c<n/\k c=q
  · rw [if_pos b]
    rw [decide_eq_true b] at FF;have hc:=b.1;clear b;obtain ⟨kj,hkj⟩:∃ x,k c=x:=⟨_,rfl⟩;obtain ⟨vj,hvj⟩:∃ x,v c=x:=⟨_,rfl⟩;obtain ⟨gj,hgj⟩:∃ x,g c=x:=⟨_,rfl⟩;have KJ:Aside (k c=kj/\v c=vj/\g c=gj):=⟨hkj,hvj,hgj⟩;show Calls _ _ _ _ fun e w'=>e=.returned (.tuple #[.agg #[.int .u64 (k c),.int .u64 (v c),.bool (g c)],.bool true])/\Gw w w'
    rw [hkj,hvj,hgj];clear hkj hvj hgj;go_enter func81,ntmps81;go_wp2_with fail;refine Calls.mono (FF.out _ ((Gw.refl w).alloc _ _)) ?_;rintro e u1 ⟨rfl,gg⟩;have G1:Gw w u1:=((Gw.refl w).alloc _ _).trans gg;have c1:u1.cell? ⟨p,1,none⟩=some (.slice eo n ec):=(G1.cell _ _ C1.out.2).trans C1.out.1;have pl:p<u1.heap.size:=Nat.lt_of_lt_of_le C1.out.2 G1.size;obtain ⟨kb,ko,rfl,hkb,hkc⟩:=(HE.out.gw G1).cells (by omega)
    obtain ⟨d1,d2,d3⟩:=hkc c hc;have GG:Aside _:=G1;have NB:Hid (u1.heap[w.heap.size]?=some (.cells #[.int .u64 0,.int .u64 0,.bool false] 69 (0,0))):=(gg.below.block _ (by simp)).trans (heap_alloc_new _ _)
    have hc':(c:Int)<(n:Int):=by omega
    rw [KJ.out.1] at d1;rw [KJ.out.2.1] at d2;rw [KJ.out.2.2] at d3;clear hkc gg G1 FF KJ;obtain ⟨bq,hbq⟩:∃ b,w.heap.size=b:=⟨_,rfl⟩;have BQ:Aside _:=hbq;rw [hbq] at NB;have m0:u1.cell? ⟨bq,0,none⟩=some (.int .u64 0):=by simp [World.cell?,NB.out]
    have m1:u1.cell? ⟨bq,1,none⟩=some (.int .u64 0):=by simp [World.cell?,NB.out]
    have m2:u1.cell? ⟨bq,2,none⟩=some (.bool false):=by simp [World.cell?,NB.out]
    have z0:u1.frozen? ⟨bq,0,none⟩=false:=by simp [World.frozen?,NB.out]
    have z1:u1.frozen? ⟨bq,1,none⟩=false:=by simp [World.frozen?,NB.out]
    have z2:u1.frozen? ⟨bq,2,none⟩=false:=by simp [World.frozen?,NB.out]
    have bl:bq<u1.heap.size:=(Array.getElem?_eq_some_iff.1 NB.out).1;have TT:Tuple3 bq u1 kj vj gj:=tuple3 NB.out _ _ _;go_wp2_with fail;exact bodyPost_ret (v:=.tuple #[.agg #[.int .u64 kj,.int .u64 vj,.bool gj],.bool true]) (by simp [results,results81,go_sem,TT.1,TT.2.1,TT.2.2]) rfl ⟨rfl,((GG.out.setCell (Nat.le_of_eq BQ.out) _).setCell (Nat.le_of_eq BQ.out) _).setCell (Nat.le_of_eq BQ.out) _⟩
  · rw [if_neg b]
    rw [decide_eq_false b] at FF;clear b;go_enter func81,ntmps81;go_wp2_with fail;refine Calls.mono (FF.out _ ((Gw.refl w).alloc _ _)) ?_;rintro e u1 ⟨rfl,gg⟩;have GG:Aside (Gw w u1):=((Gw.refl w).alloc _ _).trans gg;have NB:Hid (u1.heap[w.heap.size]?=some (.cells #[.int .u64 0,.int .u64 0,.bool false] 69 (0,0))):=(gg.below.block _ (by simp)).trans (heap_alloc_new _ _)
    clear gg FF;obtain ⟨bq,hbq⟩:∃ b,w.heap.size=b:=⟨_,rfl⟩;have BQ:Aside _:=hbq;rw [hbq] at NB;have m0:u1.cell? ⟨bq,0,none⟩=some (.int .u64 0):=by simp [World.cell?,NB.out]
    have m1:u1.cell? ⟨bq,1,none⟩=some (.int .u64 0):=by simp [World.cell?,NB.out]
    have m2:u1.cell? ⟨bq,2,none⟩=some (.bool false):=by simp [World.cell?,NB.out]
    have z0:u1.frozen? ⟨bq,0,none⟩=false:=by simp [World.frozen?,NB.out]
    have z1:u1.frozen? ⟨bq,1,none⟩=false:=by simp [World.frozen?,NB.out]
    have z2:u1.frozen? ⟨bq,2,none⟩=false:=by simp [World.frozen?,NB.out]
    have bl:bq<u1.heap.size:=(Array.getElem?_eq_some_iff.1 NB.out).1;have TT:Tuple3 bq u1 0 0 false:=tuple3 NB.out _ _ _;go_wp2_with fail;exact bodyPost_ret (v:=.tuple #[.agg #[.int .u64 0,.int .u64 0,.bool false],.bool false]) (by simp [results,results81,go_sem,TT.1,TT.2.1,TT.2.2]) rfl ⟨rfl,((GG.out.setCell (Nat.le_of_eq BQ.out) _).setCell (Nat.le_of_eq BQ.out) _).setCell (Nat.le_of_eq BQ.out) _⟩
end Go.Proofs.YtemijdhemdhclaaGreat
namespace Go.Proofs.YtemijdhemdhclaaGreat
open Go.RowKit
theorem runc:RunC HRun where
  keep h k:=h.keep k
  lt h:=h.lt
  own h:=h.own
  ready h:=h.rdy
  pile h:=by
    obtain ⟨pp,Sp,eo,ec,h1,hp,hs,_⟩:=h.opened;exact ⟨pp,Sp,(rn_cells h1).1,hp,hs⟩
  new eps ao n cp k v g e0 e1 hn hcp hz w h:=rnew11 buildown (fun eps ao n cp k v g lo lc L e0 e1 hn hcp hS hlc w h hv=>rof11 modelc eps ao n cp k v g lo lc L e0 e1 hn hcp hS hlc w h hv) eps ao n cp k v g e0 e1 hn hcp w h
  len h:=rn_len h
  at_ h i i0 i1:=rn_at h i
  list h:=rn_list h
  get h q q0 q1:=rn_get modelc h q q0 q1
end Go.Proofs.YtemijdhemdhclaaGreat
