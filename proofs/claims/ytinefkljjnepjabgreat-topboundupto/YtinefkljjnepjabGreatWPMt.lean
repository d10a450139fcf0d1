/- Rows of pairs of numbers. -/
import Derived.Maps.AppendAt
import Derived.StillTailTactics
import Derived.Test.YtinefkljjnepjabGreatWPBs
import Derived.Test.YtinefkljjnepjabGreatWR4Fit
import Derived.Test.YtinefkljjnepjabGreatWPZa
import Derived.Test.YtinefkljjnepjabGreatWPZd
import Derived.Test.YtinefkljjnepjabGreatWPZi
import Derived.Test.YtinefkljjnepjabGreatWPRd
import Derived.Test.YtinefkljjnepjabGreatWPXR
namespace Go.Proofs.YtinefkljjnepjabGreat
open Go.RowKit
set_option linter.unusedVariables false
def pr2 (p:Int×Int):List Value:=[.int .i64 p.1, .int .i64 p.2]
theorem info_p2:(Tryz.prog.info? 102).map (fun i=>(i.zero,i.size,i.bytes))=some (some (.agg #[.int .i64 0, .int .i64 0]),2,16):=by kernel_rfl
theorem pr2_one (s:Int×Int):∀ u∈pr2 s,u.oneCell'=true:=by
  intro u hu
  simp only [pr2,List.mem_cons,List.not_mem_nil,or_false] at hu
  rcases hu with rfl | rfl<;>rfl
theorem pflat_one (l:List (Int×Int)) (s:Int×Int):(l++[s]).flatMap pr2=l.flatMap pr2++pr2 s:=by simp
theorem pflat_get:∀ (l:List (Int×Int)) (i:Nat),i<l.length→∀ j,j<2→(l.flatMap pr2)[i*2+j]?=(pr2 (l.getD i (0,0)))[j]?:=by
  intro l
  induction l with
  | nil=>intro i hi;simp at hi
  | cons s l ih =>
    intro i hi j hj
    rw [List.flatMap_cons]
    cases i with
    | zero =>
      rw [Nat.zero_mul,Nat.zero_add,List.getElem?_append_left (by show j<2;exact hj)]
      rfl
    | succ i =>
      have e:(i+1)*2+j=i*2+j+2:=by omega
      rw [e,List.getElem?_append_right (by show 2≤_;omega),show i*2+j+2-(pr2 s).length=i*2+j by show i*2+j+2-2=_;omega]
      exact ih i (by simpa using hi) j hj
def AR (w:World) (v:Value) (l:List (Int×Int)):Prop:=w.ownsRow 0 102 2 v l.length (l.flatMap pr2)
theorem ar_keep {w w':World} {v:Value} {l:List (Int×Int)} (h:AR w v l) (k:∀ q,v.ownBlock=some q→w'.heap[q]?=w.heap[q]?):AR w' v l:=by
  refine ⟨h.1,?_⟩
  rcases h.2 with q | ⟨g,cap,cur,rfl,hb,hh,r⟩
  · exact .inl q
  · exact .inr ⟨g,cap,cur,rfl,hb,(k g rfl).trans hh,r⟩
theorem ar_lt {w:World} {v:Value} {l:List (Int×Int)} (h:AR w v l):∀ q,v.ownBlock=some q→q<w.heap.size:=fun q hq=>(World.ownsRow.lt h q hq).2
theorem ar_nil (w:World):AR w (.slice none 0 0) []:=World.ownsRow_nil _ _ _ _
structure PSz (w:World) (ao:Option Addr) (l:List (Int×Int)):Prop where
  cells:0<l.length→∃ b,ao=some ⟨b,0,none⟩∧b<w.heap.size∧∀ i,i<l.length→w.cell? ⟨b,i*2,none⟩=some (.int .i64 (l.getD i (0,0)).1)∧w.cell? ⟨b,i*2+1,none⟩=some (.int .i64 (l.getD i (0,0)).2)
theorem PSz.gw {w w':World} {ao:Option Addr} {l:List (Int×Int)} (h:PSz w ao l) (g:Gw w w'):PSz w' ao l :=
  ⟨fun h0=>by
    obtain ⟨b,e,hb,hc⟩:=h.cells h0
    exact ⟨b,e,Nat.lt_of_lt_of_le hb g.size,fun i hi=>⟨(g.cell _ _ hb).trans (hc i hi).1,(g.cell _ _ hb).trans (hc i hi).2⟩⟩⟩
theorem ar_form {w:World} {v:Value} {l:List (Int×Int)} (h:AR w v l):∃ ao c,v=.slice ao l.length c∧l.length≤c∧PSz w ao l:=by
  rcases h.2 with ⟨e,z⟩ | ⟨g,cap,cur,e,hb,hh,hc,r⟩
  · have:l=[]:=List.eq_nil_of_length_eq_zero z
    subst this
    exact ⟨none,0,e,Nat.le_refl _,⟨fun h0=>by simp at h0⟩⟩
  · subst e
    refine ⟨some ⟨g,0,none⟩,cap,rfl,hc,⟨fun _=>⟨g,rfl,(Array.getElem?_eq_some_iff.1 hh).1,fun i hi=>?_⟩⟩⟩
    have c:∀ j,j<2→w.cell? ⟨g,i*2+j,none⟩=(pr2 (l.getD i (0,0)))[j]?:=fun j hj=>by
      have:=World.ownsRow.cellAt h (i*2+j) (by omega)
      rw [this]
      exact pflat_get l i hi j hj
    exact ⟨c 0 (by decide),c 1 (by decide)⟩
end Go.Proofs.YtinefkljjnepjabGreat
namespace Go.Proofs.YtinefkljjnepjabGreat
open Go.RowKit
set_option linter.unusedVariables false
set_option maxRecDepth 10000 in
set_option maxHeartbeats 4000000 in
theorem seek_watch {p:Nat} {w0:World} {HS:World→(Nat→Prop)→List (Int×Int)→List (Int×Int)→Prop} {eps:Int} {f:Nat→Int} {n:Nat} {L:List (List Sg)} (D:DSC 235 236 237 238 (.pointer (some ⟨p,0,none⟩)) w0 HS eps f n L) (i:Nat) (hi:i<L.length) (hl:L.length≤2000000) (lo0 hi0 te r:Nat) (sl gu rk q:Int) (q0:0≤q) (q1:q<18446744073709551616) (lr:lo0≤r) (rh:r≤hi0) (ht:hi0≤te) (tn:te≤rowN n L i) (te1:te≤4294967296) (bel:∀ t,t<r→rowF f L i t<q) (abo:∀ t,r≤t→t<rowN n L i→q≤rowF f L i t) {w:World} {S:Nat→Prop} {A B:List (Int×Int)} (h:HS w S A B) (la:A.length+(hi0-lo0)≤1999999999) :
    Calls Tryz.prog 122 #[.pointer (some ⟨p,0,none⟩),visV ⟨(i:Int),sl,gu,(lo0:Int),(hi0:Int),rk⟩, .int .i64 (te:Int), .int .u64 q] w fun e w'=>(∃ S' A',e=.returned (.tuple #[.int .i64 (r:Int), .bool (decide (r<te∧rowF f L i r=q))])∧HS w' S' (A++A') B∧(∀ q,S' q→S q∨w.heap.size≤q)∧SeekR i lo0 hi0 te A')∧Gs S w w':=by
  have HH:Aside (HS (w.alloc (.cells #[.int .i64 (i:Int), .int .i64 sl, .int .i64 gu, .int .i64 (lo0:Int), .int .i64 (hi0:Int), .int .i64 rk] 96)) S A B):=D.grow h ((Gw.refl w).alloc _ _)
  have SW:Aside (∀ q,S q→q<w.heap.size):=D.lt h
  have BK:Aside ((w.alloc (.cells #[.int .i64 (i:Int), .int .i64 sl, .int .i64 gu, .int .i64 (lo0:Int), .int .i64 (hi0:Int), .int .i64 rk] 96)).heap[w.heap.size]?=some (.cells #[.int .i64 (i:Int), .int .i64 sl, .int .i64 gu, .int .i64 (lo0:Int), .int .i64 (hi0:Int), .int .i64 rk] 96 (0,0))):=heap_alloc_new w _
  have G0:Aside (Gs S w (w.alloc (.cells #[.int .i64 (i:Int), .int .i64 sl, .int .i64 gu, .int .i64 (lo0:Int), .int .i64 (hi0:Int), .int .i64 rk] 96))):=((Gw.refl w).alloc _ _).gs S
  have z1:((w.alloc (.cells #[.int .i64 (i:Int), .int .i64 sl, .int .i64 gu, .int .i64 (lo0:Int), .int .i64 (hi0:Int), .int .i64 rk] 96)).heap.size=w.heap.size+1):=by simp
  have Z1:Aside (_=w.heap.size+1):=z1
  clear z1
  have mK:∀ W:World,(method 383 87 (.pointer (some ⟨p,0,none⟩)) "Key").run Tryz.prog W=.ok (237, .pointer (some ⟨p,0,none⟩)) W:=fun _=>by kernel_rfl
  have DD:Aside (DSC 235 236 237 238 (.pointer (some ⟨p,0,none⟩)) w0 HS eps f n L):=D
  have BEL:Aside (∀ t,t<r→rowF f L i t<q):=bel
  have ABO:Aside (∀ t,r≤t→t<rowN n L i→q≤rowF f L i t):=abo
  have TN:Aside (te≤rowN n L i∧i<L.length∧L.length≤2000000):=⟨tn,hi,hl⟩
  clear h D bel abo tn hi
  obtain ⟨st,hst⟩:∃ st:Bool,decide (r<te∧rowF f L i r=q)=st:=⟨_,rfl⟩
  have ST:Aside (decide (r<te∧rowF f L i r=q)=st):=hst
  rw [hst]
  clear hst
  go_enter Tryz.func122,Tryz.ntmps122
  go_wp2_with fail
  generalize w.alloc (.cells #[.int .i64 (i:Int), .int .i64 sl, .int .i64 gu, .int .i64 (lo0:Int), .int .i64 (hi0:Int), .int .i64 rk] 96)=w1 at HH BK G0 Z1 ⊢
  obtain ⟨vb,hvb⟩:∃ vb,w.heap.size=vb:=⟨_,rfl⟩
  have VB:Aside (w.heap.size=vb):=hvb
  rw [hvb] at BK SW Z1 ⊢
  clear hvb
  have VV:Aside (VisAt w1 vb 0 ⟨(i:Int),sl,gu,(lo0:Int),(hi0:Int),rk⟩):=vis_cells BK.out
  have k3:w1.cell? ⟨vb,3,none⟩=some (.int .i64 (lo0:Int)):=VV.out.c3
  have k4:w1.cell? ⟨vb,4,none⟩=some (.int .i64 (hi0:Int)):=VV.out.c4
  have kb:vb<w1.heap.size:=(Array.getElem?_eq_some_iff.1 BK.out).1
  go_quiet (fail)
  have H1:Aside (HS (w1.drewN nq) S A B):=DD.out.grow HH.out ((Gw.refl w1).drewN nq)
  have G1:Aside (Gs S w1 (w1.drewN nq)):=((Gw.refl w1).drewN nq).gs S
  have DF:Aside (false=decide (hi0<hi0∧rowF f L i hi0=q)):=(decide_eq_false (fun x=>Nat.lt_irrefl _ x.1)).symm
  clear HH k3 k4
  go_wp2_with fail
  go_loopg [9,10,11] (hi0-lo0) (fun gg s9 s10 s11 wr=>∃ (l h:Nat) (t:Bool) (S':Nat→Prop) (A':List (Int×Int)),s9=.bool t∧s10=.int .i64 (l:Int)∧s11=.int .i64 (h:Int)∧lo0≤l∧l≤r∧r≤h∧h≤hi0∧h-l≤gg∧A'.length+(h-l)≤hi0-lo0∧Aside (t=decide (h<hi0∧rowF f L i h=q))∧Aside (HS wr S' (A++A') B)∧Aside (∀ q,S' q→S q∨vb+1≤q)∧Aside (SeekI i lo0 hi0 l h A')∧Aside (Gs S w1 wr))
  case atStart=>exact ⟨lo0,hi0,false,S,[],rfl,rfl,rfl,Nat.le_refl _,lr,rh,Nat.le_refl _,Nat.le_refl _,by simp,DF,(by rw [List.append_nil];exact H1),(show Aside _ from fun q hq=>.inl hq),(show Aside _ from ⟨by simp,fun a ha=>by simp at ha⟩),G1⟩
  case round =>
    clear H1 G1 DF
    obtain ⟨l,h,t,S',A',rfl,rfl,rfl,a1,a2,a3,a4,a5,a6,TT,HH,SS,SK,GG⟩:=hrel
    have vk:Aside (wr.heap[vb]?=w1.heap[vb]?):=GG.out.block vb kb (fun e=>by have:=SW.out vb e;omega)
    have k0:wr.cell? ⟨vb,0,none⟩=some (.int .i64 (i:Int)):=(World.cell?_of_block (a:=⟨vb,0,none⟩) vk.out).trans VV.out.c0
    have k4:wr.cell? ⟨vb,4,none⟩=some (.int .i64 (hi0:Int)):=(World.cell?_of_block (a:=⟨vb,4,none⟩) vk.out).trans VV.out.c4
    have kb':vb<wr.heap.size:=Nat.lt_of_lt_of_le kb GG.out.size
    by_cases hlt:l<h
    · obtain ⟨m,hm⟩:∃ m:Nat,(h-l)/2+l=m:=⟨_,rfl⟩
      have m1:l≤m:=by omega
      have m2:m<h:=by omega
      have d1:IntKind.i64.wrap ((h:Int)-(l:Int))=((h-l:Nat):Int):=by rw [IntKind.wrap_i64];omega
      have d4:(l:Int)+((h-l:Nat):Int)/2=(m:Int):=by omega
      have mN:Aside (m<rowN n L i):=by have:=TN.out.1;exact Nat.lt_of_lt_of_le (by omega) this
      clear hm
      go_wp2_with fail
      refine (DD.out.key HH.out (by simp;omega) i m (Nat.le_of_lt TN.out.2.1) mN.out).mono ?_
      rintro e w2 ⟨⟨S2,rfl,h2,s2⟩,g2⟩
      have H2:Aside (HS w2 S2 (A++(A'++[((i:Int),(m:Int))])) B):=by rw [←List.append_assoc];exact h2
      have S3:Aside (∀ q,S2 q→S q∨vb+1≤q):=fun q hq=>by
        rcases s2 q hq with e | e
        · exact SS.out q e
        · exact .inr (by have:=GG.out.size;have:=Z1.out;omega)
      have G2:Aside (Gs S w1 w2):=gs_trans9 GG.out g2 fun q hq=>by
        rcases SS.out q hq with e | e
        · exact .inl e
        · exact .inr (by rw [Z1.out];exact e)
      obtain ⟨y,hy⟩:∃ y,rowF f L i m=y:=⟨_,rfl⟩
      have Y:Aside (rowF f L i m=y):=hy
      rw [hy]
      clear hy h2 s2 g2 HH SS GG k0 k4 kb' vk
      by_cases c:y<q
      · have mr:m+1≤r:=by
          rcases Nat.lt_or_ge m r with e | e
          · exact e
          · have:=ABO.out m e mN.out
            rw [Y.out] at this
            omega
        have SK2:Aside (SeekI i lo0 hi0 (m+1) h (A'++[((i:Int),(m:Int))])):=SK.out.add m1 m2 a1 a4 (.inl ⟨rfl,rfl⟩)
        clear Y SK d1 d4
        go_wp2_with fail
        go_roundg (h-(m+1))
        case measure=>omega
        case rel=>exact ⟨m+1,h,t,S2,A'++[((i:Int),(m:Int))],rfl,by go_num,rfl,by omega,mr,a3,a4,Nat.le_refl _,by simp;omega,TT,H2,S3,SK2,G2⟩
      · have mr:r≤m:=by
          rcases Nat.lt_or_ge m r with e | e
          · have:=BEL.out m e
            rw [Y.out] at this
            omega
          · exact e
        have SK2:Aside (SeekI i lo0 hi0 l m (A'++[((i:Int),(m:Int))])):=SK.out.add m1 m2 a1 a4 (.inr ⟨rfl,rfl⟩)
        obtain ⟨z,hz⟩:∃ z:Bool,(y == q)=z:=⟨_,rfl⟩
        have TT2:Aside (z=decide (m<hi0∧rowF f L i m=q)):=by
          show z=_
          rw [←hz,Y.out]
          have:m<hi0:=by omega
          by_cases e:y=q
          · rw [decide_eq_true ⟨this,e⟩];simpa using e
          · rw [decide_eq_false (fun x=>e x.2)];simpa using e
        clear Y SK d1 d4
        go_wp2_with fail
        go_roundg (m-l)
        case measure=>omega
        case rel=>exact ⟨l,m,z,S2,A'++[((i:Int),(m:Int))],rfl,rfl,rfl,a1,a2,mr,by omega,Nat.le_refl _,by simp;omega,TT2,H2,S3,SK2,G2⟩
    · obtain rfl:l=r:=by omega
      obtain rfl:h=l:=by omega
      have SW2:Aside (∀ q,S' q→S q∨w.heap.size≤q):=fun q hq=>by
        rcases SS.out q hq with e | e
        · exact .inl e
        · exact .inr (by rw [VB.out];omega)
      by_cases c1:h=hi0
      · by_cases c2:h<te
        · have m0:((h:Int) == (hi0:Int))=true:=by rw [c1];simp
          have m1:decide ((h:Int)<(te:Int))=true:=by simpa using c2
          have hN:Aside (h<rowN n L i):=by have:=TN.out.1;exact Nat.lt_of_lt_of_le c2 this
          have AL:Aside ((A++A').length≤2000000000):=by show _≤_;rw [List.length_append];omega
          have HI:Aside (h=hi0):=c1
          clear c1
          go_wp2_with fail
          refine (DD.out.key HH.out AL.out i h (Nat.le_of_lt TN.out.2.1) hN.out).mono ?_
          rintro e w2 ⟨⟨S2,rfl,h2,s2⟩,g2⟩
          have H2:Aside (HS w2 S2 (A++(A'++[((i:Int),(h:Int))])) B):=by rw [←List.append_assoc];exact h2
          have S3:Aside (∀ q,S2 q→S q∨w.heap.size≤q):=fun q hq=>by
            rcases s2 q hq with e | e
            · exact SW2.out q e
            · exact .inr (by have:=GG.out.size;have:=G0.out.size;omega)
          have G2:Aside (Gs S w w2):=gs_trans9 (gs_trans9 G0.out GG.out (fun q hq=>.inl hq)) g2 SW2.out
          obtain ⟨y,hy⟩:∃ y,rowF f L i h=y:=⟨_,rfl⟩
          have zz:(y == q)=st:=by
            have s:=ST.out
            rw [hy] at s
            rw [←s]
            by_cases e:y=q
            · rw [decide_eq_true ⟨c2,e⟩];simpa using e
            · rw [decide_eq_false (fun x=>e x.2)];simpa using e
          rw [hy]
          have SKL:Aside (SeekR i lo0 hi0 te (A'++[((i:Int),(h:Int))])):=by
            have e:=HI.out
            have:=SK.out.last (te:=te) (by omega) (by omega) (by omega)
            rw [e]
            exact this
          clear hy h2 s2 g2 HH SS GG k0 k4 kb' vk
          go_wp2_with fail
          go_ret2
          exact ⟨⟨S2,_,rfl,H2.out,S3.out,SKL.out⟩,G2.out⟩
        · have m0:((h:Int) == (hi0:Int))=true:=by rw [c1];simp
          have m1:decide ((h:Int)<(te:Int))=false:=by simpa using c2
          have e1:t=false:=by rw [TT.out];exact decide_eq_false (fun x=>by omega)
          have e2:st=false:=by rw [←ST.out];exact decide_eq_false (fun x=>c2 x.1)
          subst e1 e2
          have HI:Aside (h=hi0):=c1
          have SKL:Aside (SeekR i lo0 hi0 te A'):=SK.out.done ht (by omega)
          have G2:Aside (Gs S w wr):=gs_trans9 G0.out GG.out (fun q hq=>.inl hq)
          clear c1
          go_wp2_with fail
          go_ret2
          exact ⟨⟨S',A',rfl,HH.out,SW2.out,SKL.out⟩,G2.out⟩
      · have m0:((h:Int) == (hi0:Int))=false:=by simp;omega
        have e1:t=st:=by
          rw [TT.out,←ST.out]
          have x1:h<hi0:=by omega
          have x2:h<te:=by omega
          by_cases e:rowF f L i h=q
          · rw [decide_eq_true ⟨x1,e⟩,decide_eq_true ⟨x2,e⟩]
          · rw [decide_eq_false (fun x=>e x.2),decide_eq_false (fun x=>e x.2)]
        subst e1
        have SKL:Aside (SeekR i lo0 hi0 te A'):=SK.out.done ht (by omega)
        have G2:Aside (Gs S w wr):=gs_trans9 G0.out GG.out (fun q hq=>.inl hq)
        go_wp2_with fail
        go_ret2
        exact ⟨⟨S',A',rfl,HH.out,SW2.out,SKL.out⟩,G2.out⟩
end Go.Proofs.YtinefkljjnepjabGreat
namespace Go.Proofs.YtinefkljjnepjabGreat
open Go.RowKit
set_option linter.unusedVariables false
attribute [local go_sem] run_store_float
set_option maxRecDepth 10000 in
set_option maxHeartbeats 8000000 in
theorem down_find_watch {p:Nat} {w0:World} {HS:World→(Nat→Prop)→List (Int×Int)→List (Int×Int)→Prop} {eps:Int} {f:Nat→Int} {n:Nat} {L:List (List Sg)} (D:DSC 235 236 237 238 (.pointer (some ⟨p,0,none⟩)) w0 HS eps f n L) (M:ModelC) (R:Ready eps f n L) (p0 p1:Value) {TT:World→(Nat→Prop)→List Vis→Bool→Prop} (C:TellC 83 (fun a b=>#[a,b,p0,p1]) TT) (q:Int) (q0:0≤q) (q1:q<18446744073709551616) {w:World} {S X:Nat→Prop} {A B:List (Int×Int)} (h:HS w S A B) (t:TT w X [] false) (dj:∀ q,X q→w0.heap.size≤q∧¬ S q) (la:A.length≤1000000000) (lb:B.length≤1000000000) :
    Calls Tryz.prog 82 #[.pointer (some ⟨p,0,none⟩), .int .u64 q, .func (.func 83) #[] #[p0,p1]] w fun e w'=>e=.returned (.tuple #[])∧(∃ S' X' A' B',HS w' S' (A++A') (B++B')∧AskR eps q f n L A' B'∧TT w' X' (pathL eps q f n L) (standTo q f n L 0)∧(∀ q,S' q→S q∨w.heap.size≤q)∧(∀ q,X' q→(X q∨w.heap.size≤q)∧¬ S' q))∧Gs (fun q=>S q∨X q) w w':=by
  have mH:∀ W:World,(method 383 87 (.pointer (some ⟨p,0,none⟩)) "Height").run Tryz.prog W=.ok (236, .pointer (some ⟨p,0,none⟩)) W:=fun _=>by kernel_rfl
  have mS:∀ W:World,(method 383 87 (.pointer (some ⟨p,0,none⟩)) "Segment").run Tryz.prog W=.ok (238, .pointer (some ⟨p,0,none⟩)) W:=fun _=>by kernel_rfl
  have mE:∀ W:World,(method 383 87 (.pointer (some ⟨p,0,none⟩)) "Eps").run Tryz.prog W=.ok (235, .pointer (some ⟨p,0,none⟩)) W:=fun _=>by kernel_rfl
  have DD:Aside (DSC 235 236 237 238 (.pointer (some ⟨p,0,none⟩)) w0 HS eps f n L):=D
  have CC:Aside (TellC 83 (fun a b=>#[a,b,p0,p1]) TT):=C
  have MM:Aside ModelC:=M
  have RR:Aside (Ready eps f n L):=R
  have HH:Aside (HS w S A B):=h
  have TH:Aside (TT w X [] false):=t
  have DJ:Aside (∀ q,X q→w0.heap.size≤q∧¬ S q):=dj
  have LAB:Aside (A.length≤1000000000∧B.length≤1000000000):=⟨la,lb⟩
  obtain ⟨ln,hln⟩:∃ ln,L.length=ln:=⟨_,rfl⟩
  have LN:Aside (L.length=ln):=hln
  have l1:ln≤2000000:=by have:=R.sh.1;omega
  clear D C M R h t dj la lb hln
  go_enter Tryz.func82,Tryz.ntmps82
  go_wp2_with fail
  refine (DD.out.height HH.out).mono ?_
  rintro e w1 ⟨rfl,hw⟩
  have hw':w=w1:=hw.symm
  subst hw'
  rw [LN.out]
  clear hw
  go_wp2_with fail
  have W0:Aside (w0.heap.size≤w.heap.size):=(DD.out.gw HH.out).size
  go_loopg [6,7] ln (fun gg s6 s7 wr=>∃ (j sl:Nat) (S' X':Nat→Prop) (A' B':List (Int×Int)),s6=.int .i64 (sl:Int)∧s7=.int .i64 ((j:Int)-1)∧j≤ln∧j≤gg∧Aside (0<j→sl=slotA q L (j-1))∧Aside (HS wr S' (A++A') (B++B'))∧Aside (AskT eps q f n L j A' B')∧Aside (TT wr X' (pathTo eps q f n L j) (standTo q f n L j))∧Aside (∀ q,S' q→S q∨w.heap.size≤q)∧Aside (∀ q,X' q→(X q∨w.heap.size≤q)∧¬ S' q)∧Aside (Gs (fun q=>S q∨X q) w wr))
  case atStart =>
    refine ⟨ln,0,S,X,[],[],rfl,by go_num,Nat.le_refl _,Nat.le_refl _,fun h0=>?_,?_,?_,?_,(show Aside _ from fun q hq=>.inl hq),(show Aside _ from fun q hq=>⟨.inl hq,(DJ.out q hq).2⟩),(show Aside _ from (Gw.refl w).gs _)⟩
    · have:=RR.out.lv.slot_top (q:=q) (by rw [LN.out];exact h0)
      rw [LN.out] at this
      exact this.symm
    · rw [List.append_nil,List.append_nil];exact HH
    · have:=AskT.none eps q f n L
      rw [LN.out] at this
      exact this
    · have e1:=pathTo_top eps q f n L
      have e2:standTo q f n L L.length=false:=if_pos rfl
      rw [LN.out] at e1 e2
      rw [e1,e2]
      exact TH
  case round =>
    clear HH TH
    obtain ⟨j,sl,S',X',A',B',rfl,rfl,a1,a2,SL,HH,AK,TH,SS,XX,GG⟩:=hrel
    rcases j with _ | i
    · have e:(((0:Nat):Int)-1)=-1:=by omega
      rw [e]
      clear e
      go_wp2_with fail
      go_end0
      exact ⟨rfl,⟨S',X',A',B',HH.out,AK.out.all,TH.out,SS.out,XX.out⟩,GG.out⟩
    · have e:(((i+1:Nat):Int)-1)=(i:Int):=by omega
      rw [e]
      clear e
      have hi:Aside (i<L.length):=by show _<_;rw [LN.out];omega
      have sle:sl=slotA q L i:=SL.out (by omega)
      have slt:Aside (sl<(L.getD i []).length):=by rw [sle];exact RR.out.lv.slot hi.out
      obtain ⟨s,hs⟩:∃ s,segA q L i=s:=⟨_,rfl⟩
      have SG:Aside (segA q L i=s):=hs
      have SG':Aside ((L.getD i []).getD sl sg0=s):=by rw [sle];exact hs
      have SLE:Aside (sl=slotA q L i):=sle
      have bl:Aside ((B++B').length≤2000000000):=by show _≤_;have b1:=AK.out.bl;have:=LAB.out.2;rw [LN.out] at b1;rw [List.length_append];omega
      clear hs sle SL
      obtain ⟨k,sp,ic,fr,te⟩:=s
      go_wp2_with fail
      refine (DD.out.seg HH.out bl.out i sl hi.out slt.out).mono ?_
      rintro e w2 ⟨⟨S2,rfl,h2,s2⟩,g2⟩
      have H2:Aside (HS w2 S2 (A++A') (B++(B'++[((i:Int)+1,(sl:Int))]))):=by rw [←List.append_assoc];exact h2
      have S3:Aside (∀ q,S2 q→S q∨w.heap.size≤q):=fun q hq=>by
        rcases s2 q hq with e | e
        · exact SS.out q e
        · exact .inr (Nat.le_trans GG.out.size e)
      have T2:Aside (TT w2 X' (pathTo eps q f n L (i+1)) (standTo q f n L (i+1))):=CC.out.keep TH.out fun q hq=>g2.block q (CC.out.lt TH.out q hq) (XX.out q hq).2
      have X2:Aside (∀ q,X' q→(X q∨w.heap.size≤q)∧¬ S2 q):=fun q hq=>⟨(XX.out q hq).1,fun e=>by
        rcases s2 q e with e | e
        · exact (XX.out q hq).2 e
        · have:=CC.out.lt TH.out q hq;omega⟩
      have G2:Aside (Gs (fun q=>S q∨X q) w w2):=gs_trans9 GG.out g2 fun q hq=>by
        rcases SS.out q hq with e | e
        · exact .inl (.inl e)
        · exact .inr e
      rw [SG'.out]
      have OK:Aside (Sg.ok ⟨k,sp,ic,fr,te⟩):=by have:=DD.out.sok i hi.out sl slt.out;rw [SG'.out] at this;exact this
      have s0:Aside (0≤fr∧fr<te∧te≤4294967296∧te≤rowN n L i∧fr≤guessA q L i∧guessA q L i≤te):=by
        have:=RR.out.lv.bounds (q:=q) q1 hi.out
        rw [SG.out] at this
        exact ⟨this.1,this.2.1,this.2.2.1,this.2.2.2.1,this.2.2.2.2.1,this.2.2.2.2.2.1⟩
      have GA:Aside (guessV k sp ic fr te q=guessA q L i):=by show _=_;unfold guessA;rw [SG.out]
      clear h2 s2 g2 HH TH SS XX GG
      go_wp2_with fail
      have B3:Aside ((w2.alloc (.cells #[.int .u64 k, .float .f64 sp, .float .f64 ic, .int .i64 fr, .int .i64 te] 100)).heap[w2.heap.size]?=some (.cells #[.int .u64 k, .float .f64 sp, .float .f64 ic, .int .i64 fr, .int .i64 te] 100 (0,0))):=heap_alloc_new w2 _
      have G3:Aside (Gw w2 (w2.alloc (.cells #[.int .u64 k, .float .f64 sp, .float .f64 ic, .int .i64 fr, .int .i64 te] 100))):=(Gw.refl w2).alloc _ _
      generalize w2.alloc (.cells #[.int .u64 k, .float .f64 sp, .float .f64 ic, .int .i64 fr, .int .i64 te] 100)=w3 at B3 G3 ⊢
      obtain ⟨gb,hgb⟩:∃ gb,w2.heap.size=gb:=⟨_,rfl⟩
      have GB:Aside (w2.heap.size=gb):=hgb
      rw [hgb] at B3 ⊢
      clear hgb
      refine (MM.out.guess k sp ic fr te q OK.out q0 q1 w3).mono ?_
      rintro e w4 ⟨rfl,g4⟩
      rw [GA.out]
      obtain ⟨G,hG⟩:∃ G,guessA q L i=G:=⟨_,rfl⟩
      have GG:Aside (guessA q L i=G):=hG
      rw [hG]
      obtain ⟨z1,z2,z3,z4,z5,z6⟩:=s0.out
      rw [hG] at z5 z6
      obtain ⟨tn,htn⟩:∃ tn:Nat,te=(tn:Int):=⟨te.toNat,by omega⟩
      subst htn
      have Z4:Aside (tn≤rowN n L i):=by show _≤_;omega
      have e2:=RR.out.e0
      have e3:=RR.out.e1
      have B4:Aside (w4.heap[gb]?=some (.cells #[.int .u64 k, .float .f64 sp, .float .f64 ic, .int .i64 fr, .int .i64 (tn:Int)] 100 (0,0))):=(g4.below.block gb (Array.getElem?_eq_some_iff.1 B3.out).1).trans B3.out
      have G4:Aside (Gw w2 w4):=G3.out.trans g4
      obtain ⟨lo,hlo⟩:∃ lo:Nat,max (G-eps-1) fr=(lo:Int):=⟨(max (G-eps-1) fr).toNat,by omega⟩
      obtain ⟨hj,hhj⟩:∃ hj:Nat,min (G+eps+1) (tn:Int)=(hj:Int):=⟨(min (G+eps+1) (tn:Int)).toNat,by omega⟩
      have LO:Aside ((visAt eps q f n L i).lo=(lo:Int)):=by
        show max (segA q L i).fr (guessA q L i-eps-1)=_
        rw [SG.out,GG.out,Int.max_comm]
        exact hlo
      have HJ:Aside ((visAt eps q f n L i).hi=(hj:Int)):=by
        show min (segA q L i).te (guessA q L i+eps+1)=_
        rw [SG.out,GG.out,Int.min_comm]
        exact hhj
      have WI:Aside (hj-lo≤130):=by show _≤_;omega
      clear B3 G3 g4 hG z4 s0
      have gbl:=(Array.getElem?_eq_some_iff.1 B4.out).1
      have u1:IntKind.i64.wrap (G-eps)=G-eps:=by rw [IntKind.wrap_i64];omega
      have u2:IntKind.i64.wrap (G-eps-1)=G-eps-1:=by rw [IntKind.wrap_i64];omega
      have u3:IntKind.i64.wrap (G+eps)=G+eps:=by rw [IntKind.wrap_i64];omega
      have u4:IntKind.i64.wrap (G+eps+1)=G+eps+1:=by rw [IntKind.wrap_i64];omega
      go_wp2_with fail
      have V5:Aside ((w4.alloc (.cells #[.int .i64 (i:Int), .int .i64 (sl:Int), .int .i64 G, .int .i64 0, .int .i64 0, .int .i64 0] 96)).heap[w4.heap.size]?=some (.cells #[.int .i64 (i:Int), .int .i64 (sl:Int), .int .i64 G, .int .i64 0, .int .i64 0, .int .i64 0] 96 (0,0))):=heap_alloc_new w4 _
      have G5:Aside (Gw w4 (w4.alloc (.cells #[.int .i64 (i:Int), .int .i64 (sl:Int), .int .i64 G, .int .i64 0, .int .i64 0, .int .i64 0] 96))):=(Gw.refl w4).alloc _ _
      generalize w4.alloc (.cells #[.int .i64 (i:Int), .int .i64 (sl:Int), .int .i64 G, .int .i64 0, .int .i64 0, .int .i64 0] 96)=w5 at V5 G5 ⊢
      obtain ⟨vb,hvb⟩:∃ vb,w4.heap.size=vb:=⟨_,rfl⟩
      have VB:Aside (w4.heap.size=vb):=hvb
      rw [hvb] at V5 gbl ⊢
      clear hvb
      have H5:Aside (HS w5.drew S2 (A++A') (B++(B'++[((i:Int)+1,(sl:Int))]))):=DD.out.grow H2.out (G4.out.trans G5.out).drew
      have E5:=DD.out.eps H5.out
      have B5:Aside (w5.heap[gb]?=some (.cells #[.int .u64 k, .float .f64 sp, .float .f64 ic, .int .i64 fr, .int .i64 (tn:Int)] 100 (0,0))):=(G5.out.below.block gb (by rw [VB.out];exact gbl)).trans B4.out
      have c2:w5.drew.cell? ⟨vb,2,none⟩=some (.int .i64 G):=cell_blk9 V5.out rfl
      have c3:w5.drew.cell? ⟨vb,3,none⟩=some (.int .i64 0):=cell_blk9 V5.out rfl
      have x3:w5.drew.cell? ⟨gb,3,none⟩=some (.int .i64 fr):=cell_blk9 B5.out rfl
      have f3:w5.drew.frozen? ⟨vb,3,none⟩=false:=fz_blk9 V5.out
      refine wp_region_still_tail 11 (by kernel_rfl) (by kernel_rfl) ?_
      change wpStill _ _ (World.drew w5) (fun a'=>wpList _ _ _ _ a' (World.drew w5)) _ _
      simp only [List.take_succ_cons,List.take_zero,List.drop_succ_cons,List.drop_zero]
      still_step
      still_step
      still_step
      still_step
      still_call E5
      still_step
      still_step
      still_step
      still_step
      still_step
      still_step
      refine wpStill_nil ?_
      go_wp2_with fail
      have gv:Aside (w2.heap.size≤vb):=by show _≤_;rw [←VB.out];exact G4.out.size
      have V6:Aside ((w5.setCell ⟨vb,3,none⟩ (.int .i64 (lo:Int))).drew.heap[vb]?=some (.cells #[.int .i64 (i:Int), .int .i64 (sl:Int), .int .i64 G, .int .i64 (lo:Int), .int .i64 0, .int .i64 0] 96 (0,0))):=set_blk9 V5.out 3 _
      have G6:Aside (Gw w2 (w5.setCell ⟨vb,3,none⟩ (.int .i64 (lo:Int))).drew):=((G4.out.trans G5.out).setCell gv.out _).drew
      have B6:Aside ((w5.setCell ⟨vb,3,none⟩ (.int .i64 (lo:Int))).drew.heap[gb]?=some (.cells #[.int .u64 k, .float .f64 sp, .float .f64 ic, .int .i64 fr, .int .i64 (tn:Int)] 100 (0,0))):=(Go.Deep.blk_setCell_other _ _ _ _ (by show gb≠vb;omega)).trans B5.out
      generalize (w5.setCell ⟨vb,3,none⟩ (.int .i64 (lo:Int))).drew=w6 at V6 G6 B6 ⊢
      clear c2 c3 x3 f3 E5 H5 V5 G5 B5 B4 G4 u1 u2 hlo
      have H6:Aside (HS w6.drew S2 (A++A') (B++(B'++[((i:Int)+1,(sl:Int))]))):=DD.out.grow H2.out G6.out.drew
      have E6:=DD.out.eps H6.out
      have c2:w6.drew.cell? ⟨vb,2,none⟩=some (.int .i64 G):=cell_blk9 V6.out rfl
      have c4:w6.drew.cell? ⟨vb,4,none⟩=some (.int .i64 0):=cell_blk9 V6.out rfl
      have x4:w6.drew.cell? ⟨gb,4,none⟩=some (.int .i64 (tn:Int)):=cell_blk9 B6.out rfl
      have f4:w6.drew.frozen? ⟨vb,4,none⟩=false:=fz_blk9 V6.out
      refine wp_region_still_tail 11 (by kernel_rfl) (by kernel_rfl) ?_
      change wpStill _ _ (World.drew w6) (fun a'=>wpList _ _ _ _ a' (World.drew w6)) _ _
      simp only [List.take_succ_cons,List.take_zero,List.drop_succ_cons,List.drop_zero]
      still_step
      still_step
      still_step
      still_step
      still_call E6
      still_step
      still_step
      still_step
      still_step
      still_step
      still_step
      refine wpStill_nil ?_
      obtain ⟨w7,hw7⟩:∃ w7,w6.setCell ⟨vb,4,none⟩ (.int .i64 (hj:Int))=w7:=⟨_,rfl⟩
      have V7:Aside (w7.heap[vb]?=some (.cells #[.int .i64 (i:Int), .int .i64 (sl:Int), .int .i64 G, .int .i64 (lo:Int), .int .i64 (hj:Int), .int .i64 0] 96 (0,0))):=by rw [←hw7];exact set_blk9 V6.out 4 _
      have G7:Aside (Gw w2 w7.drew):=by rw [←hw7];exact (G6.out.setCell gv.out _).drew
      have B7:Aside (w7.heap[gb]?=some (.cells #[.int .u64 k, .float .f64 sp, .float .f64 ic, .int .i64 fr, .int .i64 (tn:Int)] 100 (0,0))):=by rw [←hw7];exact (Go.Deep.blk_setCell_other _ _ _ _ (by show gb≠vb;omega)).trans B6.out
      have v7:=vis_cells (v:=⟨(i:Int),(sl:Int),G,(lo:Int),(hj:Int),0⟩) V7.out
      have k0:w7.cell? ⟨vb,0,none⟩=some (.int .i64 (i:Int)):=v7.c0
      have k1:w7.cell? ⟨vb,1,none⟩=some (.int .i64 (sl:Int)):=v7.c1
      have k2:w7.cell? ⟨vb,2,none⟩=some (.int .i64 G):=v7.c2
      have k3:w7.cell? ⟨vb,3,none⟩=some (.int .i64 (lo:Int)):=v7.c3
      have k4:w7.cell? ⟨vb,4,none⟩=some (.int .i64 (hj:Int)):=v7.c4
      have k5:w7.cell? ⟨vb,5,none⟩=some (.int .i64 0):=v7.c5
      have y4:w7.cell? ⟨gb,4,none⟩=some (.int .i64 (tn:Int)):=cell_blk9 B7.out rfl
      have vbl:=(Array.getElem?_eq_some_iff.1 V7.out).1
      have HT:Aside (hj≤tn):=by show _≤_;omega
      have WN:Aside (lo≤cntb (rowF f L i) q (rowN n L i)∧cntb (rowF f L i) q (rowN n L i)≤hj):=by
        obtain ⟨x1,x2⟩:=RR.out.lv.window (q:=q) q1 hi.out
        rw [LO.out] at x1
        rw [HJ.out] at x2
        have y1:(lo:Int)≤(cntb (rowF f L i) q (rowN n L i):Int):=x1
        have y2:(cntb (rowF f L i) q (rowN n L i):Int)≤(hj:Int):=x2
        exact ⟨by omega,by omega⟩
      have BL:Aside ((∀ t,t<cntb (rowF f L i) q (rowN n L i)→rowF f L i t<q)∧∀ t,cntb (rowF f L i) q (rowN n L i)≤t→t<rowN n L i→q≤rowF f L i t):=RR.out.lv.below hi.out
      have VR:Aside (VisR eps (rowF f L i) (rowN n L i) (segA q L i) q):=RR.out.lv.vis q1 hi.out
      have VI:Aside (visAt eps q f n L i=⟨(i:Int),(sl:Int),G,(lo:Int),(hj:Int),((cntb (rowF f L i) q (rowN n L i):Nat):Int)⟩):=by
        show visAt eps q f n L i=_
        have e1:(visAt eps q f n L i).lo=(lo:Int):=LO.out
        have e2:(visAt eps q f n L i).hi=(hj:Int):=HJ.out
        have e3:(visAt eps q f n L i).gu=G:=GG.out
        have e4:(visAt eps q f n L i).sl=(sl:Int):=by show ((slotA q L i:Nat):Int)=_;rw [SLE.out]
        rw [←e1,←e2,←e3,←e4]
        rfl
      obtain ⟨r,hr⟩:∃ r,cntb (rowF f L i) q (rowN n L i)=r:=⟨_,rfl⟩
      have RK:Aside (cntb (rowF f L i) q (rowN n L i)=r):=hr
      rw [hr] at WN BL VI
      have r1:r≤tn:=Nat.le_trans WN.out.2 HT.out
      have H7:Aside (HS w7.drew S2 (A++A') (B++(B'++[((i:Int)+1,(sl:Int))]))):=DD.out.grow H2.out G7.out
      have AL:Aside ((A++A').length+(hj-lo)≤1999999999):=by
        show _≤_
        have b1:=AK.out.al
        have:=LAB.out.1
        have:=WI.out
        rw [LN.out] at b1
        rw [List.length_append]
        omega
      clear v7 hhj hr E6 H6 V6 G6 B6
      go_wp2_with fail
      refine (seek_watch DD.out i hi.out RR.out.sh.1 lo hj tn r (sl:Int) G 0 q q0 q1 WN.out.1 WN.out.2 HT.out Z4.out (by omega) BL.out.1 BL.out.2 H7.out AL.out).mono ?_
      rintro e w8 ⟨⟨S8,A8,rfl,h8,s8,k8⟩,g8⟩
      have s2l:Aside (∀ q,S2 q→q<w2.heap.size):=DD.out.lt H2.out
      have x2l:Aside (∀ q,X' q→q<w2.heap.size):=CC.out.lt T2.out
      have n8:Aside (∀ q,w2.heap.size≤q→q<w7.heap.size→w8.heap[q]?=w7.heap[q]?):=fun q h1 h2=>g8.block q h2 (fun e=>by have:=s2l.out q e;omega)
      have V8:Aside (w8.heap[vb]?=some (.cells #[.int .i64 (i:Int), .int .i64 (sl:Int), .int .i64 G, .int .i64 (lo:Int), .int .i64 (hj:Int), .int .i64 0] 96 (0,0))):=(n8.out vb gv.out vbl).trans V7.out
      have gb2:Aside (gb=w2.heap.size):=GB.out.symm
      have B8:Aside (w8.heap[gb]?=some (.cells #[.int .u64 k, .float .f64 sp, .float .f64 ic, .int .i64 fr, .int .i64 (tn:Int)] 100 (0,0))):=(n8.out gb (Nat.le_of_eq gb2.out.symm) (by omega)).trans B7.out
      have S8L:Aside (∀ q,S8 q→q<w8.heap.size∧q≠vb∧q≠gb):=fun q hq=>⟨DD.out.lt h8 q hq,by
        rcases s8 q hq with e | e
        · have:=s2l.out q e;have:=gv.out;have:=gb2.out;omega
        · have e':w7.heap.size≤q:=e
          omega⟩
      have S8W:Aside (∀ q,S8 q→S q∨w.heap.size≤q):=fun q hq=>by
        rcases s8 q hq with e | e
        · exact S3.out q e
        · exact .inr (Nat.le_trans G2.out.size (Nat.le_trans G7.out.size e))
      have X8:Aside (∀ q,X' q→¬ S8 q):=fun q hq e=>by
        rcases s8 q e with e | e
        · exact (X2.out q hq).2 e
        · have:=x2l.out q hq;have:=G7.out.size;omega
      have T8:Aside (TT w8 X' (pathTo eps q f n L (i+1)) (standTo q f n L (i+1))):=CC.out.keep T2.out fun q hq=>(g8.block q (Nat.lt_of_lt_of_le (x2l.out q hq) G7.out.size) (fun e=>(X2.out q hq).2 e)).trans (G7.out.below.block q (x2l.out q hq))
      have G8:Aside (Gs (fun q=>S q∨X q) w w8):=gs_trans9 (gs_trans9 G2.out (G7.out.gs (fun _=>False)) (fun q hq=>hq.elim)) g8 fun q hq=>by
        rcases S3.out q hq with e | e
        · exact .inl (.inl e)
        · exact .inr e
      have wvb:Aside (w.heap.size≤vb):=Nat.le_trans G2.out.size gv.out
      obtain ⟨w9,hw9⟩:∃ w9,w8.setCell ⟨vb,5,none⟩ (.int .i64 (r:Int))=w9:=⟨_,rfl⟩
      have V9:Aside (w9.heap[vb]?=some (.cells #[.int .i64 (i:Int), .int .i64 (sl:Int), .int .i64 G, .int .i64 (lo:Int), .int .i64 (hj:Int), .int .i64 (r:Int)] 96 (0,0))):=by rw [←hw9];exact set_blk9 V8.out 5 _
      have N9:Aside (∀ q,q≠vb→w9.heap[q]?=w8.heap[q]?):=fun q hq=>by rw [←hw9];exact Go.Deep.blk_setCell_other _ _ _ _ hq
      have Z9:Aside (w9.heap.size=w8.heap.size):=by rw [←hw9];exact World.size_setCell _ _ _
      have G9':Aside (Gs (fun q=>q=vb) w8 w9):=by rw [←hw9];exact Gs.set (S:=fun q=>q=vb) ((Gw.refl w8).gs _) rfl 5 _
      have H9:Aside (HS w9 S8 (A++(A'++A8)) (B++(B'++[((i:Int)+1,(sl:Int))]))):=by
        rw [←List.append_assoc]
        exact DD.out.step h8 G9'.out fun q e=>⟨by rw [e];exact Nat.le_trans W0.out wvb.out,fun e'=>(S8L.out q e').2.1 e⟩
      have T9:Aside (TT w9 X' (pathTo eps q f n L (i+1)) (standTo q f n L (i+1))):=CC.out.keep T8.out fun q hq=>N9.out q (by have:=x2l.out q hq;have:=gv.out;omega)
      have G9:Aside (Gs (fun q=>S q∨X q) w w9):=gs_trans9 G8.out G9'.out fun q e=>.inr (by rw [e];exact wvb.out)
      have B9:Aside (w9.heap[gb]?=some (.cells #[.int .u64 k, .float .f64 sp, .float .f64 ic, .int .i64 fr, .int .i64 (tn:Int)] 100 (0,0))):=(N9.out gb (by omega)).trans B8.out
      have SKR:Aside (SeekR i lo hj tn A8):=k8
      obtain ⟨st,hst⟩:∃ st:Bool,decide (r<tn∧rowF f L i r=q)=st:=⟨_,rfl⟩
      have ST:Aside (decide (r<tn∧rowF f L i r=q)=st):=hst
      rw [hst]
      have v9:=vis_cells (v:=⟨(i:Int),(sl:Int),G,(lo:Int),(hj:Int),(r:Int)⟩) V9.out
      have d5:w8.cell? ⟨vb,5,none⟩=some (.int .i64 0):=cell_blk9 V8.out rfl
      have d6:w8.frozen? ⟨vb,5,none⟩=false:=fz_blk9 V8.out
      have vb8:=(Array.getElem?_eq_some_iff.1 V8.out).1
      have vb9:=(Array.getElem?_eq_some_iff.1 V9.out).1
      have m0:w9.cell? ⟨vb,0,none⟩=some (.int .i64 (i:Int)):=v9.c0
      have m1:w9.cell? ⟨vb,1,none⟩=some (.int .i64 (sl:Int)):=v9.c1
      have m2:w9.cell? ⟨vb,2,none⟩=some (.int .i64 G):=v9.c2
      have m3:w9.cell? ⟨vb,3,none⟩=some (.int .i64 (lo:Int)):=v9.c3
      have m4:w9.cell? ⟨vb,4,none⟩=some (.int .i64 (hj:Int)):=v9.c4
      have m5:w9.cell? ⟨vb,5,none⟩=some (.int .i64 (r:Int)):=v9.c5
      clear h8 s8 k8 g8 n8 hst v9 hw7 k0 k1 k2 k3 k4 k5 y4 c2 c4 x4 f4 u3 u4 V7 B7 G7 H7 V8 B8 T8 G8 G9' AL H2 T2 G2
      go_wp2_with fail
      have PL:Aside ((pathTo eps q f n L (i+1)).length≤2000000):=by show _≤_;rw [pathTo_len,LN.out];omega
      refine (CC.out.call T9.out PL.out ⟨(i:Int),(sl:Int),G,(lo:Int),(hj:Int),(r:Int)⟩ st).mono ?_
      rintro e w10 ⟨rfl,⟨X10,t10,s10⟩,g10⟩
      have H10:Aside (HS w10 S8 (A++(A'++A8)) (B++(B'++[((i:Int)+1,(sl:Int))]))):=DD.out.step H9.out g10 fun q hq=>⟨by
        rcases (X2.out q hq).1 with e | e
        · exact (DJ.out q e).1
        · exact Nat.le_trans W0.out e,X8.out q hq⟩
      have T10:Aside (TT w10 X10 (pathTo eps q f n L i) (standTo q f n L i)):=by
        have e1:standTo q f n L i=st:=by
          unfold standTo
          rw [if_neg (by have:=hi.out;omega),←ST.out]
          unfold standA
          rw [RK.out]
          have th:=VR.out.there
          rw [SG.out,RK.out] at th
          have t1:(r<tn∧rowF f L i r=q)↔(r<rowN n L i∧rowF f L i r=q):=⟨fun x=>th.1 ⟨by show (r:Int)<(tn:Int);omega,x.2⟩,fun x=>by have y:=th.2 x;have y1:(r:Int)<(tn:Int):=y.1;exact ⟨by omega,x.2⟩⟩
          by_cases e:r<tn∧rowF f L i r=q
          · rw [decide_eq_true e,decide_eq_true (t1.1 e)]
          · rw [decide_eq_false e,decide_eq_false (fun x=>e (t1.2 x))]
        rw [e1,pathTo_next eps q f n L hi.out,VI.out]
        exact t10
      have X10W:Aside (∀ q,X10 q→(X q∨w.heap.size≤q)∧¬ S8 q):=fun q hq=>by
        rcases s10 q hq with e | e
        · exact ⟨(X2.out q e).1,X8.out q e⟩
        · exact ⟨.inr (Nat.le_trans G9.out.size e),fun e'=>by have:=(S8L.out q e').1;have:=Z9.out;omega⟩
      have G10:Aside (Gs (fun q=>S q∨X q) w w10):=gs_trans9 G9.out g10 fun q hq=>by
        rcases (X2.out q hq).1 with e | e
        · exact .inl (.inr e)
        · exact .inr e
      have gb9:=(Array.getElem?_eq_some_iff.1 B9.out).1
      have B10:Aside (w10.heap[gb]?=some (.cells #[.int .u64 k, .float .f64 sp, .float .f64 ic, .int .i64 fr, .int .i64 (tn:Int)] 100 (0,0))):=(g10.block gb gb9 (fun e=>by have:=x2l.out gb e;have:=gb2.out;omega)).trans B9.out
      have x3:w10.cell? ⟨gb,3,none⟩=some (.int .i64 fr):=cell_blk9 B10.out rfl
      have AKN:Aside (AskT eps q f n L i (A'++A8) (B'++[((i:Int)+1,(sl:Int))])):=by
        have:=AK.out.next hi.out SKR.out LO.out HJ.out (by rw [SG.out]) (by have:=WI.out;omega)
        rw [←SLE.out] at this
        exact this
      obtain ⟨nx,hnx⟩:∃ nx:Nat,(if st=true then (r:Int) else max ((r:Int)-1) fr)=(nx:Int):=⟨(if st=true then (r:Int) else max ((r:Int)-1) fr).toNat,by split<;>omega⟩
      have NXS:Aside (0<i→nx=slotA q L (i-1)):=fun i0=>by
        have e1:slotA q L (i-1)=rs (rowF f L i) (rowN n L i) q:=by
          have:=slot_row (q:=q) (f:=f) (n:=n) (L:=L) (i-1)
          rw [show i-1+1=i by omega] at this
          exact this
        have th:=VR.out.there
        have nx':=VR.out.next
        rw [SG.out,RK.out] at th nx'
        rw [e1]
        have s:=ST.out
        by_cases e:r<tn∧rowF f L i r=q
        · rw [decide_eq_true e] at s
          rw [if_pos s.symm] at hnx
          have y:=th.1 ⟨by show (r:Int)<(tn:Int);omega,e.2⟩
          unfold rs
          rw [RK.out,if_pos y]
          omega
        · rw [decide_eq_false e] at s
          rw [if_neg (by rw [←s];simp)] at hnx
          have y:=nx' (fun x=>e ⟨by have x1:(r:Int)<(tn:Int):=x.1;omega,x.2⟩)
          have y':max ((r:Int)-1) fr=((rs (rowF f L i) (rowN n L i) q:Nat):Int):=y
          omega
      clear t10 s10 g10 hw9 d5 d6 vb8 m0 m1 m2 m3 m4 m5 V9 B9 T9 G9 H9 N9 S8L X8 vbl
      go_wp2_with fail
      refine (next_any (r:Int) fr st (by omega) (by omega) w10).mono ?_
      rintro e w11 ⟨rfl,hw11⟩
      have hw11':w10=w11:=hw11.symm
      subst hw11'
      rw [hnx]
      clear hw11 hnx
      go_wp2_with fail
      go_roundg i
      case measure=>omega
      case rel=>exact ⟨i,nx,S8,X10,A'++A8,B'++[((i:Int)+1,(sl:Int))],rfl,by go_num,by omega,Nat.le_refl _,NXS,H10,AKN,T10,S8W,X10W,G10⟩
end Go.Proofs.YtinefkljjnepjabGreat
namespace Go.Proofs.YtinefkljjnepjabGreat
open Go.RowKit
set_option linter.unusedVariables false
attribute [local go_sem] run_store_float
set_option maxRecDepth 10000 in
set_option maxHeartbeats 2000000 in
theorem tellf_watch (br bt:Nat) (ne:br≠bt):TellC 83 (fun a b=>#[a,b, .pointer (some ⟨br,0,none⟩), .pointer (some ⟨bt,0,none⟩)]) (FTz br bt) where
  lt h q hq:=by
    rcases (h.x q).1 hq with rfl | rfl
    · exact h.r.lt
    · exact h.t.lt
  keep h k:=⟨(k br ((h.x br).2 (.inl rfl))).trans h.r,(k bt ((h.x bt).2 (.inr rfl))).trans h.t,h.x⟩
  call {w X l st} h hl v s:=by
    obtain ⟨v0,v1,v2,v3,v4,v5⟩:=v
    have HH:Aside (FTz br bt w X l st):=h
    have c1:=h.r.cell
    have c2:=h.t.cell
    have f1:=h.r.fz
    have f2:=h.t.fz
    have l1:=h.r.lt
    have l2:=h.t.lt
    have b1:br≠w.heap.size:=by omega
    have b2:bt≠w.heap.size:=by omega
    clear h
    go_enter Tryz.func83,Tryz.ntmps83
    go_wp2_with fail
    go_end0
    refine ⟨rfl,⟨X,⟨?_,?_,HH.out.x⟩,fun q hq=>.inl hq⟩,?_⟩
    · rw [lastR_snoc]
      refine (heap_alloc_old _ _ (by simpa using l1)).trans ?_
      refine (Go.Deep.blk_setCell_other _ _ _ _ ne).trans ?_
      exact set_blk9 HH.out.r 0 _
    · refine (heap_alloc_old _ _ (by simpa using l2)).trans ?_
      exact set_blk9 ((Go.Deep.blk_setCell_other _ _ _ _ (fun e=>ne e.symm)).trans HH.out.t) 0 _
    · have g:=(((Gw.refl w).gs X).set ((HH.out.x br).2 (.inl rfl)) 0 (.int .i64 v5)).set ((HH.out.x bt).2 (.inr rfl)) 0 (.bool s)
      exact gs_trans9 g (((Gw.refl _).alloc _ _).gs (fun _=>False)) (fun q hq=>hq.elim)
set_option maxRecDepth 10000 in
set_option maxHeartbeats 4000000 in
theorem xfind_watch {p:Nat} {w0:World} {HS:World→(Nat→Prop)→List (Int×Int)→List (Int×Int)→Prop} {eps:Int} {f:Nat→Int} {n:Nat} {L:List (List Sg)} (D:DSC 235 236 237 238 (.pointer (some ⟨p,0,none⟩)) w0 HS eps f n L) (M:ModelC) (R:Ready eps f n L) (q:Int) (q0:0≤q) (q1:q<18446744073709551616) {w:World} {S:Nat→Prop} {A B:List (Int×Int)} (h:HS w S A B) (la:A.length≤1000000000) (lb:B.length≤1000000000) :
    Calls Tryz.prog 48 #[.pointer (some ⟨p,0,none⟩), .int .u64 q] w fun e w'=>(∃ S' A' B',e=.returned (foundV f n q)∧HS w' S' (A++A') (B++B')∧AskR eps q f n L A' B'∧∀ q,S' q→S q∨w.heap.size≤q)∧Gs S w w':=by
  obtain ⟨br,hbr⟩:∃ br,w.heap.size=br:=⟨_,rfl⟩
  have BR:Aside (w.heap.size=br):=hbr
  have G2:Aside (Gw w ((w.alloc (.cells #[.int .i64 0] 3)).alloc (.cells #[.bool false] 4))):=((Gw.refl w).alloc _ _).alloc _ _
  have z1:(w.alloc (.cells #[.int .i64 0] 3)).heap.size=br+1:=by rw [←hbr];simp
  have T2:Aside (FTz br (br+1) ((w.alloc (.cells #[.int .i64 0] 3)).alloc (.cells #[.bool false] 4)) (fun q=>q=br∨q=br+1) [] false):=by
    refine ⟨?_,?_,fun q=>Iff.rfl⟩
    · have:=heap_alloc_new w (.cells #[.int .i64 0] 3)
      rw [hbr] at this
      exact (heap_alloc_old _ _ (by omega)).trans this
    · have:=heap_alloc_new (w.alloc (.cells #[.int .i64 0] 3)) (.cells #[.bool false] 4)
      rw [z1] at this
      exact this
  have z2:((w.alloc (.cells #[.int .i64 0] 3)).alloc (.cells #[.bool false] 4)).heap.size=br+2:=by rw [←hbr];simp
  have Z2:Aside (br+2≤((w.alloc (.cells #[.int .i64 0] 3)).alloc (.cells #[.bool false] 4)).heap.size):=Nat.le_of_eq z2.symm
  have H2:Aside (HS ((w.alloc (.cells #[.int .i64 0] 3)).alloc (.cells #[.bool false] 4)) S A B):=D.grow h G2.out
  have SB:Aside (∀ q,S q→q<br):=fun q hq=>by have:=D.lt h q hq;omega
  have W0:Aside (w0.heap.size≤br):=by have:=(D.gw h).size;show _≤_;omega
  have RR:Aside (Ready eps f n L):=R
  have DN:Hid _:=fun (W:World) (hW:HS W S A B) (tW:FTz br (br+1) W (fun q=>q=br∨q=br+1) [] false) (dj:∀ q,(q=br∨q=br+1)→w0.heap.size≤q∧¬ S q)=>down_find_watch D M R (.pointer (some ⟨br,0,none⟩)) (.pointer (some ⟨br+1,0,none⟩)) (tellf_watch br (br+1) (by omega)) q q0 q1 hW tW dj la lb
  have DD:Aside (DSC 235 236 237 238 (.pointer (some ⟨p,0,none⟩)) w0 HS eps f n L):=D
  clear h D M R la lb z1 z2
  go_enter Tryz.func48,Tryz.ntmps48
  have dj:Aside (∀ q,(q=br∨q=br+1)→w0.heap.size≤q∧¬ S q):=fun q hq=>by
    have:=W0.out
    exact ⟨by omega,fun e=>by have:=SB.out q e;omega⟩
  go_wp2_with fail
  refine (DN.out _ H2.out T2.out dj.out).mono ?_
  clear DN T2 H2
  rintro e w3 ⟨rfl,⟨S3,X3,A3,B3,h3,k3,t3,s3,x3⟩,g3⟩
  have c1:=t3.r.cell
  have c2:=t3.t.cell
  have l1:=t3.r.lt
  have l2:=t3.t.lt
  have RES:Aside (∀ W,Gw w3 W→∃ S' A' B',HS W S' (A++A') (B++B')∧AskR eps q f n L A' B'∧∀ q,S' q→S q∨w.heap.size≤q):=fun W gW=>⟨S3,A3,B3,DD.out.grow h3 gW,k3,fun q hq=>by
    rcases s3 q hq with e | e
    · exact .inl e
    · exact .inr (by have:=Z2.out;rw [BR.out];omega)⟩
  have G3:Aside (Gs S w w3):=gs_trans9 (G2.out.gs S) g3 fun q hq=>by
    rcases hq with e | e
    · exact .inl e
    · exact .inr (by rw [BR.out];omega)
  obtain ⟨e1,e2⟩:=found_end (q:=q) RR.out
  rw [e1] at c1
  rw [e2] at c2
  have FV:Aside (foundV f n q=.tuple #[.int .i64 (cntb f q n:Nat), .bool (decide (cntb f q n<n∧f (cntb f q n)=q))]):=rfl
  generalize decide (cntb f q n<n∧f (cntb f q n)=q)=tt at c2 FV
  generalize cntb f q n=nn at c1 FV
  clear h3 k3 t3 s3 x3 g3 e1 e2 dj
  go_wp2_with fail
  first
    | (
       go_quiet (fail)
       go_wp2_with fail
       go_ret2
       obtain ⟨S',A',B',r1,r2,r3⟩:=RES.out _ ((Gw.refl w3).drewN _)
       exact ⟨⟨S',A',B',congrArg Ending.returned FV.out.symm,r1,r2,r3⟩,gs_trans9 G3.out (((Gw.refl w3).drewN _).gs (fun _=>False)) (fun q hq=>hq.elim)⟩)
    | (
       go_ret2
       obtain ⟨S',A',B',r1,r2,r3⟩:=RES.out w3 (Gw.refl w3)
       exact ⟨⟨S',A',B',congrArg Ending.returned FV.out.symm,r1,r2,r3⟩,G3.out⟩)
end Go.Proofs.YtinefkljjnepjabGreat
namespace Go.Proofs.YtinefkljjnepjabGreat
open Go.RowKit
set_option linter.unusedVariables false
attribute [local go_sem] run_store_float
def Box5 (b:Nat) (u:World) (s:Sg):Prop:=(put5 u b 0 s).cell? ⟨b,0,none⟩=some (.int .u64 s.k)∧(put5 u b 0 s).cell? ⟨b,1,none⟩=some (.float .f64 s.sl)∧(put5 u b 0 s).cell? ⟨b,2,none⟩=some (.float .f64 s.ic)∧(put5 u b 0 s).cell? ⟨b,3,none⟩=some (.int .i64 s.fr)∧(put5 u b 0 s).cell? ⟨b,4,none⟩=some (.int .i64 s.te)
theorem box5 {b:Nat} {u:World} {x0 x1 x2 x3 x4:Value} {t:TypeId} (h:u.heap[b]?=some (.cells #[x0,x1,x2,x3,x4] t (0,0))) (s:Sg):Box5 b u s:=by
  unfold Box5 put5
  refine ⟨?_,?_,?_,?_,?_⟩<;>simp [World.cell?,World.setCell,Array.getElem?_modify,h]
theorem two_cells {w:World} {p:Nat} {a b:Value} {t:TypeId} (h:w.heap[p]?=some (.cells #[a,b] t (0,0))):w.cell? ⟨p,0,none⟩=some a∧w.cell? ⟨p,1,none⟩=some b:=by
  refine ⟨?_,?_⟩<;>simp [World.cell?,h]
theorem HPile.gwd {w w':World} {p:Nat} {S:Nat→Prop} {eps:Int} {f:Nat→Int} {n:Nat} {L:List (List Sg)} (h:HPile w p S eps f n L) (g:Gw w w'):HPile w' p S eps f n L:=h.keep fun q hq=>g.below.block q (h.lt q hq)
structure WT (W:World) (p r:Nat) (S:Nat→Prop) (A:List (Int×Int)):Prop where
  blk:∃ va,W.heap[p]?=some (.cells #[.pointer (some ⟨r,0,none⟩),va] 90 (0,0))∧AR W va A∧va.ownBlock≠some p∧∀ q,S q↔q=p∨va.ownBlock=some q
theorem WT.lt {W:World} {p r:Nat} {S:Nat→Prop} {A:List (Int×Int)} (h:WT W p r S A):∀ q,S q→q<W.heap.size:=by
  obtain ⟨va,h1,h2,_,h4⟩:=h.blk
  intro q hq
  rcases (h4 q).1 hq with rfl | e
  · exact (Array.getElem?_eq_some_iff.1 h1).1
  · exact ar_lt h2 q e
theorem WT.keep {W W':World} {p r:Nat} {S:Nat→Prop} {A:List (Int×Int)} (h:WT W p r S A) (k:∀ q,S q→W'.heap[q]?=W.heap[q]?):WT W' p r S A:=by
  obtain ⟨va,h1,h2,h3,h4⟩:=h.blk
  exact ⟨va,(k p ((h4 p).2 (.inl rfl))).trans h1,ar_keep h2 fun q hq=>k q ((h4 q).2 (.inr hq)),h3,h4⟩
def WS (w0:World) (p r:Nat) (W:World) (S:Nat→Prop) (A B:List (Int×Int)):Prop:=Gw w0 W∧(∀ q,S q→w0.heap.size≤q)∧WT W p r S A
theorem wt_set1 {w:World} {p:Nat} {a b:Value} {t:TypeId} (h:w.heap[p]?=some (.cells #[a,b] t (0,0))) (u:Value):(w.setCell ⟨p,1,none⟩ u).heap[p]?=some (.cells #[a,u] t (0,0)):=by simp [World.setCell,Array.getElem?_modify,h]
theorem WT.asked {w w7:World} {p r:Nat} {S:Nat→Prop} {A:List (Int×Int)} {va v':Value} {x:Int×Int} {oc:Array Value} {ot:TypeId} (h1:w.heap[p]?=some (.cells #[.pointer (some ⟨r,0,none⟩),va] 90 (0,0))) (h4:va.ownBlock≠some p) (h7:∀ q,S q↔q=p∨va.ownBlock=some q) (r1:w7.ownsRow 0 102 2 v' (A.length+1) (A.flatMap pr2++pr2 x)) (r2:(w.alloc (.cells oc ot)).grownBy w7 va.ownBlock) (r4:v'.ownBlock=va.ownBlock∨v'.ownBlock=some (w.heap.size+1)) :
    (w7.heap[p]?=some (.cells #[.pointer (some ⟨r,0,none⟩),va] 90 (0,0)))∧WT (w7.setCell ⟨p,1,none⟩ v') p r (fun q=>q=p∨v'.ownBlock=some q) (A++[x])∧(∀ q,(q=p∨v'.ownBlock=some q)→S q∨w.heap.size≤q)∧Gs S w (w7.setCell ⟨p,1,none⟩ v'):=by
  have pl:p<w.heap.size:=(Array.getElem?_eq_some_iff.1 h1).1
  have keep:∀ q,q<w.heap.size→va.ownBlock≠some q→w7.heap[q]?=w.heap[q]?:=fun q hq hn=>(r2.block q (by simp;omega) (fun e=>hn e.symm)).trans (heap_alloc_old w _ hq)
  have p7:=(keep p pl h4).trans h1
  have vp:v'.ownBlock≠some p:=by
    rcases r4 with r | r
    · rw [r];exact h4
    · rw [r];intro e;have:w.heap.size+1=p:=by simpa using e
      omega
  refine ⟨p7,⟨v',wt_set1 p7 v',?_,vp,fun q=>Iff.rfl⟩,?_,?_⟩
  · have:AR w7 v' (A++[x]):=by
      show World.ownsRow _ _ _ _ _ _ _
      rw [List.length_append,pflat_one]
      exact r1
    exact ar_keep this fun q hq=>Go.Deep.blk_setCell_other _ _ _ _ (fun e=>vp (by have e':q=p:=e;rw [←e'];exact hq))
  · rintro q (e | e)
    · exact .inl ((h7 q).2 (.inl e))
    · rcases r4 with r | r
      · rw [r] at e;exact .inl ((h7 q).2 (.inr e))
      · rw [r] at e;have:w.heap.size+1=q:=by simpa using e
        exact .inr (by omega)
  · refine ⟨r2.os,r2.tape,r2.output,?_,fun q hq hs=>?_⟩
    · have:=r2.size;simp at this ⊢;omega
    · exact (Go.Deep.blk_setCell_other _ _ _ _ (fun e=>hs ((h7 q).2 (.inl e)))).trans (keep q hq (fun e=>hs ((h7 q).2 (.inr e))))
set_option maxRecDepth 10000 in
set_option maxHeartbeats 4000000 in
theorem wt_key {w0 w:World} {p r pp:Nat} {S Sp:Nat→Prop} {eps:Int} {f:Nat→Int} {n:Nat} {L:List (List Sg)} {A B:List (Int×Int)} (c:w0.cell? ⟨r,0,none⟩=some (.pointer (some ⟨pp,0,none⟩))) (rl:r<w0.heap.size) (hp:HPile w0 pp Sp eps f n L) (h:WS w0 p r w S A B) (la:A.length≤2000000000) (a sl:Nat) (ha:a≤L.length) (hs:sl<rowN n L a) :
    Calls Tryz.prog 237 #[.pointer (some ⟨p,0,none⟩), .int .i64 (a:Int), .int .i64 (sl:Int)] w fun e w'=>(∃ S',e=.returned (.int .u64 (rowF f L a sl))∧WS w0 p r w' S' (A++[((a:Int),(sl:Int))]) B∧∀ q,S' q→S q∨w.heap.size≤q)∧Gs S w w':=by
  have n1:=hp.n1
  have s1:=hp.sh
  have sl1:(sl:Int)<9223372036854775808:=by
    have:rowN n L a≤2000000:=by
      unfold rowN
      by_cases z:a=0
      · rw [if_pos z];exact n1
      · rw [if_neg z];exact s1.2 _ (by omega)
    omega
  have ek:keyV f n L (a:Int) (sl:Int)=rowF f L a sl:=by
    unfold keyV
    rw [if_pos ⟨⟨by omega,by omega⟩,by omega,by simpa using hs⟩]
    simp
  have KY:Hid (∀ W,Gw w0 W→Calls Tryz.prog 230 #[.pointer (some ⟨pp,0,none⟩), .int .i64 (a:Int), .int .i64 (sl:Int)] W fun e w'=>e=.returned (.int .u64 (rowF f L a sl))∧Gw W w'):=fun W gg=>by
    have:=pl_key (hp.gwd gg) (a:Int) (sl:Int) (by omega) (by have:=s1.1;omega) (by omega) sl1
    rw [ek] at this
    exact this
  obtain ⟨g0,hS,wt⟩:=h
  obtain ⟨va,h1,h2,h4,h7⟩:=wt.blk
  obtain ⟨c0,c1⟩:=two_cells h1
  have f1:w.frozen? ⟨p,1,none⟩=false:=by simp [World.frozen?,h1]
  have pl:p<w.heap.size:=(Array.getElem?_eq_some_iff.1 h1).1
  obtain ⟨ii,hii,hz,hs',hby⟩:=info_parts info_p2
  have A2:Aside ((w.alloc (.cells #[.int .i64 (a:Int), .int .i64 (sl:Int)] 102)).ownsRow 0 102 2 va A.length (A.flatMap pr2)):=World.ownsRow.alloc h2 _
  have NW:Aside (∀ j u,(pr2 ((a:Int),(sl:Int)))[j]?=some u→(w.alloc (.cells #[.int .i64 (a:Int), .int .i64 (sl:Int)] 102)).cell? ((⟨w.heap.size,0,none⟩:Addr).add j)=some u):=World.news_of_block (heap_alloc_new w _)
  have H1:Aside (w.heap[p]?=some (.cells #[.pointer (some ⟨r,0,none⟩),va] 90 (0,0))):=h1
  have H4:Aside (va.ownBlock≠some p):=h4
  have H7:Aside (∀ q,S q↔q=p∨va.ownBlock=some q):=h7
  have HS:Aside (∀ q,S q→w0.heap.size≤q):=hS
  have G0:Aside (Gw w0 w):=g0
  have LA:Aside (A.length≤2000000000):=la
  have CR:Aside (w0.cell? ⟨r,0,none⟩=some (.pointer (some ⟨pp,0,none⟩))∧r<w0.heap.size):=⟨c,rl⟩
  clear h1 h2 h4 h7 hS g0 la wt hp hs n1 s1 ek ha sl1 c rl
  go_enter Tryz.func237,Tryz.ntmps237
  go_wp2_with (at_builtin;refine wpList_append_own_at _ rfl _ _ 88 rfl 0 102 ii (.agg #[.int .i64 0, .int .i64 0]) 2 16 Tryz.underlying88 hii hz hs' hby rfl (by decide) _ A.length _ rfl A2.out ⟨w.heap.size,0,none⟩ 1 1 (pr2 ((a:Int),(sl:Int))) rfl rfl NW.out (pr2_one _) (by have:=LA.out;simp only [maxLen];omega) (by have:=LA.out;omega) (by simp) ?_)
  intro v' w7 r1 r2 r3 r4
  obtain ⟨vb8,vc8,ev⟩:∃ b c,v'=.slice (some ⟨b,0,none⟩) (A.length+1) c:=by
    rcases r1.2 with ⟨_,z⟩ | ⟨b,cap,cur,e,_⟩
    · omega
    · exact ⟨b,cap,e⟩
  obtain ⟨p7,WT8,SU8,GS8⟩:=WT.asked H1.out H4.out H7.out r1 r2 (by simpa using r4)
  have d1:=(two_cells p7).2
  have g1:w7.frozen? ⟨p,1,none⟩=false:=by simp [World.frozen?,p7]
  have pl7:p<w7.heap.size:=(Array.getElem?_eq_some_iff.1 p7).1
  have b8:=wt_set1 p7 v'
  obtain ⟨w8,hw8⟩:∃ w8,w7.setCell ⟨p,1,none⟩ v'=w8:=⟨_,rfl⟩
  rw [hw8] at WT8 GS8 b8
  obtain ⟨k0,_⟩:=two_cells b8
  have pl8:p<w8.heap.size:=(Array.getElem?_eq_some_iff.1 b8).1
  have G8:Aside (Gw w0 w8):=gs_gwd G0.out GS8 HS.out
  have k1:w8.cell? ⟨r,0,none⟩=some (.pointer (some ⟨pp,0,none⟩)):=(G8.out.cell _ _ CR.out.2).trans CR.out.1
  have rl8:r<w8.heap.size:=Nat.lt_of_lt_of_le CR.out.2 G8.out.size
  have W8:Aside (WT w8 p r (fun q=>q=p∨v'.ownBlock=some q) (A++[((a:Int),(sl:Int))])):=WT8
  have S8:Aside ((∀ q,(q=p∨v'.ownBlock=some q)→S q∨w.heap.size≤q)∧Gs S w w8):=⟨SU8,GS8⟩
  have GE:Aside (∀ q,(q=p∨v'.ownBlock=some q)→w0.heap.size≤q):=fun q hq=>by
    rcases SU8 q hq with e | e
    · exact HS.out q e
    · exact Nat.le_trans G0.out.size e
  clear r1 r2 r3 r4 WT8 SU8 GS8 p7 A2 NW b8 c0 c1 f1
  subst ev
  go_wp2_with fail
  refine Calls.mono (KY.out _ G8.out) ?_
  rintro e u1 ⟨rfl,gg⟩
  have RES:Aside ((∃ S',WS w0 p r u1 S' (A++[((a:Int),(sl:Int))]) B∧∀ q,S' q→S q∨w.heap.size≤q)∧Gs S w u1) :=
    ⟨⟨_,⟨G8.out.trans gg,GE.out,W8.out.keep fun q hq=>gg.below.block q (W8.out.lt q hq)⟩,S8.out.1⟩,gs_trans9 S8.out.2 (gg.gs S) fun q hq=>.inl hq⟩
  clear gg KY k0 k1 rl8 pl8 d1 g1
  go_wp2_with fail
  go_ret
  obtain ⟨⟨S',x1,x2⟩,x3⟩:=RES.out
  exact ⟨⟨S',rfl,x1,x2⟩,x3⟩
set_option maxRecDepth 10000 in
set_option maxHeartbeats 4000000 in
theorem wt_seg {w:World} {p r pp:Nat} {x:Value} {ty:TypeId} {Sp:Nat→Prop} {eps:Int} {f:Nat→Int} {n:Nat} {L:List (List Sg)} (c:w.cell? ⟨r,0,none⟩=some (.pointer (some ⟨pp,0,none⟩))) (rl:r<w.heap.size) (hp:HPile w pp Sp eps f n L) (h:w.heap[p]?=some (.cells #[.pointer (some ⟨r,0,none⟩),x] ty (0,0))) (lv sl:Int) (l0:-9223372036854775808≤lv) (l1:lv<9223372036854775808) (s0:-9223372036854775808≤sl) (s1:sl<9223372036854775808) :
    Calls Tryz.prog 238 #[.pointer (some ⟨p,0,none⟩), .int .i64 lv, .int .i64 sl] w fun e w'=>e=.returned (sgV (segW L lv sl))∧Gw w w':=by
  obtain ⟨⟨k,sp,ic,fr,te⟩,hsg⟩:∃ s,segW L lv sl=s:=⟨_,rfl⟩
  have SE:Hid (∀ W,Gw w W→Calls Tryz.prog 103 #[.pointer (some ⟨pp,0,none⟩), .int .i64 lv, .int .i64 sl] W fun e w'=>e=.returned (.agg #[.int .u64 k, .float .f64 sp, .float .f64 ic, .int .i64 fr, .int .i64 te])∧Gw W w'):=fun W gg=>by
    have:=pl_seg (hp.gwd gg) lv sl l0 l1 s0 s1
    rw [hsg] at this
    exact this
  rw [hsg]
  obtain ⟨c0,_⟩:=two_cells h
  have pl:p<w.heap.size:=(Array.getElem?_eq_some_iff.1 h).1
  have ga:Gw w (w.alloc (.cells #[.int .u64 0, .float .f64 0, .float .f64 0, .int .i64 0, .int .i64 0] 100)):=(Gw.refl w).alloc _ _
  have c0':(w.alloc (.cells #[.int .u64 0, .float .f64 0, .float .f64 0, .int .i64 0, .int .i64 0] 100)).cell? ⟨p,0,none⟩=some (.pointer (some ⟨r,0,none⟩)):=(ga.cell _ _ pl).trans c0
  have c':(w.alloc (.cells #[.int .u64 0, .float .f64 0, .float .f64 0, .int .i64 0, .int .i64 0] 100)).cell? ⟨r,0,none⟩=some (.pointer (some ⟨pp,0,none⟩)):=(ga.cell _ _ rl).trans c
  have GA:Aside (Gw w (w.alloc (.cells #[.int .u64 0, .float .f64 0, .float .f64 0, .int .i64 0, .int .i64 0] 100))):=ga
  show Calls _ _ _ _ fun e w'=>e=.returned (.agg #[.int .u64 k, .float .f64 sp, .float .f64 ic, .int .i64 fr, .int .i64 te])∧Gw w w'
  clear hp hsg h ga
  go_enter Tryz.func238,Tryz.ntmps238
  go_wp2_with fail
  refine Calls.mono (SE.out _ GA.out) ?_
  rintro e u1 ⟨rfl,gg⟩
  have GG:Aside (Gw w u1):=GA.out.trans gg
  have NB:Hid (u1.heap[w.heap.size]?=some (.cells #[.int .u64 0, .float .f64 0, .float .f64 0, .int .i64 0, .int .i64 0] 100 (0,0))):=(gg.below.block _ (by simp)).trans (heap_alloc_new _ _)
  obtain ⟨bq,hbq⟩:∃ b,w.heap.size=b:=⟨_,rfl⟩
  have BQ:Aside (w.heap.size=bq):=hbq
  rw [hbq] at NB
  have m0:u1.cell? ⟨bq,0,none⟩=some (.int .u64 0):=by simp [World.cell?,NB.out]
  have m1:u1.cell? ⟨bq,1,none⟩=some (.float .f64 0):=by simp [World.cell?,NB.out]
  have m2:u1.cell? ⟨bq,2,none⟩=some (.float .f64 0):=by simp [World.cell?,NB.out]
  have m3:u1.cell? ⟨bq,3,none⟩=some (.int .i64 0):=by simp [World.cell?,NB.out]
  have m4:u1.cell? ⟨bq,4,none⟩=some (.int .i64 0):=by simp [World.cell?,NB.out]
  have z0:u1.frozen? ⟨bq,0,none⟩=false:=by simp [World.frozen?,NB.out]
  have z1:u1.frozen? ⟨bq,1,none⟩=false:=by simp [World.frozen?,NB.out]
  have z2:u1.frozen? ⟨bq,2,none⟩=false:=by simp [World.frozen?,NB.out]
  have z3:u1.frozen? ⟨bq,3,none⟩=false:=by simp [World.frozen?,NB.out]
  have z4:u1.frozen? ⟨bq,4,none⟩=false:=by simp [World.frozen?,NB.out]
  have bl:bq<u1.heap.size:=(Array.getElem?_eq_some_iff.1 NB.out).1
  obtain ⟨y0,y1,y2,y3,y4⟩:=box5 NB.out ⟨k,sp,ic,fr,te⟩
  simp only [put5,Nat.zero_add] at y0 y1 y2 y3 y4
  clear gg SE c0 c0' c' c pl rl GA
  go_wp2_with fail
  exact bodyPost_ret (v:=.agg #[.int .u64 k, .float .f64 sp, .float .f64 ic, .int .i64 fr, .int .i64 te]) (by simp [results,Tryz.results238,go_sem,y0,y1,y2,y3,y4]) rfl ⟨rfl,put5_gw (o:=0) (s:=⟨k,sp,ic,fr,te⟩) GG.out (Nat.le_of_eq BQ.out)⟩
theorem wt_eps {w:World} {p r pp:Nat} {x:Value} {ty:TypeId} {Sp:Nat→Prop} {eps:Int} {f:Nat→Int} {n:Nat} {L:List (List Sg)} (c:w.cell? ⟨r,0,none⟩=some (.pointer (some ⟨pp,0,none⟩))) (hp:HPile w pp Sp eps f n L) (h:w.heap[p]?=some (.cells #[.pointer (some ⟨r,0,none⟩),x] ty (0,0))) :
    Calls Tryz.prog 235 #[.pointer (some ⟨p,0,none⟩)] w fun e w'=>e=.returned (.int .i64 eps)∧w'=w:=by
  obtain ⟨c0,_⟩:=two_cells h
  have CC:Hid (Calls Tryz.prog 26 #[.pointer (some ⟨pp,0,none⟩)] w fun e w'=>e=.returned (.int .i64 eps)∧w'=w):=pl_eps hp
  clear hp h
  go_enter Tryz.func235,Tryz.ntmps235
  go_wp2_with fail
  refine Calls.mono CC.out ?_
  rintro e w1 ⟨rfl,rfl⟩
  clear CC
  go_wp2_with fail
  go_ret
  exact ⟨rfl,rfl⟩
theorem wt_height {w:World} {p r pp:Nat} {x:Value} {ty:TypeId} {Sp:Nat→Prop} {eps:Int} {f:Nat→Int} {n:Nat} {L:List (List Sg)} (c:w.cell? ⟨r,0,none⟩=some (.pointer (some ⟨pp,0,none⟩))) (hp:HPile w pp Sp eps f n L) (h:w.heap[p]?=some (.cells #[.pointer (some ⟨r,0,none⟩),x] ty (0,0))) :
    Calls Tryz.prog 236 #[.pointer (some ⟨p,0,none⟩)] w fun e w'=>e=.returned (.int .i64 (L.length:Int))∧w'=w:=by
  obtain ⟨c0,_⟩:=two_cells h
  have CC:Hid (Calls Tryz.prog 28 #[.pointer (some ⟨pp,0,none⟩)] w fun e w'=>e=.returned (.int .i64 (L.length:Int))∧w'=w):=pl_height hp
  clear hp h
  go_enter Tryz.func236,Tryz.ntmps236
  go_wp2_with fail
  refine Calls.mono CC.out ?_
  rintro e w1 ⟨rfl,rfl⟩
  clear CC
  go_wp2_with fail
  go_ret
  exact ⟨rfl,rfl⟩
theorem dsc_watch {w0:World} {p r pp:Nat} {Sp:Nat→Prop} {eps:Int} {f:Nat→Int} {n:Nat} {L:List (List Sg)} (c:w0.cell? ⟨r,0,none⟩=some (.pointer (some ⟨pp,0,none⟩))) (rl:r<w0.heap.size) (hp:HPile w0 pp Sp eps f n L):DSC 235 236 237 238 (.pointer (some ⟨p,0,none⟩)) w0 (WS w0 p r) eps f n L where
  gw x:=x.1
  ge x:=x.2.1
  lt x:=x.2.2.lt
  keep x g k:=⟨g,x.2.1,x.2.2.keep k⟩
  sok:=by
    obtain ⟨ko,kc,lo,lc,_,_,hv⟩:=hp.opened
    exact vs_ok hv
  eps x:=by
    obtain ⟨va,h1,_⟩:=x.2.2.blk
    exact wt_eps ((x.1.cell _ _ rl).trans c) (hp.gwd x.1) h1
  height x:=by
    obtain ⟨va,h1,_⟩:=x.2.2.blk
    exact wt_height ((x.1.cell _ _ rl).trans c) (hp.gwd x.1) h1
  key {w1 S1 A B} x la a sl ha hs:=wt_key c rl hp x la a sl ha hs
  seg {w1 S1 A B} x lb a sl ha hs:=by
    have s1:=hp.sh
    have:=s1.2 a ha
    have e:segW L ((a:Int)+1) (sl:Int)=(L.getD a []).getD sl sg0:=by
      unfold segW
      rw [show ((a:Int)+1).toNat-1=a by omega,if_pos ⟨⟨by omega,by omega⟩,by omega,by omega⟩]
      simp
    obtain ⟨va,h1,_⟩:=x.2.2.blk
    refine (wt_seg ((x.1.cell _ _ rl).trans c) (Nat.lt_of_lt_of_le rl x.1.size) (hp.gwd x.1) h1 ((a:Int)+1) (sl:Int) (by omega) (by have:=s1.1;omega) (by omega) (by omega)).mono ?_
    rintro ex w2 ⟨rfl,g2⟩
    rw [e]
    exact ⟨⟨S1,rfl,⟨x.1.trans g2,x.2.1,x.2.2.keep fun q hq=>g2.below.block q (x.2.2.lt q hq)⟩,fun q hq=>.inl hq⟩,g2.gs _⟩
end Go.Proofs.YtinefkljjnepjabGreat
namespace Go.Proofs.YtinefkljjnepjabGreat
open Go.RowKit
set_option linter.unusedVariables false
attribute [local go_sem] run_store_float f64bits
structure Bxs (W0:World) (l:List (Nat×Array Value×TypeId)) (W:World):Prop where
  gw0:Gw W0 W
  lie:∀ x∈l,W.heap[x.1]?=some (.cells x.2.1 x.2.2 (0,0))
theorem Bxs.nil {W0 W:World} (g:Gw W0 W):Bxs W0 [] W:=⟨g,fun x h=>by cases h⟩
theorem Bxs.gw {W0 W W':World} {l:List (Nat×Array Value×TypeId)} (h:Bxs W0 l W) (g:Gw W W'):Bxs W0 l W' :=
  ⟨h.gw0.trans g,fun x hx=>(g.below.block x.1 (Array.getElem?_eq_some_iff.1 (h.lie x hx)).1).trans (h.lie x hx)⟩
theorem Bxs.add {W0 W:World} {l:List (Nat×Array Value×TypeId)} (h:Bxs W0 l W) (c:Array Value) (t:TypeId):Bxs W0 ((W.heap.size,c,t)::l) (W.alloc (.cells c t)) :=
  ⟨h.gw0.alloc _ _,fun x hx=>by
    rcases List.mem_cons.1 hx with rfl | hx
    · exact heap_alloc_new W _
    · exact (h.gw ((Gw.refl W).alloc c t)).lie x hx⟩
theorem Bxs.cell {W0 W:World} {l:List (Nat×Array Value×TypeId)} (h:Bxs W0 l W) {b:Nat} {c:Array Value} {t:TypeId} (m:(b,c,t)∈l) {i:Nat} {v:Value} (hv:c[i]?=some v):W.cell? ⟨b,i,none⟩=some v:=by
  have:=h.lie _ m
  simp [World.cell?,this,hv]
theorem Ready.up {eps:Int} {f:Nat→Int} {n:Nat} {L:List (List Sg)} (h:Ready eps f n L):Up f n:=by
  by_cases c:L.length=0
  · have:=h.z.1 c
    subst this
    exact fun j hj=>by omega
  · exact (h.lv.lvl 0 (by omega)).up
end Go.Proofs.YtinefkljjnepjabGreat
namespace Go.Proofs.YtinefkljjnepjabGreat
open Go.RowKit
set_option linter.unusedVariables false
attribute [local go_sem] run_store_float
end Go.Proofs.YtinefkljjnepjabGreat
