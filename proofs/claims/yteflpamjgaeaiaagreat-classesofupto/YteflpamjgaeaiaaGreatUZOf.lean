/- Package probe: Of. -/
import Derived.Test.YteflpamjgaeaiaaGreatUZPile
import Derived.Test.YteflpamjgaeaiaaGreatUPY2
set_option linter.unusedVariables false
set_option maxHeartbeats 4000000
set_option maxRecDepth 10000
open Go.Proofs.Tryz
namespace Go.Proofs.YteflpamjgaeaiaaGreat
open Go.RowKit
theorem step_append_v {P:Program} (w:World) {ops:Array Oper} {o:Oper} {a:Act} {K:Act->World->Prop} {Q:Exit->Act->World->Prop} {E:Prop} (hgd:o.guard=none) (s x:Operand) (t:TypeId)
  (ho:o.op=.call { callee:=.builtin .append,args:=#[s,x],argTypes:=#[t,t] })
  (base:Nat) (e:TypeId) (i:TypeInfo) (z:Value) (size bytes:Nat) (ht:P.underlying t=some (.slice e)) (hi:P.info? e=some i) (hz:i.zero=some z)
  (hsize:i.size=size) (hby:i.bytes=bytes) (hzs:z.cells.size=size) (hsz:0<size)
  (v:Value) (n:Nat) (xs:List Value) (hs:a.eval s=v) (hown:w.ownsRow base e size v n xs)
  (ad:Addr) (m c:Nat) (news:List Value) (hx:a.eval x=.slice (some ad) m c) (hl:news.length=m*size) (hnews:∀ j u,news[j]?=some u->w.cell? (ad.add j)=some u) (h1:∀ u∈news,u.oneCell'=true)
  (h63:n+m<=maxLen) (hbytes:(n+m)*bytes<=140737488355328) (hbase:base<=w.heap.size)
  (h:∀ v' w',w'.ownsRow base e size v' (n+m) (xs++news)->w.grownBy w' v.ownBlock->(v'=.slice none 0 0↔v=.slice none 0 0/\m=0)->(v'.ownBlock=v.ownBlock\/v'.ownBlock=some w.heap.size)->K (a.put o.dst v') w') :
  if Region.wanted o (yielded ops a.tmps)=true then Oper.wp P o a w K Q else E:=by
 have hw:Region.wanted o (yielded ops a.tmps)=true:=by simp [Region.wanted,hgd]
 rw [if_pos hw];obtain ⟨v',w',hr,h2,h3,h4,h5⟩:=run_append_own_at (P:=P) w base t o.type e i z size bytes ht hi hz hsize hby hzs hsz v n xs hown ad m c news hl hnews h1 h63 hbytes hbase;unfold Oper.wp execOp;simp only [ho,resolve,invoke,builtin,Sem.run_bind,Sem.run_pure,Result.andThen_ok,List.map_toArray,List.map_cons,List.map_nil,hs,hx,hr];exact h v' w' h2 h3 h4 h5
theorem set_pl2 {w:World} {b:Nat} {x y z:Value} {t:TypeId} (h:w.heap[b]?=some (.cells #[x,y,z] t (0,0))) (u:Value):(w.setCell ⟨b,2,none⟩ u).heap[b]?=some (.cells #[x,y,u] t (0,0)):=by simp [World.setCell,Array.getElem?_modify,h]
theorem clone_k {w:World} {ao:Option Addr} {n cp:Nat} {f:Nat->Int} (h:KS w ao n f) (hn:n<=2000000) :
  Calls prog 155 #[.slice ao n cp] w fun e w'=>(∃ bo c,e=.returned (.slice bo n c)/\KS w' bo n f/\n<=c/\∀ a,bo=some a->w.heap.size<=a.block)/\Gw w w':=by
 cases ao with
 | none =>
  have n0:n=0:=by
   rcases Nat.eq_zero_or_pos n with e | e
   ·exact e
   ·obtain ⟨b,off,e',_⟩:=h.cells e;cases e'
  subst n0;have HK:Aside _:=h;clear h;have hq:∀ W:World,(binOp .eql 112 (.slice none 0 cp) (.slice none 0 0)).run prog W=.ok (.bool true) W:=fun _=>by kernel_rfl
  go_enter func155,ntmps155;go_wp2_with fail;go_ret;exact ⟨⟨none,0,rfl,HK.out,Nat.le_refl _,fun a e=>by cases e⟩,Gw.refl w⟩
 | some ad =>
  have OW:Hid (∀ x,(some ad:Option Addr)=some x->∀ j u,((List.range n).map fun j=>Value.int .u64 (f j))[j]?=some u->(w.alloc (.cells #[] 34)).cell? (x.add j)=some u):=by
   intro x e j u hu;cases e;have hj:j<n:=by
    have:=(List.getElem?_eq_some_iff.1 hu).1
    simpa using this
   obtain ⟨b,off,e',hb,hc⟩:=h.cells (by omega)
   cases e'
   rw [Addr.add_lit];refine (((Gw.refl w).alloc _ _).cell _ _ hb).trans ((hc j hj).trans ?_);simpa [hj] using hu
  have O0:Hid ((w.alloc (.cells #[] 34)).ownsRow w.heap.size 34 1 (.slice (some ⟨w.heap.size,0,none⟩) 0 0) 0 []):=World.ownsRow_made w #[] 0 (Nat.le_refl _) (Nat.zero_le _) rfl;obtain ⟨ii,hii,hz,hs,hby⟩:=info_parts info_k;have BD:Aside _:=h.bd;have NL:Aside (((List.range n).map fun j=>Value.int .u64 (f j)).length=n*1):=by show _=_;simp
  have N1:Aside (∀ u∈((List.range n).map fun j=>Value.int .u64 (f j)),u.oneCell'=true):=by
   intro u hu;obtain ⟨j,_,rfl⟩:=List.mem_map.1 hu;rfl
  clear h;have hq:∀ W:World,(binOp .eql 112 (.slice (some ad) n cp) (.slice none 0 0)).run prog W=.ok (.bool false) W:=fun _=>by kernel_rfl
  go_enter func155,ntmps155;go_wp2_with (at_builtin;refine wpList_append_src _ rfl _ _ 112 rfl w.heap.size 34 ii (.int .u64 0) 1 8 underlying112 hii hz hs hby rfl (by decide) _ 0 [] rfl O0.out (some ad) n cp ((List.range n).map fun j=>Value.int .u64 (f j)) rfl (fun q=>by cases q) NL.out OW.out N1.out (by simp only [maxLen];omega) (by omega) (by simp) ?_)
  intro v' w7 q1 q2 q3;have G7:Aside (Gw w w7):=((Gw.refl w).alloc _ _).grown q2 (fun k hk=>by cases hk;exact Nat.le_refl _)
  have FM:∃ bo c,v'=.slice bo n c/\KS w7 bo n f/\n<=c/\∀ a,bo=some a->w.heap.size<=a.block:=by
   have q1':w7.ownsRow w.heap.size 34 1 v' n ((List.range n).map fun j=>Value.int .u64 (f j)):=by simpa using q1
   rcases q1'.2 with ⟨e,z⟩ | ⟨g,cap,cur,e,hb,hh,hc,_⟩
   ·subst z
    exact ⟨none,0,e,⟨fun h0=>by omega,BD.out⟩,Nat.le_refl _,fun a q=>by cases q⟩
   ·subst e
    exact ⟨some ⟨g,0,none⟩,cap,rfl,ks_own q1' (Nat.le_refl _) (fun j hj=>by simp [hj]) BD.out,hc,fun a q=>by cases q;exact hb⟩
  obtain ⟨bo,c,rfl,r1,r2,r3⟩:=FM;have RES:Aside (KS w7 bo n f/\n<=c/\∀ a,bo=some a->w.heap.size<=a.block):=⟨r1,r2,r3⟩;clear q1 q2 q3 hii hz hs hby r1 r2 r3;go_wp2_with fail;go_ret;exact ⟨⟨bo,c,rfl,RES.out⟩,G7.out⟩
theorem clone_g {w:World} {ao:Option Addr} {cp:Nat} {l:List Sg} (h:GS w ao l) (hn:l.length<=2000000) :
  Calls prog 156 #[.slice ao l.length cp] w fun e w'=>(∃ bo c,e=.returned (.slice bo l.length c)/\SR w' w.heap.size (.slice bo l.length c) l)/\Gw w w':=by
 cases ao with
 | none =>
  have n0:l.length=0:=by
   rcases Nat.eq_zero_or_pos l.length with e | e
   ·exact e
   ·obtain ⟨b,off,e',_⟩:=h.cells e;cases e'
  have l0:l=[]:=List.eq_nil_of_length_eq_zero n0;subst l0;clear h n0;show Calls _ _ #[.slice none 0 cp] _ _;have hq:∀ W:World,(binOp .eql 174 (.slice none 0 cp) (.slice none 0 0)).run prog W=.ok (.bool true) W:=fun _=>by kernel_rfl
  go_enter func156,ntmps156;go_wp2_with fail;go_ret;exact ⟨⟨none,0,rfl,World.ownsRow_nil _ _ _ _⟩,Gw.refl w⟩
 | some ad =>
  have OW:Hid (∀ x,(some ad:Option Addr)=some x->∀ j u,(l.flatMap sgc)[j]?=some u->(w.alloc (.cells #[] 177)).cell? (x.add j)=some u):=by
   intro x e j u hu;cases e;have hj:j<l.length*5:=by
    have:=(List.getElem?_eq_some_iff.1 hu).1
    rw [flat_len] at this;exact this
   obtain ⟨b,off,e',hb,hc⟩:=gs_flat h (by omega)
   cases e'
   rw [Addr.add_lit];refine (((Gw.refl w).alloc _ _).cell _ _ hb).trans ((hc j hj).trans ?_);rw [<-flc_get l j hj];exact hu
  have O0:Hid ((w.alloc (.cells #[] 177)).ownsRow w.heap.size 177 5 (.slice (some ⟨w.heap.size,0,none⟩) 0 0) 0 []):=World.ownsRow_made w #[] 0 (Nat.le_refl _) (Nat.zero_le _) rfl;obtain ⟨ii,hii,hz,hs,hby⟩:=info_parts info_sg;have NL:Aside _:=flat_len l;have N1:Aside (∀ u∈l.flatMap sgc,u.oneCell'=true):=by
   intro u hu;obtain ⟨s,-,hs⟩:=List.mem_flatMap.1 hu;exact sgc_one s u hs
  clear h;obtain ⟨n,hln⟩:∃ n,l.length=n:=⟨_,rfl⟩;have LN:Aside _:=hln;rw [hln] at hn NL ⊢;clear hln;have hq:∀ W:World,(binOp .eql 174 (.slice (some ad) n cp) (.slice none 0 0)).run prog W=.ok (.bool false) W:=fun _=>by kernel_rfl
  go_enter func156,ntmps156;go_wp2_with (at_builtin;refine wpList_append_src _ rfl _ _ 174 rfl w.heap.size 177 ii (.agg #[.int .u64 0,.float .f64 0,.float .f64 0,.int .i64 0,.int .i64 0]) 5 40 underlying174 hii hz hs hby rfl (by decide) _ 0 [] rfl O0.out (some ad) n cp (l.flatMap sgc) rfl (fun q=>by cases q) NL.out OW.out N1.out (by simp only [maxLen];omega) (by omega) (by simp) ?_)
  intro v' w7 q1 q2 q3;have G7:Aside (Gw w w7):=((Gw.refl w).alloc _ _).grown q2 (fun k hk=>by cases hk;exact Nat.le_refl _)
  have FM:∃ bo c,v'=.slice bo n c/\SR w7 w.heap.size (.slice bo n c) l:=by
   have q1':w7.ownsRow w.heap.size 177 5 v' n (l.flatMap sgc):=by simpa using q1
   have q2':SR w7 w.heap.size v' l:=by show World.ownsRow _ _ _ _ _ _ _;rw [LN.out];exact q1'
   rcases q1'.2 with ⟨e,z⟩ | ⟨g,cap,cur,e,hb,hh,hc,_⟩
   ·subst z
    exact ⟨none,0,e,by rw [<-e];exact q2'⟩
   ·subst e
    exact ⟨some ⟨g,0,none⟩,cap,rfl,q2'⟩
  obtain ⟨bo,c,rfl,r1⟩:=FM;have RES:Aside _:=r1;clear q1 q2 q3 hii hz hs hby r1;go_wp2_with fail;go_ret;exact ⟨⟨bo,c,rfl,RES.out⟩,G7.out⟩
theorem of9 (M:ModelC) (eps:Int) (ao:Option Addr) (n cp:Nat) (f:Nat->Int) (lo:Option Addr) (lc:Nat) (L:List (List Sg)) (e0:-9223372036854775808<=eps) (e1:eps<9223372036854775808) (hn:n<=2000000) (hcp:n<=cp) (hS:Short L) (hlc:L.length<=lc) (w:World) (hk:KS w ao n f) (hv:VS w lo L) :
  Calls prog 121 #[.slice ao n cp,.int .i64 eps,.slice lo L.length lc] w fun ex w'=>PileOut HPile w w' ex eps f n L/\Gw w w':=by
 have CK:Hid _:=xcheck8_any M eps ao n cp f lo lc L e0 e1 hn hcp hS w hk hv;have HK:Aside _:=hk;have HV:Aside _:=hv;have SH:Aside _:=hS;obtain ⟨ln,hln⟩:∃ ln,L.length=ln:=⟨_,rfl⟩;have LN:Aside _:=hln;have ln1:ln<=2000000:=by have:=hS.1;omega
 rw [hln] at CK hlc ⊢;clear hk hv hS hln M;go_enter func121,ntmps121;go_wp2_with fail;refine Calls.mono CK.out ?_;rintro e w1 ⟨⟨E,rfl,hR⟩,g1⟩;have CR:Aside _:=hR;have G1:Aside _:=g1;clear hR g1 CK;by_cases E0:E=0
 ·subst E0
  have K1:Aside _:=HK.out.gw G1.out;go_wp2_with fail;refine (clone_k K1.out hn).mono ?_;rintro e w2 ⟨⟨ko,kc,rfl,hk2,hkc,hkb⟩,g2⟩;have K2:Aside (KS w2 ko n f/\n<=kc/\∀ a,ko=some a->w1.heap.size<=a.block):=⟨hk2,hkc,hkb⟩;have G2:Aside _:=g2;clear hk2 hkc hkb g2 K1;go_wp2_with fail;have B3:Aside ((w2.alloc (.cells #[.int .i64 eps,.slice ko n kc,.slice none 0 0] 172)).heap[w2.heap.size]?=some (.cells #[.int .i64 eps,.slice ko n kc,.slice none 0 0] 172 (0,0))):=heap_alloc_new w2 _;have G3:Aside (Gw w2 (w2.alloc (.cells #[.int .i64 eps,.slice ko n kc,.slice none 0 0] 172))):=(Gw.refl w2).alloc _ _;have z3:(w2.alloc (.cells #[.int .i64 eps,.slice ko n kc,.slice none 0 0] 172)).heap.size=w2.heap.size+1:=by simp
  obtain ⟨pb,hpb⟩:∃ pb,w2.heap.size=pb:=⟨_,rfl⟩;have PB:Aside _:=hpb;have Z3:Aside ((w2.alloc (.cells #[.int .i64 eps,.slice ko n kc,.slice none 0 0] 172)).heap.size=pb+1):=by rw [<-hpb];exact z3
  rw [hpb] at B3 ⊢;clear hpb z3;generalize w2.alloc (.cells #[.int .i64 eps,.slice ko n kc,.slice none 0 0] 172)=w3 at B3 G3 Z3 ⊢;obtain ⟨jj,hjj,jz,js,jby⟩:=info_parts info_sgs;have WP:Aside (w.heap.size<=pb):=by have:=G1.out.size;have:=G2.out.size;have:=PB.out;show _<=_;omega
  go_loopg [26] ln (fun gg s26 wr=>∃ (i:Nat) (vo:Option Addr) (vc:Nat) (vals:List Value),s26=.int .i64 (i:Int)/\i<=ln/\ln-i<=gg/\Aside (wr.heap[pb]?=some (.cells #[.int .i64 eps,.slice ko n kc,.slice vo i vc] 172 (0,0)))/\Aside (OwnV wr (pb+1) (.slice vo i vc) (L.take i) vals)/\Aside (Gw w2 wr))
  case atStart=>exact ⟨0,none,0,[],rfl,Nat.zero_le _,by omega,B3,(show Aside _ from ownv_nil _ _),G3⟩
  case round =>
   clear B3 G3;obtain ⟨i,vo,vc,vals,rfl,a1,a2,BK,OV,GG⟩:=hrel;obtain ⟨wS,hwS⟩:∃ wx,wx=wr:=⟨_,rfl⟩;subst hwS;by_cases hlt:i<ln
   ·obtain ⟨ab,af,rfl,hab,hac⟩:=(((HV.out.gw G1.out).gw G2.out).gw GG.out).cells (by rw [LN.out];omega)
    obtain ⟨so,sc,p1,_,_,p4⟩:=hac i (by rw [LN.out];exact hlt)
    obtain ⟨lv,hlv⟩:∃ lv,L.getD i []=lv:=⟨_,rfl⟩;have LV:Aside _:=hlv;have TK:Aside (L.take (i+1)=L.take i++[lv]):=by have:=take_next (L:=L) (i:=i) (by rw [LN.out];exact hlt);rw [hlv] at this;exact this
    have TL:Aside ((L.take i).length=i):=by show _=_;rw [List.length_take,LN.out];omega
    rw [hlv] at p1 p4;have sn1:lv.length<=2000000:=by have:=SH.out.2 i (by rw [LN.out];exact hlt);rw [hlv] at this;exact this
    have GSR:Aside _:=p4;have CG:Hid (∀ W,Gw wS W->Calls prog 156 #[.slice so lv.length sc] W fun e w'=>(∃ bo c,e=.returned (.slice bo lv.length c)/\SR w' W.heap.size (.slice bo lv.length c) lv)/\Gw W w'):=fun W gW=>clone_g (p4.gw gW) sn1
    obtain ⟨sn,hsn⟩:∃ sn,lv.length=sn:=⟨_,rfl⟩;have SN:Aside _:=hsn;rw [hsn] at p1 CG;have bl:=(Array.getElem?_eq_some_iff.1 BK.out).1;have OW:Hid (∀ W,Gw wS W->∀ o,(W.alloc o).ownsRow (pb+1) 174 1 (.slice vo i vc) i vals):=fun W gW o=>by
     have:=(OV.out.gw gW).outer
     rw [TL.out] at this;exact this.alloc o
    have FIN:Hid (∀ (W:World) (bo:Option Addr) (c:Nat) (v':Value) (w7:World),Gw wS W->SR W wS.heap.size (.slice bo sn c) lv->w7.ownsRow (pb+1) 174 1 v' (i+1) (vals++[.slice bo sn c])->(W.alloc (.cells #[.slice bo sn c] 174)).grownBy w7 (Value.slice vo i vc).ownBlock->(v'.ownBlock=(Value.slice vo i vc).ownBlock\/v'.ownBlock=some (W.heap.size+1))->w7.heap[pb]?=some (.cells #[.int .i64 eps,.slice ko n kc,.slice vo i vc] 172 (0,0))/\(w7.setCell ⟨pb,2,none⟩ v').heap[pb]?=some (.cells #[.int .i64 eps,.slice ko n kc,v'] 172 (0,0))/\OwnV (w7.setCell ⟨pb,2,none⟩ v') (pb+1) v' (L.take (i+1)) (vals++[.slice bo sn c])/\Gw w2 (w7.setCell ⟨pb,2,none⟩ v')):=fun W bo c v' w7 gW hs r1 r2 r4=>by
     have ow:∀ q,(Value.slice vo i vc).ownBlock=some q->pb+1<=q:=fun q e=>((OW.out W gW (.cells #[] 0)).lt q e).1
     have B7:w7.heap[pb]?=some (.cells #[.int .i64 eps,.slice ko n kc,.slice vo i vc] 172 (0,0)):=(r2.block pb (by have:=gW.size;simp;omega) (fun e=>by have:=ow pb e.symm;omega)).trans ((heap_alloc_old _ _ (Nat.lt_of_lt_of_le bl gW.size)).trans ((gW.below.block pb bl).trans BK.out))
     refine ⟨B7,set_pl2 B7 v',?_,?_⟩
     ·rw [TK.out]
      have:=OwnV.more (o:=.cells #[.slice bo sn c] 174) OV.out gW hs (by omega) (by rw [TL.out];exact r1) r2 r4
      exact this.keep fun q hq _=>Go.Deep.blk_setCell_other _ _ _ _ (by show q≠pb;omega)
     ·refine Gw.setCell (((GG.out.trans gW).alloc _ _).grown r2 (fun q hq=>?_)) (by show w2.heap.size<=pb;rw [PB.out];exact Nat.le_refl _) _
      have:=ow q hq
      rw [PB.out];omega
    have k2:wS.drew.cell? ⟨pb,2,none⟩=some (.slice vo i vc):=(pl_cells BK.out).2.2;clear hac hlv hsn p4;go_wp2_with fail;go_region_law (first
     | (go_simp;refine (CG.out _ ((Gw.refl wS).drew)).mono ?_;rintro e w4 ⟨⟨bo,c,rfl,hs4⟩,g4⟩;have S4:Hid (SR w4 wS.heap.size (.slice bo sn c) lv):=hs4;have G4:Hid (Gw wS w4):=((Gw.refl wS).drew.trans g4);have k4:w4.cell? ⟨pb,2,none⟩=some (.slice vo i vc):=(g4.cell _ _ bl).trans k2;have l4:pb<w4.heap.size:=Nat.lt_of_lt_of_le bl g4.size;clear hs4 g4)
     | (refine step_append_v _ rfl (.tmp 34) (.tmp 37) 107 rfl (pb+1) 174 jj (.slice none 0 0) 1 24 underlying107 hjj jz js jby rfl (by decide) (.slice vo i vc) i vals (by simp [Act.eval]) (OW.out w4 G4.out _) ⟨w4.heap.size,0,none⟩ 1 1 [.slice bo sn c] (by simp [Act.eval]) rfl (new_val w4 (.slice bo sn c) 174) (fun u hu=>by simp at hu;subst hu;rfl) (by simp only [maxLen];omega) (by omega) (Nat.le_trans (show pb+1<=w4.heap.size by omega) ((Gw.refl w4).alloc _ _).size) ?_;intro v' w7 r1 r2 r3 r4;obtain ⟨b8,cap8,ev,_,_,_⟩:=own_slice r1 (by simpa using r3);obtain ⟨B7,Q7⟩:=FIN.out w4 bo c v' w7 G4.out S4.out r1 r2 (by simpa using r4);have k7:=(pl_cells B7).2.2;have f7:w7.frozen? ⟨pb,2,none⟩=false:=(by simp [World.frozen?,B7]);have l7:pb<w7.heap.size:=(Array.getElem?_eq_some_iff.1 B7).1;have Q8:Hid _:=Q7;clear B7 Q7 r1 r2 r3 r4;subst ev))
    all_goals go_wp2_with fail
    all_goals go_roundg (ln-(i+1))
    all_goals first
     | (case measure=>omega)
     | (case rel=>exact ⟨i+1,some ⟨b8,0,none⟩,cap8,vals++[Value.slice bo sn c],by go_num,by omega,Nat.le_refl _,(show Aside _ from Q8.out.1),(show Aside _ from Q8.out.2.1),(show Aside _ from Q8.out.2.2)⟩)
   ·have ei:i=ln:=by omega
    subst ei;have e1:L.take i=L:=by rw [List.take_of_length_le (by rw [LN.out];exact Nat.le_refl _)]
    have OV':OwnV wS w.heap.size (.slice vo L.length vc) L vals:=by
     have:=OV.out
     rw [e1] at this;rw [LN.out];exact this.base (by have:=WP.out;omega)
    have GA:Aside _:=(G1.out.trans G2.out).trans GG.out;have VSF:VSf wS w.heap.size vo L:=OV'.vsf (vs_ok8 HV.out);have HPL:Aside (HPile wS pb (fun q=>w.heap.size<=q/\q<wS.heap.size) eps f n L):=by
     refine ⟨⟨wS,w.heap.size,ko,kc,vo,vc,fun q=>Iff.rfl,Nat.le_refl _,fun q _ _=>rfl,by rw [LN.out];exact BK.out,WP.out,K2.out.1.gw GG.out,fun a ea=>Nat.le_trans G1.out.size (K2.out.2.2 a ea),VSF⟩,hn,SH.out⟩
    clear OV' VSF e1;go_wp2_with fail;go_ret2;exact ⟨⟨0,CR.out,.inr ⟨rfl,pb,_,rfl,fun q hq=>hq.1,HPL.out⟩⟩,GA.out⟩
 ·have t0:(E == 0)=false:=by simpa using E0
  have HE:Aside _:=E0;clear E0;go_wp2_with fail;go_ret2;exact ⟨⟨E,CR.out,.inl ⟨HE.out,rfl⟩⟩,G1.out⟩
end Go.Proofs.YteflpamjgaeaiaaGreat
