/- Things told one by one, out of a heap of heads. -/
import Derived.Test.YtepcddmkfdlcjaaGreatLPNext
namespace Go.Proofs.YtepcddmkfdlcjaaGreat
open Go.RowKit
set_option linter.unusedVariables false
section
variable {α:Type}
structure ElP (El:World→Lst α→Prop) (sz:Nat):Prop where
 keep:∀ {w w':World} {s:Lst α},El w s→w'.heap[s.b]?=w.heap[s.b]?→El w' s
 adv:∀ {w:World} {s:Lst α},El w s→El w (adv sz s)
theorem elpE:ElP ElE 3:=⟨fun h k=>h.keep k,fun h=>h.adv⟩
theorem hds_app (key:α→Int):∀ (A B:List (Lst α)) (i:Nat),hds key i (A++B)=hds key i A++hds key (i+A.length) B
 | [],B,i=>by simp [hds]
 | a::A,B,i=>by
  rw [List.cons_append,hds,hds,hds_app key A B (i+1),List.append_assoc,List.length_cons,show i+1+A.length=i+(A.length+1) by omega]
def LOk (ok:α→Prop) (B:Nat) (s:Lst α):Prop:=s.l≠[]→s.b<B∧s.l.length≤s.c∧s.l.length≤4000000∧∀ x∈s.l,ok x
theorem LOk.adv {ok:α→Prop} {B:Nat} {s:Lst α} (sz:Nat) (h:LOk ok B s):LOk ok B (adv sz s):=fun ne=>by
 have ne':s.l≠[]:=fun e=>ne (by show s.l.tail=[];rw [e];rfl)
 obtain ⟨h1,h2,h3,h4⟩:=h ne'
 have e:(Go.Proofs.YtepcddmkfdlcjaaGreat.adv sz s).l.length=s.l.length-1:=List.length_tail
 refine ⟨h1,?_,by rw [e];omega,fun x hx=>h4 x (List.mem_of_mem_tail hx)⟩
 show s.l.tail.length≤s.c-1
 rw [List.length_tail];omega
theorem passS_cases (key:α→Int) (sz:Nat) (k:Int) (s:Lst α):passS key sz k s=s∨passS key sz k s=adv sz s:=by
 unfold passS
 split
 ·exact .inl rfl
 ·split
  ·exact .inr rfl
  ·exact .inl rfl
structure Tl (tp th:TypeId) (El:World→Lst α→Prop) (ok:α→Prop) (key:α→Int) (L:List (Lst α)) (hb K:Nat) (told:List α) (Lc:List (Lst α)) (hv pv:Value) (H P:List (Hd α)) (wr:World):Prop where
 pm:H.Perm (hds key 0 Lc)
 ho:HeapOn H
 st:Hst tp th wr hb (.func (.func K) #[] #[]) hv pv H P
 mem:∀ s∈Lc,LOk ok hb s
 el:∀ s∈Lc,s.l≠[]→El wr s
 mg:∀ out,Mg key (Lc.map Lst.l) out→Mg key (L.map Lst.l) (told++out)
 ln:Lc.length=L.length
 tn:told.length+sizes (Lc.map Lst.l)≤sizes (L.map Lst.l)
 pl:P.length≤L.length
theorem Tl.few {tp th:TypeId} {El:World→Lst α→Prop} {ok:α→Prop} {key:α→Int} {L:List (Lst α)} {hb K:Nat} {told:List α} {Lc:List (Lst α)} {hv pv:Value} {H P:List (Hd α)} {wr:World} (h:Tl tp th El ok key L hb K told Lc hv pv H P wr):H.length≤L.length:=by
 have:=h.pm.length_eq
 have:=hds_len (key:=key) Lc 0
 have:=h.ln
 omega
theorem Tl.keep {tp th:TypeId} {El:World→Lst α→Prop} {sz:Nat} (P':ElP El sz) {ok:α→Prop} {key:α→Int} {L:List (Lst α)} {hb K:Nat} {told:List α} {Lc:List (Lst α)} {hv pv:Value} {H P:List (Hd α)} {wr w':World} (h:Tl tp th El ok key L hb K told Lc hv pv H P wr) (k1:∀ q,hpS hb hv pv q→w'.heap[q]?=wr.heap[q]?) (k2:∀ s∈Lc,s.l≠[]→w'.heap[s.b]?=wr.heap[s.b]?):Tl tp th El ok key L hb K told Lc hv pv H P w' :=
 ⟨h.pm,h.ho,h.st.keep k1,h.mem,fun s hs ne=>P'.keep (h.el s hs ne) (k2 s hs ne),h.mg,h.ln,h.tn,h.pl⟩
theorem Tl.me {tp th:TypeId} {El:World→Lst α→Prop} {ok:α→Prop} {key:α→Int} {L:List (Lst α)} {hb K:Nat} {told:List α} {Lc:List (Lst α)} {hv pv:Value} {H P:List (Hd α)} {wr:World} (h:Tl tp th El ok key L hb K told Lc hv pv H P wr) (hL:L.length≤3000000):∀ x∈H,(∃ y t,x.s.l=y::t∧x.k=key y)∧x.s.b<hb∧x.s.l.length≤x.s.c∧x.s.l.length≤4000000∧x.i≤4000000∧El wr x.s∧∀ y∈x.s.l,ok y:=by
 intro x hx
 obtain ⟨m1,m2,m3,y,t,m4,m5⟩:=hds_mem (h.pm.mem_iff.1 hx)
 have ne:x.s.l≠[]:=by rw [m4];simp
 obtain ⟨q1,q2,q3,q4⟩:=h.mem _ m1 ne
 have:=h.ln
 exact ⟨⟨y,t,m4,m5⟩,q1,q2,q3,by omega,h.el _ m1 ne,q4⟩
theorem Tl.over {tp th:TypeId} {El:World→Lst α→Prop} {ok:α→Prop} {key:α→Int} {L:List (Lst α)} {hb K:Nat} {told:List α} {Lc:List (Lst α)} {hv pv:Value} {H P:List (Hd α)} {wr:World} (h:Tl tp th El ok key L hb K told Lc hv pv H P wr) (e:H=[]):Mg key (L.map Lst.l) told:=by
 have:hds key 0 Lc=[]:=by
  have:=h.pm
  rw [e] at this
  exact List.perm_nil.1 this.symm
 have:=h.mg [] (.done (hds_nil this))
 rwa [List.append_nil] at this
theorem Tl.next {tp th:TypeId} {El:World→Lst α→Prop} {sz:Nat} (P':ElP El sz) {ok:α→Prop} {key:α→Int} {L:List (Lst α)} {hb K:Nat} {told:List α} {Lc:List (Lst α)} {hv pv:Value} {H P:List (Hd α)} {wr w':World} {enc:α→Value} {zero:Value} {e:Ending} (h:Tl tp th El ok key L hb K told Lc hv pv H P wr) (hbl:hb<wr.heap.size) (ne:H≠[]) (r:NextR tp th wr hb K sz hv pv H key enc zero e w') :
  ∃ x Lc' hv' pv' H' P',e=.returned (.tuple #[enc x, .bool true])∧ok x∧Tl tp th El ok key L hb K (told++[x]) Lc' hv' pv' H' P' w'∧(∀ q,hpS hb hv' pv' q→hpS hb hv pv q∨wr.heap.size≤q)∧Gx (hpS hb hv pv) wr w'∧sizes (Lc'.map Lst.l)<sizes (Lc.map Lst.l)∧(∀ s'∈Lc',s'.l≠[]→∃ s∈Lc,s.l≠[]∧s'.b=s.b):=by
 obtain ⟨x,t,hv',pv',H',P1,H1,r1,r2,r3,r4,r5,r6,r7,r8,r9,r10⟩:=r.2 ne
 have hpos:0<H.length:=List.length_pos_iff.2 ne
 have gm:gt H 0∈H:=by
  have:gt H 0=H[0]:=by simp [gt,List.getD,hpos]
  rw [this];exact List.getElem_mem _
 obtain ⟨y,u,l1,l2,l3⟩:=hds_least (h.pm.mem_iff.1 gm) (fun z hz=>h.ho.least (h.pm.mem_iff.2 hz))
 have exy:x=y:=by rw [r1] at l1;cases l1;rfl
 subst exy
 obtain ⟨g1,_,_,_⟩:=hds_mem (h.pm.mem_iff.1 gm)
 have okx:=(h.mem _ g1 (by rw [r1];simp)).2.2.2 x (by rw [r1];exact List.mem_cons_self ..)
 have mp:(Lc.map (passS key sz (key x))).map Lst.l=(Lc.map Lst.l).map (pass key (key x)):=by
  rw [List.map_map,List.map_map]
  exact List.map_congr_left fun s _=>passS_l _ s
 have lt:=passes_lt l3
 have from_:∀ s'∈Lc.map (passS key sz (key x)),s'.l≠[]→∃ s∈Lc,s.l≠[]∧s'.b=s.b∧(s'=s∨s'=adv sz s):=fun s' hs' ns=>by
  obtain ⟨s,hs,rfl⟩:=List.mem_map.1 hs'
  rcases passS_cases key sz (key x) s with e1 | e1
  ·rw [e1] at ns ⊢;exact ⟨s,hs,ns,rfl, .inl rfl⟩
  ·rw [e1] at ns ⊢;exact ⟨s,hs,fun q=>ns (by show s.l.tail=[];rw [q];rfl),rfl, .inr rfl⟩
 refine ⟨x,Lc.map (passS key sz (key x)),hv',pv',H',P1,r2,okx,⟨?_,r7,r8,fun s' hs' ns=>?_,fun s' hs' ns=>?_,fun out ho=>?_,by rw [List.length_map];exact h.ln,?_,?_⟩,r9,r10,?_,fun s' hs' ns=>?_⟩
 ·exact hds_next (h.pm) r3 (fun p hp=>by rw [r4 p hp];exact l2) (fun p hp=>by rw [←l2];exact r5 p hp) r6
 ·obtain ⟨s,hs,n2,_,q | q⟩:=from_ s' hs' ns
  ·rw [q];exact h.mem s hs n2
  ·rw [q];exact (h.mem s hs).adv sz (by rw [←q];exact ns)
 ·obtain ⟨s,hs,n2,q0,q⟩:=from_ s' hs' ns
  have sb:=(h.mem s hs n2).1
  have kb:w'.heap[s.b]?=wr.heap[s.b]?:=r10.block _ (by omega) (fun z=>by have:=(h.st.lt z).1;omega)
  rcases q with q | q
  ·rw [q];exact P'.keep (h.el s hs n2) kb
  ·rw [q];exact P'.adv (P'.keep (h.el s hs n2) kb)
 ·rw [mp] at ho
  have:=h.mg (x::out) (.step l3 ho)
  simpa using this
 ·have:=h.tn
  rw [mp,List.length_append,List.length_singleton]
  omega
 ·have e1:=r3.length_eq
  rw [List.length_append] at e1
  have:=h.few
  omega
 ·rw [mp];exact lt
 ·obtain ⟨s,hs,n2,q0,_⟩:=from_ s' hs' ns
  exact ⟨s,hs,n2,q0⟩
structure LV (w:World) (ao:Option Addr) (L:List (Lst α)):Prop where
 cells:0<L.length→∃ b off,ao=some ⟨b,off,none⟩∧b<w.heap.size∧∀ i (h:i<L.length),∃ bo c,w.cell? ⟨b,off+i,none⟩=some (.slice bo L[i].l.length c)∧(0<L[i].l.length→bo=some ⟨L[i].b,L[i].off,none⟩∧c=L[i].c)
theorem LV.gw {w w':World} {ao:Option Addr} {L:List (Lst α)} (h:LV w ao L) (g:Gw w w'):LV w' ao L:=⟨fun h0=>by
 obtain ⟨b,off,e,hb,hc⟩:=h.cells h0
 refine ⟨b,off,e,Nat.lt_of_lt_of_le hb g.size,fun i hi=>?_⟩
 obtain ⟨bo,c,q1,q2⟩:=hc i hi
 exact ⟨bo,c,(g.cell _ _ hb).trans q1,q2⟩⟩
end
end Go.Proofs.YtepcddmkfdlcjaaGreat
