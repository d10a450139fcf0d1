/- Package levels: cover. -/
import Derived.Test.YtpoohadckhphpaaGreatBVBuild
import Derived.Test.YtpoohadckhphpaaGreatBPXo
set_option linter.unusedVariables false
set_option maxHeartbeats 4000000
set_option maxRecDepth 10000
open Go.Proofs.Tryz
namespace Go.Proofs.YtpoohadckhphpaaGreat
open Go.RowKit
attribute [local go_sem] run_store_float
end Go.Proofs.YtpoohadckhphpaaGreat
namespace Go.Proofs.YtpoohadckhphpaaGreat
open Go.RowKit
def OverC (K:Nat) (args:Value->Array Value) (I:Nat->World->Option Addr->Nat->Nat->(Nat->Int)->Prop) (Q:World->Prop) (X:List PanicEntry->World->Prop):Prop :=
 ∀ (r:Nat) (W:World) (bo:Option Addr) (m c:Nat) (g:Nat->Int),I r W bo m c g->Calls prog K (args (.slice bo m c)) W fun e w' =>
  (∃ (ao:Option Addr) (lc:Nat),e=.returned (.slice ao 0 lc)/\Q w') \/
  (∃ (ao:Option Addr) (lc:Nat) (lv:List Sg) (r':Nat),e=.returned (.slice ao lv.length lc)/\0<lv.length/\lv.length<=4000000/\GS w' ao lv/\r'<r/\∀ (b:Nat) (w'':World),Gw w' w''->KS w'' (some ⟨b,0,none⟩) lv.length (fst8 lv)->I r' w'' (some ⟨b,0,none⟩) lv.length lv.length (fst8 lv)) \/
  (∃ ch,e=.panicked ch/\X ch w')
theorem climb_check (p0 p1 p2:Value) (I:Nat->World->Option Addr->Nat->Nat->(Nat->Int)->Prop) (Q:World->Prop) (X:List PanicEntry->World->Prop) (O:OverC 193 (fun v=>#[v,p0,p1,p2]) I Q X) (r:Nat) (bo:Option Addr) (m c:Nat) (g:Nat->Int) (w:World) (h:I r w bo m c g) :
  Calls prog 184 #[.slice bo m c,.func (.func 193) #[] #[p0,p1,p2]] w fun e w'=>(e=.returned (.tuple #[])/\Q w')\/(∃ ch,e=.panicked ch/\X ch w'):=by
 have HI:Aside _:=h;have HO:Hid _:=O;have FI:Hid _:=fun (ao:Option Addr) (c:Nat) (l:List Sg) (hl:l.length<=4000000) (w:World) (h:GS w ao l)=>firsts_any ao c l hl w h
 clear h O;go_enter func184,ntmps184;go_wp2_with fail;refine (HO.out r _ bo m c g HI.out).mono ?_;clear HI;rintro e w1 (⟨ao,lc,rfl,hq⟩ | ⟨ao,lc,lv,r1,rfl,l0,l1,hG,hr,hI⟩ | ⟨ch,rfl,hx⟩)
 ·have HQ:Aside (Q w1):=hq
  clear hq;go_wp2_with fail;go_loopg [4] 0 (fun gg s4 wr=>s4=.slice ao 0 lc/\Aside (Q wr))
  case atStart=>exact ⟨rfl,HQ⟩
  case round =>
   obtain ⟨rfl,HQ⟩:=hrel;go_wp2_with fail;go_end0;exact .inl ⟨rfl,HQ.out⟩
 ·have LV:Aside (0<lv.length/\lv.length<=4000000):=⟨l0,l1⟩
  have HG:Aside _:=hG;have HN:Aside _:=hI;obtain ⟨ln,hln⟩:∃ ln,lv.length=ln:=⟨_,rfl⟩;have LN:Aside _:=hln;rw [hln];clear hG hI l0 l1 hln;go_wp2_with fail;go_loopg [4] r (fun gg s4 wr=>∃ (ao:Option Addr) (lc ln:Nat),s4=.slice ao ln lc/\((ln=0/\Aside (Q wr))\/(0<ln/\∃ (lv:List Sg) (r':Nat),r'<gg/\Aside (lv.length=ln)/\Aside (lv.length<=4000000)/\Aside (GS wr ao lv)/\Aside (∀ (b:Nat) (w'':World),Gw wr w''->KS w'' (some ⟨b,0,none⟩) lv.length (fst8 lv)->I r' w'' (some ⟨b,0,none⟩) lv.length lv.length (fst8 lv)))))
  case atStart=>exact ⟨ao,lc,ln,rfl,.inr ⟨by rw [<-LN.out];exact LV.out.1,lv,r1,hr,LN,(show Aside _ from LV.out.2),HG,HN⟩⟩
  case round =>
   clear LV HG HN LN;obtain ⟨ao,lc,ln,rfl,⟨rfl,HQ⟩ | ⟨l0,lv,r2,hr2,LN,LL,HG,HN⟩⟩:=hrel
   ·go_wp2_with fail
    go_end0
    exact .inl ⟨rfl,HQ.out⟩
   ·have FI':Hid (∀ W,GS W ao lv->Calls prog 199 #[.slice ao ln lc] W fun e w'=>(∃ b,e=.returned (.slice (some ⟨b,0,none⟩) lv.length lv.length)/\W.heap.size<=b/\KS w' (some ⟨b,0,none⟩) lv.length (fst8 lv))/\Gw W w'):=fun W h=>by
     have:=FI.out ao lc lv LL.out W h
     rw [LN.out] at this ⊢;exact this
    have t0:decide ((0:Int)<(ln:Int))=true:=by simp;omega
    go_wp2_with fail;refine (FI'.out _ HG.out).mono ?_
    rintro e w3 ⟨⟨b,rfl,hb,hk⟩,g3⟩;have HI3:Aside _:=HN.out b w3 g3 hk;clear hk g3 hb HN HG FI';generalize lv.length=q3 at HI3 ⊢;generalize fst8 lv=g3 at HI3;clear LN LL;go_wp2_with fail;refine (HO.out r2 _ _ _ _ _ HI3.out).mono ?_;clear HI3;rintro e w4 (⟨ao4,lc4,rfl,hq⟩ | ⟨ao4,lc4,lv4,r4,rfl,l4,l4',hG,hr4,hI⟩ | ⟨ch,rfl,hx⟩)
    ·have HQ:Aside (Q w4):=hq
     clear hq;go_wp2_with fail;go_roundg 0
     case measure=>omega
     case rel=>exact ⟨ao4,lc4,0,rfl,.inl ⟨rfl,HQ⟩⟩
    ·have LL4:Aside (lv4.length<=4000000):=l4'
     have HG4:Aside _:=hG;have HN4:Aside _:=hI;obtain ⟨ln4,hln⟩:∃ ln,lv4.length=ln:=⟨_,rfl⟩;have LN4:Aside _:=hln;rw [hln] at l4 ⊢;clear hG hI hln l4';go_wp2_with fail;go_roundg r2
     case measure=>omega
     case rel=>exact ⟨ao4,lc4,ln4,rfl,.inr ⟨l4,lv4,r4,hr4,LN4,LL4,HG4,HN4⟩⟩
    ·have HX:Aside (X ch w4):=hx
     clear hx;go_wp2_with fail;exact ⟨rfl,.inr ⟨ch,rfl,HX.out⟩⟩
 ·have HX:Aside (X ch w1):=hx
  clear hx;go_wp2_with fail;exact ⟨rfl,.inr ⟨ch,rfl,HX.out⟩⟩
theorem caught_check (be:Nat) (v1:Value) (E:Int) (w:World) (h1:w.cell? ⟨be,0,none⟩=some v1) (f1:w.frozen? ⟨be,0,none⟩=false) :
  CallsD prog 190 #[.pointer (some ⟨be,0,none⟩)] (.panicking (thrown E)) w fun e u' w' =>
   e=.returned (.tuple #[])/\u'=.panicking [{ v:=.iface 25 (.int .i64 E),recovered:=true }]/\w'=w.setCell ⟨be,0,none⟩ (.int .i64 E):=by
 refine callsD_of_wpS func190 rfl fun c₀ cs hu=>?_
 apply wpS_seq
 apply wpS_region
 simp [wpOpsS,go_sem,recoverD,hu,ntmps190,Exit.thenS]
 apply wpS_seq
 apply wpS_region
 simp [wpOpsS,go_sem,recoverD,Exit.thenS]
 refine wpS_cond (t:=true) (by simp [Act.eval,Array.replicate]) ?_
 simp only [if_true];refine wpS_of_wp ?_;change Code.wp _ _ _ ⟨#[.pointer (some ⟨be,0,none⟩),.iface 25 (.int .i64 E),.iface 25 (.int .i64 E),.iface 25 (.int .i64 E),.bool true,undef,undef],[]⟩ w;go_wp2_with fail;refine (told8_any E _).mono ?_;rintro e w1 ⟨rfl,rfl⟩;go_wp2_with fail;simp [bodyPostS,results,results190,go_sem]
theorem idle_check (be:Nat) (w:World) :
  CallsD prog 190 #[.pointer (some ⟨be,0,none⟩)] .returning w fun e u' w'=>e=.returned (.tuple #[])/\u'=.returning/\w'=w:=by
 refine callsD_of_wpS func190 rfl fun c₀ cs hu=>?_
 apply wpS_seq
 apply wpS_region
 simp [wpOpsS,go_sem,recoverD,hu,ntmps190,Exit.thenS]
 apply wpS_seq
 apply wpS_region
 simp [wpOpsS,go_sem,recoverD,Exit.thenS]
 refine wpS_cond (t:=false) (by simp [Act.eval,Array.replicate]) ?_
 simp only [Bool.false_eq_true,if_false];refine wpS_of_wp (wp_skip ?_);cases c₀
 simp_all [bodyPostS,results,results190]
def Box (w:World) (b:Nat) (v:Value) (t:TypeId):Prop:=w.heap[b]?=some (.cells #[v] t (0,0))
theorem Box.lt {w:World} {b:Nat} {v:Value} {t:TypeId} (h:Box w b v t):b<w.heap.size:=(Array.getElem?_eq_some_iff.1 h).1
theorem Box.gw {w w':World} {b:Nat} {v:Value} {t:TypeId} (h:Box w b v t) (g:Gw w w'):Box w' b v t:=(g.below.block b h.lt).trans h
theorem Box.cell {w:World} {b:Nat} {v:Value} {t:TypeId} (h:Box w b v t):w.cell? ⟨b,0,none⟩=some v:=by unfold Box at h;simp [World.cell?,h]
theorem Box.fz {w:World} {b:Nat} {v:Value} {t:TypeId} (h:Box w b v t):w.frozen? ⟨b,0,none⟩=false:=by unfold Box at h;simp [World.frozen?,h]
theorem Box.new (w:World) (v:Value) (t:TypeId):Box (w.alloc (.cells #[v] t)) w.heap.size v t:=heap_alloc_new w _
theorem Box.set {w:World} {b:Nat} {v:Value} {t:TypeId} (h:Box w b v t) (u:Value):Box (w.setCell ⟨b,0,none⟩ u) b u t:=by
 unfold Box at *;simp [World.setCell,Array.getElem?_modify,h]
theorem Box.other {w:World} {b:Nat} {v:Value} {t:TypeId} (h:Box w b v t) (a:Addr) (u:Value) (e:b≠a.block):Box (w.setCell a u) b v t:=(Go.Deep.blk_setCell_other _ _ _ _ e).trans h
structure BI (w0:World) (bp bl be B:Nat) (eps:Int) (f:Nat->Int) (n:Nat) (W:World) (lo:Option Addr) (lc:Nat) (L:List (List Sg)) (vals:List Value):Prop where
 gw:Gw w0 W
 sz:B<=W.heap.size
 ep:Box W bp (.int .i64 eps) 3
 lx:Box W bl (.slice lo L.length lc) 104
 er:Box W be (.int .i64 0) 25
 own:OwnV W B (.slice lo L.length lc) L vals
 ok:Lok L
 le:L.length<=lc
 few:L.length<=n
theorem ownv_nil (w:World) (B:Nat):OwnV w B (.slice none 0 0) [] []:=⟨World.ownsRow_nil _ _ _ _,fun i hi=>by simp at hi,fun i hi=>by simp at hi⟩
theorem OwnV.base {w:World} {B B':Nat} {v:Value} {L:List (List Sg)} {vals:List Value} (h:OwnV w B v L vals) (hb:B'<=B):OwnV w B' v L vals:=by
 refine ⟨⟨h.outer.1,?_⟩,fun i hi=>⟨(h.rows i hi).1,?_⟩,h.apart⟩
 ·rcases h.outer.2 with q | ⟨b,cap,cur,e1,e2,e3⟩
  ·exact .inl q
  ·exact .inr ⟨b,cap,cur,e1,Nat.le_trans hb e2,e3⟩
 ·rcases (h.rows i hi).2 with q | ⟨b,cap,cur,e1,e2,e3⟩
  ·exact .inl q
  ·exact .inr ⟨b,cap,cur,e1,Nat.le_trans hb e2,e3⟩
theorem ks_far {w:World} {bo:Option Addr} {m:Nat} {g:Nat->Int} (h:KS w bo m g) {bh:Nat} {x:Int} {t:TypeId} (hx:Box w bh (.int .i64 x) t) (v:Value):KS (w.setCell ⟨bh,0,none⟩ v) bo m g:=by
 refine ⟨fun h0=>?_,h.bd⟩
 obtain ⟨b,off,e,hb,hc⟩:=h.cells h0;have ne:b≠bh:=fun q=>by
  subst q;have c:=hc 0 h0;unfold Box at hx;simp only [World.cell?,hx] at c;cases off with
  | zero=>simp at c
  | succ o=>simp at c
 have blk:(w.setCell ⟨bh,0,none⟩ v).heap[b]?=w.heap[b]?:=Go.Deep.blk_setCell_other _ _ _ _ ne;exact ⟨b,off,e,by simpa using hb,fun i hi=>(World.cell?_of_block (a:=⟨b,off+i,none⟩) blk).trans (hc i hi)⟩
structure CI (w0:World) (bp bl be bh:Nat) (eps:Int) (lo:Option Addr) (lc:Nat) (L:List (List Sg)) (W:World) (i:Nat):Prop where
 gw:Gw w0 W
 ep:Box W bp (.int .i64 eps) 3
 lx:Box W bl (.slice lo L.length lc) 104
 er:Box W be (.int .i64 0) 25
 hx:Box W bh (.int .i64 (i:Int)) 3
theorem CI.mono {w0:World} {bp bl be bh:Nat} {eps:Int} {lo:Option Addr} {lc:Nat} {L:List (List Sg)} {W W':World} {i:Nat} (h:CI w0 bp bl be bh eps lo lc L W i) (g:Gw W W'):CI w0 bp bl be bh eps lo lc L W' i:=⟨h.gw.trans g,h.ep.gw g,h.lx.gw g,h.er.gw g,h.hx.gw g⟩
theorem CI.up {w0:World} {bp bl be bh:Nat} {eps:Int} {lo:Option Addr} {lc:Nat} {L:List (List Sg)} {W:World} {i:Nat} (h:CI w0 bp bl be bh eps lo lc L W i) (n1:bp≠bh) (n2:bl≠bh) (n3:be≠bh) (hb:w0.heap.size<=bh) (j:Nat):CI w0 bp bl be bh eps lo lc L (W.setCell ⟨bh,0,none⟩ (.int .i64 (j:Int))) j :=
 ⟨h.gw.setCell hb _,h.ep.other _ _ n1,h.lx.other _ _ n2,h.er.other _ _ n3,h.hx.set _⟩
def leftE (eps:Int) (L:List (List Sg)) (i:Nat) (g:Nat->Int) (m:Nat):Int:=if i<L.length then chkE eps g m (L.drop i) else if i=0 then 0 else if (L.getD (i-1) []).length=1 then 0 else 84
def CIn (w0:World) (bp bl be bh:Nat) (eps:Int) (lo:Option Addr) (lc:Nat) (L:List (List Sg)) (E:Int) (r:Nat) (W:World) (bo:Option Addr) (m c:Nat) (g:Nat->Int):Prop :=
 ∃ i,CI w0 bp bl be bh eps lo lc L W i/\KS W bo m g/\Up g m/\m<=2000000/\m<=c/\i<=L.length/\(i<L.length->0<m)/\E=leftE eps L i g m/\L.length+1-i<=r
def COut (w0:World) (bp bl be bh:Nat) (eps:Int) (lo:Option Addr) (lc:Nat) (L:List (List Sg)) (E:Int) (W:World):Prop:=CI w0 bp bl be bh eps lo lc L W L.length/\E=if L.length=0 then 0 else if (L.getD (L.length-1) []).length=1 then 0 else 84
def CDie (w0:World) (be:Nat) (E:Int) (ch:List PanicEntry) (W:World):Prop:=ch=thrown E/\Gw w0 W/\Box W be (.int .i64 0) 25
theorem over_check (M:ModelC) (w0:World) (bp bl be bh:Nat) (eps:Int) (lo:Option Addr) (lc:Nat) (L:List (List Sg)) (E:Int) (hL:Short L) (hv:VS w0 lo L) (n1:bp≠bh) (n2:bl≠bh) (n3:be≠bh) (hb:w0.heap.size<=bh) :
  OverC 193 (fun v=>#[v,.pointer (some ⟨bh,0,none⟩),.pointer (some ⟨bl,0,none⟩),.pointer (some ⟨bp,0,none⟩)]) (CIn w0 bp bl be bh eps lo lc L E) (COut w0 bp bl be bh eps lo lc L E) (CDie w0 be E):=by
 rintro r W bo m c g ⟨i,hCI,hK,hU,m1,mc,hi,hm,hE,hr⟩;have HC:Aside _:=hCI;have HK:Aside _:=hK;have UP:Aside _:=hU;have HV:Aside _:=hv;have HL:Aside _:=hL;have HE:Aside _:=hE;have cl:=hCI.lx.cell;have ll:=hCI.lx.lt;have cp:=hCI.ep.cell;have lp:=hCI.ep.lt;have ch:=hCI.hx.cell;have fh:=hCI.hx.fz;have lh:=hCI.hx.lt;have NL:Hid _:=fun (ao:Option Addr) (cl:Nat) (l:List Sg) (hl:l.length<=4000000) (w:World) (k:KS w bo m g) (h:GS w ao l)=>needlevel_any M eps bo m c g (by omega) mc UP.out ao cl l hl w k h
 have hLn:=hL.1;obtain ⟨ln,hln⟩:∃ ln,L.length=ln:=⟨_,rfl⟩;have LN:Aside _:=hln;rw [hln] at cl hi hm hr hLn;clear hln hCI hK hU hv hE hL M;by_cases ilt:i<ln
 ·have z0:((i:Int) == (ln:Int))=false:=by simp;omega
  have z1:¬ i=ln:=by omega
  obtain ⟨lb,lf,rfl,hlb0,hc⟩:=HV.out.cells (by rw [LN.out];omega)
  obtain ⟨so,sc,q1',q2,q3,q4⟩:=hc i (by rw [LN.out];exact ilt)
  have q1:=(HC.out.gw.cell _ _ hlb0).trans q1';have hlb:=Nat.lt_of_lt_of_le hlb0 HC.out.gw.size;have lbh:¬ lb=bh:=by omega
  clear q1' hlb0;have sl:=HL.out.2 i (by rw [LN.out];exact ilt)
  have ED:Aside (E=chkE eps g m (L.getD i []::L.drop (i+1))):=by
   have:=HE.out
   unfold leftE at this;rw [if_pos (by rw [LN.out];exact ilt),dropL_at (by rw [LN.out];exact ilt)] at this
   exact this
  have EF:Aside (i+1=ln->L.drop (i+1)=[]):=fun q=>List.drop_eq_nil_of_le (by rw [LN.out];omega)
  have EG:Aside (i+1<ln->L.drop (i+1)≠[]):=fun q e=>by have:=congrArg List.length e;rw [List.length_drop,LN.out] at this;simp at this;omega
  have LAST:Aside (L.getD (i+1-1) []=L.getD i []):=rfl;clear hc HE;obtain ⟨l,hl⟩:∃ l,L.getD i []=l:=⟨_,rfl⟩;rw [hl] at q1 q2 q3 q4 sl ED LAST;have GL:Aside (GS w0 so l):=q4;have NL':=NL.out so sc l (by omega)
  obtain ⟨sn,hsn⟩:∃ sn,l.length=sn:=⟨_,rfl⟩;have SN:Aside _:=hsn;rw [hsn] at q1 q2 q3 sl NL';have NH:Hid (∀ W,KS W bo m g->GS W so l->_):=fun W k h=>NL' W k h
  clear hl hsn q4 NL NL';have wi:IntKind.i64.wrap ((i:Int)+1)=((i+1:Nat):Int):=by rw [IntKind.wrap_i64];omega
  go_enter func193,ntmps193;have C2:Aside (CI w0 bp bl be bh eps (some ⟨lb,lf,none⟩) lc L (W.setCell ⟨bh,0,none⟩ (.int .i64 ((i:Int)+1))) (i+1)):=HC.out.up n1 n2 n3 hb (i+1);have K2:Aside (KS (W.setCell ⟨bh,0,none⟩ (.int .i64 ((i:Int)+1))) bo m g):=ks_far HK.out HC.out.hx _;go_wp2_with fail;generalize W.setCell ⟨bh,0,none⟩ (.int .i64 ((i:Int)+1))=W2 at C2 K2 ⊢;refine (NH.out _ K2.out (GL.out.gw C2.out.gw)).mono ?_;rintro e w3 ⟨he,g3⟩;have C3:Aside _:=C2.out.mono g3;have m0:0<m:=hm ilt;clear g3 NH;by_cases tb:tileB m 0 l=true
  ·have ne:l.isEmpty=false:=by
    cases l with
    | nil=>have:=tileB_nil.1 tb;omega
    | cons s l=>rfl
   have EI:E=if lvlE eps g l≠0 then lvlE eps g l else restE eps l (L.drop (i+1)):=by
    rw [ED.out,chkE_cons,if_neg (by rw [tb,ne];decide)]
   unfold levE at he;rw [if_pos tb] at he;rcases he with ⟨v0,rfl⟩ | ⟨v0,rfl⟩
   ·rw [if_neg (fun q=>q v0)] at EI
    have ER:Aside _:=EI;have OKS:=lvlE_ok.1 v0;have UN:Aside _:=(fst8_up UP.out tb (fun s hs=>(segE_ok.1 (OKS s hs)).2.1)).1
    have sn0:0<sn:=by
     rw [<-SN.out];cases l with
     | nil=>cases ne
     | cons s l=>simp
    have NX:Aside (E=leftE eps L (i+1) (fst8 l) l.length):=by
     show E=_;unfold leftE;by_cases q:i+1<ln
     ·rw [if_pos (by rw [LN.out];exact q),ER.out]
      unfold restE;rw [if_neg (EG.out q)]
     ·rw [if_neg (by rw [LN.out];exact q),if_neg (by omega),LAST.out,ER.out]
      unfold restE;rw [if_pos (EF.out (by omega))]
    clear EI ER OKS tb ne ED EF EG LAST v0;go_wp2_with fail;go_ret;exact .inr (.inl ⟨so,sc,l,r-1,by rw [SN.out];rfl,by rw [SN.out];exact sn0,by rw [SN.out];omega,GL.out.gw C3.out.gw,by omega,fun b9 w9 g9 k9=>⟨i+1,C3.out.mono g9,k9,UN.out,by rw [SN.out];omega,Nat.le_refl _,by rw [LN.out];omega,fun _=>by rw [SN.out];exact sn0,NX.out,by rw [LN.out];omega⟩⟩)
   ·rw [if_pos v0] at EI
    have R:Aside (CDie w0 be E (thrown (lvlE eps g l)) w3):=⟨by rw [EI],C3.out.gw,C3.out.er⟩
    clear EI ED EF EG LAST v0 tb ne;generalize lvlE eps g l=EE at R ⊢;go_wp2_with fail;exact ⟨rfl,.inr (.inr ⟨_,rfl,R.out⟩)⟩
  ·have tf:tileB m 0 l=false:=by simpa using tb
   have EI:E=82:=by rw [ED.out,chkE_cons,if_pos (by rw [tf];rfl)]
   unfold levE at he;rw [if_neg tb] at he;obtain rfl:e=.panicked (thrown 82):=by
    rcases he with ⟨q,_⟩ | ⟨_,q⟩
    ·exact absurd q (by decide)
    ·exact q
   have R:Aside (CDie w0 be E (thrown 82) w3):=⟨by rw [EI],C3.out.gw,C3.out.er⟩
   clear EI ED EF EG LAST tb tf he;go_wp2_with fail;exact ⟨rfl,.inr (.inr ⟨_,rfl,R.out⟩)⟩
 ·have ei:i=ln:=by omega
  subst ei;have R:Aside (COut w0 bp bl be bh eps lo lc L E W):=by
   refine ⟨by rw [LN.out];exact HC.out,?_⟩
   have:=HE.out
   unfold leftE at this;rw [if_neg (by rw [LN.out];omega)] at this
   rw [LN.out];exact this
  clear HE NL;go_enter func193,ntmps193;go_wp2_with fail;go_ret;exact .inl ⟨none,0,rfl,R.out⟩
theorem xcheck8_any (M:ModelC) (eps:Int) (ao:Option Addr) (n cp:Nat) (f:Nat->Int) (lo:Option Addr) (lc:Nat) (L:List (List Sg)) (e0:-9223372036854775808<=eps) (e1:eps<9223372036854775808) (hn:n<=2000000) (hcp:n<=cp) (hS:Short L) (w:World) (hk:KS w ao n f) (hv:VS w lo L) :
  Calls prog 172 #[.slice ao n cp,.int .i64 eps,.slice lo L.length lc] w fun ex w'=>CheckOut ex eps f n L/\Gw w w':=by
 have hmf:∀ (fn:Fn) (first cap:Array Value) (w:World),(Instr.makeFunc fn first cap).run prog w=.ok (.func fn first cap) w:=fun _ _ _ _=>rfl
 have HK:Aside _:=hk;have HV:Aside _:=hv;have HS:Aside _:=hS;have MM:Aside ModelC:=M;have lns:=hS.1;clear hk hv hS M;have NB:Hid (∀ W,KS W ao n f->_):=fun W h=>needbase_any eps ao n cp f (by omega) W h
 have MX:Hid (∀ W,Calls prog 192 #[.int .i64 4294967296,.int .i64 eps] W fun ex w'=>ex=.returned (.int .i64 (mxh 4294967296 eps))/\w'=W):=fun W=>xmaxh_any 4294967296 eps (by decide) (by decide) e0 e1 W
 obtain ⟨H,hH⟩:∃ H,mxh 4294967296 eps=H:=⟨_,rfl⟩;have HH:Aside _:=hH;rw [hH] at MX;obtain ⟨ln,hln⟩:∃ ln,L.length=ln:=⟨_,rfl⟩;have LN:Aside _:=hln;rw [hln] at lns ⊢;clear hH hln;go_enter_defers func172,ntmps172;go_wp2_with fail;have P3:Aside (Box (((w.alloc (.cells #[.int .i64 eps] 3)).alloc (.cells #[.slice lo ln lc] 104)).alloc (.cells #[.int .i64 0] 25)) w.heap.size (.int .i64 eps) 3):=((Box.new w _ _).gw ((Gw.refl _).alloc _ _)).gw ((Gw.refl _).alloc _ _);have L3:Aside (Box (((w.alloc (.cells #[.int .i64 eps] 3)).alloc (.cells #[.slice lo ln lc] 104)).alloc (.cells #[.int .i64 0] 25)) (w.heap.size+1) (.slice lo ln lc) 104):=by
  have:=(Box.new (w.alloc (.cells #[.int .i64 eps] 3)) (.slice lo ln lc) 104).gw ((Gw.refl _).alloc #[.int .i64 0] 25)
  simp at this;exact this
 have E3:Aside (Box (((w.alloc (.cells #[.int .i64 eps] 3)).alloc (.cells #[.slice lo ln lc] 104)).alloc (.cells #[.int .i64 0] 25)) (w.heap.size+1+1) (.int .i64 0) 25):=by
  have:=Box.new ((w.alloc (.cells #[.int .i64 eps] 3)).alloc (.cells #[.slice lo ln lc] 104)) (.int .i64 0) 25
  simp at this;exact this
 have G3:Aside (Gw w (((w.alloc (.cells #[.int .i64 eps] 3)).alloc (.cells #[.slice lo ln lc] 104)).alloc (.cells #[.int .i64 0] 25))):=(((Gw.refl w).alloc _ _).alloc _ _).alloc _ _;have Z3:Aside (w.heap.size+3<=(((w.alloc (.cells #[.int .i64 eps] 3)).alloc (.cells #[.slice lo ln lc] 104)).alloc (.cells #[.int .i64 0] 25)).heap.size):=by show _<=_;simp
 generalize ((w.alloc (.cells #[.int .i64 eps] 3)).alloc (.cells #[.slice lo ln lc] 104)).alloc (.cells #[.int .i64 0] 25)=w3 at P3 L3 E3 G3 Z3 ⊢;obtain ⟨bp,hbp⟩:∃ bp,w.heap.size=bp:=⟨_,rfl⟩;obtain ⟨bl,hbl⟩:∃ bl,bp+1=bl:=⟨_,rfl⟩;obtain ⟨be,hbe⟩:∃ be,bl+1=be:=⟨_,rfl⟩;have BB:Aside (w.heap.size=bp/\bp+1=bl/\bl+1=be):=⟨hbp,hbl,hbe⟩;rw [hbp,hbl] at L3;rw [hbp,hbl,hbe] at E3;rw [hbp] at P3;rw [hbp,hbl,hbe];have ne:¬ bl=be:=by omega
 clear hbp hbl hbe;refine (NB.out _ (HK.out.gw G3.out)).mono ?_;rintro e w4 ⟨hb,g4⟩;have P4:Aside (Box w4 bp (.int .i64 eps) 3):=P3.out.gw g4;have L4:Aside (Box w4 bl (.slice lo ln lc) 104):=L3.out.gw g4;have E4:Aside (Box w4 be (.int .i64 0) 25):=E3.out.gw g4;have G4:Aside _:=G3.out.trans g4;have Z4:Aside _:=Nat.le_trans Z3.out g4.size;clear g4 P3 L3 E3 G3 Z3 NB;rcases hb with ⟨k0,rfl⟩ | ⟨k0,k1,rfl⟩ | ⟨k0,k1,rfl⟩
 ·have R:Aside (CheckR eps f n L 1):=.inl ⟨k0,rfl⟩
  clear k0;go_wp2_with fail;refine leaves_cons (f:=190) (args:=#[.pointer (some ⟨be,0,none⟩)]) (by simp) (by simp [go_sem]) ?_
  refine (caught_check be _ 1 _ E4.out.cell E4.out.fz).mono ?_;rintro e u' wz ⟨rfl,rfl,rfl⟩;have d5:=(Box.set E4.out (.int .i64 1)).cell;refine ⟨.int .i64 1,by simp [results,results172,go_sem,d5],⟨1,rfl,R.out⟩,?_⟩
  exact (G4.out).setCell (by show w.heap.size<=be;have:=BB.out;omega) _
 ·have R:Aside (CheckR eps f n L 80):=.inr (.inl ⟨k0,k1,rfl⟩)
  clear k0 k1;go_wp2_with fail;refine leaves_cons (f:=190) (args:=#[.pointer (some ⟨be,0,none⟩)]) (by simp) (by simp [go_sem]) ?_
  refine (caught_check be _ 80 _ E4.out.cell E4.out.fz).mono ?_;rintro e u' wz ⟨rfl,rfl,rfl⟩;have d5:=(Box.set E4.out (.int .i64 80)).cell;refine ⟨.int .i64 80,by simp [results,results172,go_sem,d5],⟨80,rfl,R.out⟩,?_⟩
  exact (G4.out).setCell (by show w.heap.size<=be;have:=BB.out;omega) _
 ·have KE:Aside ((2<=eps/\eps<=64)/\Up f n):=⟨k0,k1⟩
  have cl:=L4.out.cell;have ll:=L4.out.lt;have cp4:=P4.out.cell;have lp4:=P4.out.lt;clear k0 k1;have hd4:=MX.out w4.drew;have hcl:w4.drew.cell? ⟨bl,0,none⟩=some (.slice lo ln lc):=cl;have hcq:w4.drew.cell? ⟨bp,0,none⟩=some (.int .i64 eps):=cp4;have E5:Aside _:=E4.out;have G5:Aside _:=G4.out.drew;by_cases hi:(ln:Int)<=H
  rotate_left
  ·have R:Aside (CheckR eps f n L 81):=.inr (.inr (.inl ⟨KE.out.1,KE.out.2,fun q=>hi (by have:=q.1;rw [LN.out,HH.out] at this;exact this),rfl⟩))
   have ti:decide ((ln:Int)<=H)=false:=by simpa using hi
   clear hi;go_wp2_with fail;refine wp_region_still_tail 5 (by kernel_rfl) (by kernel_rfl) ?_
   change wpStill _ _ (World.drew w4) (fun a'=>wpList _ _ _ _ a' (World.drew w4)) _ _
   simp only [List.take_succ_cons,List.take_zero,List.drop_succ_cons,List.drop_zero]
   still_step
   still_step
   still_step
   still_call hd4
   still_step
   refine wpStill_nil ?_;go_wp2_with fail;refine (need_bad 81 _).mono ?_;rintro e w6 ⟨rfl,e6⟩;have E6:Aside (Box w6 be (.int .i64 0) 25):=by rw [e6];exact E4.out
   have G6:Aside (Gw w w6):=by rw [e6];exact G4.out.drew
   clear e6;go_wp2_with fail;refine leaves_cons (f:=190) (args:=#[.pointer (some ⟨be,0,none⟩)]) (by simp) (by simp [go_sem]) ?_
   refine (caught_check be _ 81 _ E6.out.cell E6.out.fz).mono ?_;rintro e u' wz ⟨rfl,rfl,rfl⟩;have d5:=(Box.set E6.out (.int .i64 81)).cell;refine ⟨.int .i64 81,by simp [results,results172,go_sem,d5],⟨81,rfl,R.out⟩,?_⟩
   exact (G6.out).setCell (by show w.heap.size<=be;have:=BB.out;omega) _
  ·have ti:decide ((ln:Int)<=H)=true:=by simpa using hi
   have HI:Aside _:=hi;clear hi;go_wp2_with fail;refine wp_region_still_tail 5 (by kernel_rfl) (by kernel_rfl) ?_
   change wpStill _ _ (World.drew w4) (fun a'=>wpList _ _ _ _ a' (World.drew w4)) _ _
   simp only [List.take_succ_cons,List.take_zero,List.drop_succ_cons,List.drop_zero]
   still_step
   still_step
   still_step
   still_call hd4
   still_step
   refine wpStill_nil ?_;go_wp2_with fail;refine (need_ok 81 _).mono ?_;rintro e w6 ⟨rfl,e6⟩;have L6:Aside (Box w6 bl (.slice lo ln lc) 104):=by rw [e6];exact L4.out
   have E6:Aside (Box w6 be (.int .i64 0) 25):=by rw [e6];exact E4.out
   have P6:Aside (Box w6 bp (.int .i64 eps) 3):=by rw [e6];exact P4.out
   have G6:Aside (Gw w w6):=by rw [e6];exact G4.out.drew
   have Z6:Aside (w.heap.size+3<=w6.heap.size):=by rw [e6];exact Z4.out
   have cl6:=L6.out.cell;have ll6:=L6.out.lt;clear e6 hd4 hcl hcq E5 G5 cl ll cp4 lp4 L4 E4 P4 G4 Z4 MX ti;go_wp2_with fail;obtain ⟨bb,hbb⟩:∃ bb,(((ln:Int) == 0) == ((n:Int) == 0))=bb:=⟨_,rfl⟩;have HB:Aside (bb=true↔(ln=0↔n=0)):=by
    show _↔_;rw [<-hbb];by_cases x:ln=0
    ·by_cases y:n=0
     ·simp [x,y]
     ·simp [x,y]
    ·by_cases y:n=0
     ·simp [x,y]
     ·rw [show ((ln:Int) == 0)=false by simp;omega,show ((n:Int) == 0)=false by simp;omega];simp [x,y]
   generalize ((ln:Int) == 0)=bx at hbb ⊢;generalize ((n:Int) == 0)=by_ at hbb ⊢;rw [hbb];clear hbb;cases bb with
   | false =>
    have R:Aside (CheckR eps f n L 81):=.inr (.inr (.inl ⟨KE.out.1,KE.out.2,fun q=>by have:=HB.out.2 (by have:=q.2;rw [LN.out] at this;exact this);simp at this,rfl⟩))
    refine (need_bad 81 _).mono ?_;rintro e w7 ⟨rfl,rfl⟩;go_wp2_with fail;refine leaves_cons (f:=190) (args:=#[.pointer (some ⟨be,0,none⟩)]) (by simp) (by simp [go_sem]) ?_
    refine (caught_check be _ 81 _ E6.out.cell E6.out.fz).mono ?_;rintro e u' wz ⟨rfl,rfl,rfl⟩;have d5:=(Box.set E6.out (.int .i64 81)).cell;refine ⟨.int .i64 81,by simp [results,results172,go_sem,d5],⟨81,rfl,R.out⟩,?_⟩
    exact (G6.out).setCell (by show w.heap.size<=be;have:=BB.out;omega) _
   | true =>
    have ZZ:Aside _:=HB.out.1 rfl;obtain ⟨E,hE⟩:∃ E,chkE eps f n L=E:=⟨_,rfl⟩;have RR:Aside (CheckR eps f n L E):=.inr (.inr (.inr ⟨KE.out.1,KE.out.2,⟨by rw [LN.out,HH.out];exact HI.out,by rw [LN.out];exact ZZ.out⟩,hE.symm⟩))
    have HE:Aside (E=leftE eps L 0 f n):=by
     show E=_;unfold leftE;by_cases x:0<L.length
     ·rw [if_pos x];exact hE.symm
     ·have:L=[]:=List.eq_nil_of_length_eq_zero (by omega)
      rw [if_neg x,if_pos rfl,<-hE,this];rfl
    clear hE HB;refine (need_ok 81 _).mono ?_;rintro e w7 ⟨rfl,rfl⟩;have C8:Aside (CI w bp bl be w7.heap.size eps lo lc L (w7.alloc (.cells #[.int .i64 0] 3)) 0):=⟨G6.out.alloc _ _,P6.out.gw ((Gw.refl _).alloc _ _),by rw [LN.out];exact L6.out.gw ((Gw.refl _).alloc _ _),E6.out.gw ((Gw.refl _).alloc _ _),Box.new w7 _ _⟩
    have Z8:Aside _:=Z6.out;go_wp2_with fail;generalize w7.alloc (.cells #[.int .i64 0] 3)=w8 at C8 ⊢;generalize w7.heap.size=bh at C8 Z8 ⊢;clear L6 E6 P6 G6 Z6 cl6 ll6;have HIN:CIn w bp bl be bh eps lo lc L E (ln+1) w8 ao n cp f:=⟨0,C8.out,HK.out.gw C8.out.gw,KE.out.2,hn,hcp,Nat.zero_le _,fun q=>by have:=ZZ.out;rw [LN.out] at q;omega,HE.out,by rw [LN.out];omega⟩
    have CB:=climb_check (.pointer (some ⟨bh,0,none⟩)) (.pointer (some ⟨bl,0,none⟩)) (.pointer (some ⟨bp,0,none⟩)) _ _ _ (over_check MM.out w bp bl be bh eps lo lc L E HS.out HV.out (by have:=BB.out;have:=Z8.out;omega) (by have:=BB.out;have:=Z8.out;omega) (by have:=BB.out;have:=Z8.out;omega) (by have:=BB.out;have:=Z8.out;omega)) (ln+1) ao n cp f w8 HIN
    have CB':Hid (Calls prog 184 #[.slice ao n cp,.func (.func 193) #[] #[.pointer (some ⟨bh,0,none⟩),.pointer (some ⟨bl,0,none⟩),.pointer (some ⟨bp,0,none⟩)]] w8 fun e w'=>(e=.returned (.tuple #[])/\COut w bp bl be bh eps lo lc L E w')\/(∃ ch,e=.panicked ch/\CDie w be E ch w')):=CB
    clear HIN CB;refine CB'.out.mono ?_;clear CB' MM;rintro e w9 (⟨rfl,hC,hE9⟩ | ⟨ch,rfl,rfl,g9,b9⟩)
    ·have C9:Aside (CI w bp bl be bh eps lo lc L w9 L.length):=hC
     have E9:Aside _:=hE9;rw [LN.out] at C9 E9;have cl9:=hC.lx.cell;have ll9:=hC.lx.lt;have ch9:=hC.hx.cell;have lh9:=hC.hx.lt;have ce9:=hC.er.cell;have fe9:=hC.er.fz;rw [LN.out] at cl9 ch9;clear hC hE9;by_cases l0:ln=0
     ·have E0:E=0:=by rw [E9.out,if_pos l0]
      subst E0;have z0:((ln:Int) == 0)=true:=by simp;omega
      go_wp2_with fail;refine (need_ok 84 _).mono ?_
      rintro e w10 ⟨rfl,rfl⟩;go_wp2_with fail;refine leaves_cons (f:=190) (args:=#[.pointer (some ⟨be,0,none⟩)]) (by simp) (by simp [go_sem]) ?_
      refine (idle_check be _).mono ?_;rintro e u' wz ⟨rfl,rfl,rfl⟩;have d5:=(Box.set C9.out.er (.int .i64 0)).cell;refine ⟨.int .i64 0,by simp [results,results172,go_sem,d5],⟨0,rfl,RR.out⟩,?_⟩
      exact C9.out.gw.setCell (by show w.heap.size<=be;have:=BB.out;omega) _
     ·obtain ⟨lb,lf,rfl,hlb,hc⟩:=(HV.out.gw C9.out.gw).cells (by rw [LN.out];omega)
      obtain ⟨so,sc,q1,_,_,_⟩:=hc (ln-1) (by rw [LN.out];omega)
      have sl:=HS.out.2 (ln-1) (by rw [LN.out];omega)
      have EE:=E9.out;rw [if_neg l0] at EE;clear hc;generalize (L.getD (ln-1) []).length=sn at q1 sl EE;have wi:IntKind.i64.wrap ((ln:Int)-1)=((ln-1:Nat):Int):=by rw [IntKind.wrap_i64];omega
      obtain ⟨i1,hi1⟩:∃ i1,ln-1=i1:=⟨_,rfl⟩;rw [hi1] at q1 wi;have lt1:i1<ln:=by omega
      have z0:((ln:Int) == 0)=false:=by simp;omega
      clear hi1;by_cases s1:sn=1
      ·have E0:E=0:=by rw [EE,if_pos s1]
       subst E0 s1;clear EE;go_wp2_with fail;refine (need_ok 84 _).mono ?_;rintro e w10 ⟨rfl,rfl⟩;go_wp2_with fail;refine leaves_cons (f:=190) (args:=#[.pointer (some ⟨be,0,none⟩)]) (by simp) (by simp [go_sem]) ?_
       refine (idle_check be _).mono ?_;rintro e u' wz ⟨rfl,rfl,rfl⟩;have d5:=(Box.set C9.out.er (.int .i64 0)).cell;refine ⟨.int .i64 0,by simp [results,results172,go_sem,d5],⟨0,rfl,RR.out⟩,?_⟩
       exact C9.out.gw.setCell (by show w.heap.size<=be;have:=BB.out;omega) _
      ·have E0:E=84:=by rw [EE,if_neg s1]
       subst E0;have z1:((sn:Int) == 1)=false:=by simp;omega
       clear EE;go_wp2_with fail;refine (need_bad 84 _).mono ?_;rintro e w10 ⟨rfl,rfl⟩;go_wp2_with fail;refine leaves_cons (f:=190) (args:=#[.pointer (some ⟨be,0,none⟩)]) (by simp) (by simp [go_sem]) ?_
       refine (caught_check be _ 84 _ C9.out.er.cell C9.out.er.fz).mono ?_;rintro e u' wz ⟨rfl,rfl,rfl⟩;have d5:=(Box.set C9.out.er (.int .i64 84)).cell;refine ⟨.int .i64 84,by simp [results,results172,go_sem,d5],⟨84,rfl,RR.out⟩,?_⟩
       exact (C9.out.gw).setCell (by show w.heap.size<=be;have:=BB.out;omega) _
    ·have G9:Aside (Gw w w9):=g9
     have B9:Aside (Box w9 be (.int .i64 0) 25):=b9;clear g9 b9;go_wp2_with fail;refine leaves_cons (f:=190) (args:=#[.pointer (some ⟨be,0,none⟩)]) (by simp) (by simp [go_sem]) ?_
     refine (caught_check be _ E _ B9.out.cell B9.out.fz).mono ?_;rintro e u' wz ⟨rfl,rfl,rfl⟩;have d5:=(Box.set B9.out (.int .i64 E)).cell;refine ⟨.int .i64 E,by simp [results,results172,go_sem,d5],⟨E,rfl,RR.out⟩,?_⟩
     exact (G9.out).setCell (by show w.heap.size<=be;have:=BB.out;omega) _
theorem step_append_v {P:Program} (w:World) {ops:Array Oper} {o:Oper} {a:Act} {K:Act->World->Prop} {Q:Exit->Act->World->Prop} {E:Prop} (hgd:o.guard=none) (s x:Operand) (t:TypeId)
  (ho:o.op=.call { callee:=.builtin .append,args:=#[s,x],argTypes:=#[t,t] })
  (base:Nat) (e:TypeId) (i:TypeInfo) (z:Value) (size bytes:Nat) (ht:P.underlying t=some (.slice e)) (hi:P.info? e=some i) (hz:i.zero=some z)
  (hsize:i.size=size) (hby:i.bytes=bytes) (hzs:z.cells.size=size) (hsz:0<size)
  (v:Value) (n:Nat) (xs:List Value) (hs:a.eval s=v) (hown:w.ownsRow base e size v n xs)
  (ad:Addr) (m c:Nat) (news:List Value) (hx:a.eval x=.slice (some ad) m c) (hl:news.length=m*size) (hnews:∀ j u,news[j]?=some u->w.cell? (ad.add j)=some u) (h1:∀ u∈news,u.oneCell'=true)
  (h63:n+m<=maxLen) (hbytes:(n+m)*bytes<=140737488355328) (hbase:base<=w.heap.size)
  (h:∀ v' w',w'.ownsRow base e size v' (n+m) (xs++news)->w.grownBy w' v.ownBlock->(v'=.slice none 0 0↔v=.slice none 0 0/\m=0)->(v'.ownBlock=v.ownBlock\/v'.ownBlock=some w.heap.size)->K (a.put o.dst v') w') :
  if Region.wanted o (yielded ops a.tmps)=true then Oper.wp P o a w K Q else E:=by
 have hw:Region.wanted o (yielded ops a.tmps)=true:=by simp [Region.wanted,hgd]
 rw [if_pos hw];obtain ⟨v',w',hr,h2,h3,h4,h5⟩:=run_append_own_at (P:=P) w base t o.type e i z size bytes ht hi hz hsize hby hzs hsz v n xs hown ad m c news hl hnews h1 h63 hbytes hbase;unfold Oper.wp execOp;simp only [ho,resolve,invoke,builtin,Sem.run_bind,Sem.run_pure,Result.andThen_ok,List.map_toArray,List.map_cons,List.map_nil,hs,hx,hr];exact h v' w' h2 h3 h4 h5
theorem set_pl2 {w:World} {b:Nat} {x y z:Value} {t:TypeId} (h:w.heap[b]?=some (.cells #[x,y,z] t (0,0))) (u:Value):(w.setCell ⟨b,2,none⟩ u).heap[b]?=some (.cells #[x,y,u] t (0,0)):=by simp [World.setCell,Array.getElem?_modify,h]
theorem clone_k {w:World} {ao:Option Addr} {n cp:Nat} {f:Nat->Int} (h:KS w ao n f) (hn:n<=2000000) :
  Calls prog 173 #[.slice ao n cp] w fun e w'=>(∃ bo c,e=.returned (.slice bo n c)/\KS w' bo n f/\n<=c/\∀ a,bo=some a->w.heap.size<=a.block)/\Gw w w':=by
 cases ao with
 | none =>
  have n0:n=0:=by
   rcases Nat.eq_zero_or_pos n with e | e
   ·exact e
   ·obtain ⟨b,off,e',_⟩:=h.cells e;cases e'
  subst n0;have HK:Aside _:=h;clear h;have hq:∀ W:World,(binOp .eql 103 (.slice none 0 cp) (.slice none 0 0)).run prog W=.ok (.bool true) W:=fun _=>by kernel_rfl
  go_enter func173,ntmps173;go_wp2_with fail;go_ret;exact ⟨⟨none,0,rfl,HK.out,Nat.le_refl _,fun a e=>by cases e⟩,Gw.refl w⟩
 | some ad =>
  have OW:Hid (∀ x,(some ad:Option Addr)=some x->∀ j u,((List.range n).map fun j=>Value.int .u64 (f j))[j]?=some u->(w.alloc (.cells #[] 37)).cell? (x.add j)=some u):=by
   intro x e j u hu;cases e;have hj:j<n:=by
    have:=(List.getElem?_eq_some_iff.1 hu).1
    simpa using this
   obtain ⟨b,off,e',hb,hc⟩:=h.cells (by omega)
   cases e'
   rw [Addr.add_lit];refine (((Gw.refl w).alloc _ _).cell _ _ hb).trans ((hc j hj).trans ?_);simpa [hj] using hu
  have O0:Hid ((w.alloc (.cells #[] 37)).ownsRow w.heap.size 37 1 (.slice (some ⟨w.heap.size,0,none⟩) 0 0) 0 []):=World.ownsRow_made w #[] 0 (Nat.le_refl _) (Nat.zero_le _) rfl;obtain ⟨ii,hii,hz,hs,hby⟩:=info_parts info_k;have BD:Aside _:=h.bd;have NL:Aside (((List.range n).map fun j=>Value.int .u64 (f j)).length=n*1):=by show _=_;simp
  have N1:Aside (∀ u∈((List.range n).map fun j=>Value.int .u64 (f j)),u.oneCell'=true):=by
   intro u hu;obtain ⟨j,_,rfl⟩:=List.mem_map.1 hu;rfl
  clear h;have hq:∀ W:World,(binOp .eql 103 (.slice (some ad) n cp) (.slice none 0 0)).run prog W=.ok (.bool false) W:=fun _=>by kernel_rfl
  go_enter func173,ntmps173;go_wp2_with (at_builtin;refine wpList_append_src _ rfl _ _ 103 rfl w.heap.size 37 ii (.int .u64 0) 1 8 underlying103 hii hz hs hby rfl (by decide) _ 0 [] rfl O0.out (some ad) n cp ((List.range n).map fun j=>Value.int .u64 (f j)) rfl (fun q=>by cases q) NL.out OW.out N1.out (by simp only [maxLen];omega) (by omega) (by simp) ?_)
  intro v' w7 q1 q2 q3;have G7:Aside (Gw w w7):=((Gw.refl w).alloc _ _).grown q2 (fun k hk=>by cases hk;exact Nat.le_refl _)
  have FM:∃ bo c,v'=.slice bo n c/\KS w7 bo n f/\n<=c/\∀ a,bo=some a->w.heap.size<=a.block:=by
   have q1':w7.ownsRow w.heap.size 37 1 v' n ((List.range n).map fun j=>Value.int .u64 (f j)):=by simpa using q1
   rcases q1'.2 with ⟨e,z⟩ | ⟨g,cap,cur,e,hb,hh,hc,_⟩
   ·subst z
    exact ⟨none,0,e,⟨fun h0=>by omega,BD.out⟩,Nat.le_refl _,fun a q=>by cases q⟩
   ·subst e
    exact ⟨some ⟨g,0,none⟩,cap,rfl,ks_own q1' (Nat.le_refl _) (fun j hj=>by simp [hj]) BD.out,hc,fun a q=>by cases q;exact hb⟩
  obtain ⟨bo,c,rfl,r1,r2,r3⟩:=FM;have RES:Aside (KS w7 bo n f/\n<=c/\∀ a,bo=some a->w.heap.size<=a.block):=⟨r1,r2,r3⟩;clear q1 q2 q3 hii hz hs hby r1 r2 r3;go_wp2_with fail;go_ret;exact ⟨⟨bo,c,rfl,RES.out⟩,G7.out⟩
theorem clone_g {w:World} {ao:Option Addr} {cp:Nat} {l:List Sg} (h:GS w ao l) (hn:l.length<=2000000) :
  Calls prog 174 #[.slice ao l.length cp] w fun e w'=>(∃ bo c,e=.returned (.slice bo l.length c)/\SR w' w.heap.size (.slice bo l.length c) l)/\Gw w w':=by
 cases ao with
 | none =>
  have n0:l.length=0:=by
   rcases Nat.eq_zero_or_pos l.length with e | e
   ·exact e
   ·obtain ⟨b,off,e',_⟩:=h.cells e;cases e'
  have l0:l=[]:=List.eq_nil_of_length_eq_zero n0;subst l0;clear h n0;show Calls _ _ #[.slice none 0 cp] _ _;have hq:∀ W:World,(binOp .eql 105 (.slice none 0 cp) (.slice none 0 0)).run prog W=.ok (.bool true) W:=fun _=>by kernel_rfl
  go_enter func174,ntmps174;go_wp2_with fail;go_ret;exact ⟨⟨none,0,rfl,World.ownsRow_nil _ _ _ _⟩,Gw.refl w⟩
 | some ad =>
  have OW:Hid (∀ x,(some ad:Option Addr)=some x->∀ j u,(l.flatMap sgc)[j]?=some u->(w.alloc (.cells #[] 110)).cell? (x.add j)=some u):=by
   intro x e j u hu;cases e;have hj:j<l.length*5:=by
    have:=(List.getElem?_eq_some_iff.1 hu).1
    rw [flat_len] at this;exact this
   obtain ⟨b,off,e',hb,hc⟩:=gs_flat h (by omega)
   cases e'
   rw [Addr.add_lit];refine (((Gw.refl w).alloc _ _).cell _ _ hb).trans ((hc j hj).trans ?_);rw [<-flc_get l j hj];exact hu
  have O0:Hid ((w.alloc (.cells #[] 110)).ownsRow w.heap.size 110 5 (.slice (some ⟨w.heap.size,0,none⟩) 0 0) 0 []):=World.ownsRow_made w #[] 0 (Nat.le_refl _) (Nat.zero_le _) rfl;obtain ⟨ii,hii,hz,hs,hby⟩:=info_parts info_sg;have NL:Aside _:=flat_len l;have N1:Aside (∀ u∈l.flatMap sgc,u.oneCell'=true):=by
   intro u hu;obtain ⟨s,-,hs⟩:=List.mem_flatMap.1 hu;exact sgc_one s u hs
  clear h;obtain ⟨n,hln⟩:∃ n,l.length=n:=⟨_,rfl⟩;have LN:Aside _:=hln;rw [hln] at hn NL ⊢;clear hln;have hq:∀ W:World,(binOp .eql 105 (.slice (some ad) n cp) (.slice none 0 0)).run prog W=.ok (.bool false) W:=fun _=>by kernel_rfl
  go_enter func174,ntmps174;go_wp2_with (at_builtin;refine wpList_append_src _ rfl _ _ 105 rfl w.heap.size 110 ii (.agg #[.int .u64 0,.float .f64 0,.float .f64 0,.int .i64 0,.int .i64 0]) 5 40 underlying105 hii hz hs hby rfl (by decide) _ 0 [] rfl O0.out (some ad) n cp (l.flatMap sgc) rfl (fun q=>by cases q) NL.out OW.out N1.out (by simp only [maxLen];omega) (by omega) (by simp) ?_)
  intro v' w7 q1 q2 q3;have G7:Aside (Gw w w7):=((Gw.refl w).alloc _ _).grown q2 (fun k hk=>by cases hk;exact Nat.le_refl _)
  have FM:∃ bo c,v'=.slice bo n c/\SR w7 w.heap.size (.slice bo n c) l:=by
   have q1':w7.ownsRow w.heap.size 110 5 v' n (l.flatMap sgc):=by simpa using q1
   have q2':SR w7 w.heap.size v' l:=by show World.ownsRow _ _ _ _ _ _ _;rw [LN.out];exact q1'
   rcases q1'.2 with ⟨e,z⟩ | ⟨g,cap,cur,e,hb,hh,hc,_⟩
   ·subst z
    exact ⟨none,0,e,by rw [<-e];exact q2'⟩
   ·subst e
    exact ⟨some ⟨g,0,none⟩,cap,rfl,q2'⟩
  obtain ⟨bo,c,rfl,r1⟩:=FM;have RES:Aside _:=r1;clear q1 q2 q3 hii hz hs hby r1;go_wp2_with fail;go_ret;exact ⟨⟨bo,c,rfl,RES.out⟩,G7.out⟩
theorem of9 (M:ModelC) (eps:Int) (ao:Option Addr) (n cp:Nat) (f:Nat->Int) (lo:Option Addr) (lc:Nat) (L:List (List Sg)) (e0:-9223372036854775808<=eps) (e1:eps<9223372036854775808) (hn:n<=2000000) (hcp:n<=cp) (hS:Short L) (hlc:L.length<=lc) (w:World) (hk:KS w ao n f) (hv:VS w lo L) :
  Calls prog 156 #[.slice ao n cp,.int .i64 eps,.slice lo L.length lc] w fun ex w'=>PileOut HPile w w' ex eps f n L/\Gw w w':=by
 have CK:Hid _:=xcheck8_any M eps ao n cp f lo lc L e0 e1 hn hcp hS w hk hv;have HK:Aside _:=hk;have HV:Aside _:=hv;have SH:Aside _:=hS;obtain ⟨ln,hln⟩:∃ ln,L.length=ln:=⟨_,rfl⟩;have LN:Aside _:=hln;have ln1:ln<=2000000:=by have:=hS.1;omega
 rw [hln] at CK hlc ⊢;clear hk hv hS hln M;go_enter func156,ntmps156;go_wp2_with fail;refine Calls.mono CK.out ?_;rintro e w1 ⟨⟨E,rfl,hR⟩,g1⟩;have CR:Aside _:=hR;have G1:Aside _:=g1;clear hR g1 CK;by_cases E0:E=0
 ·subst E0
  have K1:Aside _:=HK.out.gw G1.out;go_wp2_with fail;refine (clone_k K1.out hn).mono ?_;rintro e w2 ⟨⟨ko,kc,rfl,hk2,hkc,hkb⟩,g2⟩;have K2:Aside (KS w2 ko n f/\n<=kc/\∀ a,ko=some a->w1.heap.size<=a.block):=⟨hk2,hkc,hkb⟩;have G2:Aside _:=g2;clear hk2 hkc hkb g2 K1;go_wp2_with fail;have B3:Aside ((w2.alloc (.cells #[.int .i64 eps,.slice ko n kc,.slice none 0 0] 201)).heap[w2.heap.size]?=some (.cells #[.int .i64 eps,.slice ko n kc,.slice none 0 0] 201 (0,0))):=heap_alloc_new w2 _;have G3:Aside (Gw w2 (w2.alloc (.cells #[.int .i64 eps,.slice ko n kc,.slice none 0 0] 201))):=(Gw.refl w2).alloc _ _;have z3:(w2.alloc (.cells #[.int .i64 eps,.slice ko n kc,.slice none 0 0] 201)).heap.size=w2.heap.size+1:=by simp
  obtain ⟨pb,hpb⟩:∃ pb,w2.heap.size=pb:=⟨_,rfl⟩;have PB:Aside _:=hpb;have Z3:Aside ((w2.alloc (.cells #[.int .i64 eps,.slice ko n kc,.slice none 0 0] 201)).heap.size=pb+1):=by rw [<-hpb];exact z3
  rw [hpb] at B3 ⊢;clear hpb z3;generalize w2.alloc (.cells #[.int .i64 eps,.slice ko n kc,.slice none 0 0] 201)=w3 at B3 G3 Z3 ⊢;obtain ⟨jj,hjj,jz,js,jby⟩:=info_parts info_sgs;have WP:Aside (w.heap.size<=pb):=by have:=G1.out.size;have:=G2.out.size;have:=PB.out;show _<=_;omega
  go_loopg [26] ln (fun gg s26 wr=>∃ (i:Nat) (vo:Option Addr) (vc:Nat) (vals:List Value),s26=.int .i64 (i:Int)/\i<=ln/\ln-i<=gg/\Aside (wr.heap[pb]?=some (.cells #[.int .i64 eps,.slice ko n kc,.slice vo i vc] 201 (0,0)))/\Aside (OwnV wr (pb+1) (.slice vo i vc) (L.take i) vals)/\Aside (Gw w2 wr))
  case atStart=>exact ⟨0,none,0,[],rfl,Nat.zero_le _,by omega,B3,(show Aside _ from ownv_nil _ _),G3⟩
  case round =>
   clear B3 G3;obtain ⟨i,vo,vc,vals,rfl,a1,a2,BK,OV,GG⟩:=hrel;obtain ⟨wS,hwS⟩:∃ wx,wx=wr:=⟨_,rfl⟩;subst hwS;by_cases hlt:i<ln
   ·obtain ⟨ab,af,rfl,hab,hac⟩:=(((HV.out.gw G1.out).gw G2.out).gw GG.out).cells (by rw [LN.out];omega)
    obtain ⟨so,sc,p1,_,_,p4⟩:=hac i (by rw [LN.out];exact hlt)
    obtain ⟨lv,hlv⟩:∃ lv,L.getD i []=lv:=⟨_,rfl⟩;have LV:Aside _:=hlv;have TK:Aside (L.take (i+1)=L.take i++[lv]):=by have:=take_next (L:=L) (i:=i) (by rw [LN.out];exact hlt);rw [hlv] at this;exact this
    have TL:Aside ((L.take i).length=i):=by show _=_;rw [List.length_take,LN.out];omega
    rw [hlv] at p1 p4;have sn1:lv.length<=2000000:=by have:=SH.out.2 i (by rw [LN.out];exact hlt);rw [hlv] at this;exact this
    have GSR:Aside _:=p4;have CG:Hid (∀ W,Gw wS W->Calls prog 174 #[.slice so lv.length sc] W fun e w'=>(∃ bo c,e=.returned (.slice bo lv.length c)/\SR w' W.heap.size (.slice bo lv.length c) lv)/\Gw W w'):=fun W gW=>clone_g (p4.gw gW) sn1
    obtain ⟨sn,hsn⟩:∃ sn,lv.length=sn:=⟨_,rfl⟩;have SN:Aside _:=hsn;rw [hsn] at p1 CG;have bl:=(Array.getElem?_eq_some_iff.1 BK.out).1;have OW:Hid (∀ W,Gw wS W->∀ o,(W.alloc o).ownsRow (pb+1) 105 1 (.slice vo i vc) i vals):=fun W gW o=>by
     have:=(OV.out.gw gW).outer
     rw [TL.out] at this;exact this.alloc o
    have FIN:Hid (∀ (W:World) (bo:Option Addr) (c:Nat) (v':Value) (w7:World),Gw wS W->SR W wS.heap.size (.slice bo sn c) lv->w7.ownsRow (pb+1) 105 1 v' (i+1) (vals++[.slice bo sn c])->(W.alloc (.cells #[.slice bo sn c] 105)).grownBy w7 (Value.slice vo i vc).ownBlock->(v'.ownBlock=(Value.slice vo i vc).ownBlock\/v'.ownBlock=some (W.heap.size+1))->w7.heap[pb]?=some (.cells #[.int .i64 eps,.slice ko n kc,.slice vo i vc] 201 (0,0))/\(w7.setCell ⟨pb,2,none⟩ v').heap[pb]?=some (.cells #[.int .i64 eps,.slice ko n kc,v'] 201 (0,0))/\OwnV (w7.setCell ⟨pb,2,none⟩ v') (pb+1) v' (L.take (i+1)) (vals++[.slice bo sn c])/\Gw w2 (w7.setCell ⟨pb,2,none⟩ v')):=fun W bo c v' w7 gW hs r1 r2 r4=>by
     have ow:∀ q,(Value.slice vo i vc).ownBlock=some q->pb+1<=q:=fun q e=>((OW.out W gW (.cells #[] 0)).lt q e).1
     have B7:w7.heap[pb]?=some (.cells #[.int .i64 eps,.slice ko n kc,.slice vo i vc] 201 (0,0)):=(r2.block pb (by have:=gW.size;simp;omega) (fun e=>by have:=ow pb e.symm;omega)).trans ((heap_alloc_old _ _ (Nat.lt_of_lt_of_le bl gW.size)).trans ((gW.below.block pb bl).trans BK.out))
     refine ⟨B7,set_pl2 B7 v',?_,?_⟩
     ·rw [TK.out]
      have:=OwnV.more (o:=.cells #[.slice bo sn c] 105) OV.out gW hs (by omega) (by rw [TL.out];exact r1) r2 r4
      exact this.keep fun q hq _=>Go.Deep.blk_setCell_other _ _ _ _ (by show q≠pb;omega)
     ·refine Gw.setCell (((GG.out.trans gW).alloc _ _).grown r2 (fun q hq=>?_)) (by show w2.heap.size<=pb;rw [PB.out];exact Nat.le_refl _) _
      have:=ow q hq
      rw [PB.out];omega
    have k2:wS.drew.cell? ⟨pb,2,none⟩=some (.slice vo i vc):=(pl_cells BK.out).2.2;clear hac hlv hsn p4;go_wp2_with fail;go_region_law (first
     | (go_simp;refine (CG.out _ ((Gw.refl wS).drew)).mono ?_;rintro e w4 ⟨⟨bo,c,rfl,hs4⟩,g4⟩;have S4:Hid (SR w4 wS.heap.size (.slice bo sn c) lv):=hs4;have G4:Hid (Gw wS w4):=((Gw.refl wS).drew.trans g4);have k4:w4.cell? ⟨pb,2,none⟩=some (.slice vo i vc):=(g4.cell _ _ bl).trans k2;have l4:pb<w4.heap.size:=Nat.lt_of_lt_of_le bl g4.size;clear hs4 g4)
     | (refine step_append_v _ rfl (.tmp 34) (.tmp 37) 104 rfl (pb+1) 105 jj (.slice none 0 0) 1 24 underlying104 hjj jz js jby rfl (by decide) (.slice vo i vc) i vals (by simp [Act.eval]) (OW.out w4 G4.out _) ⟨w4.heap.size,0,none⟩ 1 1 [.slice bo sn c] (by simp [Act.eval]) rfl (new_val w4 (.slice bo sn c) 105) (fun u hu=>by simp at hu;subst hu;rfl) (by simp only [maxLen];omega) (by omega) (Nat.le_trans (show pb+1<=w4.heap.size by omega) ((Gw.refl w4).alloc _ _).size) ?_;intro v' w7 r1 r2 r3 r4;obtain ⟨b8,cap8,ev,_,_,_⟩:=own_slice r1 (by simpa using r3);obtain ⟨B7,Q7⟩:=FIN.out w4 bo c v' w7 G4.out S4.out r1 r2 (by simpa using r4);have k7:=(pl_cells B7).2.2;have f7:w7.frozen? ⟨pb,2,none⟩=false:=(by simp [World.frozen?,B7]);have l7:pb<w7.heap.size:=(Array.getElem?_eq_some_iff.1 B7).1;have Q8:Hid _:=Q7;clear B7 Q7 r1 r2 r3 r4;subst ev))
    all_goals go_wp2_with fail
    all_goals go_roundg (ln-(i+1))
    all_goals first
     | (case measure=>omega)
     | (case rel=>exact ⟨i+1,some ⟨b8,0,none⟩,cap8,vals++[Value.slice bo sn c],by go_num,by omega,Nat.le_refl _,(show Aside _ from Q8.out.1),(show Aside _ from Q8.out.2.1),(show Aside _ from Q8.out.2.2)⟩)
   ·have ei:i=ln:=by omega
    subst ei;have e1:L.take i=L:=by rw [List.take_of_length_le (by rw [LN.out];exact Nat.le_refl _)]
    have OV':OwnV wS w.heap.size (.slice vo L.length vc) L vals:=by
     have:=OV.out
     rw [e1] at this;rw [LN.out];exact this.base (by have:=WP.out;omega)
    have GA:Aside _:=(G1.out.trans G2.out).trans GG.out;have VSF:VSf wS w.heap.size vo L:=OV'.vsf (vs_ok8 HV.out);have HPL:Aside (HPile wS pb (fun q=>w.heap.size<=q/\q<wS.heap.size) eps f n L):=by
     refine ⟨⟨wS,w.heap.size,ko,kc,vo,vc,fun q=>Iff.rfl,Nat.le_refl _,fun q _ _=>rfl,by rw [LN.out];exact BK.out,WP.out,K2.out.1.gw GG.out,fun a ea=>Nat.le_trans G1.out.size (K2.out.2.2 a ea),VSF⟩,hn,SH.out⟩
    clear OV' VSF e1;go_wp2_with fail;go_ret2;exact ⟨⟨0,CR.out,.inr ⟨rfl,pb,_,rfl,fun q hq=>hq.1,HPL.out⟩⟩,GA.out⟩
 ·have t0:(E == 0)=false:=by simpa using E0
  have HE:Aside _:=E0;clear E0;go_wp2_with fail;go_ret2;exact ⟨⟨E,CR.out,.inl ⟨HE.out,rfl⟩⟩,G1.out⟩
end Go.Proofs.YtpoohadckhphpaaGreat
